/-
  3 texts in one (AsmR AsmPD LinkQ). Conditions: those of each theorem.
-/
import Derived.Test.YtclkdlegogjnbaaGreatDoorR22
import Derived.Test.YtclkdlegogjnbaaGreatDoorR23
namespace Go.Proofs.YtclkdlegogjnbaaGreatDoor
open Go Go.RowKit Go.WideShapes Go.ChangeShapes
set_option linter.unusedVariables false
set_option linter.unusedSimpArgs false
def SettleV (w0 w : World) (g M : Nat) (va vf vp vc vq : Value) (s : St) (r : Except (Int × Int) Ob) (e : Ending) (w' : World) : Prop :=
 match r with
 | .error c => e = .returned (.int .i64 c.1) ∧ Below w0.heap.size w0 w' ∧ Fr (fun k => vc.ownBlock = some k) w w'
 | .ok o => e = .returned (.int .i64 0) ∧ Mk w0 w' g M va vf vp vc vq { s with ob := o }
theorem settleV_err {w0 w w' : World} {g M : Nat} {va vf vp vc vq : Value} {s : St} {r : Except (Int × Int) Ob} {c n : Int} (h : r = .error (c, n)) (hb : Below w0.heap.size w0 w') (hf : Fr (fun k => vc.ownBlock = some k) w w') : SettleV w0 w g M va vf vp vc vq s r (.returned (.int .i64 c)) w' := by
 subst h
 exact ⟨rfl, hb, hf⟩
theorem settleV_ok {w0 w w' : World} {g M : Nat} {va vf vp vc vq : Value} {s : St} {r : Except (Int × Int) Ob} {o : Ob} (h : r = .ok o) (hk : Mk w0 w' g M va vf vp vc vq { s with ob := o }) : SettleV w0 w g M va vf vp vc vq s r (.returned (.int .i64 0)) w' := by
 subst h
 exact ⟨rfl, hk⟩
set_option maxRecDepth 100000 in
set_option maxHeartbeats 8000000 in
theorem settleV_any (w0 : World) (g M : Nat) (va vf vp vc vq : Value) (s : St) (l n : Int) (b : Bool) (hn : b = false → 0 ≤ n ∧ n < s.ob.code.length) (hA : ∀ i (hi : i < s.ob.code.length), ∀ m, m < 4 → -9223372036854775808 ≤ (argOf s.ob.code[i]).getD m 0 ∧ (argOf s.ob.code[i]).getD m 0 ≤ 9223372036854775807)
  (hl : s.ob.preds.length ≤ 1000000 ∧ s.ob.code.length ≤ 1000000) (w : World) (hk : Mk w0 w g M va vf vp vc vq s) :
  Calls Tryz.prog 49 #[.pointer (some ⟨g, 0, none⟩), .agg #[.int .i64 l, .int .i64 n, .bool b]] w (SettleV w0 w g M va vf vp vc vq s (ptStep s.labs s.ob (l, n, b))) := by
 cases b with
 | false =>
  obtain ⟨gc, cc, rfl⟩ := own_some hk.rc (by have := hn rfl; omega)
  refine (settle_any w0 g M gc cc va vf vp vq s l n false hn hA hl w hk).mono fun e w' h => ?_
  unfold SettleW at h
  unfold SettleV
  cases hr : ptStep s.labs s.ob (l, n, false) with
  | error c =>
   rw [hr] at h
   exact ⟨h.1, h.2.1, h.2.2.mono fun k _ e => by rw [e]; rfl⟩
  | ok o =>
   rw [hr] at h
   exact ⟨h.1, h.2.1⟩
 | true =>
  have K1 := Lib.hid (hk.alloc (.cells #[.int .i64 l, .int .i64 n, .bool true] 105))
  have HE : Hid (ptStep s.labs s.ob (l, n, true) = if (s.ob.code.length : Int) ≤ n ∨ 1 < cntOf s.ob.preds n then .error (7, l) else .ok s.ob) := Lib.hid rfl
  have HS := Lib.hid (fun W h => settlePred_any w0 g M va vf vp vc vq s n hl W h)
  generalize ptStep s.labs s.ob (l, n, true) = r at HE
  by_cases hc : (s.ob.code.length : Int) ≤ n ∨ 1 < cntOf s.ob.preds n
  ·have HX : Hid (r = .error (7, l)) := Lib.hid (by rw [HE.out, if_pos hc])
   rw [if_pos hc] at HS
   clear hc hk hn hA
   go_enter Tryz.func49, Tryz.ntmps49
   go_wp2_with (go_at_call 79; refine (HS.out _ K1.out).mono ?_; rintro e w2 ⟨rfl, hk2, hb2⟩; have HK2 := Lib.hid hk2; have HF2 : Hid (Fr (fun k => vc.ownBlock = some k) w w2) := Lib.hid (((Fr.refl _ w).alloc _).trans (Fr.of_below hb2)); clear hk2 hb2)
   go_ret
   exact settleV_err HX.out HK2.out.below HF2.out
  ·have HX : Hid (r = .ok s.ob) := Lib.hid (by rw [HE.out, if_neg hc])
   rw [if_neg hc] at HS
   clear hc hk hn hA
   go_enter Tryz.func49, Tryz.ntmps49
   go_wp2_with (go_at_call 79; refine (HS.out _ K1.out).mono ?_; rintro e w2 ⟨rfl, hk2, _⟩; have HK2 := Lib.hid hk2; clear hk2)
   go_ret
   exact settleV_ok HX.out HK2.out
structure ObOwn (w : World) (base : Nat) (va vf vp vc : Value) (o : Ob) : Prop where
 ra : w.ownsRow base 9 1 va o.atoms.length (o.atoms.map Value.string)
 rf : w.ownsRow base 82 2 vf o.funs.length (o.funs.flatMap funC)
 rp : w.ownsRow base 64 3 vp o.preds.length (o.preds.flatMap predC)
 rc : w.ownsRow base 52 5 vc o.code.length (o.code.flatMap insC)
theorem ObOwn.at_ {w : World} {base : Nat} {va vf vp vc : Value} {o : Ob} (h : ObOwn w base va vf vp vc o) : ObAt w va vf vp vc o :=
 ⟨CellsAt.of_own h.ra (by decide), CellsAt.of_own h.rf (by decide), CellsAt.of_own h.rp (by decide), CellsAt.of_own h.rc (by decide)⟩
theorem ObOwn.of_mk {w0 w : World} {g M : Nat} {va vf vp vc vq : Value} {s : St} (h : Mk w0 w g M va vf vp vc vq s) {base : Nat} (hb : base ≤ w0.heap.size) : ObOwn w base va vf vp vc s.ob :=
 ⟨own_more h.ra fun k hk => Nat.le_trans hb (own_ge h.ra hk).1, own_more h.rf fun k hk => Nat.le_trans hb (own_ge h.rf hk).1, own_more h.rp fun k hk => Nat.le_trans hb (own_ge h.rp hk).1, own_more h.rc fun k hk => Nat.le_trans hb (own_ge h.rc hk).1⟩
theorem ObOwn.nil (w : World) (base : Nat) : ObOwn w base (.slice none 0 0) (.slice none 0 0) (.slice none 0 0) (.slice none 0 0) emptyOb :=
 ⟨⟨rfl, .inl ⟨rfl, rfl⟩⟩, ⟨rfl, .inl ⟨rfl, rfl⟩⟩, ⟨rfl, .inl ⟨rfl, rfl⟩⟩, ⟨rfl, .inl ⟨rfl, rfl⟩⟩⟩
def AsmW (w : World) (r : Ob × Int × Int) (e : Ending) (w' : World) : Prop :=
 ∃ va vf vp vc, e = .returned (.tuple #[.agg #[va, vf, vp, vc], .int .i64 r.2.1, .int .i64 r.2.2]) ∧ ObOwn w' w.heap.size va vf vp vc r.1 ∧ Below w.heap.size w w'
theorem asmW_err {w w' : World} {r : Ob × Int × Int} {c n : Int} (h : r = (emptyOb, c, n)) (hb : Below w.heap.size w w') : AsmW w r (.returned (.tuple #[.agg #[.slice none 0 0, .slice none 0 0, .slice none 0 0, .slice none 0 0], .int .i64 c, .int .i64 n])) w' := by
 subst h
 exact ⟨_, _, _, _, rfl, ObOwn.nil _ _, hb⟩
theorem asmW_ok {w w' : World} {va vf vp vc : Value} {r : Ob × Int × Int} {o : Ob} (h : r = (o, 0, -1)) (ho : ObOwn w' w.heap.size va vf vp vc o) (hb : Below w.heap.size w w') : AsmW w r (.returned (.tuple #[.agg #[va, vf, vp, vc], .int .i64 0, .int .i64 (-1)])) w' := by
 subst h
 exact ⟨_, _, _, _, rfl, ho, hb⟩
def LnP (L : List (List UInt8)) (k : Nat) (s : St) : Prop := linesStep 0 L startSt = linesStep k (L.drop k) s ∧ StB s ∧ s.pts.length ≤ k ∧ s.labs.length ≤ k ∧ s.ob.atoms.length ≤ 256 ∧ s.ob.funs.length ≤ 256 ∧ s.ob.preds.length ≤ 64 ∧ s.ob.code.length ≤ 1024
theorem LnP.start (L : List (List UInt8)) : LnP L 0 startSt := ⟨rfl, StB.start, by simp [startSt], by simp [startSt], by simp [startSt, emptyOb], by simp [startSt, emptyOb], by simp [startSt, emptyOb], by simp [startSt, emptyOb]⟩
theorem LnP.err {L : List (List UInt8)} {k : Nat} {s : St} {c : Int} (h : LnP L k s) (hk : k < L.length) (he : lineStep (k : Int) L[k] s = .error c) : asmOf L = (emptyOb, c, (k : Int)) := by
 have e : linesStep 0 L startSt = .error (c, (k : Int)) := by
  rw [h.1, List.drop_eq_getElem_cons hk, linesStep, he]
 rw [asmOf, e]
theorem LnP.big {L : List (List UInt8)} {k : Nat} {s s' : St} (h : LnP L k s) (hk : k < L.length) (he : lineStep (k : Int) L[k] s = .ok s') (hb : bigO s'.ob = true) : asmOf L = (emptyOb, 2, (k : Int)) := by
 have e : linesStep 0 L startSt = .error (2, (k : Int)) := by
  rw [h.1, List.drop_eq_getElem_cons hk, linesStep, he]
  simp only
  rw [if_pos hb]
 rw [asmOf, e]
theorem LnP.ok {L : List (List UInt8)} {k : Nat} {s s' : St} (h : LnP L k s) (hk : k < L.length) (he : lineStep (k : Int) L[k] s = .ok s') (hb : bigO s'.ob = false) : LnP L (k + 1) s' := by
 obtain ⟨h1, h2, h3, h4, h5, h6, h7, h8⟩ := h
 obtain ⟨b1, b2, b3, _⟩ := line_bd he h2 (by omega)
 obtain ⟨g1, g2, g3, g4⟩ := big_bd hb
 refine ⟨?_, b1, by omega, by omega, g1, g2, g3, g4⟩
 rw [h1, List.drop_eq_getElem_cons hk, linesStep, he]
 simp only
 rw [if_neg (by rw [hb]; decide)]
theorem LnP.done {L : List (List UInt8)} {s : St} (h : LnP L L.length s) : asmOf L = match ptsStep s.labs s.pts s.ob with
  | .error (e, n) => (emptyOb, e, n)
  | .ok o => (o, 0, -1) := by
 have e : linesStep 0 L startSt = .ok s := by
  rw [h.1, List.drop_length, linesStep]
 rw [asmOf, e]
 rfl
def PtP (s : St) (k : Nat) (o : Ob) : Prop := ptsStep s.labs s.pts s.ob = ptsStep s.labs (s.pts.drop k) o ∧ o.code.length = s.ob.code.length ∧ o.preds = s.ob.preds ∧ (∀ i ∈ o.code, ∀ m, m < 4 → 0 ≤ (argOf i).getD m 0 ∧ (argOf i).getD m 0 ≤ 4000000)
theorem PtP.start {s : St} (h : StB s) : PtP s 0 s.ob := ⟨rfl, rfl, rfl, h.code⟩
theorem PtP.err {s : St} {k : Nat} {o : Ob} {c : Int × Int} (h : PtP s k o) (hk : k < s.pts.length) (he : ptStep s.labs o s.pts[k] = .error c) : ptsStep s.labs s.pts s.ob = .error c := by
 rw [h.1, List.drop_eq_getElem_cons hk, ptsStep, he]
theorem PtP.ok {s : St} {k : Nat} {o o' : Ob} (h : PtP s k o) (hb : StB s) (hl : s.ob.code.length ≤ 2000) (hk : k < s.pts.length) (he : ptStep s.labs o s.pts[k] = .ok o') : PtP s (k + 1) o' := by
 obtain ⟨b1, b2, _, _, b3⟩ := pt_bd hb.labs he (by rw [h.2.1]; exact hl) h.2.2.2
 refine ⟨?_, by rw [b1, h.2.1], by rw [b2, h.2.2.1], b3⟩
 rw [h.1, List.drop_eq_getElem_cons hk, ptsStep, he]
theorem PtP.done {s : St} {o : Ob} (h : PtP s s.pts.length o) : ptsStep s.labs s.pts s.ob = .ok o := by
 rw [h.1, List.drop_length, ptsStep]
theorem ptCell {w : World} {base : Nat} {A : Option Addr} {c : Nat} {l : List (Int × Int × Bool)} (h : w.ownsRow base 105 3 (.slice A l.length c) l.length (l.flatMap ptC)) (k : Nat) (hk : k < l.length) :
  ∃ b, A = some ⟨b, 0, none⟩ ∧ w.cell? ⟨b, k * 3, none⟩ = some (.int .i64 l[k].1) ∧ w.cell? ⟨b, k * 3 + 1, none⟩ = some (.int .i64 l[k].2.1) ∧ w.cell? ⟨b, k * 3 + 2, none⟩ = some (.bool l[k].2.2) := by
 obtain ⟨b, cp, hv⟩ := own_some h (by omega)
 injection hv with hA _ _
 subst hA
 have hf := flat_at ptC 3 (fun _ => rfl) l k l[k] (by simp [hk])
 have c0 := h.cells (g := b) rfl _ _ (hf 0 (by omega))
 have c1 := h.cells (g := b) rfl _ _ (hf 1 (by omega))
 have c2 := h.cells (g := b) rfl _ _ (hf 2 (by omega))
 rw [add_plain, Nat.zero_add] at c0 c1 c2
 exact ⟨b, rfl, c0, c1, c2⟩
end Go.Proofs.YtclkdlegogjnbaaGreatDoor

namespace Go.Proofs.YtclkdlegogjnbaaGreatDoor
open Go
set_option linter.unusedVariables false
set_option linter.unusedSimpArgs false
structure SetTo (s : St) (k : Nat) (o : Ob) : Prop where
 atoms : o.atoms = s.ob.atoms
 funs : o.funs = s.ob.funs
 preds : o.preds = s.ob.preds
 len : o.code.length = s.ob.code.length
 ok : ∀ j, j < k → insErr s.ob.atoms.length s.ob.funs.length s.ob.preds.length s.ob.code.length (o.code.getD j (0, 0, 0, 0, 0)) = 0
 rest : ∀ j, k ≤ j → o.code.getD j (0, 0, 0, 0, 0) = s.ob.code.getD j (0, 0, 0, 0, 0)
theorem code_ok {a f p c : Nat} : ∀ l : List Ins, (∀ i ∈ l, insErr a f p c i = 0) → codeErr a f p c l = 0
 | [], _ => rfl
 | i :: l, h => by
  rw [codeErr, if_pos (h i List.mem_cons_self)]
  exact code_ok l fun j hj => h j (List.mem_cons_of_mem _ hj)
theorem names_ok {o : Ob} (h : GoodT o) : namesOk o = true := by
 unfold namesOk
 rw [Bool.and_eq_true, Bool.and_eq_true, List.all_eq_true, List.all_eq_true, List.all_eq_true]
 refine ⟨⟨h.atoms, fun f hf => ?_⟩, fun f hf => ?_⟩
 ·have := h.funs f hf
  simp [funOk, this.1, this.2.1, this.2.2]
 ·obtain ⟨p, hp, rfl⟩ := List.mem_map.1 hf
  have := h.preds p hp
  simp [funOk, called, this.1, this.2.1, this.2.2]
theorem dup_ok {o : Ob} (h : GoodT o) : dupB o = false := by
 simp [dupB, twiceB, h.nda, h.ndf, h.ndp]
end Go.Proofs.YtclkdlegogjnbaaGreatDoor

namespace Go.Proofs.YtclkdlegogjnbaaGreatDoor
open Go
set_option linter.unusedVariables false
set_option linter.unusedSimpArgs false
def goodL (o : Ob) (m : Nat) (op kind n : Int) : Prop :=
 (kind = 3 → 0 ≤ n ∧ n < (o.atoms.length : Int)) ∧ (kind = 4 → 0 ≤ n ∧ n < (o.funs.length : Int)) ∧ (kind = 7 → 0 ≤ n ∧ n < (o.preds.length : Int)) ∧ (kind = 8 → (0 ≤ n ∧ n < (m : Int)) ∨ (op = 26 ∧ n = 65535)) ∧ (kind ≠ 3 → kind ≠ 4 → kind ≠ 7 → kind ≠ 8 → mayB op kind n = true)
def InsL (o : Ob) (m : Nat) (i : Ins) : Prop :=
 0 ≤ i.1 ∧ i.1 ≤ 26 ∧ (∀ j, j < (opsOf i.1).length → goodL o m i.1 ((opsOf i.1).getD j 0) ((argOf i).getD j 0)) ∧ ∀ j, (opsOf i.1).length ≤ j → j < 4 → (argOf i).getD j 0 = 0
theorem InsL.grow {o o' : Ob} {m m' : Nat} {i : Ins} (h : InsL o m i) (hg : Grown o o') (hm : m ≤ m') : InsL o' m' i := by
 refine ⟨h.1, h.2.1, fun j hj => ?_, h.2.2.2⟩
 obtain ⟨h1, h2, h3, h4, h5⟩ := h.2.2.1 j hj
 obtain ⟨g1, g2, g3⟩ := hg
 exact ⟨fun e => by have := h1 e; omega, fun e => by have := h2 e; omega, fun e => by have := h3 e; omega, fun e => by have := h4 e; omega, h5⟩
theorem InsL.ok {o : Ob} {m : Nat} {i : Ins} (h : InsL o m i) (hl : o.atoms.length ≤ 256 ∧ o.funs.length ≤ 256 ∧ o.preds.length ≤ 64) (hm : m ≤ 1024) : insErr o.atoms.length o.funs.length o.preds.length m i = 0 := by
 obtain ⟨i1, i2, i3, i4⟩ := h
 have hfew := ops_few i.1
 have hboth : ∀ q, q < (opsOf i.1).length → mayB i.1 ((opsOf i.1).getD q 0) ((argOf i).getD q 0) = true ∧ thereB o.atoms.length o.funs.length o.preds.length m ((opsOf i.1).getD q 0) ((argOf i).getD q 0) = true := fun q hq => by
  obtain ⟨a3, a4, a7, a8, ap⟩ := i3 q hq
  generalize (opsOf i.1).getD q 0 = kd at *
  generalize (argOf i).getD q 0 = z at *
  by_cases h8 : kd = 8
  ·subst h8
   have lo : lowOf 8 = 0 := by decide
   have hi : highOf 8 = 1023 := by decide
   rcases a8 rfl with h | h
   ·refine ⟨decide_eq_true (.inr ⟨by omega, by omega⟩), ?_⟩
    simp only [thereB]
    exact decide_eq_true (.inr ⟨by omega, by omega⟩)
   ·exact ⟨decide_eq_true (.inl ⟨h.1, h.2⟩), by simp [thereB, h.2]⟩
  ·by_cases h3 : kd = 3
   ·subst h3
    have lo : lowOf 3 = 0 := by decide
    have hi : highOf 3 = 255 := by decide
    have := a3 rfl
    refine ⟨decide_eq_true (.inr ⟨by omega, by omega⟩), ?_⟩
    simp only [thereB]
    exact decide_eq_true (by omega)
   ·by_cases h4 : kd = 4
    ·subst h4
     have lo : lowOf 4 = 0 := by decide
     have hi : highOf 4 = 255 := by decide
     have := a4 rfl
     refine ⟨decide_eq_true (.inr ⟨by omega, by omega⟩), ?_⟩
     simp only [thereB]
     exact decide_eq_true (by omega)
    ·by_cases h7 : kd = 7
     ·subst h7
      have lo : lowOf 7 = 0 := by decide
      have hi : highOf 7 = 63 := by decide
      have := a7 rfl
      refine ⟨decide_eq_true (.inr ⟨by omega, by omega⟩), ?_⟩
      simp only [thereB]
      exact decide_eq_true (by omega)
     ·exact ⟨ap h3 h4 h7 h8, by simp [thereB, h3, h4, h7, h8]⟩
 have hright : rightB i.1 (argOf i) = true := by
  rw [rightB, Bool.and_eq_true, List.all_eq_true]
  refine ⟨decide_eq_true ⟨i1, i2⟩, fun q hq => ?_⟩
  have hq4 : q < 4 := List.mem_range.1 hq
  by_cases hql : q < (opsOf i.1).length
  ·exact (hboth q hql).1
  ·have e1 : (opsOf i.1).getD q 0 = 0 := by rw [List.getD_eq_getElem?_getD, List.getElem?_eq_none (by omega)]; rfl
   have e2 := i4 q (by omega) hq4
   have lo : lowOf 0 = 0 := rfl
   have hi : highOf 0 = 0 := rfl
   rw [e1, e2]
   exact decide_eq_true (.inr ⟨by omega, by omega⟩)
 unfold insErr
 rw [if_neg (by omega), if_neg (by rw [hright]; decide), if_pos]
 rw [List.all_eq_true]
 intro q hq
 exact (hboth q (List.mem_range.1 hq)).2
theorem argsJ_get (f : Int → Int → Int) : ∀ (ks xs : List Int) (j : Nat), (argsJ f ks xs).getD j 0 = if j < ks.length then f (ks.getD j 0) (xs.getD j 0) else xs.getD j 0
 | [], xs, j => by simp [argsJ]
 | k :: ks, xs, 0 => by
  have e0 : xs.getD 0 0 = xs.headD 0 := by cases xs <;> rfl
  rw [e0]
  simp [argsJ]
 | k :: ks, xs, j + 1 => by
  have et : xs.tail.getD j 0 = xs.getD (j + 1) 0 := by cases xs <;> rfl
  unfold argsJ
  rw [List.getD_cons_succ, List.getD_cons_succ, argsJ_get f ks xs.tail j, et, List.length_cons]
  by_cases h : j < ks.length
  ·rw [if_pos h, if_pos (by omega)]
  ·rw [if_neg h, if_neg (by omega)]
theorem place_lt {α : Type} [DecidableEq α] {l : List α} {x : α} (h : x ∈ l) : placeOf l x < l.length := by
 unfold placeOf
 exact List.findIdx_lt_length_of_exists ⟨x, h, by simp⟩
theorem insJ_arg (W x : Ob) (base : Int) (i : Ins) (j : Nat) (hj : j < 4) : (argOf (insJ W x base i)).getD j 0 = if j < (opsOf i.1).length then opdJ W x base ((opsOf i.1).getD j 0) ((argOf i).getD j 0) else (argOf i).getD j 0 := by
 unfold insJ
 rw [argOf_ins _ _ j hj, argsJ_get]
theorem insJ_good {W x : Ob} {base : Nat} {i : Ins} (h : insErr x.atoms.length x.funs.length x.preds.length x.code.length i = 0) (ha : ∀ s ∈ x.atoms, s ∈ W.atoms) (hf : ∀ s ∈ x.funs, s ∈ W.funs)
  (hp : ∀ p ∈ x.preds, called p ∈ W.preds.map called) : InsL W (base + x.code.length) (insJ W x (base : Int) i) := by
 obtain ⟨i1, i2, i3, i4⟩ := insErr_ne h
 have hfew := ops_few i.1
 rw [List.all_eq_true] at i4
 have e0 : (insJ W x (base : Int) i).1 = i.1 := rfl
 unfold InsL
 rw [e0]
 refine ⟨i1, i2, fun j hj => ?_, fun j hj hj4 => ?_⟩
 ·rw [insJ_arg _ _ _ _ j (by omega), if_pos hj]
  have hm := right_at i3 j (by omega)
  have ht := i4 j (List.mem_range.2 hj)
  generalize (opsOf i.1).getD j 0 = kd at hm ht ⊢
  generalize (argOf i).getD j 0 = n at hm ht ⊢
  unfold opdJ
  unfold thereB at ht
  refine ⟨fun e => ?_, fun e => ?_, fun e => ?_, fun e => ?_, fun e3 e4 e7 e8 => ?_⟩
  ·subst e
   rw [if_pos rfl] at ht ⊢
   have ht := of_decide_eq_true ht
   have := place_lt (ha (x.atoms.getD n.toNat ⟨#[]⟩) (by rw [List.getD_eq_getElem?_getD, List.getElem?_eq_getElem (by omega)]; exact List.getElem_mem _))
   omega
  ·subst e
   rw [if_neg (by decide), if_pos rfl] at ht ⊢
   have ht := of_decide_eq_true ht
   have := place_lt (hf (x.funs.getD n.toNat (⟨#[]⟩, 0)) (by rw [List.getD_eq_getElem?_getD, List.getElem?_eq_getElem (by omega)]; exact List.getElem_mem _))
   omega
  ·subst e
   rw [if_neg (by decide), if_neg (by decide), if_pos rfl] at ht ⊢
   have ht := of_decide_eq_true ht
   have h1 := hp (x.preds.getD n.toNat (⟨#[]⟩, 0, 0)) (by rw [List.getD_eq_getElem?_getD, List.getElem?_eq_getElem (by omega)]; exact List.getElem_mem _)
   have h2 := findFrom_mem _ _ 0 W.preds h1
   obtain ⟨k, hk, h3, _⟩ := findFrom_at _ _ 0 W.preds h2
   exact ⟨h2, by rw [h3]; omega⟩
  ·subst e
   rw [if_neg (by decide), if_neg (by decide), if_neg (by decide), if_pos rfl] at ht ⊢
   have ht := of_decide_eq_true ht
   have lo : lowOf 8 = 0 := by decide
   have hi : highOf 8 = 1023 := by decide
   have hm := of_decide_eq_true hm
   by_cases hn : n = 65535
   ·right
    rw [if_neg (by simp [hn])]
    rcases hm with hm | hm
    ·exact hm
    ·omega
   ·left
    rw [if_pos hn]
    push_cast
    omega
  ·rw [if_neg e3, if_neg e4, if_neg e7, if_neg e8]
   exact hm
 ·rw [insJ_arg _ _ _ _ j hj4, if_neg (by omega)]
  have hm := right_at i3 j hj4
  have e1 : (opsOf i.1).getD j 0 = 0 := by rw [List.getD_eq_getElem?_getD, List.getElem?_eq_none (by omega)]; rfl
  rw [e1] at hm
  have lo : lowOf 0 = 0 := rfl
  have hi : highOf 0 = 0 := rfl
  have hm := of_decide_eq_true hm
  rcases hm with hm | hm
  ·have := hm.1
   rw [this] at hj
   have h4 : (opsOf 26).length = 4 := by decide
   omega
  ·omega
def EntNe (p q : Pr) : Prop := p.2.2 ≠ 65535 → q.2.2 ≠ 65535 → p.2.2 ≠ q.2.2
structure GoodP (m : Int) (P : List Pr) : Prop where
 ok : ∀ p ∈ P, nameOk p.1 = true ∧ 0 ≤ p.2.1 ∧ p.2.1 ≤ 8
 nd : (P.map called).Nodup
 ents : ∀ p ∈ P, p.2.2 = 65535 ∨ (0 ≤ p.2.2 ∧ p.2.2 < m)
 pw : P.Pairwise EntNe
theorem predIn_mem {P : List Pr} {f : ByteArray × Int} {q : Pr} (h : q ∈ (predIn P f).2) : q ∈ P ∨ q = (f.1, f.2, 65535) := by
 rcases predIn_at P f with ⟨_, he, _⟩ | ⟨_, he⟩
 ·rw [he] at h
  exact .inl h
 ·rw [he] at h
  rcases List.mem_append.1 h with h | h
  ·exact .inl h
  ·exact .inr (List.mem_singleton.1 h)
theorem predIn_good {m : Int} {P : List Pr} (h : GoodP m P) {f : ByteArray × Int} (hf : nameOk f.1 = true ∧ 0 ≤ f.2 ∧ f.2 ≤ 8) : GoodP m (predIn P f).2 := by
 refine ⟨fun p hp => ?_, ?_, fun p hp => ?_, ?_⟩
 ·rcases predIn_mem hp with hp | rfl
  ·exact h.ok p hp
  ·exact hf
 ·rcases predIn_at P f with ⟨_, he, _⟩ | ⟨hm, he⟩
  ·rw [he]
   exact h.nd
  ·rw [he]
   simp only
   rw [List.map_append, List.nodup_append]
   refine ⟨h.nd, by simp, fun a ha b hb e => ?_⟩
   have hb : b = f := by simpa [called] using hb
   subst e
   subst hb
   exact hm ha
 ·rcases predIn_mem hp with hp | rfl
  ·exact h.ents p hp
  ·exact .inl rfl
 ·rcases predIn_at P f with ⟨_, he, _⟩ | ⟨hm, he⟩
  ·rw [he]
   exact h.pw
  ·rw [he]
   simp only
   rw [List.pairwise_append]
   refine ⟨h.pw, by simp, fun a ha b hb e1 e2 => ?_⟩
   rw [List.mem_singleton.1 hb] at e2
   exact absurd rfl e2
theorem setE_mem {P : List Pr} {k : Nat} {e : Int} {q : Pr} (h : q ∈ setE P k e) : ∃ p ∈ P, q.1 = p.1 ∧ q.2.1 = p.2.1 ∧ (q.2.2 = p.2.2 ∨ q.2.2 = e) := by
 obtain ⟨i, hi, rfl⟩ := List.mem_iff_getElem.1 h
 have hi2 : i < P.length := by rw [setE_len] at hi; exact hi
 refine ⟨P[i], List.getElem_mem hi2, ?_⟩
 simp only [setE, List.getElem_modify]
 split
 ·exact ⟨rfl, rfl, .inr rfl⟩
 ·exact ⟨rfl, rfl, .inl rfl⟩
theorem setE_good {m : Int} {P : List Pr} (h : GoodP m P) (k : Nat) {e : Int} (he : 0 ≤ e ∧ e < m) (hne : ∀ q ∈ P, q.2.2 ≠ e) : GoodP m (setE P k e) := by
 refine ⟨fun p hp => ?_, by rw [setE_called]; exact h.nd, fun p hp => ?_, ?_⟩
 ·obtain ⟨q, hq, h1, h2, _⟩ := setE_mem hp
  rw [h1, h2]
  exact h.ok q hq
 ·obtain ⟨q, hq, _, _, h3⟩ := setE_mem hp
  rcases h3 with h3 | h3
  ·rw [h3]
   exact h.ents q hq
  ·rw [h3]
   exact .inr he
 ·rw [List.pairwise_iff_getElem]
  intro i j hi hj hij
  have hi2 : i < P.length := by rw [setE_len] at hi; exact hi
  have hj2 : j < P.length := by rw [setE_len] at hj; exact hj
  have h0 := List.pairwise_iff_getElem.1 h.pw i j hi2 hj2 hij
  unfold EntNe at h0 ⊢
  simp only [setE, List.getElem_modify]
  by_cases e1 : k = i
  ·rw [if_pos e1, if_neg (by omega)]
   intro _ _ hh
   exact hne _ (List.getElem_mem hj2) hh.symm
  ·rw [if_neg e1]
   by_cases e2 : k = j
   ·rw [if_pos e2]
    intro _ _ hh
    exact hne _ (List.getElem_mem hi2) hh
   ·rw [if_neg e2]
    exact h0
theorem predsJ_good {base m : Int} : ∀ (ps P P' : List Pr), predsJ base P ps = some P' → GoodP m P → (∀ p ∈ ps, (nameOk p.1 = true ∧ 0 ≤ p.2.1 ∧ p.2.1 ≤ 8) ∧ (p.2.2 = 65535 ∨ (0 ≤ base + p.2.2 ∧ base + p.2.2 < m ∧ base + p.2.2 ≠ 65535))) → ps.Pairwise EntNe →
  (∀ p ∈ ps, p.2.2 ≠ 65535 → ∀ q ∈ P, q.2.2 ≠ base + p.2.2) → GoodP m P'
 | [], P, P', h, hg, _, _, _ => by
  unfold predsJ at h
  injection h with h
  rw [← h]
  exact hg
 | p :: ps, P, P', h, hg, hok, hpw, hne => by
  unfold predsJ at h
  cases h1 : predJ base P p with
  | none => rw [h1] at h; cases h
  | some P1 =>
   rw [h1] at h
   simp only at h
   rw [List.pairwise_cons] at hpw
   have hp := hok p (by simp)
   have g1 := predIn_good hg (f := called p) hp.1
   have hstep : GoodP m P1 ∧ ∀ q ∈ P1, q.2.2 = 65535 ∨ (∃ q' ∈ P, q.2.2 = q'.2.2) ∨ (p.2.2 ≠ 65535 ∧ q.2.2 = base + p.2.2) := by
    unfold predJ at h1
    split at h1
    ·injection h1 with h1
     rw [← h1]
     refine ⟨g1, fun q hq => ?_⟩
     rcases predIn_mem hq with hq | rfl
     ·exact .inr (.inl ⟨q, hq, rfl⟩)
     ·exact .inl rfl
    ·rename_i hpe
     split at h1
     ·cases h1
     ·injection h1 with h1
      rw [← h1]
      have hb : 0 ≤ base + p.2.2 ∧ base + p.2.2 < m ∧ base + p.2.2 ≠ 65535 := by
       rcases hp.2 with h2 | h2
       ·exact absurd h2 hpe
       ·exact h2
      refine ⟨setE_good g1 _ ⟨hb.1, hb.2.1⟩ (fun q hq => ?_), fun q hq => ?_⟩
      ·rcases predIn_mem hq with hq | rfl
       ·exact hne p (by simp) hpe q hq
       ·exact fun e => hb.2.2 e.symm
      ·obtain ⟨q', hq', _, _, h3⟩ := setE_mem hq
       rcases h3 with h3 | h3
       ·rcases predIn_mem hq' with hq' | rfl
        ·exact .inr (.inl ⟨q', hq', h3⟩)
        ·exact .inl h3
       ·exact .inr (.inr ⟨hpe, h3⟩)
   refine predsJ_good ps P1 P' h hstep.1 (fun q hq => hok q (by simp [hq])) hpw.2 (fun q hq hqe r hr => ?_)
   rcases hstep.2 r hr with h2 | ⟨r', hr', h2⟩ | ⟨h2, h3⟩
   ·have h4 := (hok q (by simp [hq])).2
    rcases h4 with h4 | h4
    ·exact absurd h4 hqe
    ·rw [h2]
     exact fun e => h4.2.2 e.symm
   ·rw [h2]
    exact hne q (by simp [hq]) hqe r' hr'
   ·rw [h3]
    have := hpw.1 q hq h2 hqe
    omega
theorem ents_pw {o : Ob} (h : checkOf o = 0) : o.preds.Pairwise EntNe := by
 unfold checkOf at h
 split at h
 ·cases h
 ·split at h
  ·cases h
  ·split at h
   ·cases h
   ·split at h
    ·cases h
    ·rename_i h4
     have h5 : entsOk o.code.length (o.preds.map (·.2.2)) = true := by
      cases hh : entsOk o.code.length (o.preds.map (·.2.2)) with
      | true => rfl
      | false => exact absurd hh h4
     unfold entsOk at h5
     rw [Bool.and_eq_true] at h5
     have h6 := of_decide_eq_true h5.2
     unfold List.Nodup at h6
     rw [List.pairwise_filter, List.pairwise_map] at h6
     exact h6.imp fun hh e1 e2 => hh (decide_eq_true e1) (decide_eq_true e2)
structure GoodJ (o : Ob) : Prop where
 atoms : ∀ s ∈ o.atoms, nameOk s = true
 nda : o.atoms.Nodup
 funs : ∀ f ∈ o.funs, nameOk f.1 = true ∧ 1 ≤ f.2 ∧ f.2 ≤ 8
 ndf : o.funs.Nodup
 p : GoodP o.code.length o.preds
 code : ∀ i ∈ o.code, InsL o o.code.length i
theorem addAll_nodup {α : Type} [DecidableEq α] : ∀ (xs l : List α), l.Nodup → (xs.foldl addTo l).Nodup
 | [], l, h => h
 | x :: xs, l, h => addAll_nodup xs (addTo l x) (addTo_nodup x h)
theorem addAll_mem {α : Type} [DecidableEq α] : ∀ (xs l : List α) (y : α), y ∈ xs.foldl addTo l → y ∈ l ∨ y ∈ xs
 | [], l, y, h => .inl h
 | x :: xs, l, y, h => by
  rcases addAll_mem xs (addTo l x) y h with h | h
  ·rcases addTo_mem h with h | rfl
   ·exact .inl h
   ·exact .inr (by simp)
  ·exact .inr (by simp [h])
theorem predsJ_has {base : Int} : ∀ (ps P P' : List Pr), predsJ base P ps = some P' → ∀ q ∈ ps, called q ∈ P'.map called
 | [], P, P', _, q, hq => nomatch hq
 | q0 :: ps, P, P', hh, q, hq => by
  unfold predsJ at hh
  cases h2 : predJ base P q0 with
  | none => rw [h2] at hh; cases hh
  | some P1 =>
   rw [h2] at hh
   rcases List.mem_cons.1 hq with rfl | hq
   ·obtain ⟨Q3, hQ3⟩ := predsJ_grow ps P1 P' hh
    rw [hQ3, predJ_called h2, List.mem_append]
    left
    rcases predIn_at P (called q) with ⟨hm, he, _⟩ | ⟨hm, he⟩
    ·rw [he]; exact hm
    ·rw [he]; simp [called]
   ·exact predsJ_has ps P1 P' hh q hq
theorem join_good {o x o' : Ob} (h : GoodJ o) (hx : checkOf x = 0) (hj : joinJ o x = some o') (hn : o.code.length ≤ 60000) : GoodJ o' := by
 have hk := ok_of hx
 have hlc := hk.lc
 unfold joinJ at hj
 cases hP : predsJ (o.code.length : Int) o.preds x.preds with
 | none => rw [hP] at hj; cases hj
 | some P =>
  rw [hP] at hj
  injection hj with hj
  have hgp : GoodP ((o.code.length : Int) + x.code.length) P := by
   refine predsJ_good x.preds o.preds P hP ⟨h.p.ok, h.p.nd, fun p hp => ?_, h.p.pw⟩ (fun p hp => ?_) (ents_pw hx) (fun p hp hpe q hq => ?_)
   ·rcases h.p.ents p hp with h1 | h1
    ·exact .inl h1
    ·exact .inr (by omega)
   ·have h1 := hk.preds p hp
    refine ⟨⟨h1.1, h1.2.1, h1.2.2.1⟩, ?_⟩
    rcases h1.2.2.2 with h2 | h2
    ·exact .inl h2
    ·exact .inr (by omega)
   ·have h1 := (hk.preds p hp).2.2.2
    have h2 := h.p.ents q hq
    omega
  obtain ⟨m1, hm1, hm1'⟩ := addAll_grow x.atoms o.atoms
  obtain ⟨m2, hm2, hm2'⟩ := addAll_grow x.funs o.funs
  obtain ⟨m3, hm3⟩ := predsJ_grow x.preds o.preds P hP
  have hlen : P.length = o.preds.length + m3.length := by
   have := congrArg List.length hm3
   simpa using this
  rw [← hj]
  refine ⟨fun s hs => ?_, addAll_nodup _ _ h.nda, fun f hf => ?_, addAll_nodup _ _ h.ndf, ?_, fun i hi => ?_⟩
  ·rcases addAll_mem _ _ s hs with hs | hs
   ·exact h.atoms s hs
   ·exact hk.atoms s hs
  ·rcases addAll_mem _ _ f hf with hf | hf
   ·exact h.funs f hf
   ·exact hk.funs f hf
  ·simp only [List.length_append, List.length_map]
   push_cast
   exact hgp
  ·simp only [List.length_append, List.length_map]
   rcases List.mem_append.1 hi with hi | hi
   ·refine (h.code i hi).grow ⟨?_, ?_, ?_⟩ (by omega)
    ·rw [hm1]; simp
    ·rw [hm2]; simp
    ·simp only; omega
   ·obtain ⟨i0, hi0, rfl⟩ := List.mem_map.1 hi
    have := insJ_good (W := ⟨x.atoms.foldl addTo o.atoms, x.funs.foldl addTo o.funs, P, []⟩) (base := o.code.length) (hk.code i0 hi0) (fun s hs => by simp only; rw [hm1]; exact hm1' s hs) (fun s hs => by simp only; rw [hm2]; exact hm2' s hs) (fun p hp => predsJ_has _ _ _ hP p hp)
    exact this.grow ⟨Nat.le_refl _, Nat.le_refl _, Nat.le_refl _⟩ (Nat.le_refl _)
theorem join_len {o x o' : Ob} (hx : checkOf x = 0) (hj : joinJ o x = some o') : o'.code.length = o.code.length + x.code.length := by
 unfold joinJ at hj
 split at hj
 ·cases hj
 ·injection hj with hj
  rw [← hj]
  simp
theorem fold_good : ∀ (l : List Ob) (n : Nat) (o F : Ob), foldJ n o l = .ok F → GoodJ o → (∀ x ∈ l, checkOf x = 0) → o.code.length + 1024 * l.length ≤ 60000 → GoodJ F
 | [], n, o, F, h, hg, _, _ => by
  unfold foldJ at h
  injection h with h
  rw [← h]
  exact hg
 | x :: l, n, o, F, h, hg, hc, hn => by
  unfold foldJ at h
  rw [List.length_cons] at hn
  cases h1 : joinJ o x with
  | none => rw [h1] at h; cases h
  | some o1 =>
   rw [h1] at h
   have hx := hc x (by simp)
   have h2 := (ok_of hx).lc
   have h3 := join_len hx h1
   exact fold_good l (n + 1) o1 F h (join_good hg hx h1 (by omega)) (fun y hy => hc y (by simp [hy])) (by omega)
theorem GoodJ.start : GoodJ emptyOb := ⟨(fun s hs => nomatch hs), List.nodup_nil, (fun s hs => nomatch hs), List.nodup_nil, ⟨(fun s hs => nomatch hs), List.nodup_nil, (fun s hs => nomatch hs), List.Pairwise.nil⟩, (fun s hs => nomatch hs)⟩
theorem GoodJ.check {o : Ob} (h : GoodJ o) (hb : bigO o = false) : checkOf o = 0 := by
 have hb2 : ¬ (256 < o.atoms.length ∨ 256 < o.funs.length ∨ 64 < o.preds.length ∨ 1024 < o.code.length) := by
  unfold bigO bigB at hb
  exact of_decide_eq_false hb
 have hT : GoodT o := ⟨h.atoms, h.nda, h.funs, h.ndf, h.p.ok, h.p.nd⟩
 have hents : entsOk o.code.length (o.preds.map (·.2.2)) = true := by
  unfold entsOk
  rw [Bool.and_eq_true, List.all_eq_true]
  refine ⟨fun e he => ?_, decide_eq_true ?_⟩
  ·obtain ⟨p, hp, rfl⟩ := List.mem_map.1 he
   exact decide_eq_true (h.p.ents p hp)
  ·unfold List.Nodup
   rw [List.pairwise_filter, List.pairwise_map]
   exact h.p.pw.imp fun hh e1 e2 => hh (of_decide_eq_true e1) (of_decide_eq_true e2)
 unfold checkOf
 rw [show bigB o.atoms.length o.funs.length o.preds.length o.code.length = false from hb, if_neg (by decide), names_ok hT, if_neg (by decide), dup_ok hT, if_neg (by decide), hents, if_neg (by decide)]
 exact code_ok _ fun i hi => (h.code i hi).ok (by omega) (by omega)
theorem link_check (l : List Ob) (hl : l.length ≤ 50) : checkOf (linkOf l).1 = 0 := by
 unfold linkOf
 cases h1 : firstErr 0 l with
 | some p => rfl
 | none =>
  simp only
  cases h2 : foldJ 0 emptyOb l with
  | error n => rfl
  | ok o =>
   simp only
   cases h3 : unknownJ l o.preds with
   | some k => rfl
   | none =>
    simp only
    by_cases hb : bigO o = true
    ·rw [if_pos hb]
     rfl
    ·rw [if_neg hb]
     exact (fold_good l 0 emptyOb o h2 GoodJ.start (firstErr_none l 0 h1) (by show 0 + 1024 * l.length ≤ 60000; omega)).check (by simpa using hb)
end Go.Proofs.YtclkdlegogjnbaaGreatDoor
