/-
  The program's Program, of whatever takePred that keeps its word. Conditions: lines of at most 1048576 bytes, at most 100000 of them.
-/
import Derived.Test.YtlmbiafloiompaaGreatDoorJV46
namespace Go.Proofs.YtlmbiafloiompaaGreatDoor
open Go Go.RowKit Go.WideShapes Go.ChangeShapes
set_option linter.unusedVariables false
set_option linter.unusedSimpArgs false

/-- What settling a line comes to, whatever the row of code. -/
def SettleV (w0 w : World) (g M : Nat) (va vf vp vc vq : Value) (s : St) (r : Except (Int × Int) Ob) (e : Ending) (w' : World) : Prop :=
  match r with
  | .error c => e = .returned (.int .i64 c.1) ∧ Below w0.heap.size w0 w' ∧ Fr (fun k => vc.ownBlock = some k) w w'
  | .ok o => e = .returned (.int .i64 0) ∧ Mk w0 w' g M va vf vp vc vq { s with ob := o }
theorem settleV_err {w0 w w' : World} {g M : Nat} {va vf vp vc vq : Value} {s : St} {r : Except (Int × Int) Ob} {c n : Int} (h : r = .error (c, n)) (hb : Below w0.heap.size w0 w') (hf : Fr (fun k => vc.ownBlock = some k) w w') : SettleV w0 w g M va vf vp vc vq s r (.returned (.int .i64 c)) w' := by
  subst h
  exact ⟨rfl, hb, hf⟩
theorem settleV_ok {w0 w w' : World} {g M : Nat} {va vf vp vc vq : Value} {s : St} {r : Except (Int × Int) Ob} {o : Ob} (h : r = .ok o) (hk : Mk w0 w' g M va vf vp vc vq { s with ob := o }) : SettleV w0 w g M va vf vp vc vq s r (.returned (.int .i64 0)) w' := by
  subst h
  exact ⟨rfl, hk⟩

set_option maxRecDepth 100000 in
set_option maxHeartbeats 8000000 in
theorem settleV_any (w0 : World) (g M : Nat) (va vf vp vc vq : Value) (s : St) (l n : Int) (b : Bool) (hn : b = false → 0 ≤ n ∧ n < s.ob.code.length) (hA : ∀ i (hi : i < s.ob.code.length), ∀ m, m < 4 → -9223372036854775808 ≤ (argOf s.ob.code[i]).getD m 0 ∧ (argOf s.ob.code[i]).getD m 0 ≤ 9223372036854775807)
    (hl : s.ob.preds.length ≤ 1000000 ∧ s.ob.code.length ≤ 1000000) (w : World) (hk : Mk w0 w g M va vf vp vc vq s) :
    Calls Tryz.prog 21 #[.pointer (some ⟨g, 0, none⟩), .agg #[.int .i64 l, .int .i64 n, .bool b]] w (SettleV w0 w g M va vf vp vc vq s (ptStep s.labs s.ob (l, n, b))) := by
  cases b with
  | false =>
    obtain ⟨gc, cc, rfl⟩ := own_some hk.rc (by have := hn rfl; omega)
    refine (settle_any w0 g M gc cc va vf vp vq s l n false hn hA hl w hk).mono fun e w' h => ?_
    unfold SettleW at h
    unfold SettleV
    cases hr : ptStep s.labs s.ob (l, n, false) with
    | error c =>
      rw [hr] at h
      exact ⟨h.1, h.2.1, h.2.2.mono fun k _ e => by rw [e]; rfl⟩
    | ok o =>
      rw [hr] at h
      exact ⟨h.1, h.2.1⟩
  | true =>
    have K1 := Lib.hid (hk.alloc (.cells #[.int .i64 l, .int .i64 n, .bool true] 82))
    have HE : Hid (ptStep s.labs s.ob (l, n, true) = if (s.ob.code.length : Int) ≤ n ∨ 1 < cntOf s.ob.preds n then .error (7, l) else .ok s.ob) := Lib.hid rfl
    have HS := Lib.hid (fun W h => settlePred_any w0 g M va vf vp vc vq s n hl W h)
    generalize ptStep s.labs s.ob (l, n, true) = r at HE
    by_cases hc : (s.ob.code.length : Int) ≤ n ∨ 1 < cntOf s.ob.preds n
    · have HX : Hid (r = .error (7, l)) := Lib.hid (by rw [HE.out, if_pos hc])
      rw [if_pos hc] at HS
      clear hc hk hn hA
      go_enter Tryz.func21, Tryz.ntmps21
      go_wp2_with (go_at_call 41; refine (HS.out _ K1.out).mono ?_; rintro e w2 ⟨rfl, hk2, hb2⟩; have HK2 := Lib.hid hk2; have HF2 : Hid (Fr (fun k => vc.ownBlock = some k) w w2) := Lib.hid (((Fr.refl _ w).alloc _).trans (Fr.of_below hb2)); clear hk2 hb2)
      go_ret
      exact settleV_err HX.out HK2.out.below HF2.out
    · have HX : Hid (r = .ok s.ob) := Lib.hid (by rw [HE.out, if_neg hc])
      rw [if_neg hc] at HS
      clear hc hk hn hA
      go_enter Tryz.func21, Tryz.ntmps21
      go_wp2_with (go_at_call 41; refine (HS.out _ K1.out).mono ?_; rintro e w2 ⟨rfl, hk2, _⟩; have HK2 := Lib.hid hk2; clear hk2)
      go_ret
      exact settleV_ok HX.out HK2.out

/-- What Program hands back. -/
structure ObOwn (w : World) (base : Nat) (va vf vp vc : Value) (o : Ob) : Prop where
  ra : w.ownsRow base 9 1 va o.atoms.length (o.atoms.map Value.string)
  rf : w.ownsRow base 61 2 vf o.funs.length (o.funs.flatMap funC)
  rp : w.ownsRow base 64 3 vp o.preds.length (o.preds.flatMap predC)
  rc : w.ownsRow base 65 5 vc o.code.length (o.code.flatMap insC)
theorem ObOwn.at_ {w : World} {base : Nat} {va vf vp vc : Value} {o : Ob} (h : ObOwn w base va vf vp vc o) : ObAt w va vf vp vc o :=
  ⟨CellsAt.of_own h.ra (by decide), CellsAt.of_own h.rf (by decide), CellsAt.of_own h.rp (by decide), CellsAt.of_own h.rc (by decide)⟩
theorem ObOwn.of_mk {w0 w : World} {g M : Nat} {va vf vp vc vq : Value} {s : St} (h : Mk w0 w g M va vf vp vc vq s) {base : Nat} (hb : base ≤ w0.heap.size) : ObOwn w base va vf vp vc s.ob :=
  ⟨own_more h.ra fun k hk => Nat.le_trans hb (own_ge h.ra hk).1, own_more h.rf fun k hk => Nat.le_trans hb (own_ge h.rf hk).1, own_more h.rp fun k hk => Nat.le_trans hb (own_ge h.rp hk).1, own_more h.rc fun k hk => Nat.le_trans hb (own_ge h.rc hk).1⟩
theorem ObOwn.nil (w : World) (base : Nat) : ObOwn w base (.slice none 0 0) (.slice none 0 0) (.slice none 0 0) (.slice none 0 0) emptyOb :=
  ⟨⟨rfl, .inl ⟨rfl, rfl⟩⟩, ⟨rfl, .inl ⟨rfl, rfl⟩⟩, ⟨rfl, .inl ⟨rfl, rfl⟩⟩, ⟨rfl, .inl ⟨rfl, rfl⟩⟩⟩
def AsmW (w : World) (r : Ob × Int × Int) (e : Ending) (w' : World) : Prop :=
  ∃ va vf vp vc, e = .returned (.tuple #[.agg #[va, vf, vp, vc], .int .i64 r.2.1, .int .i64 r.2.2]) ∧ ObOwn w' w.heap.size va vf vp vc r.1 ∧ Below w.heap.size w w'
theorem asmW_err {w w' : World} {r : Ob × Int × Int} {c n : Int} (h : r = (emptyOb, c, n)) (hb : Below w.heap.size w w') : AsmW w r (.returned (.tuple #[.agg #[.slice none 0 0, .slice none 0 0, .slice none 0 0, .slice none 0 0], .int .i64 c, .int .i64 n])) w' := by
  subst h
  exact ⟨_, _, _, _, rfl, ObOwn.nil _ _, hb⟩
theorem asmW_ok {w w' : World} {va vf vp vc : Value} {r : Ob × Int × Int} {o : Ob} (h : r = (o, 0, -1)) (ho : ObOwn w' w.heap.size va vf vp vc o) (hb : Below w.heap.size w w') : AsmW w r (.returned (.tuple #[.agg #[va, vf, vp, vc], .int .i64 0, .int .i64 (-1)])) w' := by
  subst h
  exact ⟨_, _, _, _, rfl, ho, hb⟩

/-- How far the loop over the lines is. -/
def LnP (L : List (List UInt8)) (k : Nat) (s : St) : Prop := linesStep 0 L startSt = linesStep k (L.drop k) s ∧ StB s ∧ s.pts.length ≤ k ∧ s.labs.length ≤ k ∧ s.ob.atoms.length ≤ 256 ∧ s.ob.funs.length ≤ 256 ∧ s.ob.preds.length ≤ 64 ∧ s.ob.code.length ≤ 1024
theorem LnP.start (L : List (List UInt8)) : LnP L 0 startSt := ⟨rfl, StB.start, by simp [startSt], by simp [startSt], by simp [startSt, emptyOb], by simp [startSt, emptyOb], by simp [startSt, emptyOb], by simp [startSt, emptyOb]⟩
theorem LnP.err {L : List (List UInt8)} {k : Nat} {s : St} {c : Int} (h : LnP L k s) (hk : k < L.length) (he : lineStep (k : Int) L[k] s = .error c) : asmOf L = (emptyOb, c, (k : Int)) := by
  have e : linesStep 0 L startSt = .error (c, (k : Int)) := by
    rw [h.1, List.drop_eq_getElem_cons hk, linesStep, he]
  rw [asmOf, e]
theorem LnP.big {L : List (List UInt8)} {k : Nat} {s s' : St} (h : LnP L k s) (hk : k < L.length) (he : lineStep (k : Int) L[k] s = .ok s') (hb : bigO s'.ob = true) : asmOf L = (emptyOb, 2, (k : Int)) := by
  have e : linesStep 0 L startSt = .error (2, (k : Int)) := by
    rw [h.1, List.drop_eq_getElem_cons hk, linesStep, he]
    simp only
    rw [if_pos hb]
  rw [asmOf, e]
theorem LnP.ok {L : List (List UInt8)} {k : Nat} {s s' : St} (h : LnP L k s) (hk : k < L.length) (he : lineStep (k : Int) L[k] s = .ok s') (hb : bigO s'.ob = false) : LnP L (k + 1) s' := by
  obtain ⟨h1, h2, h3, h4, h5, h6, h7, h8⟩ := h
  obtain ⟨b1, b2, b3, _⟩ := line_bd he h2 (by omega)
  obtain ⟨g1, g2, g3, g4⟩ := big_bd hb
  refine ⟨?_, b1, by omega, by omega, g1, g2, g3, g4⟩
  rw [h1, List.drop_eq_getElem_cons hk, linesStep, he]
  simp only
  rw [if_neg (by rw [hb]; decide)]
theorem LnP.done {L : List (List UInt8)} {s : St} (h : LnP L L.length s) : asmOf L = match ptsStep s.labs s.pts s.ob with
    | .error (e, n) => (emptyOb, e, n)
    | .ok o => (o, 0, -1) := by
  have e : linesStep 0 L startSt = .ok s := by
    rw [h.1, List.drop_length, linesStep]
  rw [asmOf, e]
  rfl
/-- How far the loop over the points is. -/
def PtP (s : St) (k : Nat) (o : Ob) : Prop := ptsStep s.labs s.pts s.ob = ptsStep s.labs (s.pts.drop k) o ∧ o.code.length = s.ob.code.length ∧ o.preds = s.ob.preds ∧ (∀ i ∈ o.code, ∀ m, m < 4 → 0 ≤ (argOf i).getD m 0 ∧ (argOf i).getD m 0 ≤ 4000000)
theorem PtP.start {s : St} (h : StB s) : PtP s 0 s.ob := ⟨rfl, rfl, rfl, h.code⟩
theorem PtP.err {s : St} {k : Nat} {o : Ob} {c : Int × Int} (h : PtP s k o) (hk : k < s.pts.length) (he : ptStep s.labs o s.pts[k] = .error c) : ptsStep s.labs s.pts s.ob = .error c := by
  rw [h.1, List.drop_eq_getElem_cons hk, ptsStep, he]
theorem PtP.ok {s : St} {k : Nat} {o o' : Ob} (h : PtP s k o) (hb : StB s) (hl : s.ob.code.length ≤ 2000) (hk : k < s.pts.length) (he : ptStep s.labs o s.pts[k] = .ok o') : PtP s (k + 1) o' := by
  obtain ⟨b1, b2, _, _, b3⟩ := pt_bd hb.labs he (by rw [h.2.1]; exact hl) h.2.2.2
  refine ⟨?_, by rw [b1, h.2.1], by rw [b2, h.2.2.1], b3⟩
  rw [h.1, List.drop_eq_getElem_cons hk, ptsStep, he]
theorem PtP.done {s : St} {o : Ob} (h : PtP s s.pts.length o) : ptsStep s.labs s.pts s.ob = .ok o := by
  rw [h.1, List.drop_length, ptsStep]
theorem ptCell {w : World} {base : Nat} {A : Option Addr} {c : Nat} {l : List (Int × Int × Bool)} (h : w.ownsRow base 82 3 (.slice A l.length c) l.length (l.flatMap ptC)) (k : Nat) (hk : k < l.length) :
    ∃ b, A = some ⟨b, 0, none⟩ ∧ w.cell? ⟨b, k * 3, none⟩ = some (.int .i64 l[k].1) ∧ w.cell? ⟨b, k * 3 + 1, none⟩ = some (.int .i64 l[k].2.1) ∧ w.cell? ⟨b, k * 3 + 2, none⟩ = some (.bool l[k].2.2) := by
  obtain ⟨b, cp, hv⟩ := own_some h (by omega)
  injection hv with hA _ _
  subst hA
  have hf := flat_at ptC 3 (fun _ => rfl) l k l[k] (by simp [hk])
  have c0 := h.cells (g := b) rfl _ _ (hf 0 (by omega))
  have c1 := h.cells (g := b) rfl _ _ (hf 1 (by omega))
  have c2 := h.cells (g := b) rfl _ _ (hf 2 (by omega))
  rw [add_plain, Nat.zero_add] at c0 c1 c2
  exact ⟨b, rfl, c0, c1, c2⟩

end Go.Proofs.YtlmbiafloiompaaGreatDoor
