/-
  3 texts in one (AsmRH AsmRI AsmRJ). Conditions: those of each theorem.
-/
import Derived.Test.YtfgnapfodnhppaaGreatDoorJ35
import Derived.Test.YtfgnapfodnhppaaGreatDoorJ19
namespace Go.Proofs.YtfgnapfodnhppaaGreatDoor
open Go Go.RowKit Go.WideShapes Go.ChangeShapes
set_option linter.unusedVariables false
set_option linter.unusedSimpArgs false

set_option maxRecDepth 100000 in
set_option maxHeartbeats 16000000 in
theorem roperand_7 {base : Nat} {w : World} {g : Nat} {va vf vp vc vu vl : Value} {L : List Int} {o : Ob} (hk : Rt base w g va vf vp vc vu vl L o) (hb : base ≤ w.heap.size) (hl : o.preds.length ≤ 1000000) (op : Int) (x : ByteArray) (hx : x.size ≤ 10000) :
    Calls Tryz.prog 57 #[.pointer (some ⟨g, 0, none⟩), .int .i64 op, .int .i64 7, .string x] w (ROpW base w g va vf vp vc vu vl L o (opStep op 7 x.data.toList o)) := by
  have HE : Hid (opStep op 7 x.data.toList o = (funOf x.data.toList 0).map fun f => predStep o f) := Lib.hid (by rw [opStep, if_neg (by decide), if_neg (by decide), if_pos rfl])
  have HK := Lib.hid hk
  have HB := Lib.hid hb
  have HS := Lib.hid (fun w => rslash_any x (by omega) 0 (by decide) w)
  generalize opStep op 7 x.data.toList o = r at HE
  cases hf : funOf x.data.toList 0 with
  | none =>
    rw [hf] at HE HS
    have HX : Hid (r = none) := HE
    unfold slashRes at HS
    simp only at HS
    clear hk hb hf
    go_enter Tryz.func57, Tryz.ntmps57
    go_wp2_with (go_at_call 53; refine (HS.out _).mono ?_; rintro e w2 ⟨rfl, hb2⟩; have HB2 := Lib.hid hb2; clear hb2)
    go_ret2
    exact ropw_none HX.out HB2.out
  | some f =>
    obtain ⟨f, n⟩ := f
    have hbd := funOf_least hf
    simp only at hbd
    rw [hf] at HE HS
    have HX : Hid (r = some (predStep o (f, n))) := HE
    unfold slashRes at HS
    simp only at HS
    have e0 : ¬ n < 0 := by omega
    have HPR := Lib.hid (fun W (h : Rt base W g va vf vp vc vu vl L o) hbb => rpred9_any h hbb hl f n)
    clear hk hb hf HE
    unfold RPredW at HPR
    obtain ⟨pr, hpr⟩ : ∃ pr, predStep o (f, n) = pr := ⟨_, rfl⟩
    rw [hpr] at HPR HX
    obtain ⟨p1, p2⟩ := pr
    simp only at HPR
    clear hpr
    go_enter Tryz.func57, Tryz.ntmps57
    go_wp2_with (first
      | (go_at_call 53; refine (HS.out _).mono ?_; rintro e w2 ⟨rfl, hb2⟩; have HK2 := Lib.hid (HK.out.goes hb2); have HB2 := Lib.hid hb2; have HF2 := Lib.hid (RtF.below (g := g) (va := va) (vf := vf) (vp := vp) hb2 o); clear hb2)
      | (go_at_call 54; refine (HPR.out _ HK2.out (Nat.le_trans HB.out HB2.out.size)).mono ?_; rintro e w3 ⟨vp', rfl, hk3, hf3⟩; have HK3 := Lib.hid hk3; have HF3 := Lib.hid (HF2.out.trans hf3); clear hk3 hf3))
    go_ret2
    exact ropw_some HX.out HK3.out HF3.out

theorem num_nil : rnumOf [] = -1 := by decide

set_option maxRecDepth 100000 in
set_option maxHeartbeats 16000000 in
theorem roperand_8 {base : Nat} {w : World} {g : Nat} {va vf vp vc vu vl : Value} {L : List Int} {o : Ob} (hk : Rt base w g va vf vp vc vu vl L o) (op : Int) (x : ByteArray) (hx : x.size ≤ 10000) :
    Calls Tryz.prog 57 #[.pointer (some ⟨g, 0, none⟩), .int .i64 op, .int .i64 8, .string x] w (ROpW base w g va vf vp vc vu vl L o (opStep op 8 x.data.toList o)) := by
  have HE : Hid (opStep op 8 x.data.toList o = if x.data.toList = [45] then (if op = 26 then some (65535, o) else none) else (labelOf x.data.toList).map fun n => (n, o)) := Lib.hid (by rw [opStep, if_neg (by decide), if_neg (by decide), if_neg (by decide), if_pos rfl])
  have HK := Lib.hid hk
  have hlx : x.data.toList.length = x.size := by rw [Array.length_toList]; rfl
  generalize opStep op 8 x.data.toList o = r at HE
  clear hk
  by_cases hd : x.data.toList = [45]
  · obtain rfl : x = ⟨#[45]⟩ := by rw [← str_bs x, hd]; rfl
    by_cases h26 : op = 26
    · have HX : Hid (r = some (65535, o)) := Lib.hid (by rw [HE.out, if_pos hd, if_pos h26])
      subst h26
      clear hd hlx
      go_enter Tryz.func57, Tryz.ntmps57
      go_wp2
      go_ret2
      exact ropw_some HX.out HK.out (RtF.below (Below.refl _ _) o)
    · have HX : Hid (r = none) := Lib.hid (by rw [HE.out, if_pos hd, if_neg h26])
      have e1 : (op == 26) = false := by simpa using h26
      clear hd hlx h26
      go_enter Tryz.func57, Tryz.ntmps57
      go_wp2
      go_ret2
      exact ropw_none HX.out (Below.refl _ _)
  · have HY : Hid (r = (labelOf x.data.toList).map fun n => (n, o)) := Lib.hid (by rw [HE.out, if_neg hd])
    have hxn : ¬ x = ⟨#[45]⟩ := fun e => hd (by rw [e])
    have e45 : (x.toList == [45]) = false := by
      rw [beq_eq_false_iff_ne]
      intro e
      rw [ByteArray.toList_eq] at e
      exact hxn (ByteArray.ext (Array.ext' e))
    obtain ⟨b26, hb26⟩ : ∃ b, (op == 26) = b := ⟨_, rfl⟩
    clear HE hd hxn
    by_cases hlong : 1 < x.size
    · obtain ⟨c, d, hcd⟩ : ∃ c d, x.data.toList = c :: d := by
        cases h : x.data.toList with
        | nil => rw [h] at hlx; simp at hlx; omega
        | cons c d => exact ⟨c, d, rfl⟩
      have hx0 : x[0] = c := by
        have : x.data.toList[0]'(by omega) = c := by simp [hcd]
        exact this
      have hi1 : (1 : Int) < (x.size : Int) := by omega
      have h0s : 0 < x.size := by omega
      by_cases hc : c = 64
      · subst hc
        have HE1 : Hid (x.extract 1 x.size = bs d) := Lib.hid (by
          rw [ext_bs, hcd, List.take_of_length_le (by rw [hcd] at hlx; simp at hlx ⊢; omega)]
          rfl)
        have HNU := Lib.hid (fun w => rnum_any (bs d) w)
        rw [bs_data] at HNU
        have HY2 : Hid (r = (numUpto d 1023).map fun n => (n, o)) := Lib.hid (by rw [HY.out, hcd]; rfl)
        have hu : numUpto d 1023 = if 0 ≤ rnumOf d ∧ rnumOf d ≤ 1023 then some (rnumOf d) else none := rfl
        rw [hu] at HY2
        generalize rnumOf d = n at HNU HY2
        have e64 : ((x[0].toNat : Int) == 64) = true := by rw [hx0]; rfl
        clear hu hcd hx0 hlx
        by_cases hn0 : 0 ≤ n
        · by_cases hn1 : n ≤ 1023
          · have HX : Hid (r = some (n, o)) := Lib.hid (by rw [HY2.out, if_pos ⟨hn0, hn1⟩]; rfl)
            cases b26 with
            | true =>
              obtain rfl : op = 26 := by simpa using hb26
              clear hb26
              go_enter Tryz.func57, Tryz.ntmps57
              go_wp2_with (go_at_call 55; rw [HE1.out]; refine (HNU.out _).mono ?_; rintro e w2 ⟨rfl, hb2⟩; have HK2 := Lib.hid (HK.out.goes hb2); have HB2 := Lib.hid hb2; clear hb2)
              go_ret2
              exact ropw_some HX.out HK2.out (RtF.below HB2.out o)
            | false =>
              go_enter Tryz.func57, Tryz.ntmps57
              go_wp2_with (go_at_call 55; rw [HE1.out]; refine (HNU.out _).mono ?_; rintro e w2 ⟨rfl, hb2⟩; have HK2 := Lib.hid (HK.out.goes hb2); have HB2 := Lib.hid hb2; clear hb2)
              go_ret2
              exact ropw_some HX.out HK2.out (RtF.below HB2.out o)
          · have HX : Hid (r = none) := Lib.hid (by rw [HY2.out, if_neg (fun h => hn1 h.2)]; rfl)
            have e9 : decide (n ≤ 1023) = false := decide_eq_false hn1
            cases b26 with
            | true =>
              obtain rfl : op = 26 := by simpa using hb26
              clear hb26
              go_enter Tryz.func57, Tryz.ntmps57
              go_wp2_with (go_at_call 55; rw [HE1.out]; refine (HNU.out _).mono ?_; rintro e w2 ⟨rfl, hb2⟩; have HK2 := Lib.hid (HK.out.goes hb2); have HB2 := Lib.hid hb2; clear hb2)
              go_ret2
              exact ropw_none HX.out HB2.out
            | false =>
              go_enter Tryz.func57, Tryz.ntmps57
              go_wp2_with (go_at_call 55; rw [HE1.out]; refine (HNU.out _).mono ?_; rintro e w2 ⟨rfl, hb2⟩; have HK2 := Lib.hid (HK.out.goes hb2); have HB2 := Lib.hid hb2; clear hb2)
              go_ret2
              exact ropw_none HX.out HB2.out
        · have HX : Hid (r = none) := Lib.hid (by rw [HY2.out, if_neg (fun h => hn0 h.1)]; rfl)
          cases b26 with
          | true =>
            obtain rfl : op = 26 := by simpa using hb26
            clear hb26
            go_enter Tryz.func57, Tryz.ntmps57
            go_wp2_with (go_at_call 55; rw [HE1.out]; refine (HNU.out _).mono ?_; rintro e w2 ⟨rfl, hb2⟩; have HK2 := Lib.hid (HK.out.goes hb2); have HB2 := Lib.hid hb2; clear hb2)
            go_ret2
            exact ropw_none HX.out HB2.out
          | false =>
            go_enter Tryz.func57, Tryz.ntmps57
            go_wp2_with (go_at_call 55; rw [HE1.out]; refine (HNU.out _).mono ?_; rintro e w2 ⟨rfl, hb2⟩; have HK2 := Lib.hid (HK.out.goes hb2); have HB2 := Lib.hid hb2; clear hb2)
            go_ret2
            exact ropw_none HX.out HB2.out
      · have HX : Hid (r = none) := Lib.hid (by
          rw [HY.out, hcd]
          have : labelOf (c :: d) = none := by
            unfold labelOf
            split
            · rename_i d' he
              injection he with he _
              exact absurd he hc
            · rfl
          rw [this]
          rfl)
        have e64 : ((x[0].toNat : Int) == 64) = false := by
          rw [hx0, beq_eq_false_iff_ne]
          intro e
          have e64 : (64 : UInt8).toNat = 64 := rfl
          exact hc (UInt8.toNat_inj.1 (by omega))
        clear hcd hx0 hlx hc
        cases b26 with
        | true =>
          obtain rfl : op = 26 := by simpa using hb26
          clear hb26
          go_enter Tryz.func57, Tryz.ntmps57
          go_wp2
          go_ret2
          exact ropw_none HX.out (Below.refl _ _)
        | false =>
          go_enter Tryz.func57, Tryz.ntmps57
          go_wp2
          go_ret2
          exact ropw_none HX.out (Below.refl _ _)
    · have HX : Hid (r = none) := Lib.hid (by
        rw [HY.out]
        have : labelOf x.data.toList = none := by
          cases h : x.data.toList with
          | nil => rfl
          | cons c d =>
            have hd0 : d = [] := by
              rw [h] at hlx
              simp at hlx
              exact List.eq_nil_of_length_eq_zero (by omega)
            subst hd0
            unfold labelOf
            split
            · rename_i d' he
              injection he with _ he
              subst he
              unfold numUpto
              rw [num_nil, if_neg (by omega)]
            · rfl
        rw [this]
        rfl)
      have hi1 : ¬ (1 : Int) < (x.size : Int) := by omega
      clear hlx
      cases b26 with
      | true =>
        obtain rfl : op = 26 := by simpa using hb26
        clear hb26
        go_enter Tryz.func57, Tryz.ntmps57
        go_wp2
        go_ret2
        exact ropw_none HX.out (Below.refl _ _)
      | false =>
        go_enter Tryz.func57, Tryz.ntmps57
        go_wp2
        go_ret2
        exact ropw_none HX.out (Below.refl _ _)

set_option maxRecDepth 100000 in
set_option maxHeartbeats 16000000 in
theorem roperand_p {base : Nat} {w : World} {g : Nat} {va vf vp vc vu vl : Value} {L : List Int} {o : Ob} (hk : Rt base w g va vf vp vc vu vl L o) (op kind : Int) (hkd : kind = 1 ∨ kind = 2 ∨ kind = 5 ∨ kind = 6 ∨ kind = 9) (x : ByteArray) (hx : x.size ≤ 10000) (hnb : noBlank x.data.toList) :
    Calls Tryz.prog 57 #[.pointer (some ⟨g, 0, none⟩), .int .i64 op, .int .i64 kind, .string x] w (ROpW base w g va vf vp vc vu vl L o (opStep op kind x.data.toList o)) := by
  have HE : Hid (opStep op kind x.data.toList o = (opdOf kind x.data.toList).map fun n => (n, o)) := Lib.hid (by rw [opStep, if_neg (by omega), if_neg (by omega), if_neg (by omega), if_neg (by omega)])
  have HK := Lib.hid hk
  have HP := Lib.hid (fun w => rplain_any op kind hkd x hx hnb w)
  unfold OpdW at HP
  generalize opStep op kind x.data.toList o = r at HE
  generalize opdOf kind x.data.toList = q at HE HP
  have e3 : (kind == 3) = false := by rw [beq_eq_false_iff_ne]; omega
  have e4 : (kind == 4) = false := by rw [beq_eq_false_iff_ne]; omega
  have e7 : (kind == 7) = false := by rw [beq_eq_false_iff_ne]; omega
  have e8 : (kind == 8) = false := by rw [beq_eq_false_iff_ne]; omega
  clear hk hkd hnb
  cases q with
  | none =>
    have HX : Hid (r = none) := HE
    simp only at HP
    go_enter Tryz.func57, Tryz.ntmps57
    go_wp2_with (go_at_call 88; refine (HP.out _).mono ?_; rintro e w2 ⟨⟨n, rfl⟩, hb2⟩; have HB2 := Lib.hid hb2; clear hb2)
    go_ret2
    exact ropw_none HX.out HB2.out
  | some n =>
    have HX : Hid (r = some (n, o)) := HE
    simp only at HP
    go_enter Tryz.func57, Tryz.ntmps57
    go_wp2_with (go_at_call 88; refine (HP.out _).mono ?_; rintro e w2 ⟨rfl, hb2⟩; have HK2 := Lib.hid (HK.out.goes hb2); have HB2 := Lib.hid hb2; clear hb2)
    go_ret2
    exact ropw_some HX.out HK2.out (RtF.below HB2.out o)

/-- What a word says as an operand of any kind. -/
theorem roperand9_any {base : Nat} {w : World} {g : Nat} {va vf vp vc vu vl : Value} {L : List Int} {o : Ob} (hk : Rt base w g va vf vp vc vu vl L o) (hb : base ≤ w.heap.size) (hl : o.atoms.length ≤ 1000000 ∧ o.funs.length ≤ 1000000 ∧ o.preds.length ≤ 1000000) (op kind : Int) (h1 : 1 ≤ kind) (h9 : kind ≤ 9) (x : ByteArray) (hx : x.size ≤ 10000) (hnb : noBlank x.data.toList) :
    Calls Tryz.prog 57 #[.pointer (some ⟨g, 0, none⟩), .int .i64 op, .int .i64 kind, .string x] w (ROpW base w g va vf vp vc vu vl L o (opStep op kind x.data.toList o)) := by
  have hkd : kind = 3 ∨ kind = 4 ∨ kind = 7 ∨ kind = 8 ∨ (kind = 1 ∨ kind = 2 ∨ kind = 5 ∨ kind = 6 ∨ kind = 9) := by omega
  rcases hkd with rfl | rfl | rfl | rfl | hkd
  · exact roperand_3 hk hb hl.1 op x hx
  · exact roperand_4 hk hb hl.2.1 op x hx
  · exact roperand_7 hk hb hl.2.2 op x hx
  · exact roperand_8 hk op x hx
  · exact roperand_p hk op kind hkd x hx hnb

end Go.Proofs.YtfgnapfodnhppaaGreatDoor

namespace Go.Proofs.YtfgnapfodnhppaaGreatDoor
open Go Go.RowKit Go.WideShapes Go.ChangeShapes
set_option linter.unusedVariables false
set_option linter.unusedSimpArgs false

/-- The object that comes to be; of each label its place and 1, or 0; which operands are labels (an instruction, an operand, a line); the pred lines (a number, a line). -/
structure Rs where
  ob : Ob
  labs : List Int
  used : List (Int × Int × Int)
  lines : List (Int × Int)
def startRs : Rs := ⟨emptyOb, List.replicate 1024 0, [], []⟩
def usC (p : Int × Int × Int) : List Value := [.int .i64 p.1, .int .i64 p.2.1, .int .i64 p.2.2]
def lnC (p : Int × Int) : List Value := [.int .i64 p.1, .int .i64 p.2]
def predB : List UInt8 := [112, 114, 101, 100]
/-- The labels among an instruction's operands, from the k-th on. -/
def usedOf (c n : Int) : Nat → List Int → List Int → List (Int × Int × Int)
  | _, [], _ => []
  | k, kd :: ks, xs => (if kd = 8 ∧ xs.headD 0 ≠ 65535 then [(c, (k : Int), n)] else []) ++ usedOf c n (k + 1) ks xs.tail
def rPredLine (n : Int) (w : List UInt8) (s : Rs) : Except Int Rs :=
  match funOf w 0 with
  | none => .error 17
  | some f => if (predStep s.ob f).1 ∈ s.lines.map (·.1) then .error 11
    else .ok { s with ob := { (predStep s.ob f).2 with preds := (predStep s.ob f).2.preds.set (predStep s.ob f).1.toNat (f.1, f.2, (s.ob.code.length : Int)) }, lines := s.lines ++ [((predStep s.ob f).1, n)] }
def rLabelLine (d : List UInt8) (s : Rs) : Except Int Rs :=
  if ¬ (0 ≤ rnumOf d ∧ rnumOf d ≤ 1023) then .error 17
  else if s.labs.getD (rnumOf d).toNat 0 ≠ 0 then .error 11
  else .ok { s with labs := s.labs.set (rnumOf d).toNat ((s.ob.code.length : Int) + 1) }
def rInstrLine (n : Int) (ws : List (List UInt8)) (s : Rs) : Except Int Rs :=
  if namedOf (bs (ws.getD 0 [])) < 0 ∨ ws.length ≠ (opsOf (namedOf (bs (ws.getD 0 [])))).length + 1 then .error 17
  else match opsStep (namedOf (bs (ws.getD 0 []))) (opsOf (namedOf (bs (ws.getD 0 [])))) ws.tail s.ob with
    | none => .error 17
    | some (x, o') => .ok { s with ob := { o' with code := o'.code ++ [insOf (namedOf (bs (ws.getD 0 []))) x] }, used := s.used ++ usedOf (s.ob.code.length : Int) n 0 (opsOf (namedOf (bs (ws.getD 0 [])))) x }
/-- A line, as the document reads it. -/
def rLine (n : Int) (l : List UInt8) (s : Rs) : Except Int Rs :=
  if (splitW l).length = 2 ∧ (splitW l).getD 0 [] = predB then rPredLine n ((splitW l).getD 1 []) s
  else if (splitW l).length = 1 ∧ 1 < l.length ∧ l.headD 0 = 64 then rLabelLine l.tail s
  else rInstrLine n (splitW l) s

/-- The record in memory, with what is used and the pred lines. -/
structure Rm (base : Nat) (w : World) (g : Nat) (va vf vp vc vu vl : Value) (s : Rs) : Prop where
  t : Rt base w g va vf vp vc vu vl s.labs s.ob
  ru : w.ownsRow base 68 3 vu s.used.length (s.used.flatMap usC)
  rl : w.ownsRow base 72 2 vl s.lines.length (s.lines.flatMap lnC)
theorem Rm.goes {base : Nat} {w w' : World} {g : Nat} {va vf vp vc vu vl : Value} {s : Rs} (h : Rm base w g va vf vp vc vu vl s) (hb : Below w.heap.size w w') : Rm base w' g va vf vp vc vu vl s :=
  ⟨h.t.goes hb, own_fr h.ru (Fr.of_below (S := fun _ => False) hb) (fun _ _ x => x), own_fr h.rl (Fr.of_below (S := fun _ => False) hb) (fun _ _ x => x)⟩
/-- Behind a call that goes on with the tables. -/
theorem Rm.after {base : Nat} {w w' : World} {g : Nat} {va vf vp vc vu vl va' vf' vp' : Value} {s : Rs} {o' : Ob} (h : Rm base w g va vf vp vc vu vl s) (ht : Rt base w' g va' vf' vp' vc vu vl s.labs o') (hf : RtF w w' g va vf vp va' vf' vp' s.ob o') : Rm base w' g va' vf' vp' vc vu vl { s with ob := o' } :=
  ⟨ht, own_fr h.ru hf.fr (fun k hk e => by
    rcases e with e | e | e | e
    · exact own_ne_box h.ru h.t.box (by decide) k hk e
    · exact own_ne_own h.ru h.t.ra (by decide) k hk e
    · exact own_ne_own h.ru h.t.rf (by decide) k hk e
    · exact own_ne_own h.ru h.t.rp (by decide) k hk e), own_fr h.rl hf.fr (fun k hk e => by
    rcases e with e | e | e | e
    · exact own_ne_box h.rl h.t.box (by decide) k hk e
    · exact own_ne_own h.rl h.t.ra (by decide) k hk e
    · exact own_ne_own h.rl h.t.rf (by decide) k hk e
    · exact own_ne_own h.rl h.t.rp (by decide) k hk e)⟩
theorem Rm.setlab {base : Nat} {w : World} {g : Nat} {va vf vp vc vu vl : Value} {s : Rs} (h : Rm base w g va vf vp vc vu vl s) (k : Nat) (n : Int) (hk : k < s.labs.length) : Rm base (w.setCell ⟨g, 4 + k, none⟩ (.int .i64 n)) g va vf vp vc vu vl { s with labs := s.labs.set k n } := by
  have hb := h.t.box.set_ (4 + k) (.int .i64 n)
  rw [rcs_setlab k n hk] at hb
  exact ⟨⟨hb, by simp [h.t.len], own_set_far h.t.ra (p := ⟨g, 4 + k, none⟩) (fun j hj => own_ne_box h.t.ra h.t.box (by decide) j hj) _, own_set_far h.t.rf (p := ⟨g, 4 + k, none⟩) (fun j hj => own_ne_box h.t.rf h.t.box (by decide) j hj) _, own_set_far h.t.rp (p := ⟨g, 4 + k, none⟩) (fun j hj => own_ne_box h.t.rp h.t.box (by decide) j hj) _, own_set_far h.t.rc (p := ⟨g, 4 + k, none⟩) (fun j hj => own_ne_box h.t.rc h.t.box (by decide) j hj) _, h.t.ge⟩,
    own_set_far h.ru (p := ⟨g, 4 + k, none⟩) (fun j hj => own_ne_box h.ru h.t.box (by decide) j hj) _, own_set_far h.rl (p := ⟨g, 4 + k, none⟩) (fun j hj => own_ne_box h.rl h.t.box (by decide) j hj) _⟩
theorem RtF.under {base : Nat} {w w' : World} {g : Nat} {va vf vp vc vu vl va' vf' vp' : Value} {L : List Int} {o o2 : Ob} (h : Rt base w g va vf vp vc vu vl L o) (hf : RtF w w' g va vf vp va' vf' vp' o o2) (hb : base ≤ w.heap.size) : Below base w w' :=
  hf.fr.below hb (fun k hk => by
    rcases hk with rfl | hk | hk | hk
    · exact h.ge
    · exact (own_ge h.ra hk).1
    · exact (own_ge h.rf hk).1
    · exact (own_ge h.rp hk).1)
/-- What a line comes to. -/
def RLineW (base : Nat) (w : World) (g : Nat) (r : Except Int Rs) (e : Ending) (w' : World) : Prop :=
  match r with
  | .error c => e = .returned (.int .i64 c) ∧ Below base w w'
  | .ok s => ∃ va vf vp vc vu vl, e = .returned (.int .i64 0) ∧ Rm base w' g va vf vp vc vu vl s ∧ Below base w w'
theorem rlineW_err {base : Nat} {w w' : World} {g : Nat} {r : Except Int Rs} {c : Int} (h : r = .error c) (hb : Below base w w') : RLineW base w g r (.returned (.int .i64 c)) w' := by
  subst h
  exact ⟨rfl, hb⟩
theorem rlineW_ok {base : Nat} {w w' : World} {g : Nat} {va vf vp vc vu vl : Value} {r : Except Int Rs} {s : Rs} (h : r = .ok s) (hm : Rm base w' g va vf vp vc vu vl s) (hb : Below base w w') : RLineW base w g r (.returned (.int .i64 0)) w' := by
  subst h
  exact ⟨_, _, _, _, _, _, rfl, hm, hb⟩

end Go.Proofs.YtfgnapfodnhppaaGreatDoor

namespace Go.Proofs.YtfgnapfodnhppaaGreatDoor
open Go Go.RowKit Go.WideShapes Go.ChangeShapes
set_option linter.unusedVariables false
set_option linter.unusedSimpArgs false

set_option maxRecDepth 100000 in
set_option maxHeartbeats 16000000 in
theorem rline_label {base : Nat} {w : World} {g : Nat} {va vf vp vc vu vl : Value} {s : Rs} (hk : Rm base w g va vf vp vc vu vl s) (hb : base ≤ w.heap.size) (hl : s.ob.code.length ≤ 1000000) (n : Int) (d : List UInt8) (hd : noBlank d) (hd0 : d ≠ []) (hx : d.length ≤ 9000) (x : ByteArray) (hxd : x.data.toList = 64 :: d) :
    Calls Tryz.prog 21 #[.pointer (some ⟨g, 0, none⟩), .string x, .int .i64 n] w (RLineW base w g (rLabelLine d s)) := by
  have hsp : splitW (64 :: d) = [64 :: d] := splitW_miss (fun c hc => by
    rcases List.mem_cons.1 hc with rfl | hc
    · decide
    · exact hd c hc)
  have hlx : x.data.toList.length = x.size := by rw [Array.length_toList]; rfl
  have hsz : x.size = d.length + 1 := by rw [← hlx, hxd]; rfl
  have HW := Lib.hid (fun w => rwords_any x (by omega) w)
  unfold WordsRes at HW
  rw [hxd, hsp] at HW
  have HK := Lib.hid hk
  have HB := Lib.hid hb
  have hlen : 0 < d.length := List.length_pos_iff.2 hd0
  have i0 : 0 < x.size := by omega
  have hx0 : x[0] = 64 := by
    have : x.data.toList[0]'(by omega) = 64 := by simp [hxd]
    exact this
  have HE1 : Hid (x.extract 1 x.size = bs d) := Lib.hid (by
    rw [ext_bs, hxd, hsz]
    simp)
  have HNU := Lib.hid (fun w => rnum_any (bs d) w)
  rw [bs_data] at HNU
  have HR : Hid (rLabelLine d s = if ¬ (0 ≤ rnumOf d ∧ rnumOf d ≤ 1023) then .error 17
    else if s.labs.getD (rnumOf d).toNat 0 ≠ 0 then .error 11
    else .ok { s with labs := s.labs.set (rnumOf d).toNat ((s.ob.code.length : Int) + 1) }) := Lib.hid rfl
  generalize rLabelLine d s = r at HR
  generalize rnumOf d = q at HR HNU
  have e64 : ((x[0].toNat : Int) == 64) = true := by rw [hx0]; rfl
  have i1 : (1 : Int) < (x.size : Int) := by omega
  clear hxd hlx hsz hx0
  clear hk hb hsp hd hd0
  by_cases hq : 0 ≤ q ∧ q ≤ 1023
  case neg =>
    have HX : Hid (r = .error 17) := Lib.hid (by rw [HR.out, if_pos hq])
    go_enter Tryz.func21, Tryz.ntmps21
    go_wp2_with (first
      | (go_at_call 52; refine (HW.out _).mono ?_; rintro e w2 ⟨vw, rfl, hown, hb2⟩; have HK2 := Lib.hid (HK.out.goes hb2); have HB2 := Lib.hid hb2; obtain ⟨Aw, cw, hvw, _⟩ := own_form hown; subst hvw; clear hown hb2)
      | (go_at_call 55; rw [HE1.out]; refine (HNU.out _).mono ?_; rintro e w3 ⟨rfl, hb3⟩; have HB3 := Lib.hid (HB2.out.trans (hb3.mono HB2.out.size)); clear hb3))
    all_goals
      go_ret
      exact rlineW_err HX.out (HB3.out.mono HB.out)
  case pos =>
  obtain ⟨k, rfl⟩ := Int.eq_ofNat_of_zero_le hq.1
  have hk4 : k < s.labs.length := by rw [HK.out.t.len]; omega
  have HR2 : Hid (r = if s.labs.getD k 0 ≠ 0 then .error 11 else .ok { s with labs := s.labs.set k ((s.ob.code.length : Int) + 1) }) := Lib.hid (by rw [HR.out, if_neg (by omega), Int.toNat_natCast])
  have q0 : ¬ (k : Int) < 0 := by omega
  have q1 : ¬ (1023 : Int) < (k : Int) := by omega
  have q2 : (k : Int) < 1024 := by omega
  have q3 : k < 1024 := by omega
  have HLC := Lib.hid (fun W (h : Rm base W g va vf vp vc vu vl s) => (h.t.box.cell (4 + k)).trans (rcs_lab k hk4))
  obtain ⟨A4, c4, hvc, _⟩ := own_form HK.out.t.rc
  subst hvc
  generalize hv : s.labs.getD k 0 = lv at HR2 HLC
  by_cases h0 : lv = 0
  case neg =>
    have HX : Hid (r = .error 11) := Lib.hid (by rw [HR2.out, if_pos h0])
    have e0 : (lv != 0) = true := by rw [bne_iff_ne]; exact h0
    clear hv
    go_enter Tryz.func21, Tryz.ntmps21
    go_wp2_with (first
      | (go_at_call 52; refine (HW.out _).mono ?_; rintro e w2 ⟨vw, rfl, hown, hb2⟩; have HK2 := Lib.hid (HK.out.goes hb2); have HB2 := Lib.hid hb2; obtain ⟨Aw, cw, hvw, _⟩ := own_form hown; subst hvw; clear hown hb2)
      | (go_at_call 55; rw [HE1.out]; refine (HNU.out _).mono ?_; rintro e w3 ⟨rfl, hb3⟩; have HB3 := Lib.hid (HB2.out.trans (hb3.mono HB2.out.size)); have HK3 := Lib.hid (HK2.out.goes hb3); have d0 := HLC.out _ HK3.out; clear hb3))
    go_ret
    exact rlineW_err HX.out (HB3.out.mono HB.out)
  case pos =>
  subst h0
  have HX : Hid (r = .ok { s with labs := s.labs.set k ((s.ob.code.length : Int) + 1) }) := Lib.hid (by rw [HR2.out, if_neg (by simp)])
  clear hv
  go_enter Tryz.func21, Tryz.ntmps21
  go_upto_region 21 with (first
    | (go_at_call 52; refine (HW.out _).mono ?_; rintro e w2 ⟨vw, rfl, hown, hb2⟩; have HK2 := Lib.hid (HK.out.goes hb2); have HB2 := Lib.hid hb2; obtain ⟨Aw, cw, hvw, _⟩ := own_form hown; subst hvw; clear hown hb2)
    | (go_at_call 55; rw [HE1.out]; refine (HNU.out _).mono ?_; rintro e w3 ⟨rfl, hb3⟩; have HB3 := Lib.hid (HB2.out.trans (hb3.mono HB2.out.size)); have HK3 := Lib.hid (HK2.out.goes hb3); have d0 := HLC.out _ HK3.out; clear hb3))
  have d3 := HK3.out.t.cells.2.2.2
  have z0 := HK3.out.t.box.frozen (4 + k)
  have hwr : IntKind.i64.wrap ((s.ob.code.length : Int) + 1) = (s.ob.code.length : Int) + 1 := IntWalk.i64_in _ (by omega)
  have HLS : Hid (∀ m, Rm base ((w3.drewN m).setCell ⟨g, 4 + k, none⟩ (.int .i64 ((s.ob.code.length : Int) + 1))) g va vf vp (.slice A4 s.ob.code.length c4) vu vl { s with labs := s.labs.set k ((s.ob.code.length : Int) + 1) }) := Lib.hid (fun m => (HK3.out.goes (show Below w3.heap.size w3 (w3.drewN m) from ⟨rfl, rfl, rfl, Nat.le_refl _, fun _ _ => rfl⟩)).setlab k _ hk4)
  go_region
  all_goals
    go_wp2
    go_ret
    exact rlineW_ok HX.out (HLS.out _) ((bel_drewN (HB3.out.mono HB.out) _).setCell (p := ⟨g, 4 + k, none⟩) HK3.out.t.ge _)

end Go.Proofs.YtfgnapfodnhppaaGreatDoor
