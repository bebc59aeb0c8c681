/-
  One that may be, out of any (resolventref03.Fix), with parts; the contract for whatever depth up to 4.
-/
import Derived.Test.YtkfmagbaklikmaaDoorFixB
namespace Go.Proofs.YtkfmagbaklikmaaDoor
open Go Go.RowKit
set_option linter.unusedVariables false
set_option linter.unusedSimpArgs false

theorem fix_parts (kk nn : Int) (s : ByteArray) (l : List Tm) (d : Nat) (left K : Int) (hK : fixKind kk (d + 1) left = K) (h2 : 2 ≤ K) :
    fixT (d + 1) (.node kk nn s l) left = (.node K 0 (fixName K nn) (fixL d (fixWant K nn) l (left - 1)).1, (fixL d (fixWant K nn) l (left - 1)).2) := by
  rw [fixT]
  simp only [hK]
  rw [if_neg (by omega)]

theorem fixL_step {d W j : Nat} {l ts : List Tm} {lf : Int} {R : List Tm × Int} (h : j < W) (hM : R = (ts ++ (fixL d (W - j) (l.drop j) lf).1, (fixL d (W - j) (l.drop j) lf).2)) {t : Tm} {lx : Int} (ht : fixT d ((l.drop j).headD zeroT) lf = (t, lx)) :
    R = ((ts ++ [t]) ++ (fixL d (W - (j + 1)) (l.drop (j + 1)) lx).1, (fixL d (W - (j + 1)) (l.drop (j + 1)) lx).2) := by
  obtain ⟨q, hq⟩ : ∃ q, W - j = q + 1 := ⟨W - j - 1, by omega⟩
  have hq2 : W - (j + 1) = q := by omega
  rw [hq, fixL] at hM
  simp only [ht, List.tail_drop] at hM
  rw [hq2, hM]
  simp

set_option maxHeartbeats 4000000 in
set_option maxRecDepth 100000 in
theorem fix_three (d : Nat) (ih : FixC d) (kk nn : Int) (s : ByteArray) (l : List Tm) (v : Value) (w : World) (S : Nat → Prop) (f : Nat) (left : Int) (hr : Reads w S f (.node kk nn s l) v) (hS : ∀ b, S b → b < w.heap.size) (hl0 : 4 ≤ left) (hl1 : left ≤ 1000000) (hkv : modU kk 4 = 3) (hd4 : d + 1 ≤ 4) :
    Calls Tryd.prog 22 #[v, .int .i64 ((d + 1 : Nat) : Int), .int .i64 left] w fun e w' => FixOk w (d + 1) (.node kk nn s l) left e w' := by
  obtain ⟨f, rfl⟩ : ∃ f', f = f' + 1 := by
    cases f with
    | zero => exact hr.elim
    | succ f' => exact ⟨f', rfl⟩
  obtain ⟨A, c, rfl, h1, h2, h3, h4, h5, h6⟩ := hr
  have IH := Lib.hid ih
  have H6 := Lib.hid h6
  have HS := Lib.hid hS
  unfold maxLen at h2
  have hfk : fixKind kk (d + 1) left = 3 := by
    unfold fixKind
    rw [hkv, if_neg (by omega)]
  have HEQ : Hid (fixT (d + 1) (.node kk nn s l) left = (.node 3 0 ⟨#[]⟩ (fixL d 2 l (left - 1)).1, (fixL d 2 l (left - 1)).2)) := Lib.hid (by rw [fix_parts kk nn s l d left 3 hfk (by decide), fixName_none _ _ (by decide) (by decide)]; rfl)
  have HFS := Lib.hid (fk_start w (d + 1) #[.int .i64 kk, .int .i64 nn, .string s, .slice A l.length c] 3 0 ⟨#[]⟩)
  clear ih h6 hS h3 h4 h5 hfk
  unfold modU at hkv
  obtain ⟨i0, hi, hz0, hz1, hz2⟩ := info_parts infoR
  have HI := Lib.hid hi
  have HZ0 := Lib.hid hz0
  have HZ1 := Lib.hid hz1
  have HZ2 := Lib.hid hz2
  clear hi hz0 hz1 hz2
  have hkw : IntKind.i64.wrap 3 = 3 := IntWalk.i64_in _ (by omega)
  obtain ⟨D, hD⟩ : ∃ D : Int, ((d + 1 : Nat) : Int) = D := ⟨_, rfl⟩
  have hD0 : 0 < D := by omega
  have hD4 : D ≤ 4 := by omega
  have HD := Lib.hid hD
  rw [hD]
  clear hD
  go_enter Tryd.func22, Tryd.ntmps22
  go_upto_region 19 with (fail)
  obtain ⟨W0, hW0⟩ : ∃ W0, ((((w.alloc (.cells #[.int .i64 kk, .int .i64 nn, .string s, .slice A l.length c] 24)).alloc (.cells #[.int .i64 0, .int .i64 0, .string ⟨#[]⟩, .slice none 0 0] 24)).alloc (.cells #[.string ⟨#[97]⟩, .string ⟨#[98]⟩, .string ⟨#[99]⟩, .string ⟨#[102]⟩, .string ⟨#[103]⟩] 9)).alloc (.cells #[.int .i64 3, .int .i64 0, .string ⟨#[]⟩, .slice none 0 0] 24)) = W0 := ⟨_, rfl⟩
  obtain ⟨g3, hg3⟩ : ∃ g3, w.heap.size + 1 + 1 + 1 = g3 := ⟨_, rfl⟩
  obtain ⟨g2, hg2⟩ : ∃ g2, w.heap.size + 1 = g2 := ⟨_, rfl⟩
  obtain ⟨g1, hg1⟩ : ∃ g1, w.heap.size = g1 := ⟨_, rfl⟩
  have K1 : Hid (Fk w W0 (d + 1) #[.int .i64 kk, .int .i64 nn, .string s, .slice A l.length c] 3 0 ⟨#[]⟩ g1 g2 g3 [] (.slice none 0 0) []) := by
    rw [← hW0, ← hg1, ← hg2, ← hg3]
    exact HFS.out
  rw [hW0, hg3, hg2, hg1]
  clear hW0 hg3 hg2 hg1 HFS
  go_wp2_with (fail)
  go_loopw [2, 12] (fun a i wr => ∃ (j : Nat) (ts : List Tm) (vs : Value) (xs : List Value) (lf : Int), a = .int .i64 lf ∧ i = .int .i64 ((j : Nat) : Int) ∧ j ≤ 2 ∧ ts.length = j ∧ lf ≤ 1000000 ∧ 3 - 64 * (j : Int) ≤ lf ∧
      Hid (fixL d 2 l (left - 1) = (ts ++ (fixL d (2 - j) (l.drop j) lf).1, (fixL d (2 - j) (l.drop j) lf).2)) ∧ Hid (Fk w wr (d + 1) #[.int .i64 kk, .int .i64 nn, .string s, .slice A l.length c] 3 0 ⟨#[]⟩ g1 g2 g3 ts vs xs)) (fun _ i _ => 2 - (intOf i).toNat)
  case atStart => exact ⟨0, [], _, _, left - 1, rfl, rfl, by omega, rfl, by omega, by omega, Lib.hid (by simp), K1⟩
  case round =>
    obtain ⟨j, ts, vs, xs, lf, rfl, rfl, hj, htl, hlf1, hlf0, HM, KR⟩ := hrel
    clear K1
    have hts : ts.length ≤ 2 := by omega
    have HTL := Lib.hid htl
    clear htl
    have k1 : wr.cell? ⟨g1, 3, none⟩ = some (.slice A l.length c) := KR.out.b1.cell 3
    have k3 : wr.cell? ⟨g3, 3, none⟩ = some vs := KR.out.b3.cell 3
    by_cases hlt : j < 2
    · obtain ⟨A3, cp3, hv3, _⟩ := own_form KR.out.row
      subst hv3
      have j0 : (0 : Int) ≤ (j : Int) := by omega
      have j1 : (j : Int) < 2 := by omega
      have l1 := KR.out.b1.lt
      have l3 := KR.out.b3.lt
      have hw0 : Below w.heap.size w (wr.alloc (.cells #[.int .i64 0, .int .i64 0, .string ⟨#[]⟩, .slice none 0 0] 24)) := KR.out.below.alloc KR.out.below.size _
      have hin : ∃ (T : Tm) (K4 N4 : Int) (S4 : ByteArray) (A4 : Option Addr) (m4 c4 : Nat), T = (l.drop j).headD zeroT ∧ Hid (Calls Tryd.prog 22 #[.agg #[(.int .i64 K4), (.int .i64 N4), (.string S4), (.slice A4 m4 c4)], .int .i64 (D - 1), .int .i64 lf] (wr.alloc (.cells #[(.int .i64 K4), (.int .i64 N4), (.string S4), (.slice A4 m4 c4)] 24)) fun e w' => FixOk (wr.alloc (.cells #[(.int .i64 K4), (.int .i64 N4), (.string S4), (.slice A4 m4 c4)] 24)) d T lf e w') ∧
          ((∃ b off, j < l.length ∧ A = some ⟨b, off, none⟩ ∧ (wr.alloc (.cells #[.int .i64 0, .int .i64 0, .string ⟨#[]⟩, .slice none 0 0] 24)).cell? ⟨b, off + j * 4, none⟩ = some (.int .i64 K4) ∧ (wr.alloc (.cells #[.int .i64 0, .int .i64 0, .string ⟨#[]⟩, .slice none 0 0] 24)).cell? ⟨b, off + j * 4 + 1, none⟩ = some (.int .i64 N4) ∧ (wr.alloc (.cells #[.int .i64 0, .int .i64 0, .string ⟨#[]⟩, .slice none 0 0] 24)).cell? ⟨b, off + j * 4 + 2, none⟩ = some (.string S4) ∧ (wr.alloc (.cells #[.int .i64 0, .int .i64 0, .string ⟨#[]⟩, .slice none 0 0] 24)).cell? ⟨b, off + j * 4 + 3, none⟩ = some (.slice A4 m4 c4)) ∨
            (¬ j < l.length ∧ K4 = 0 ∧ N4 = 0 ∧ S4 = ⟨#[]⟩ ∧ A4 = none ∧ m4 = 0 ∧ c4 = 0)) := by
        have hd : D - 1 = ((d : Nat) : Int) := by
          have := HD.out
          omega
        by_cases hjl : j < l.length
        · obtain ⟨b, off, v0, v1, v2, v3, hA, hb, c0, c1, c2, c3, hr⟩ := H6.out j hjl
          obtain ⟨K4, N4, S4, A4, m4, c4, hv⟩ := hr.form
          injection hv with hv
          injection hv with hv
          simp only [List.cons.injEq, and_true] at hv
          obtain ⟨rfl, rfl, rfl, rfl⟩ := hv
          have hbw : b < w.heap.size := HS.out b hb
          refine ⟨l[j], K4, N4, S4, A4, m4, c4, by simp [List.headD_eq_head?_getD, hjl], ?_, .inl ⟨b, off, hjl, hA, (hw0.cell (p := ⟨b, off + j * 4, none⟩) hbw).trans c0, (hw0.cell (p := ⟨b, off + j * 4 + 1, none⟩) hbw).trans c1, (hw0.cell (p := ⟨b, off + j * 4 + 2, none⟩) hbw).trans c2, (hw0.cell (p := ⟨b, off + j * 4 + 3, none⟩) hbw).trans c3⟩⟩
          rw [hd]
          have hbl : Below w.heap.size w (wr.alloc (.cells #[(.int .i64 K4), (.int .i64 N4), (.string S4), (.slice A4 m4 c4)] 24)) := KR.out.below.alloc KR.out.below.size _
          exact Lib.hid (IH.out l[j] _ _ S f lf (hr.below hbl HS.out) (fun b hb => by have := HS.out b hb; have := hbl.size; omega) (by omega) hlf1)
        · refine ⟨zeroT, 0, 0, ⟨#[]⟩, none, 0, 0, ?_, ?_, .inr ⟨hjl, rfl, rfl, rfl, rfl, rfl, rfl⟩⟩
          · rw [List.drop_eq_nil_of_le (by omega)]
            rfl
          · rw [hd]
            refine Lib.hid (IH.out zeroT _ _ (fun _ => False) 1 lf ?_ (fun b hb => hb.elim) (by omega) hlf1)
            unfold zeroT
            refine ⟨none, 0, rfl, by decide, by decide, by decide, by decide, by decide, fun i h => absurd h (by simp)⟩
      obtain ⟨T, K4, N4, S4, A4, m4, c4, hT, HR, hin⟩ := hin
      have HT := Lib.hid hT
      clear hT hw0
      have hmid : ∀ (w5 : World), Below (wr.heap.size + 1) (wr.alloc (.cells #[(.int .i64 K4), (.int .i64 N4), (.string S4), (.slice A4 m4 c4)] 24)) w5 → w5.cell? ⟨g3, 3, none⟩ = some (.slice A3 ts.length cp3) ∧ wr.heap.size + 1 ≤ w5.heap.size ∧ Below wr.heap.size wr w5 := by
        intro w5 hb5
        have := hb5.size
        have q : Below wr.heap.size wr (wr.alloc (.cells #[(.int .i64 K4), (.int .i64 N4), (.string S4), (.slice A4 m4 c4)] 24)) := (Below.refl _ wr).alloc (Nat.le_refl _) _
        have q2 : Below wr.heap.size wr w5 := q.trans (hb5.mono (by omega))
        exact ⟨(q2.cell (p := ⟨g3, 3, none⟩) l3).trans k3, by simpa using this, q2⟩
      have HMID := Lib.hid hmid
      clear hmid
      rcases hin with ⟨b, off, hjl, rfl, q0, q1, q2, q3⟩ | ⟨hjl, rfl, rfl, rfl, rfl, rfl, rfl⟩
      · have j2 : (j : Int) < (l.length : Int) := by omega
        go_upto_region 25 with fail
        go_wp2_with (fail)
        refine HR.out.mono ?_
        rintro e w5 ⟨v5, rfl, hr5, hb5⟩
        obtain ⟨k5, n5, s5, A5, m5, c5, hv5⟩ := hr5.form
        rw [hv5] at hr5
        rw [hv5]
        clear hv5
        obtain ⟨⟨tx, lx⟩, hx⟩ : ∃ x, fixT d T lf = x := ⟨_, rfl⟩
        have hfa := fix_all d T lf
        rw [hx] at hr5 hfa ⊢
        have hlx1 : lx ≤ 1000000 := by
          have := hfa.2.2.2
          simp only at this
          omega
        have hlx0 : 3 - 64 * ((j : Int) + 1) ≤ lx := by
          have q1 := hfa.2.2.2
          have q2 := hfa.2.2.1
          simp only at q1 q2
          have q3 : 4 ^ d ≤ 64 := by
            have : 4 ^ d ≤ 4 ^ 3 := Nat.pow_le_pow_right (by decide) (by omega)
            omega
          omega
        have HX := Lib.hid hx
        obtain ⟨m5a, m5b, hb6⟩ := HMID.out w5 (by simpa using hb5)
        have hr6 : Reads w5 (fun b => wr.heap.size ≤ b ∧ b < w5.heap.size) (d + 1) tx (.agg #[.int .i64 k5, .int .i64 n5, .string s5, .slice A5 m5 c5]) := hr5.more (fun b hb => ⟨by have := hb.1; simp at this; omega, hb.2⟩)
        have HR6 := Lib.hid hr6
        have HB6 := Lib.hid hb6
        have e3 : ∀ o, (w5.alloc o).cell? ⟨g3, 3, none⟩ = some (.slice A3 ts.length cp3) := fun o => (cell_alloc_lt w5 o (by show g3 < _; omega)).trans m5a
        have e4 : ∀ o o', ((w5.alloc o).alloc o').cell? ⟨g3, 3, none⟩ = some (.slice A3 ts.length cp3) := fun o o' => (cell_alloc_lt _ o' (by show g3 < _; simp; omega)).trans (e3 o)
        clear hx hfa hr5 hb5 hr6 hb6 HR
        go_upto_region 26 with fail
        go_wp2_with (at_builtin; refine wpList_own_at _ rfl (.tmp 105) (.tmp 107) 22 rfl w.heap.size 24 i0 _ 4 56 Tryd.underlying22 HI.out HZ0.out HZ1.out HZ2.out rfl (by decide) (.slice A3 ts.length cp3) ts.length xs rfl (own_fr (S := fun _ => False) (w := wr) KR.out.row (((Fr.of_below (S := fun _ => False) (w := wr) HB6.out).alloc _).alloc _) (fun _ _ x => x)) ⟨w5.heap.size + 1, 0, none⟩ 1 1 [.int .i64 k5, .int .i64 n5, .string s5, .slice A5 m5 c5] rfl rfl (by intro jj u hu; have e4 := cells_four (w5.alloc (.cells #[.int .i64 k5, .int .i64 n5, .string s5, .slice A5 m5 c5] 24)) _ _ _ _ 24 jj u hu; simpa using e4) (by intro u hu; simp only [List.mem_cons, List.not_mem_nil, or_false] at hu; rcases hu with rfl | rfl | rfl | rfl <;> rfl) (by unfold maxLen; omega) (by omega) (by have := KR.out.below.size; simp; omega) ?_; intro v6 w6 hown6 hgr6 hloc6; obtain ⟨hK6, z3, zf⟩ := KR.out.step HB6.out HR6.out hown6 hgr6 hloc6; have HK6 := Lib.hid hK6; obtain ⟨A6, cp6, hv6, _⟩ := own_form hown6; rw [hv6] at HK6 ⊢; clear hK6 hv6 hown6 hgr6 hloc6)
        go_roundw
        case rel => exact ⟨j + 1, _, _, _, lx, rfl, by go_num, by omega, by have := HTL.out; simp; omega, hlx1, by omega, Lib.hid (fixL_step hlt HM.out (HT.out ▸ HX.out)), HK6⟩
        case measure => simp [intOf]; omega
      · have j2 : (l.length : Int) ≤ (j : Int) := by omega
        go_upto_region 25 with fail
        go_wp2_with (fail)
        refine HR.out.mono ?_
        rintro e w5 ⟨v5, rfl, hr5, hb5⟩
        obtain ⟨k5, n5, s5, A5, m5, c5, hv5⟩ := hr5.form
        rw [hv5] at hr5
        rw [hv5]
        clear hv5
        obtain ⟨⟨tx, lx⟩, hx⟩ : ∃ x, fixT d T lf = x := ⟨_, rfl⟩
        have hfa := fix_all d T lf
        rw [hx] at hr5 hfa ⊢
        have hlx1 : lx ≤ 1000000 := by
          have := hfa.2.2.2
          simp only at this
          omega
        have hlx0 : 3 - 64 * ((j : Int) + 1) ≤ lx := by
          have q1 := hfa.2.2.2
          have q2 := hfa.2.2.1
          simp only at q1 q2
          have q3 : 4 ^ d ≤ 64 := by
            have : 4 ^ d ≤ 4 ^ 3 := Nat.pow_le_pow_right (by decide) (by omega)
            omega
          omega
        have HX := Lib.hid hx
        obtain ⟨m5a, m5b, hb6⟩ := HMID.out w5 (by simpa using hb5)
        have hr6 : Reads w5 (fun b => wr.heap.size ≤ b ∧ b < w5.heap.size) (d + 1) tx (.agg #[.int .i64 k5, .int .i64 n5, .string s5, .slice A5 m5 c5]) := hr5.more (fun b hb => ⟨by have := hb.1; simp at this; omega, hb.2⟩)
        have HR6 := Lib.hid hr6
        have HB6 := Lib.hid hb6
        have e3 : ∀ o, (w5.alloc o).cell? ⟨g3, 3, none⟩ = some (.slice A3 ts.length cp3) := fun o => (cell_alloc_lt w5 o (by show g3 < _; omega)).trans m5a
        have e4 : ∀ o o', ((w5.alloc o).alloc o').cell? ⟨g3, 3, none⟩ = some (.slice A3 ts.length cp3) := fun o o' => (cell_alloc_lt _ o' (by show g3 < _; simp; omega)).trans (e3 o)
        clear hx hfa hr5 hb5 hr6 hb6 HR
        go_upto_region 26 with fail
        go_wp2_with (at_builtin; refine wpList_own_at _ rfl (.tmp 105) (.tmp 107) 22 rfl w.heap.size 24 i0 _ 4 56 Tryd.underlying22 HI.out HZ0.out HZ1.out HZ2.out rfl (by decide) (.slice A3 ts.length cp3) ts.length xs rfl (own_fr (S := fun _ => False) (w := wr) KR.out.row (((Fr.of_below (S := fun _ => False) (w := wr) HB6.out).alloc _).alloc _) (fun _ _ x => x)) ⟨w5.heap.size + 1, 0, none⟩ 1 1 [.int .i64 k5, .int .i64 n5, .string s5, .slice A5 m5 c5] rfl rfl (by intro jj u hu; have e4 := cells_four (w5.alloc (.cells #[.int .i64 k5, .int .i64 n5, .string s5, .slice A5 m5 c5] 24)) _ _ _ _ 24 jj u hu; simpa using e4) (by intro u hu; simp only [List.mem_cons, List.not_mem_nil, or_false] at hu; rcases hu with rfl | rfl | rfl | rfl <;> rfl) (by unfold maxLen; omega) (by omega) (by have := KR.out.below.size; simp; omega) ?_; intro v6 w6 hown6 hgr6 hloc6; obtain ⟨hK6, z3, zf⟩ := KR.out.step HB6.out HR6.out hown6 hgr6 hloc6; have HK6 := Lib.hid hK6; obtain ⟨A6, cp6, hv6, _⟩ := own_form hown6; rw [hv6] at HK6 ⊢; clear hK6 hv6 hown6 hgr6 hloc6)
        go_roundw
        case rel => exact ⟨j + 1, _, _, _, lx, rfl, by go_num, by omega, by have := HTL.out; simp; omega, hlx1, by omega, Lib.hid (fixL_step hlt HM.out (HT.out ▸ HX.out)), HK6⟩
        case measure => simp [intOf]; omega
    · have hj2 : j = 2 := by omega
      subst hj2
      have hv3 := own_form KR.out.row
      obtain ⟨A3, cp3, hv3, _⟩ := hv3
      subst hv3
      have m0 : wr.cell? ⟨g3, 0, none⟩ = some (.int .i64 3) := KR.out.b3.cell 0
      have m1 : wr.cell? ⟨g3, 1, none⟩ = some (.int .i64 0) := KR.out.b3.cell 1
      have m2 : wr.cell? ⟨g3, 2, none⟩ = some (.string ⟨#[]⟩) := KR.out.b3.cell 2
      have r0 : wr.cell? ⟨g2, 0, none⟩ = some (.int .i64 0) := KR.out.b2.cell 0
      have r1 : wr.cell? ⟨g2, 1, none⟩ = some (.int .i64 0) := KR.out.b2.cell 1
      have r2 : wr.cell? ⟨g2, 2, none⟩ = some (.string ⟨#[]⟩) := KR.out.b2.cell 2
      have r3 : wr.cell? ⟨g2, 3, none⟩ = some (.slice none 0 0) := KR.out.b2.cell 3
      have z0 : wr.frozen? ⟨g2, 0, none⟩ = false := KR.out.b2.frozen 0
      have z1 : wr.frozen? ⟨g2, 1, none⟩ = false := KR.out.b2.frozen 1
      have z2 : wr.frozen? ⟨g2, 2, none⟩ = false := KR.out.b2.frozen 2
      have z3 : wr.frozen? ⟨g2, 3, none⟩ = false := KR.out.b2.frozen 3
      go_wp2_with (fail)
      refine ret_store4 (x := .int .i64 lf) KR.out.b2 (by intro W c0 c1 c2 c3; simp [results, Tryd.results22, go_sem, c0, c1, c2, c3]) ?_
      intro W hW hF
      obtain ⟨e1, e2⟩ := fk_end KR.out (by decide) (by decide) (by decide) hF
      have hm : fixL d 2 l (left - 1) = (ts, lf) := by
        rw [HM.out, Nat.sub_self, fixL]
        simp
      unfold FixOk
      rw [HEQ.out, hm]
      exact ⟨_, rfl, e1, e2⟩
set_option maxHeartbeats 4000000 in
set_option maxRecDepth 100000 in
theorem fix_two (d : Nat) (ih : FixC d) (kk nn : Int) (s : ByteArray) (l : List Tm) (v : Value) (w : World) (S : Nat → Prop) (f : Nat) (left : Int) (hr : Reads w S f (.node kk nn s l) v) (hS : ∀ b, S b → b < w.heap.size) (hl0 : 4 ≤ left) (hl1 : left ≤ 1000000) (hkv : modU kk 4 = 2) (hd4 : d + 1 ≤ 4) :
    Calls Tryd.prog 22 #[v, .int .i64 ((d + 1 : Nat) : Int), .int .i64 left] w fun e w' => FixOk w (d + 1) (.node kk nn s l) left e w' := by
  obtain ⟨f, rfl⟩ : ∃ f', f = f' + 1 := by
    cases f with
    | zero => exact hr.elim
    | succ f' => exact ⟨f', rfl⟩
  obtain ⟨A, c, rfl, h1, h2, h3, h4, h5, h6⟩ := hr
  have IH := Lib.hid ih
  have H6 := Lib.hid h6
  have HS := Lib.hid hS
  unfold maxLen at h2
  have hfk : fixKind kk (d + 1) left = 2 := by
    unfold fixKind
    rw [hkv, if_neg (by omega)]
  have hn2 := modU_range nn 2 (by decide)
  obtain ⟨n2, hn2e⟩ : ∃ n2, modU nn 2 = n2 := ⟨_, rfl⟩
  have HN2 := Lib.hid hn2e
  rw [hn2e] at hn2
  obtain ⟨WN, hWN⟩ : ∃ WN, fixWant 2 nn = WN := ⟨_, rfl⟩
  obtain ⟨q, hq⟩ : ∃ q, (divU nn 2).tmod 3 = q := ⟨_, rfl⟩
  have hq3 : 0 ≤ q ∧ q ≤ 2 := by
    rw [← hq, Int.tmod_eq_emod_of_nonneg (divU_range nn 2 (by decide))]
    omega
  have hWQ : (WN : Int) = 1 + q := by
    rw [← hWN]
    unfold fixWant
    rw [if_neg (by decide), if_pos rfl, hq]
    omega
  have hFP := fix_parts kk nn s l d left 2 hfk (by decide)
  rw [hWN] at hFP
  have HFP := Lib.hid hFP
  clear hWN hFP
  unfold modU at hn2e
  unfold divU at hq
  have hn2w : IntKind.i64.wrap n2 = n2 := IntWalk.i64_in _ (by omega)
  have hqw : wrap64 q = q := by unfold wrap64; omega
  have hqw1 : wrap64 (1 + q) = 1 + q := by unfold wrap64; omega
  have hqu : IntKind.u64.wrap ((IntKind.u64.wrap nn).tdiv 2) = (IntKind.u64.wrap nn).tdiv 2 := by
    have h0 := wrapU nn
    have h1 : (IntKind.u64.wrap nn).tdiv 2 = (IntKind.u64.wrap nn) / 2 := Int.tdiv_eq_ediv_of_nonneg h0.1
    rw [h1]
    show (IntKind.u64.wrap nn / 2) % 18446744073709551616 = _
    omega
  clear ih h6 hS h3 h4 h5 hfk
  unfold modU at hkv
  obtain ⟨i0, hi, hz0, hz1, hz2⟩ := info_parts infoR
  have HI := Lib.hid hi
  have HZ0 := Lib.hid hz0
  have HZ1 := Lib.hid hz1
  have HZ2 := Lib.hid hz2
  clear hi hz0 hz1 hz2
  have hkw : IntKind.i64.wrap 2 = 2 := IntWalk.i64_in _ (by omega)
  obtain ⟨D, hD⟩ : ∃ D : Int, ((d + 1 : Nat) : Int) = D := ⟨_, rfl⟩
  have hD0 : 0 < D := by omega
  have hD4 : D ≤ 4 := by omega
  have HD := Lib.hid hD
  rw [hD]
  clear hD
  rcases (show n2 = 0 ∨ n2 = 1 by omega) with rfl | rfl
  · have HEQ : Hid (fixT (d + 1) (.node kk nn s l) left = (.node 2 0 ⟨#[102]⟩ (fixL d WN l (left - 1)).1, (fixL d WN l (left - 1)).2)) := Lib.hid (by rw [HFP.out]; simp [fixName, HN2.out])
    have HFS := Lib.hid (fk_start w (d + 1) #[.int .i64 kk, .int .i64 nn, .string s, .slice A l.length c] 2 0 ⟨#[102]⟩)
    go_enter Tryd.func22, Tryd.ntmps22
    go_upto_region 19 with (fail)
    obtain ⟨W0, hW0⟩ : ∃ W0, ((((w.alloc (.cells #[.int .i64 kk, .int .i64 nn, .string s, .slice A l.length c] 24)).alloc (.cells #[.int .i64 0, .int .i64 0, .string ⟨#[]⟩, .slice none 0 0] 24)).alloc (.cells #[.string ⟨#[97]⟩, .string ⟨#[98]⟩, .string ⟨#[99]⟩, .string ⟨#[102]⟩, .string ⟨#[103]⟩] 9)).alloc (.cells #[.int .i64 2, .int .i64 0, .string ⟨#[102]⟩, .slice none 0 0] 24)) = W0 := ⟨_, rfl⟩
    obtain ⟨g3, hg3⟩ : ∃ g3, w.heap.size + 1 + 1 + 1 = g3 := ⟨_, rfl⟩
    obtain ⟨g2, hg2⟩ : ∃ g2, w.heap.size + 1 = g2 := ⟨_, rfl⟩
    obtain ⟨g1, hg1⟩ : ∃ g1, w.heap.size = g1 := ⟨_, rfl⟩
    have K1 : Hid (Fk w W0 (d + 1) #[.int .i64 kk, .int .i64 nn, .string s, .slice A l.length c] 2 0 ⟨#[102]⟩ g1 g2 g3 [] (.slice none 0 0) []) := by
      rw [← hW0, ← hg1, ← hg2, ← hg3]
      exact HFS.out
    rw [hW0, hg3, hg2, hg1]
    clear hW0 hg3 hg2 hg1 HFS
    go_wp2_with (fail)
    go_loopw [2, 12] (fun a i wr => ∃ (j : Nat) (ts : List Tm) (vs : Value) (xs : List Value) (lf : Int), a = .int .i64 lf ∧ i = .int .i64 ((j : Nat) : Int) ∧ j ≤ WN ∧ ts.length = j ∧ lf ≤ 1000000 ∧ 3 - 64 * (j : Int) ≤ lf ∧
        Hid (fixL d WN l (left - 1) = (ts ++ (fixL d (WN - j) (l.drop j) lf).1, (fixL d (WN - j) (l.drop j) lf).2)) ∧ Hid (Fk w wr (d + 1) #[.int .i64 kk, .int .i64 nn, .string s, .slice A l.length c] 2 0 ⟨#[102]⟩ g1 g2 g3 ts vs xs)) (fun _ i _ => WN - (intOf i).toNat)
    case atStart => exact ⟨0, [], _, _, left - 1, rfl, rfl, by omega, rfl, by omega, by omega, Lib.hid (by simp), K1⟩
    case round =>
      obtain ⟨j, ts, vs, xs, lf, rfl, rfl, hj, htl, hlf1, hlf0, HM, KR⟩ := hrel
      clear K1
      have hts : ts.length ≤ 3 := by omega
      have HTL := Lib.hid htl
      clear htl
      have k1 : wr.cell? ⟨g1, 3, none⟩ = some (.slice A l.length c) := KR.out.b1.cell 3
      have k3 : wr.cell? ⟨g3, 3, none⟩ = some vs := KR.out.b3.cell 3
      by_cases hlt : j < WN
      · obtain ⟨A3, cp3, hv3, _⟩ := own_form KR.out.row
        subst hv3
        have j0 : (0 : Int) ≤ (j : Int) := by omega
        have j1 : (j : Int) < 1 + q := by omega
        have l1 := KR.out.b1.lt
        have l3 := KR.out.b3.lt
        have hw0 : Below w.heap.size w (wr.alloc (.cells #[.int .i64 0, .int .i64 0, .string ⟨#[]⟩, .slice none 0 0] 24)) := KR.out.below.alloc KR.out.below.size _
        have hin : ∃ (T : Tm) (K4 N4 : Int) (S4 : ByteArray) (A4 : Option Addr) (m4 c4 : Nat), T = (l.drop j).headD zeroT ∧ Hid (Calls Tryd.prog 22 #[.agg #[(.int .i64 K4), (.int .i64 N4), (.string S4), (.slice A4 m4 c4)], .int .i64 (D - 1), .int .i64 lf] (wr.alloc (.cells #[(.int .i64 K4), (.int .i64 N4), (.string S4), (.slice A4 m4 c4)] 24)) fun e w' => FixOk (wr.alloc (.cells #[(.int .i64 K4), (.int .i64 N4), (.string S4), (.slice A4 m4 c4)] 24)) d T lf e w') ∧
            ((∃ b off, j < l.length ∧ A = some ⟨b, off, none⟩ ∧ (wr.alloc (.cells #[.int .i64 0, .int .i64 0, .string ⟨#[]⟩, .slice none 0 0] 24)).cell? ⟨b, off + j * 4, none⟩ = some (.int .i64 K4) ∧ (wr.alloc (.cells #[.int .i64 0, .int .i64 0, .string ⟨#[]⟩, .slice none 0 0] 24)).cell? ⟨b, off + j * 4 + 1, none⟩ = some (.int .i64 N4) ∧ (wr.alloc (.cells #[.int .i64 0, .int .i64 0, .string ⟨#[]⟩, .slice none 0 0] 24)).cell? ⟨b, off + j * 4 + 2, none⟩ = some (.string S4) ∧ (wr.alloc (.cells #[.int .i64 0, .int .i64 0, .string ⟨#[]⟩, .slice none 0 0] 24)).cell? ⟨b, off + j * 4 + 3, none⟩ = some (.slice A4 m4 c4)) ∨
              (¬ j < l.length ∧ K4 = 0 ∧ N4 = 0 ∧ S4 = ⟨#[]⟩ ∧ A4 = none ∧ m4 = 0 ∧ c4 = 0)) := by
          have hd : D - 1 = ((d : Nat) : Int) := by
            have := HD.out
            omega
          by_cases hjl : j < l.length
          · obtain ⟨b, off, v0, v1, v2, v3, hA, hb, c0, c1, c2, c3, hr⟩ := H6.out j hjl
            obtain ⟨K4, N4, S4, A4, m4, c4, hv⟩ := hr.form
            injection hv with hv
            injection hv with hv
            simp only [List.cons.injEq, and_true] at hv
            obtain ⟨rfl, rfl, rfl, rfl⟩ := hv
            have hbw : b < w.heap.size := HS.out b hb
            refine ⟨l[j], K4, N4, S4, A4, m4, c4, by simp [List.headD_eq_head?_getD, hjl], ?_, .inl ⟨b, off, hjl, hA, (hw0.cell (p := ⟨b, off + j * 4, none⟩) hbw).trans c0, (hw0.cell (p := ⟨b, off + j * 4 + 1, none⟩) hbw).trans c1, (hw0.cell (p := ⟨b, off + j * 4 + 2, none⟩) hbw).trans c2, (hw0.cell (p := ⟨b, off + j * 4 + 3, none⟩) hbw).trans c3⟩⟩
            rw [hd]
            have hbl : Below w.heap.size w (wr.alloc (.cells #[(.int .i64 K4), (.int .i64 N4), (.string S4), (.slice A4 m4 c4)] 24)) := KR.out.below.alloc KR.out.below.size _
            exact Lib.hid (IH.out l[j] _ _ S f lf (hr.below hbl HS.out) (fun b hb => by have := HS.out b hb; have := hbl.size; omega) (by omega) hlf1)
          · refine ⟨zeroT, 0, 0, ⟨#[]⟩, none, 0, 0, ?_, ?_, .inr ⟨hjl, rfl, rfl, rfl, rfl, rfl, rfl⟩⟩
            · rw [List.drop_eq_nil_of_le (by omega)]
              rfl
            · rw [hd]
              refine Lib.hid (IH.out zeroT _ _ (fun _ => False) 1 lf ?_ (fun b hb => hb.elim) (by omega) hlf1)
              unfold zeroT
              refine ⟨none, 0, rfl, by decide, by decide, by decide, by decide, by decide, fun i h => absurd h (by simp)⟩
        obtain ⟨T, K4, N4, S4, A4, m4, c4, hT, HR, hin⟩ := hin
        have HT := Lib.hid hT
        clear hT hw0
        have hmid : ∀ (w5 : World), Below (wr.heap.size + 1) (wr.alloc (.cells #[(.int .i64 K4), (.int .i64 N4), (.string S4), (.slice A4 m4 c4)] 24)) w5 → w5.cell? ⟨g3, 3, none⟩ = some (.slice A3 ts.length cp3) ∧ wr.heap.size + 1 ≤ w5.heap.size ∧ Below wr.heap.size wr w5 := by
          intro w5 hb5
          have := hb5.size
          have q : Below wr.heap.size wr (wr.alloc (.cells #[(.int .i64 K4), (.int .i64 N4), (.string S4), (.slice A4 m4 c4)] 24)) := (Below.refl _ wr).alloc (Nat.le_refl _) _
          have q2 : Below wr.heap.size wr w5 := q.trans (hb5.mono (by omega))
          exact ⟨(q2.cell (p := ⟨g3, 3, none⟩) l3).trans k3, by simpa using this, q2⟩
        have HMID := Lib.hid hmid
        clear hmid
        rcases hin with ⟨b, off, hjl, rfl, q0, q1, q2, q3⟩ | ⟨hjl, rfl, rfl, rfl, rfl, rfl, rfl⟩
        · have j2 : (j : Int) < (l.length : Int) := by omega
          go_upto_region 25 with fail
          go_wp2_with (fail)
          refine HR.out.mono ?_
          rintro e w5 ⟨v5, rfl, hr5, hb5⟩
          obtain ⟨k5, n5, s5, A5, m5, c5, hv5⟩ := hr5.form
          rw [hv5] at hr5
          rw [hv5]
          clear hv5
          obtain ⟨⟨tx, lx⟩, hx⟩ : ∃ x, fixT d T lf = x := ⟨_, rfl⟩
          have hfa := fix_all d T lf
          rw [hx] at hr5 hfa ⊢
          have hlx1 : lx ≤ 1000000 := by
            have := hfa.2.2.2
            simp only at this
            omega
          have hlx0 : 3 - 64 * ((j : Int) + 1) ≤ lx := by
            have q1 := hfa.2.2.2
            have q2 := hfa.2.2.1
            simp only at q1 q2
            have q3 : 4 ^ d ≤ 64 := by
              have : 4 ^ d ≤ 4 ^ 3 := Nat.pow_le_pow_right (by decide) (by omega)
              omega
            omega
          have HX := Lib.hid hx
          obtain ⟨m5a, m5b, hb6⟩ := HMID.out w5 (by simpa using hb5)
          have hr6 : Reads w5 (fun b => wr.heap.size ≤ b ∧ b < w5.heap.size) (d + 1) tx (.agg #[.int .i64 k5, .int .i64 n5, .string s5, .slice A5 m5 c5]) := hr5.more (fun b hb => ⟨by have := hb.1; simp at this; omega, hb.2⟩)
          have HR6 := Lib.hid hr6
          have HB6 := Lib.hid hb6
          have e3 : ∀ o, (w5.alloc o).cell? ⟨g3, 3, none⟩ = some (.slice A3 ts.length cp3) := fun o => (cell_alloc_lt w5 o (by show g3 < _; omega)).trans m5a
          have e4 : ∀ o o', ((w5.alloc o).alloc o').cell? ⟨g3, 3, none⟩ = some (.slice A3 ts.length cp3) := fun o o' => (cell_alloc_lt _ o' (by show g3 < _; simp; omega)).trans (e3 o)
          clear hx hfa hr5 hb5 hr6 hb6 HR
          go_upto_region 26 with fail
          go_wp2_with (at_builtin; refine wpList_own_at _ rfl (.tmp 105) (.tmp 107) 22 rfl w.heap.size 24 i0 _ 4 56 Tryd.underlying22 HI.out HZ0.out HZ1.out HZ2.out rfl (by decide) (.slice A3 ts.length cp3) ts.length xs rfl (own_fr (S := fun _ => False) (w := wr) KR.out.row (((Fr.of_below (S := fun _ => False) (w := wr) HB6.out).alloc _).alloc _) (fun _ _ x => x)) ⟨w5.heap.size + 1, 0, none⟩ 1 1 [.int .i64 k5, .int .i64 n5, .string s5, .slice A5 m5 c5] rfl rfl (by intro jj u hu; have e4 := cells_four (w5.alloc (.cells #[.int .i64 k5, .int .i64 n5, .string s5, .slice A5 m5 c5] 24)) _ _ _ _ 24 jj u hu; simpa using e4) (by intro u hu; simp only [List.mem_cons, List.not_mem_nil, or_false] at hu; rcases hu with rfl | rfl | rfl | rfl <;> rfl) (by unfold maxLen; omega) (by omega) (by have := KR.out.below.size; simp; omega) ?_; intro v6 w6 hown6 hgr6 hloc6; obtain ⟨hK6, z3, zf⟩ := KR.out.step HB6.out HR6.out hown6 hgr6 hloc6; have HK6 := Lib.hid hK6; obtain ⟨A6, cp6, hv6, _⟩ := own_form hown6; rw [hv6] at HK6 ⊢; clear hK6 hv6 hown6 hgr6 hloc6)
          go_roundw
          case rel => exact ⟨j + 1, _, _, _, lx, rfl, by go_num, by omega, by have := HTL.out; simp; omega, hlx1, by omega, Lib.hid (fixL_step hlt HM.out (HT.out ▸ HX.out)), HK6⟩
          case measure => simp [intOf]; omega
        · have j2 : (l.length : Int) ≤ (j : Int) := by omega
          go_upto_region 25 with fail
          go_wp2_with (fail)
          refine HR.out.mono ?_
          rintro e w5 ⟨v5, rfl, hr5, hb5⟩
          obtain ⟨k5, n5, s5, A5, m5, c5, hv5⟩ := hr5.form
          rw [hv5] at hr5
          rw [hv5]
          clear hv5
          obtain ⟨⟨tx, lx⟩, hx⟩ : ∃ x, fixT d T lf = x := ⟨_, rfl⟩
          have hfa := fix_all d T lf
          rw [hx] at hr5 hfa ⊢
          have hlx1 : lx ≤ 1000000 := by
            have := hfa.2.2.2
            simp only at this
            omega
          have hlx0 : 3 - 64 * ((j : Int) + 1) ≤ lx := by
            have q1 := hfa.2.2.2
            have q2 := hfa.2.2.1
            simp only at q1 q2
            have q3 : 4 ^ d ≤ 64 := by
              have : 4 ^ d ≤ 4 ^ 3 := Nat.pow_le_pow_right (by decide) (by omega)
              omega
            omega
          have HX := Lib.hid hx
          obtain ⟨m5a, m5b, hb6⟩ := HMID.out w5 (by simpa using hb5)
          have hr6 : Reads w5 (fun b => wr.heap.size ≤ b ∧ b < w5.heap.size) (d + 1) tx (.agg #[.int .i64 k5, .int .i64 n5, .string s5, .slice A5 m5 c5]) := hr5.more (fun b hb => ⟨by have := hb.1; simp at this; omega, hb.2⟩)
          have HR6 := Lib.hid hr6
          have HB6 := Lib.hid hb6
          have e3 : ∀ o, (w5.alloc o).cell? ⟨g3, 3, none⟩ = some (.slice A3 ts.length cp3) := fun o => (cell_alloc_lt w5 o (by show g3 < _; omega)).trans m5a
          have e4 : ∀ o o', ((w5.alloc o).alloc o').cell? ⟨g3, 3, none⟩ = some (.slice A3 ts.length cp3) := fun o o' => (cell_alloc_lt _ o' (by show g3 < _; simp; omega)).trans (e3 o)
          clear hx hfa hr5 hb5 hr6 hb6 HR
          go_upto_region 26 with fail
          go_wp2_with (at_builtin; refine wpList_own_at _ rfl (.tmp 105) (.tmp 107) 22 rfl w.heap.size 24 i0 _ 4 56 Tryd.underlying22 HI.out HZ0.out HZ1.out HZ2.out rfl (by decide) (.slice A3 ts.length cp3) ts.length xs rfl (own_fr (S := fun _ => False) (w := wr) KR.out.row (((Fr.of_below (S := fun _ => False) (w := wr) HB6.out).alloc _).alloc _) (fun _ _ x => x)) ⟨w5.heap.size + 1, 0, none⟩ 1 1 [.int .i64 k5, .int .i64 n5, .string s5, .slice A5 m5 c5] rfl rfl (by intro jj u hu; have e4 := cells_four (w5.alloc (.cells #[.int .i64 k5, .int .i64 n5, .string s5, .slice A5 m5 c5] 24)) _ _ _ _ 24 jj u hu; simpa using e4) (by intro u hu; simp only [List.mem_cons, List.not_mem_nil, or_false] at hu; rcases hu with rfl | rfl | rfl | rfl <;> rfl) (by unfold maxLen; omega) (by omega) (by have := KR.out.below.size; simp; omega) ?_; intro v6 w6 hown6 hgr6 hloc6; obtain ⟨hK6, z3, zf⟩ := KR.out.step HB6.out HR6.out hown6 hgr6 hloc6; have HK6 := Lib.hid hK6; obtain ⟨A6, cp6, hv6, _⟩ := own_form hown6; rw [hv6] at HK6 ⊢; clear hK6 hv6 hown6 hgr6 hloc6)
          go_roundw
          case rel => exact ⟨j + 1, _, _, _, lx, rfl, by go_num, by omega, by have := HTL.out; simp; omega, hlx1, by omega, Lib.hid (fixL_step hlt HM.out (HT.out ▸ HX.out)), HK6⟩
          case measure => simp [intOf]; omega
      · have hj2 : j = WN := by omega
        have hge : 1 + q ≤ (j : Int) := by omega
        subst hj2
        have hv3 := own_form KR.out.row
        obtain ⟨A3, cp3, hv3, _⟩ := hv3
        subst hv3
        have m0 : wr.cell? ⟨g3, 0, none⟩ = some (.int .i64 2) := KR.out.b3.cell 0
        have m1 : wr.cell? ⟨g3, 1, none⟩ = some (.int .i64 0) := KR.out.b3.cell 1
        have m2 : wr.cell? ⟨g3, 2, none⟩ = some (.string ⟨#[102]⟩) := KR.out.b3.cell 2
        have r0 : wr.cell? ⟨g2, 0, none⟩ = some (.int .i64 0) := KR.out.b2.cell 0
        have r1 : wr.cell? ⟨g2, 1, none⟩ = some (.int .i64 0) := KR.out.b2.cell 1
        have r2 : wr.cell? ⟨g2, 2, none⟩ = some (.string ⟨#[]⟩) := KR.out.b2.cell 2
        have r3 : wr.cell? ⟨g2, 3, none⟩ = some (.slice none 0 0) := KR.out.b2.cell 3
        have z0 : wr.frozen? ⟨g2, 0, none⟩ = false := KR.out.b2.frozen 0
        have z1 : wr.frozen? ⟨g2, 1, none⟩ = false := KR.out.b2.frozen 1
        have z2 : wr.frozen? ⟨g2, 2, none⟩ = false := KR.out.b2.frozen 2
        have z3 : wr.frozen? ⟨g2, 3, none⟩ = false := KR.out.b2.frozen 3
        go_wp2_with (fail)
        refine ret_store4 (x := .int .i64 lf) KR.out.b2 (by intro W c0 c1 c2 c3; simp [results, Tryd.results22, go_sem, c0, c1, c2, c3]) ?_
        intro W hW hF
        obtain ⟨e1, e2⟩ := fk_end KR.out (by decide) (by decide) (by decide) hF
        have hm : fixL d j l (left - 1) = (ts, lf) := by
          rw [HM.out, Nat.sub_self, fixL]
          simp
        unfold FixOk
        rw [HEQ.out, hm]
        exact ⟨_, rfl, e1, e2⟩
  · have HEQ : Hid (fixT (d + 1) (.node kk nn s l) left = (.node 2 0 ⟨#[103]⟩ (fixL d WN l (left - 1)).1, (fixL d WN l (left - 1)).2)) := Lib.hid (by rw [HFP.out]; simp [fixName, HN2.out])
    have HFS := Lib.hid (fk_start w (d + 1) #[.int .i64 kk, .int .i64 nn, .string s, .slice A l.length c] 2 0 ⟨#[103]⟩)
    go_enter Tryd.func22, Tryd.ntmps22
    go_upto_region 19 with (fail)
    obtain ⟨W0, hW0⟩ : ∃ W0, ((((w.alloc (.cells #[.int .i64 kk, .int .i64 nn, .string s, .slice A l.length c] 24)).alloc (.cells #[.int .i64 0, .int .i64 0, .string ⟨#[]⟩, .slice none 0 0] 24)).alloc (.cells #[.string ⟨#[97]⟩, .string ⟨#[98]⟩, .string ⟨#[99]⟩, .string ⟨#[102]⟩, .string ⟨#[103]⟩] 9)).alloc (.cells #[.int .i64 2, .int .i64 0, .string ⟨#[103]⟩, .slice none 0 0] 24)) = W0 := ⟨_, rfl⟩
    obtain ⟨g3, hg3⟩ : ∃ g3, w.heap.size + 1 + 1 + 1 = g3 := ⟨_, rfl⟩
    obtain ⟨g2, hg2⟩ : ∃ g2, w.heap.size + 1 = g2 := ⟨_, rfl⟩
    obtain ⟨g1, hg1⟩ : ∃ g1, w.heap.size = g1 := ⟨_, rfl⟩
    have K1 : Hid (Fk w W0 (d + 1) #[.int .i64 kk, .int .i64 nn, .string s, .slice A l.length c] 2 0 ⟨#[103]⟩ g1 g2 g3 [] (.slice none 0 0) []) := by
      rw [← hW0, ← hg1, ← hg2, ← hg3]
      exact HFS.out
    rw [hW0, hg3, hg2, hg1]
    clear hW0 hg3 hg2 hg1 HFS
    go_wp2_with (fail)
    go_loopw [2, 12] (fun a i wr => ∃ (j : Nat) (ts : List Tm) (vs : Value) (xs : List Value) (lf : Int), a = .int .i64 lf ∧ i = .int .i64 ((j : Nat) : Int) ∧ j ≤ WN ∧ ts.length = j ∧ lf ≤ 1000000 ∧ 3 - 64 * (j : Int) ≤ lf ∧
        Hid (fixL d WN l (left - 1) = (ts ++ (fixL d (WN - j) (l.drop j) lf).1, (fixL d (WN - j) (l.drop j) lf).2)) ∧ Hid (Fk w wr (d + 1) #[.int .i64 kk, .int .i64 nn, .string s, .slice A l.length c] 2 0 ⟨#[103]⟩ g1 g2 g3 ts vs xs)) (fun _ i _ => WN - (intOf i).toNat)
    case atStart => exact ⟨0, [], _, _, left - 1, rfl, rfl, by omega, rfl, by omega, by omega, Lib.hid (by simp), K1⟩
    case round =>
      obtain ⟨j, ts, vs, xs, lf, rfl, rfl, hj, htl, hlf1, hlf0, HM, KR⟩ := hrel
      clear K1
      have hts : ts.length ≤ 3 := by omega
      have HTL := Lib.hid htl
      clear htl
      have k1 : wr.cell? ⟨g1, 3, none⟩ = some (.slice A l.length c) := KR.out.b1.cell 3
      have k3 : wr.cell? ⟨g3, 3, none⟩ = some vs := KR.out.b3.cell 3
      by_cases hlt : j < WN
      · obtain ⟨A3, cp3, hv3, _⟩ := own_form KR.out.row
        subst hv3
        have j0 : (0 : Int) ≤ (j : Int) := by omega
        have j1 : (j : Int) < 1 + q := by omega
        have l1 := KR.out.b1.lt
        have l3 := KR.out.b3.lt
        have hw0 : Below w.heap.size w (wr.alloc (.cells #[.int .i64 0, .int .i64 0, .string ⟨#[]⟩, .slice none 0 0] 24)) := KR.out.below.alloc KR.out.below.size _
        have hin : ∃ (T : Tm) (K4 N4 : Int) (S4 : ByteArray) (A4 : Option Addr) (m4 c4 : Nat), T = (l.drop j).headD zeroT ∧ Hid (Calls Tryd.prog 22 #[.agg #[(.int .i64 K4), (.int .i64 N4), (.string S4), (.slice A4 m4 c4)], .int .i64 (D - 1), .int .i64 lf] (wr.alloc (.cells #[(.int .i64 K4), (.int .i64 N4), (.string S4), (.slice A4 m4 c4)] 24)) fun e w' => FixOk (wr.alloc (.cells #[(.int .i64 K4), (.int .i64 N4), (.string S4), (.slice A4 m4 c4)] 24)) d T lf e w') ∧
            ((∃ b off, j < l.length ∧ A = some ⟨b, off, none⟩ ∧ (wr.alloc (.cells #[.int .i64 0, .int .i64 0, .string ⟨#[]⟩, .slice none 0 0] 24)).cell? ⟨b, off + j * 4, none⟩ = some (.int .i64 K4) ∧ (wr.alloc (.cells #[.int .i64 0, .int .i64 0, .string ⟨#[]⟩, .slice none 0 0] 24)).cell? ⟨b, off + j * 4 + 1, none⟩ = some (.int .i64 N4) ∧ (wr.alloc (.cells #[.int .i64 0, .int .i64 0, .string ⟨#[]⟩, .slice none 0 0] 24)).cell? ⟨b, off + j * 4 + 2, none⟩ = some (.string S4) ∧ (wr.alloc (.cells #[.int .i64 0, .int .i64 0, .string ⟨#[]⟩, .slice none 0 0] 24)).cell? ⟨b, off + j * 4 + 3, none⟩ = some (.slice A4 m4 c4)) ∨
              (¬ j < l.length ∧ K4 = 0 ∧ N4 = 0 ∧ S4 = ⟨#[]⟩ ∧ A4 = none ∧ m4 = 0 ∧ c4 = 0)) := by
          have hd : D - 1 = ((d : Nat) : Int) := by
            have := HD.out
            omega
          by_cases hjl : j < l.length
          · obtain ⟨b, off, v0, v1, v2, v3, hA, hb, c0, c1, c2, c3, hr⟩ := H6.out j hjl
            obtain ⟨K4, N4, S4, A4, m4, c4, hv⟩ := hr.form
            injection hv with hv
            injection hv with hv
            simp only [List.cons.injEq, and_true] at hv
            obtain ⟨rfl, rfl, rfl, rfl⟩ := hv
            have hbw : b < w.heap.size := HS.out b hb
            refine ⟨l[j], K4, N4, S4, A4, m4, c4, by simp [List.headD_eq_head?_getD, hjl], ?_, .inl ⟨b, off, hjl, hA, (hw0.cell (p := ⟨b, off + j * 4, none⟩) hbw).trans c0, (hw0.cell (p := ⟨b, off + j * 4 + 1, none⟩) hbw).trans c1, (hw0.cell (p := ⟨b, off + j * 4 + 2, none⟩) hbw).trans c2, (hw0.cell (p := ⟨b, off + j * 4 + 3, none⟩) hbw).trans c3⟩⟩
            rw [hd]
            have hbl : Below w.heap.size w (wr.alloc (.cells #[(.int .i64 K4), (.int .i64 N4), (.string S4), (.slice A4 m4 c4)] 24)) := KR.out.below.alloc KR.out.below.size _
            exact Lib.hid (IH.out l[j] _ _ S f lf (hr.below hbl HS.out) (fun b hb => by have := HS.out b hb; have := hbl.size; omega) (by omega) hlf1)
          · refine ⟨zeroT, 0, 0, ⟨#[]⟩, none, 0, 0, ?_, ?_, .inr ⟨hjl, rfl, rfl, rfl, rfl, rfl, rfl⟩⟩
            · rw [List.drop_eq_nil_of_le (by omega)]
              rfl
            · rw [hd]
              refine Lib.hid (IH.out zeroT _ _ (fun _ => False) 1 lf ?_ (fun b hb => hb.elim) (by omega) hlf1)
              unfold zeroT
              refine ⟨none, 0, rfl, by decide, by decide, by decide, by decide, by decide, fun i h => absurd h (by simp)⟩
        obtain ⟨T, K4, N4, S4, A4, m4, c4, hT, HR, hin⟩ := hin
        have HT := Lib.hid hT
        clear hT hw0
        have hmid : ∀ (w5 : World), Below (wr.heap.size + 1) (wr.alloc (.cells #[(.int .i64 K4), (.int .i64 N4), (.string S4), (.slice A4 m4 c4)] 24)) w5 → w5.cell? ⟨g3, 3, none⟩ = some (.slice A3 ts.length cp3) ∧ wr.heap.size + 1 ≤ w5.heap.size ∧ Below wr.heap.size wr w5 := by
          intro w5 hb5
          have := hb5.size
          have q : Below wr.heap.size wr (wr.alloc (.cells #[(.int .i64 K4), (.int .i64 N4), (.string S4), (.slice A4 m4 c4)] 24)) := (Below.refl _ wr).alloc (Nat.le_refl _) _
          have q2 : Below wr.heap.size wr w5 := q.trans (hb5.mono (by omega))
          exact ⟨(q2.cell (p := ⟨g3, 3, none⟩) l3).trans k3, by simpa using this, q2⟩
        have HMID := Lib.hid hmid
        clear hmid
        rcases hin with ⟨b, off, hjl, rfl, q0, q1, q2, q3⟩ | ⟨hjl, rfl, rfl, rfl, rfl, rfl, rfl⟩
        · have j2 : (j : Int) < (l.length : Int) := by omega
          go_upto_region 25 with fail
          go_wp2_with (fail)
          refine HR.out.mono ?_
          rintro e w5 ⟨v5, rfl, hr5, hb5⟩
          obtain ⟨k5, n5, s5, A5, m5, c5, hv5⟩ := hr5.form
          rw [hv5] at hr5
          rw [hv5]
          clear hv5
          obtain ⟨⟨tx, lx⟩, hx⟩ : ∃ x, fixT d T lf = x := ⟨_, rfl⟩
          have hfa := fix_all d T lf
          rw [hx] at hr5 hfa ⊢
          have hlx1 : lx ≤ 1000000 := by
            have := hfa.2.2.2
            simp only at this
            omega
          have hlx0 : 3 - 64 * ((j : Int) + 1) ≤ lx := by
            have q1 := hfa.2.2.2
            have q2 := hfa.2.2.1
            simp only at q1 q2
            have q3 : 4 ^ d ≤ 64 := by
              have : 4 ^ d ≤ 4 ^ 3 := Nat.pow_le_pow_right (by decide) (by omega)
              omega
            omega
          have HX := Lib.hid hx
          obtain ⟨m5a, m5b, hb6⟩ := HMID.out w5 (by simpa using hb5)
          have hr6 : Reads w5 (fun b => wr.heap.size ≤ b ∧ b < w5.heap.size) (d + 1) tx (.agg #[.int .i64 k5, .int .i64 n5, .string s5, .slice A5 m5 c5]) := hr5.more (fun b hb => ⟨by have := hb.1; simp at this; omega, hb.2⟩)
          have HR6 := Lib.hid hr6
          have HB6 := Lib.hid hb6
          have e3 : ∀ o, (w5.alloc o).cell? ⟨g3, 3, none⟩ = some (.slice A3 ts.length cp3) := fun o => (cell_alloc_lt w5 o (by show g3 < _; omega)).trans m5a
          have e4 : ∀ o o', ((w5.alloc o).alloc o').cell? ⟨g3, 3, none⟩ = some (.slice A3 ts.length cp3) := fun o o' => (cell_alloc_lt _ o' (by show g3 < _; simp; omega)).trans (e3 o)
          clear hx hfa hr5 hb5 hr6 hb6 HR
          go_upto_region 26 with fail
          go_wp2_with (at_builtin; refine wpList_own_at _ rfl (.tmp 105) (.tmp 107) 22 rfl w.heap.size 24 i0 _ 4 56 Tryd.underlying22 HI.out HZ0.out HZ1.out HZ2.out rfl (by decide) (.slice A3 ts.length cp3) ts.length xs rfl (own_fr (S := fun _ => False) (w := wr) KR.out.row (((Fr.of_below (S := fun _ => False) (w := wr) HB6.out).alloc _).alloc _) (fun _ _ x => x)) ⟨w5.heap.size + 1, 0, none⟩ 1 1 [.int .i64 k5, .int .i64 n5, .string s5, .slice A5 m5 c5] rfl rfl (by intro jj u hu; have e4 := cells_four (w5.alloc (.cells #[.int .i64 k5, .int .i64 n5, .string s5, .slice A5 m5 c5] 24)) _ _ _ _ 24 jj u hu; simpa using e4) (by intro u hu; simp only [List.mem_cons, List.not_mem_nil, or_false] at hu; rcases hu with rfl | rfl | rfl | rfl <;> rfl) (by unfold maxLen; omega) (by omega) (by have := KR.out.below.size; simp; omega) ?_; intro v6 w6 hown6 hgr6 hloc6; obtain ⟨hK6, z3, zf⟩ := KR.out.step HB6.out HR6.out hown6 hgr6 hloc6; have HK6 := Lib.hid hK6; obtain ⟨A6, cp6, hv6, _⟩ := own_form hown6; rw [hv6] at HK6 ⊢; clear hK6 hv6 hown6 hgr6 hloc6)
          go_roundw
          case rel => exact ⟨j + 1, _, _, _, lx, rfl, by go_num, by omega, by have := HTL.out; simp; omega, hlx1, by omega, Lib.hid (fixL_step hlt HM.out (HT.out ▸ HX.out)), HK6⟩
          case measure => simp [intOf]; omega
        · have j2 : (l.length : Int) ≤ (j : Int) := by omega
          go_upto_region 25 with fail
          go_wp2_with (fail)
          refine HR.out.mono ?_
          rintro e w5 ⟨v5, rfl, hr5, hb5⟩
          obtain ⟨k5, n5, s5, A5, m5, c5, hv5⟩ := hr5.form
          rw [hv5] at hr5
          rw [hv5]
          clear hv5
          obtain ⟨⟨tx, lx⟩, hx⟩ : ∃ x, fixT d T lf = x := ⟨_, rfl⟩
          have hfa := fix_all d T lf
          rw [hx] at hr5 hfa ⊢
          have hlx1 : lx ≤ 1000000 := by
            have := hfa.2.2.2
            simp only at this
            omega
          have hlx0 : 3 - 64 * ((j : Int) + 1) ≤ lx := by
            have q1 := hfa.2.2.2
            have q2 := hfa.2.2.1
            simp only at q1 q2
            have q3 : 4 ^ d ≤ 64 := by
              have : 4 ^ d ≤ 4 ^ 3 := Nat.pow_le_pow_right (by decide) (by omega)
              omega
            omega
          have HX := Lib.hid hx
          obtain ⟨m5a, m5b, hb6⟩ := HMID.out w5 (by simpa using hb5)
          have hr6 : Reads w5 (fun b => wr.heap.size ≤ b ∧ b < w5.heap.size) (d + 1) tx (.agg #[.int .i64 k5, .int .i64 n5, .string s5, .slice A5 m5 c5]) := hr5.more (fun b hb => ⟨by have := hb.1; simp at this; omega, hb.2⟩)
          have HR6 := Lib.hid hr6
          have HB6 := Lib.hid hb6
          have e3 : ∀ o, (w5.alloc o).cell? ⟨g3, 3, none⟩ = some (.slice A3 ts.length cp3) := fun o => (cell_alloc_lt w5 o (by show g3 < _; omega)).trans m5a
          have e4 : ∀ o o', ((w5.alloc o).alloc o').cell? ⟨g3, 3, none⟩ = some (.slice A3 ts.length cp3) := fun o o' => (cell_alloc_lt _ o' (by show g3 < _; simp; omega)).trans (e3 o)
          clear hx hfa hr5 hb5 hr6 hb6 HR
          go_upto_region 26 with fail
          go_wp2_with (at_builtin; refine wpList_own_at _ rfl (.tmp 105) (.tmp 107) 22 rfl w.heap.size 24 i0 _ 4 56 Tryd.underlying22 HI.out HZ0.out HZ1.out HZ2.out rfl (by decide) (.slice A3 ts.length cp3) ts.length xs rfl (own_fr (S := fun _ => False) (w := wr) KR.out.row (((Fr.of_below (S := fun _ => False) (w := wr) HB6.out).alloc _).alloc _) (fun _ _ x => x)) ⟨w5.heap.size + 1, 0, none⟩ 1 1 [.int .i64 k5, .int .i64 n5, .string s5, .slice A5 m5 c5] rfl rfl (by intro jj u hu; have e4 := cells_four (w5.alloc (.cells #[.int .i64 k5, .int .i64 n5, .string s5, .slice A5 m5 c5] 24)) _ _ _ _ 24 jj u hu; simpa using e4) (by intro u hu; simp only [List.mem_cons, List.not_mem_nil, or_false] at hu; rcases hu with rfl | rfl | rfl | rfl <;> rfl) (by unfold maxLen; omega) (by omega) (by have := KR.out.below.size; simp; omega) ?_; intro v6 w6 hown6 hgr6 hloc6; obtain ⟨hK6, z3, zf⟩ := KR.out.step HB6.out HR6.out hown6 hgr6 hloc6; have HK6 := Lib.hid hK6; obtain ⟨A6, cp6, hv6, _⟩ := own_form hown6; rw [hv6] at HK6 ⊢; clear hK6 hv6 hown6 hgr6 hloc6)
          go_roundw
          case rel => exact ⟨j + 1, _, _, _, lx, rfl, by go_num, by omega, by have := HTL.out; simp; omega, hlx1, by omega, Lib.hid (fixL_step hlt HM.out (HT.out ▸ HX.out)), HK6⟩
          case measure => simp [intOf]; omega
      · have hj2 : j = WN := by omega
        have hge : 1 + q ≤ (j : Int) := by omega
        subst hj2
        have hv3 := own_form KR.out.row
        obtain ⟨A3, cp3, hv3, _⟩ := hv3
        subst hv3
        have m0 : wr.cell? ⟨g3, 0, none⟩ = some (.int .i64 2) := KR.out.b3.cell 0
        have m1 : wr.cell? ⟨g3, 1, none⟩ = some (.int .i64 0) := KR.out.b3.cell 1
        have m2 : wr.cell? ⟨g3, 2, none⟩ = some (.string ⟨#[103]⟩) := KR.out.b3.cell 2
        have r0 : wr.cell? ⟨g2, 0, none⟩ = some (.int .i64 0) := KR.out.b2.cell 0
        have r1 : wr.cell? ⟨g2, 1, none⟩ = some (.int .i64 0) := KR.out.b2.cell 1
        have r2 : wr.cell? ⟨g2, 2, none⟩ = some (.string ⟨#[]⟩) := KR.out.b2.cell 2
        have r3 : wr.cell? ⟨g2, 3, none⟩ = some (.slice none 0 0) := KR.out.b2.cell 3
        have z0 : wr.frozen? ⟨g2, 0, none⟩ = false := KR.out.b2.frozen 0
        have z1 : wr.frozen? ⟨g2, 1, none⟩ = false := KR.out.b2.frozen 1
        have z2 : wr.frozen? ⟨g2, 2, none⟩ = false := KR.out.b2.frozen 2
        have z3 : wr.frozen? ⟨g2, 3, none⟩ = false := KR.out.b2.frozen 3
        go_wp2_with (fail)
        refine ret_store4 (x := .int .i64 lf) KR.out.b2 (by intro W c0 c1 c2 c3; simp [results, Tryd.results22, go_sem, c0, c1, c2, c3]) ?_
        intro W hW hF
        obtain ⟨e1, e2⟩ := fk_end KR.out (by decide) (by decide) (by decide) hF
        have hm : fixL d j l (left - 1) = (ts, lf) := by
          rw [HM.out, Nat.sub_self, fixL]
          simp
        unfold FixOk
        rw [HEQ.out, hm]
        exact ⟨_, rfl, e1, e2⟩

/-- Fix, of whatever depth up to 4. -/
theorem fix_any (d : Nat) (hd : d ≤ 4) : FixC d := by
  induction d with
  | zero =>
    rintro ⟨kk, nn, s, l⟩ v w S f left hr hS h0 h1
    exact fix_few 0 kk nn s l v w S f left hr hS h0 h1 ((fixKind_range kk 0 left).2.2 rfl) (by omega)
  | succ d ih =>
    rintro ⟨kk, nn, s, l⟩ v w S f left hr hS h0 h1
    by_cases hk : fixKind kk (d + 1) left ≤ 1
    · exact fix_few (d + 1) kk nn s l v w S f left hr hS h0 h1 hk hd
    · have hm := modU_range kk 4 (by decide)
      have h4 : 4 ≤ left ∧ 2 ≤ modU kk 4 := by
        unfold fixKind at hk
        split at hk <;> omega
      rcases (show modU kk 4 = 2 ∨ modU kk 4 = 3 by omega) with e | e
      · exact fix_two d (ih (by omega)) kk nn s l v w S f left hr hS h4.1 h1 e hd
      · exact fix_three d (ih (by omega)) kk nn s l v w S f left hr hS h4.1 h1 e hd
end Go.Proofs.YtkfmagbaklikmaaDoor
