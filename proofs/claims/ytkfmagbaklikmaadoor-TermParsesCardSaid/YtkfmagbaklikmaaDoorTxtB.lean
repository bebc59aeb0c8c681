/-
  A term in words: the program's appendTerm and Text, by contracts.
-/
import Derived.Test.YtkfmagbaklikmaaDoorTxtA
namespace Go.Proofs.YtkfmagbaklikmaaDoor
open Go Go.RowKit
set_option linter.unusedVariables false
set_option linter.unusedSimpArgs false

theorem uStr : Tryd.prog.underlying 9 = some .string := by kernel_rfl

section
variable {P : Program} (w : World)
/-- A string appended onto an owned row of bytes, as one step of a region that draws its order. -/
theorem step_str_at {ops : Array Oper} {o : Oper} {a : Act} {K : Act → World → Prop} {Q : Exit → Act → World → Prop} {E : Prop} (hgd : o.guard = none) (sl x : Operand) (t u : TypeId)
    (ho : o.op = .call { callee := .builtin .append, args := #[sl, x], argTypes := #[t, u] })
    (base : Nat) (e : TypeId) (i : TypeInfo) (ht : P.underlying t = some (.slice e)) (hu : P.underlying u = some .string) (hi : P.info? e = some i) (hz : i.zero = some (.int .u8 0))
    (hsize : i.size = 1) (hby : i.bytes = 1)
    (v : Value) (n : Nat) (xs : List Value) (hs : a.eval sl = v) (hown : w.ownsRow base e 1 v n xs) (s : ByteArray) (hx : a.eval x = .string s)
    (h63 : n + s.size ≤ maxLen) (hbytes : n + s.size ≤ 140737488355328) (hbase : base ≤ w.heap.size)
    (h : ∀ v' w', w'.ownsRow base e 1 v' (n + s.size) (xs ++ Lib.strCells s) → w.grownBy w' v.ownBlock → K (a.put o.dst v') w') :
    if Region.wanted o (yielded ops a.tmps) = true then Oper.wp P o a w K Q else E := by
  have hw : Region.wanted o (yielded ops a.tmps) = true := by simp [Region.wanted, hgd]
  rw [if_pos hw]
  obtain ⟨v', w', hr, h2, h3, _⟩ := Lib.run_append_own_string (P := P) w base t u o.type e i ht hu hi hz hsize hby v n xs hown s h63 hbytes hbase
  unfold Oper.wp execOp
  simp only [ho, resolve, invoke, builtin, Sem.run_bind, Sem.run_pure, Result.andThen_ok, List.map_toArray, List.map_cons, List.map_nil, hs, hx, hr]
  exact h v' w' h2 h3
end

theorem box_one_new {w : World} {g : Nat} {t : TypeId} {a : Value} (h : Box w g t #[a]) : ∀ j u, [a][j]? = some u → w.cell? ((⟨g, 0, none⟩ : Addr).add j) = some u := by
  intro j u hu
  match j with
  | 0 =>
    obtain rfl : a = u := by simpa using hu
    have e : (⟨g, 0, none⟩ : Addr).add 0 = ⟨g, 0, none⟩ := by simp [Addr.add]
    rw [e]
    exact h.cell 0
  | j + 1 => simp at hu
theorem bel_drewN {B : Nat} {w w' : World} (h : Below B w w') (n : Nat) : Below B w (w'.drewN n) := ⟨h.os, h.tape, h.output, h.size, h.block⟩
theorem bel_grown {B : Nat} {w wx w6 : World} {e : TypeId} {size n : Nat} {v : Value} {xs : List Value} (hb : Below B w wx) (hB : B ≤ w.heap.size) (ho : wx.ownsRow B e size v n xs) (hg : wx.grownBy w6 v.ownBlock) : Below B w w6 :=
  hb.trans ((Fr.of_grown (S := fun b => v.ownBlock = some b) hg (fun _ _ e => e)).below (Nat.le_trans hB hb.size) (fun b e => (ho.lt b e).1))
theorem wf_bounds {z : Int} (h : (Lit.int .i64 z).wf = true) : -9223372036854775808 ≤ z ∧ z ≤ 9223372036854775807 := by
  simp only [Lit.wf, Bool.and_eq_true, decide_eq_true_eq] at h
  exact h

set_option maxHeartbeats 2000000 in
set_option maxRecDepth 100000 in
theorem text_step {B f : Nat} (ih : TextC B f) : TextC B (f + 1) := by
  rintro ⟨k, z, s, l⟩ v w S sv n xs ⟨A, c, rfl, h1, h2, h3, h4, h5, h6⟩ hS ho hB ht hn
  have IH := Lib.hid ih
  have H6 := Lib.hid h6
  have HS := Lib.hid hS
  have HO := Lib.hid ho
  have HT := Lib.hid ht
  have H3 := Lib.hid h3
  have H5 := Lib.hid h5
  have H1 := Lib.hid h1
  have H2 := Lib.hid h2
  obtain ⟨i0, hi, hz0, hz1, hz2⟩ := info_parts info5
  have HI := Lib.hid hi
  have HZ0 := Lib.hid hz0
  have HZ1 := Lib.hid hz1
  have HZ2 := Lib.hid hz2
  obtain ⟨bs, hbs⟩ : ∃ bs, (Tm.node k z s l).text = bs := ⟨_, rfl⟩
  have HBS := Lib.hid hbs
  rw [hbs] at hn ⊢
  have HN := Lib.hid hn
  unfold maxLen at h2
  clear ih h6 hS ho ht h3 h5 hi hz0 hz1 hz2 hbs hn
  have hbx := Box.new w 28 #[.int .i64 k, .int .i64 z, .string s, .slice A l.length c]
  have HBX := Lib.hid hbx
  have HB0 := Lib.hid ((Below.refl w.heap.size w).alloc (Nat.le_refl _) (.cells #[.int .i64 k, .int .i64 z, .string s, .slice A l.length c] 28))
  have HO0 := Lib.hid (own_below HO.out HB0.out)
  have HKW := Lib.hid ((Lib.OthersKept.refl 5 none w).alloc (.cells #[.int .i64 k, .int .i64 z, .string s, .slice A l.length c] 28))
  have HSZ : Hid ((w.alloc (.cells #[.int .i64 k, .int .i64 z, .string s, .slice A l.length c] 28)).heap.size = w.heap.size + 1) := by show _ = _; simp
  obtain ⟨gb, hgb⟩ : ∃ gb, w.heap.size = gb := ⟨_, rfl⟩
  obtain ⟨w0, hw0⟩ : ∃ w0, w.alloc (.cells #[.int .i64 k, .int .i64 z, .string s, .slice A l.length c] 28) = w0 := ⟨_, rfl⟩
  have HGB := Lib.hid hgb
  have HW0 := Lib.hid hw0
  rw [hw0] at HBX HB0 HO0 HSZ HKW
  rw [hgb] at HBX HSZ
  clear hw0 hbx hgb
  obtain ⟨A0, c0, hv0, _⟩ := own_form HO.out
  subst hv0
  have k0 : w0.cell? ⟨gb, 0, none⟩ = some (.int .i64 k) := HBX.out.cell 0
  have HPW := Lib.hid (fun (W : World) (hb : Below B w W) i (h : i < l.length) => (by
    obtain ⟨b, off, v0, v1, v2, v3, hA, hb', c0, c1, c2, c3, hr⟩ := H6.out i h
    have hbB := HS.out b hb'
    exact ⟨b, off, v0, v1, v2, v3, hA, hb', (hb.cell (p := ⟨b, _, none⟩) hbB).trans c0, (hb.cell (p := ⟨b, _, none⟩) hbB).trans c1, (hb.cell (p := ⟨b, _, none⟩) hbB).trans c2, (hb.cell (p := ⟨b, _, none⟩) hbB).trans c3, hr.below hb HS.out⟩ :
    ∃ b off v0 v1 v2 v3, A = some ⟨b, off, none⟩ ∧ S b ∧ W.cell? ⟨b, off + i * 4, none⟩ = some v0 ∧ W.cell? ⟨b, off + i * 4 + 1, none⟩ = some v1 ∧
        W.cell? ⟨b, off + i * 4 + 2, none⟩ = some v2 ∧ W.cell? ⟨b, off + i * 4 + 3, none⟩ = some v3 ∧ Reads W S f l[i] (.agg #[v0, v1, v2, v3])))
  by_cases e0 : k = 0
  · subst e0
    have HX : Hid (bs = 88 :: Lib.itoa z) := by
      show _ = _
      rw [← HBS.out, Tm.text, if_pos rfl]
    have k1 : w0.cell? ⟨gb, 1, none⟩ = some (.int .i64 z) := HBX.out.cell 1
    have k1a : ∀ o, ((w0.drewN 1).alloc o).cell? ⟨gb, 1, none⟩ = some (.int .i64 z) := fun o => ((HBX.out.drewN 1).alloc o).cell 1
    have HNA : Hid (n + 1 + 21 ≤ 140737488355328) := by
      show _ ≤ _
      have := HN.out
      rw [HX.out] at this
      simp at this
      omega
    have HOA := Lib.hid (fun o => own_below (own_drewN HO0.out 1) ((Below.refl (w0.drewN 1).heap.size (w0.drewN 1)).alloc (Nat.le_refl _) o))
    go_enter Tryd.func23, Tryd.ntmps23
    go_wp2_with (fail)
    rw [HW0.out, HGB.out]
    go_wp2_with (fail)
    go_region_held3 (fun w' => w'.cell? ⟨gb, 1, none⟩ = some (.int .i64 z))
      (first | exact hS6 | exact k1a _ | exact k1)
      (first
        | (refine step_own_at _ rfl (.tmp 9) (.tmp 10) 50 rfl B 5 i0 (.int .u8 0) 1 1 Tryd.underlying50 HI.out HZ0.out HZ1.out HZ2.out rfl (by decide) (.slice A0 n c0) n xs rfl (HOA.out _) ⟨w0.heap.size, 0, none⟩ 1 1 [.int .u8 88] rfl rfl (cell_one_new _ _ _) (one_word _ _) (by have := HN.out; unfold maxLen; omega) (by have := HN.out; omega) (by have := HSZ.out; have := HGB.out; simp; omega) ?_; intro v6 w6 hown6 hgr6 hloc6; have HB6 := Lib.hid (bel_grown ((bel_drewN (HB0.out.mono hB) 1).alloc (by have := HSZ.out; have := HGB.out; simp; omega) _) hB (HOA.out _) hgr6); have HK6 := Lib.hid (kept_grown (((HKW.out.drewN 1).alloc _)) (HOA.out _) hgr6); have HBX6 := Lib.hid (((HBX.out.drewN 1).alloc _).kept (kept_grown (Lib.OthersKept.refl _ _ _) (HOA.out _) hgr6) (show 28 ≠ 5 by decide)); have hS6 : w6.cell? ⟨gb, 1, none⟩ = some (.int .i64 z) := HBX6.out.cell 1)
        | (go_at_call 33; refine (Tryd.strconv_AppendInt_10 B (n + 1) z (wf_bounds H5.out).1 (wf_bounds H5.out).2 _ _ w6 hown6 (by have := HB6.out.size; omega) HNA.out (HT.out.on HB6.out)).mono ?_; rintro e w7 ⟨v7, rfl, hown7, hb7, hok7⟩; have hS6 : w7.cell? ⟨gb, 1, none⟩ = some (.int .i64 z) := (HBX6.out.kept hok7 (show 28 ≠ 5 by decide)).cell 1))
    all_goals
      go_wp2
      go_ret
      refine ⟨_, rfl, ?_, HB6.out.trans hb7, HK6.out.trans hok7⟩
      rw [HX.out]
      have e2 : n + (88 :: Lib.itoa z).length = n + 1 + (Lib.itoa z).length := by simp; omega
      have e3 : xs ++ Lib.byteCells (88 :: Lib.itoa z) = xs ++ [.int .u8 88] ++ Lib.byteCells (Lib.itoa z) := by simp [Lib.byteCells]
      rw [e2, e3]
      exact hown7
  · by_cases e1 : k = 1
    · subst e1
      have HX : Hid (bs = s.data.toList) := by
        show _ = _
        rw [← HBS.out, Tm.text, if_neg (by decide), if_pos rfl]
      have k2 : w0.cell? ⟨gb, 2, none⟩ = some (.string s) := HBX.out.cell 2
      have hlen : n + s.size + 21 ≤ 140737488355328 := by
        have := HN.out
        rw [HX.out] at this
        simpa using this
      obtain ⟨sv, hsv⟩ : ∃ sv, Value.slice A0 n c0 = sv := ⟨_, rfl⟩
      rw [hsv] at HO0 HO ⊢
      clear hsv
      go_enter Tryd.func23, Tryd.ntmps23
      go_upto_region 1 with (fail)
      rw [HW0.out, HGB.out]
      go_wp2_with (at_builtin; refine Lib.wpList_append_own_string _ rfl (.tmp 17) (.tmp 19) 50 9 rfl B 5 i0 Tryd.underlying50 uStr HI.out HZ0.out HZ1.out HZ2.out sv n xs rfl HO0.out s rfl (by unfold maxLen; omega) (by omega) (by have := HSZ.out; have := HGB.out; omega) ?_; intro v6 w6 hown6 hgr6 _; have HB6 := Lib.hid (bel_grown (HB0.out.mono hB) hB HO0.out hgr6); have HK6 := Lib.hid (kept_grown HKW.out HO0.out hgr6); have HO6 := Lib.hid hown6; clear hown6 hgr6)
      go_ret
      refine ⟨_, rfl, ?_, HB6.out, HK6.out⟩
      rw [HX.out]
      have e2 : n + s.data.toList.length = n + s.size := by simp
      rw [e2]
      exact HO6.out
    · by_cases e2 : k = 2
      · subst e2
        have HX : Hid (bs = s.data.toList ++ 40 :: ((more 44 l).drop 1 ++ [41])) := by
          show _ = _
          rw [← HBS.out, Tm.text, if_neg (by decide), if_neg (by decide), if_pos rfl]
        have hl2 : bs.length = s.size + (1 + ((more 44 l).length - 1 + 1)) := by rw [HX.out]; simp; omega
        have HL2 := Lib.hid hl2
        clear hl2
        have k2 : w0.cell? ⟨gb, 2, none⟩ = some (.string s) := HBX.out.cell 2
        have k3 : w0.cell? ⟨gb, 3, none⟩ = some (.slice A l.length c) := HBX.out.cell 3
        have kS : w0.cell? ⟨gb, 2, none⟩ = some (.string s) ∧ w0.cell? ⟨gb, 3, none⟩ = some (.slice A l.length c) := ⟨k2, k3⟩
        have kSa : ∀ o, ((w0.drewN 1).alloc o).cell? ⟨gb, 2, none⟩ = some (.string s) ∧ ((w0.drewN 1).alloc o).cell? ⟨gb, 3, none⟩ = some (.slice A l.length c) := fun o => ⟨((HBX.out.drewN 1).alloc o).cell 2, ((HBX.out.drewN 1).alloc o).cell 3⟩
        have HOD := Lib.hid (own_drewN HO0.out 1)
        have HOA := Lib.hid (fun o => own_below (own_drewN HO0.out 1) ((Below.refl (w0.drewN 1).heap.size (w0.drewN 1)).alloc (Nat.le_refl _) o))
        have HBD := Lib.hid (bel_drewN (HB0.out.mono hB) 1)
        have HBDA := Lib.hid (fun o => HBD.out.alloc (by have := HSZ.out; have := HGB.out; simp; omega) o)
        have hszA : B ≤ w0.heap.size := by have := HSZ.out; have := HGB.out; omega
        go_enter Tryd.func23, Tryd.ntmps23
        go_upto_region 1 with (fail)
        rw [HW0.out, HGB.out]
        go_upto_region 7 with (fail)
        go_region_held3 (fun w' => w'.cell? ⟨gb, 2, none⟩ = some (.string s) ∧ w'.cell? ⟨gb, 3, none⟩ = some (.slice A l.length c))
          (first | exact hS7 | exact hS6 | exact hS5a _ | exact hS5 | exact kSa _ | exact kS)
          (first
            | (refine step_str_at _ rfl (.tmp 23) (.tmp 25) 50 9 rfl B 5 i0 Tryd.underlying50 uStr HI.out HZ0.out HZ1.out HZ2.out (.slice A0 n c0) n xs rfl HOD.out s rfl (by have := HN.out; have := HL2.out; unfold maxLen; omega) (by have := HN.out; have := HL2.out; omega) hszA ?_; intro v5 w5 hown5 hgr5; have HB5 := Lib.hid (bel_grown HBD.out hB HOD.out hgr5); have HK5 := Lib.hid (kept_grown (HKW.out.drewN 1) HOD.out hgr5); have HBX5 := Lib.hid ((HBX.out.drewN 1).kept (kept_grown (Lib.OthersKept.refl _ _ _) HOD.out hgr5) (show 28 ≠ 5 by decide)); have hS5 := And.intro (HBX5.out.cell 2) (HBX5.out.cell 3); have hS5a := fun o => And.intro ((HBX5.out.alloc o).cell 2) ((HBX5.out.alloc o).cell 3))
            | (refine step_own_at _ rfl (.tmp 26) (.tmp 27) 50 rfl B 5 i0 (.int .u8 0) 1 1 Tryd.underlying50 HI.out HZ0.out HZ1.out HZ2.out rfl (by decide) v5 (n + s.size) _ rfl (own_below hown5 ((Below.refl w5.heap.size w5).alloc (Nat.le_refl _) _)) ⟨w5.heap.size, 0, none⟩ 1 1 [.int .u8 40] rfl rfl (cell_one_new _ _ _) (one_word _ _) (by have := HN.out; have := HL2.out; unfold maxLen; omega) (by have := HN.out; have := HL2.out; omega) (by have := HB5.out.size; simp; omega) ?_; intro v6 w6 hown6 hgr6 hloc6; have HB6 := Lib.hid (bel_grown (HB5.out.alloc (by have := HB5.out.size; omega) _) hB (own_below hown5 ((Below.refl w5.heap.size w5).alloc (Nat.le_refl _) _)) hgr6); have HK6 := Lib.hid (kept_grown (HK5.out.alloc _) (own_below hown5 ((Below.refl w5.heap.size w5).alloc (Nat.le_refl _) _)) hgr6); have HBX6 := Lib.hid ((HBX5.out.alloc _).kept (kept_grown (Lib.OthersKept.refl _ _ _) (own_below hown5 ((Below.refl w5.heap.size w5).alloc (Nat.le_refl _) _)) hgr6) (show 28 ≠ 5 by decide)); have hS6 := And.intro (HBX6.out.cell 2) (HBX6.out.cell 3))
            | (refine step_str_at _ rfl (.tmp 23) (.tmp 25) 50 9 rfl B 5 i0 Tryd.underlying50 uStr HI.out HZ0.out HZ1.out HZ2.out (.slice A0 n c0) n xs rfl (HOA.out (.cells #[.int .u8 40] 5)) s rfl (by have := HN.out; have := HL2.out; unfold maxLen; omega) (by have := HN.out; have := HL2.out; omega) (by simp; omega) ?_; intro v5 w5 hown5 hgr5; have HB5 := Lib.hid (bel_grown (HBDA.out _) hB (HOA.out (.cells #[.int .u8 40] 5)) hgr5); have HK5 := Lib.hid (kept_grown ((HKW.out.drewN 1).alloc _) (HOA.out (.cells #[.int .u8 40] 5)) hgr5); have HBX5 := Lib.hid (((HBX.out.drewN 1).alloc _).kept (kept_grown (Lib.OthersKept.refl _ _ _) (HOA.out (.cells #[.int .u8 40] 5)) hgr5) (show 28 ≠ 5 by decide)); have H40 := Lib.hid ((Box.new (w0.drewN 1) 5 #[.int .u8 40]).fr (Fr.of_grown (S := fun b => Value.ownBlock (.slice A0 n c0) = some b) hgr5 (fun _ _ e => e)) (fun e => by have := (HOD.out.lt _ e).2; simp at this)); have hS5 := And.intro (HBX5.out.cell 2) (HBX5.out.cell 3); have hS5a := fun o => And.intro ((HBX5.out.alloc o).cell 2) ((HBX5.out.alloc o).cell 3))
            | (refine step_own_at _ rfl (.tmp 26) (.tmp 27) 50 rfl B 5 i0 (.int .u8 0) 1 1 Tryd.underlying50 HI.out HZ0.out HZ1.out HZ2.out rfl (by decide) v5 (n + s.size) _ rfl hown5 ⟨w0.heap.size, 0, none⟩ 1 1 [.int .u8 40] rfl rfl (box_one_new H40.out) (one_word _ _) (by have := HN.out; have := HL2.out; unfold maxLen; omega) (by have := HN.out; have := HL2.out; omega) (by have := HB5.out.size; omega) ?_; intro v6 w6 hown6 hgr6 hloc6; have HB6 := Lib.hid (bel_grown HB5.out hB hown5 hgr6); have HK6 := Lib.hid (kept_grown HK5.out hown5 hgr6); have HBX6 := Lib.hid (HBX5.out.kept (kept_grown (Lib.OthersKept.refl _ _ _) hown5 hgr6) (show 28 ≠ 5 by decide)); have hS6 := And.intro (HBX6.out.cell 2) (HBX6.out.cell 3))
            | (go_at_call 34; refine (list_text IH.out l A c 44 w6 S _ (n + s.size + 1) _ H1.out H2.out (HPW.out w6 HB6.out) HS.out hown6 (by have := HB6.out.size; omega) (HT.out.on HB6.out) (by have := HN.out; have := HL2.out; omega)).mono ?_; rintro e w7 ⟨v7, rfl, hown7, hb7, hok7⟩; have hS7 := And.intro ((HBX6.out.kept hok7 (show 28 ≠ 5 by decide)).cell 2) ((HBX6.out.kept hok7 (show 28 ≠ 5 by decide)).cell 3)))
        all_goals
          have HB7 := Lib.hid (HB6.out.trans hb7)
          have HK7 := Lib.hid (HK6.out.trans hok7)
          have HO7 := Lib.hid hown7
          have HOA7 := Lib.hid (own_below HO7.out ((Below.refl w7.heap.size w7).alloc (Nat.le_refl _) (.cells #[.int .u8 41] 5)))
          have HBA7 := Lib.hid (HB7.out.alloc (by have := HB7.out.size; omega) (.cells #[.int .u8 41] 5))
          clear hown7 hb7 hok7 hown6 hgr6 hloc6 hown5 hgr5 hS7 hS6 hS5 hS5a k2 k3 kS kSa k0 HPW
          go_wp2_with (at_builtin; refine wpList_append_own _ rfl (.tmp 32) (.tmp 33) 50 rfl B 5 i0 (.int .u8 0) 1 1 Tryd.underlying50 HI.out HZ0.out HZ1.out HZ2.out rfl (by decide) _ _ _ rfl HOA7.out ⟨w7.heap.size, 0, none⟩ 1 1 [.int .u8 41] rfl rfl (cell_one_new _ _ _) (one_word _ _) (by have := HN.out; have := HL2.out; unfold maxLen; simp; omega) (by have := HN.out; have := HL2.out; simp; omega) (by have := HBA7.out.size; omega) ?_; intro v8 w8 hown8 hgr8 _; have HB8 := Lib.hid (bel_grown HBA7.out hB HOA7.out hgr8); have HK8 := Lib.hid (kept_grown (HK7.out.alloc _) HOA7.out hgr8); have HO8 := Lib.hid hown8; clear hown8 hgr8)
          go_ret
          refine ⟨_, rfl, ?_, HB8.out, HK8.out⟩
          rw [HX.out]
          have e5 : n + (s.data.toList ++ 40 :: ((more 44 l).drop 1 ++ [41])).length = n + s.size + 1 + ((more 44 l).drop 1).length + 1 := by simp; omega
          have e6 : xs ++ Lib.byteCells (s.data.toList ++ 40 :: ((more 44 l).drop 1 ++ [41])) = xs ++ Lib.strCells s ++ [.int .u8 40] ++ Lib.byteCells ((more 44 l).drop 1) ++ [.int .u8 41] := by simp [Lib.byteCells, Lib.strCells]
          rw [e5, e6]
          exact HO8.out
      · by_cases e3 : k = 3
        · subst e3
          have HX : Hid (bs = 91 :: ((more 124 l).drop 1 ++ [93])) := by
            show _ = _
            rw [← HBS.out, Tm.text, if_neg (by decide), if_neg (by decide), if_neg (by decide), if_pos rfl]
          have hl2 : bs.length = (more 124 l).length - 1 + 2 := by rw [HX.out]; simp
          have HL2 := Lib.hid hl2
          clear hl2
          have k3 : w0.cell? ⟨gb, 3, none⟩ = some (.slice A l.length c) := HBX.out.cell 3
          have k3a : ∀ o, ((w0.drewN 1).alloc o).cell? ⟨gb, 3, none⟩ = some (.slice A l.length c) := fun o => ((HBX.out.drewN 1).alloc o).cell 3
          have HOA := Lib.hid (fun o => own_below (own_drewN HO0.out 1) ((Below.refl (w0.drewN 1).heap.size (w0.drewN 1)).alloc (Nat.le_refl _) o))
          go_enter Tryd.func23, Tryd.ntmps23
          go_wp2_with (fail)
          rw [HW0.out, HGB.out]
          go_wp2_with (fail)
          go_region_held3 (fun w' => w'.cell? ⟨gb, 3, none⟩ = some (.slice A l.length c))
            (first | exact hS6 | exact k3a _ | exact k3)
            (first
              | (refine step_own_at _ rfl (.tmp 37) (.tmp 38) 50 rfl B 5 i0 (.int .u8 0) 1 1 Tryd.underlying50 HI.out HZ0.out HZ1.out HZ2.out rfl (by decide) (.slice A0 n c0) n xs rfl (HOA.out _) ⟨w0.heap.size, 0, none⟩ 1 1 [.int .u8 91] rfl rfl (cell_one_new _ _ _) (one_word _ _) (by have := HN.out; unfold maxLen; omega) (by have := HN.out; omega) (by have := HSZ.out; have := HGB.out; simp; omega) ?_; intro v6 w6 hown6 hgr6 hloc6; have HB6 := Lib.hid (bel_grown ((bel_drewN (HB0.out.mono hB) 1).alloc (by have := HSZ.out; have := HGB.out; simp; omega) _) hB (HOA.out _) hgr6); have HK6 := Lib.hid (kept_grown (((HKW.out.drewN 1).alloc _)) (HOA.out _) hgr6); have HBX6 := Lib.hid (((HBX.out.drewN 1).alloc _).kept (kept_grown (Lib.OthersKept.refl _ _ _) (HOA.out _) hgr6) (show 28 ≠ 5 by decide)); have hS6 : w6.cell? ⟨gb, 3, none⟩ = some (.slice A l.length c) := HBX6.out.cell 3)
              | (go_at_call 34; refine (list_text IH.out l A c 124 w6 S _ (n + 1) _ H1.out H2.out (HPW.out w6 HB6.out) HS.out hown6 (by have := HB6.out.size; omega) (HT.out.on HB6.out) (by have := HN.out; have := HL2.out; omega)).mono ?_; rintro e w7 ⟨v7, rfl, hown7, hb7, hok7⟩; have hS6 : w7.cell? ⟨gb, 3, none⟩ = some (.slice A l.length c) := (HBX6.out.kept hok7 (show 28 ≠ 5 by decide)).cell 3))
          all_goals
            have HB7 := Lib.hid (HB6.out.trans hb7)
            have HK7 := Lib.hid (HK6.out.trans hok7)
            have HO7 := Lib.hid hown7
            have HOA7 := Lib.hid (own_below HO7.out ((Below.refl w7.heap.size w7).alloc (Nat.le_refl _) (.cells #[.int .u8 93] 5)))
            have HBA7 := Lib.hid (HB7.out.alloc (by have := HB7.out.size; omega) (.cells #[.int .u8 93] 5))
            clear hown7 hb7 hok7 hown6 hgr6 hloc6 hS6 k3 k3a k0 HPW
            go_wp2_with (at_builtin; refine wpList_append_own _ rfl (.tmp 43) (.tmp 44) 50 rfl B 5 i0 (.int .u8 0) 1 1 Tryd.underlying50 HI.out HZ0.out HZ1.out HZ2.out rfl (by decide) _ _ _ rfl HOA7.out ⟨w7.heap.size, 0, none⟩ 1 1 [.int .u8 93] rfl rfl (cell_one_new _ _ _) (one_word _ _) (by have := HN.out; have := HL2.out; unfold maxLen; simp; omega) (by have := HN.out; have := HL2.out; simp; omega) (by have := HBA7.out.size; omega) ?_; intro v8 w8 hown8 hgr8 _; have HB8 := Lib.hid (bel_grown HBA7.out hB HOA7.out hgr8); have HK8 := Lib.hid (kept_grown (HK7.out.alloc _) HOA7.out hgr8); have HO8 := Lib.hid hown8; clear hown8 hgr8)
            go_ret
            refine ⟨_, rfl, ?_, HB8.out, HK8.out⟩
            rw [HX.out]
            have e5 : n + (91 :: ((more 124 l).drop 1 ++ [93])).length = n + 1 + ((more 124 l).drop 1).length + 1 := by simp; omega
            have e6 : xs ++ Lib.byteCells (91 :: ((more 124 l).drop 1 ++ [93])) = xs ++ [.int .u8 91] ++ Lib.byteCells ((more 124 l).drop 1) ++ [.int .u8 93] := by simp [Lib.byteCells]
            rw [e5, e6]
            exact HO8.out
        · have HX : Hid (bs = []) := by
            show _ = _
            rw [← HBS.out, Tm.text, if_neg e0, if_neg e1, if_neg e2, if_neg e3]
          go_enter Tryd.func23, Tryd.ntmps23
          go_wp2_with (fail)
          rw [HW0.out, HGB.out]
          go_wp2_with (fail)
          go_ret
          rw [HX.out]
          refine ⟨_, rfl, ?_, HB0.out.mono hB, HKW.out⟩
          simpa [Lib.byteCells] using HO0.out
end Go.Proofs.YtkfmagbaklikmaaDoor
