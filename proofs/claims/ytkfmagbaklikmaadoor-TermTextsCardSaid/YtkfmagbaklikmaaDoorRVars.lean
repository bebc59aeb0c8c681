/-
  Which variables, by the document (resolventref03.Has, vars, Vars), by contracts. Conditions: the values read as trees of at most a million parts.
-/
import Derived.Test.YtkfmagbaklikmaaDoorTold
namespace Go.Proofs.YtkfmagbaklikmaaDoor
open Go Go.RowKit
set_option linter.unusedVariables false
set_option linter.unusedSimpArgs false

theorem row_cap {w : World} {B : Nat} {A : Option Addr} {n c : Nat} {xs : List Value} {e : TypeId} {z : Nat} (h : w.ownsRow B e z (.slice A n c) n xs) : n ≤ c ∧ c ≤ maxLen := by
  rcases h.2 with ⟨h0, h1⟩ | ⟨g, cap, cur, he, _, _, h2, h3, _⟩
  · simp only [Value.slice.injEq] at h0
    unfold maxLen
    omega
  · simp only [Value.slice.injEq, true_and] at he
    omega

theorem has_is {w : World} {B : Nat} {u : Value} {xs : List Int} {n : Int} {b : Bool} (hu : w.ownsRow B 3 1 u xs.length (xs.map (Value.int .i64))) (hb : decide (n ∈ xs) = b) :
    Calls Tryd.prog 40 #[u, .int .i64 n] w fun e w' => e = .returned (.bool b) ∧ w = w' := by
  obtain ⟨A1, c1, rfl, g1⟩ := own_form hu
  have HU := Lib.hid (fun j hj => own_int_cell hu j hj)
  have m1 := (row_cap hu).2
  have HB := Lib.hid hb
  unfold maxLen at m1
  clear hu hb
  go_enter Tryd.func40, Tryd.ntmps40
  go_wp2_with (fail)
  go_loop [5] (fun i => ∃ j : Nat, j ≤ xs.length ∧ i = .int .i64 ((j : Nat) : Int) ∧ Hid (decide (n ∈ xs.drop j) = b)) (fun i => xs.length - (intOf i).toNat)
  case atStart => exact ⟨0, Nat.zero_le _, rfl, HB⟩
  case round =>
    obtain ⟨j, hj, rfl, HJ⟩ := hrel
    by_cases hlt : j < xs.length
    · obtain ⟨g, rfl, q1⟩ := HU.out j hlt
      have hd : xs.drop j = xs[j] :: xs.drop (j + 1) := List.drop_eq_getElem_cons hlt
      have HD := Lib.hid hd
      clear hd
      by_cases he : xs[j] = n
      · have hX : Hid (b = true) := by
          show _ = _
          rw [← HJ.out, HD.out]
          exact decide_eq_true (by rw [he]; exact List.mem_cons_self)
        have he' : (xs[j] == n) = true := by simpa using he
        clear he
        go_wp2_with (fail)
        go_ret
        exact ⟨by rw [hX.out]; rfl, rfl⟩
      · have he' : (xs[j] == n) = false := by simpa using he
        have HJ2 : Hid (decide (n ∈ xs.drop (j + 1)) = b) := by
          show _ = _
          rw [← HJ.out, HD.out]
          have h1 : ¬ n = xs[j] := fun e => he e.symm
          exact decide_eq_decide.2 ⟨fun h => List.mem_cons_of_mem _ h, fun h => (List.mem_cons.1 h).resolve_left h1⟩
        clear he
        go_wp2_with (fail)
        go_round
        case rel => exact ⟨j + 1, by omega, by go_num, HJ2⟩
        case measure => simp [intOf]; omega
    · have hge : (xs.length : Int) ≤ (j : Int) := by omega
      have hX : Hid (b = false) := by
        show _ = _
        rw [← HJ.out, List.drop_eq_nil_of_le (by omega)]
        simp
      go_wp2_with (fail)
      go_ret
      exact ⟨by rw [hX.out]; rfl, rfl⟩

section
variable {P : Program} (w : World)
/-- An append onto an owned row of an owned row's elements, as one step of a region that draws its order. -/
theorem step_both {ops : Array Oper} {o : Oper} {a : Act} {K : Act → World → Prop} {Q : Exit → Act → World → Prop} {E : Prop} (hgd : o.guard = none) (s x : Operand) (t : TypeId)
    (ho : o.op = .call { callee := .builtin .append, args := #[s, x], argTypes := #[t, t] })
    (base : Nat) (e : TypeId) (i : TypeInfo) (z : Value) (size bytes : Nat) (ht : P.underlying t = some (.slice e)) (hi : P.info? e = some i) (hz : i.zero = some z)
    (hsize : i.size = size) (hby : i.bytes = bytes) (hzs : z.cells.size = size) (hsz : 0 < size)
    (v : Value) (n : Nat) (xs : List Value) (hs : a.eval s = v) (hown : w.ownsRow base e size v n xs)
    (base' : Nat) (u : Value) (m : Nat) (news : List Value) (hx : a.eval x = u) (hsrc : w.ownsRow base' e size u m news) (h1 : ∀ u ∈ news, u.oneCell' = true)
    (h63 : n + m ≤ maxLen) (hbytes : (n + m) * bytes ≤ 140737488355328) (hbase : base ≤ w.heap.size)
    (h : ∀ v' w', w'.ownsRow base e size v' (n + m) (xs ++ news) → w.grownBy w' v.ownBlock → (v'.ownBlock = v.ownBlock ∨ v'.ownBlock = some w.heap.size) → K (a.put o.dst v') w') :
    if Region.wanted o (yielded ops a.tmps) = true then Oper.wp P o a w K Q else E := by
  have hw : Region.wanted o (yielded ops a.tmps) = true := by simp [Region.wanted, hgd]
  rw [if_pos hw]
  rcases hsrc.2 with ⟨rfl, rfl⟩ | ⟨g, cap, cur, rfl, _, _⟩
  · obtain rfl : news = [] := List.eq_nil_of_length_eq_zero (by simpa using hsrc.1)
    have hr := run_append_owned_none (P := P) w base t o.type e i size ht hi v n xs hown
    unfold Oper.wp execOp
    simp only [ho, resolve, invoke, builtin, Sem.run_bind, Sem.run_pure, Result.andThen_ok, List.map_toArray, List.map_cons, List.map_nil, hs, hx, hr]
    exact h v w (by simpa using hown) (World.grownBy.refl w _) (.inl rfl)
  · obtain ⟨v', w', hr, h2, h3, _, h5⟩ := run_append_own_at (P := P) w base t o.type e i z size bytes ht hi hz hsize hby hzs hsz v n xs hown ⟨g, 0, none⟩ m cap news hsrc.1 (hsrc.cells (g := g) rfl) h1 h63 hbytes hbase
    unfold Oper.wp execOp
    simp only [ho, resolve, invoke, builtin, Sem.run_bind, Sem.run_pure, Result.andThen_ok, List.map_toArray, List.map_cons, List.map_nil, hs, hx, hr]
    exact h v' w' h2 h3 h5
end

theorem empty_row (W : World) : (W.alloc (.cells #[] 3)).ownsRow W.heap.size 3 1 (.slice (some ⟨W.heap.size, 0, none⟩) 0 0) 0 [] :=
  ⟨rfl, .inr ⟨W.heap.size, 0, #[], rfl, Nat.le_refl _, heap_alloc_new W _, Nat.le_refl _, by unfold maxLen; omega, rfl, rfl⟩⟩
theorem empty_row2 (W : World) : (W.alloc (.cells #[] 3)).ownsRow (W.heap.size - 1) 3 1 (.slice (some ⟨W.heap.size, 0, none⟩) 0 0) 0 [] :=
  own_more (empty_row W) (fun k hk => by simp only [Value.ownBlock, Option.some.injEq] at hk; omega)
theorem box_one_new2 {w : World} {g : Nat} {t : TypeId} {a : Value} (h : Box w g t #[a]) : ∀ j u, [a][j]? = some u → w.cell? ((⟨g, 0, none⟩ : Addr).add j) = some u := by
  intro j u hu
  match j with
  | 0 =>
    obtain rfl : a = u := by simpa using hu
    have e : (⟨g, 0, none⟩ : Addr).add 0 = ⟨g, 0, none⟩ := by simp [Addr.add]
    rw [e]
    exact h.cell 0
  | j + 1 => simp at hu
theorem bel_own {B : Nat} {w wx w6 : World} {e : TypeId} {size n : Nat} {v : Value} {xs : List Value} (hb : Below B w wx) (hB : B ≤ wx.heap.size) (ho : wx.ownsRow B e size v n xs) (hg : wx.grownBy w6 v.ownBlock) : Below B w w6 :=
  hb.trans ((Fr.of_grown (S := fun b => v.ownBlock = some b) hg (fun _ _ e => e)).below hB (fun b e => (ho.lt b e).1))
theorem nbox_keep {w w' : World} {g : Nat} {t : TypeId} {cs : Array Value} {v : Value} (h : Box w g t cs) (hg : w.grownBy w' v.ownBlock) (hne : v.ownBlock ≠ some g) : Box w' g t cs :=
  h.fr (Fr.of_grown (S := fun b => v.ownBlock = some b) hg (fun _ _ e => e)) hne
theorem ints_one (acc : List Int) : ∀ u ∈ acc.map (Value.int .i64), u.oneCell' = true := by
  intro u hu
  obtain ⟨a, _, rfl⟩ := List.mem_map.1 hu
  rfl

def RVars (f : Nat) : Prop := ∀ (t : Tm) (v : Value) (w : World) (S : Nat → Prop) (u : Value) (acc : List Int), Reads w S f t v → (∀ b, S b → b < w.heap.size) → w.ownsRow 0 3 1 u acc.length (acc.map (Value.int .i64)) → acc.length + t.size ≤ 1000000 →
    Calls Tryd.prog 28 #[v, u] w fun e w' => ∃ u', e = .returned u' ∧ w'.ownsRow 0 3 1 u' (t.vars acc).length ((t.vars acc).map (Value.int .i64)) ∧ Below w.heap.size w w'

set_option maxHeartbeats 4000000 in
set_option maxRecDepth 100000 in
theorem rvars_step {f : Nat} (ih : RVars f) : RVars (f + 1) := by
  rintro ⟨k, n, s, l⟩ v w S u acc ⟨A, c, rfl, h1, h2, h3, h4, h5, h6⟩ hS hu hz
  have IH := Lib.hid ih
  have H6 := Lib.hid h6
  have HS := Lib.hid hS
  have HU := Lib.hid hu
  rw [size_node] at hz
  have HSZ := Lib.hid hz
  obtain ⟨i0, hi, hz0, hz1, hz2⟩ := info_parts info3
  have HI := Lib.hid hi
  have HZ0 := Lib.hid hz0
  have HZ1 := Lib.hid hz1
  have HZ2 := Lib.hid hz2
  unfold maxLen at h2
  have hb0 : Below w.heap.size w (w.alloc (.cells #[.int .i64 k, .int .i64 n, .string s, .slice A l.length c] 24)) := (Below.refl _ w).alloc (Nat.le_refl _) _
  have HB0 := Lib.hid hb0
  have HBX := Lib.hid (Box.new w 24 #[.int .i64 k, .int .i64 n, .string s, .slice A l.length c])
  have HU0 := Lib.hid (own_below2 hu hb0)
  have HZW : Hid ((w.alloc (.cells #[.int .i64 k, .int .i64 n, .string s, .slice A l.length c] 24)).heap.size = w.heap.size + 1) := by show _ = _; simp
  obtain ⟨gb, hgb⟩ : ∃ gb, w.heap.size = gb := ⟨_, rfl⟩
  obtain ⟨w0, hw0⟩ : ∃ w0, w.alloc (.cells #[.int .i64 k, .int .i64 n, .string s, .slice A l.length c] 24) = w0 := ⟨_, rfl⟩
  have HGB := Lib.hid hgb
  have HW0 := Lib.hid hw0
  rw [hw0] at HB0 HBX HZW HU0
  rw [hgb] at HBX HZW
  clear ih h6 hS hu hz hi hz0 hz1 hz2 hb0 hw0 hgb h3 h4 h5
  have k0 : w0.cell? ⟨gb, 0, none⟩ = some (.int .i64 k) := HBX.out.cell 0
  have k1 : w0.cell? ⟨gb, 1, none⟩ = some (.int .i64 n) := HBX.out.cell 1
  by_cases e0 : k = 0
  · subst e0
    obtain ⟨bb, hbb⟩ : ∃ bb, decide (n ∈ acc) = bb := ⟨_, rfl⟩
    have HBB := Lib.hid hbb
    clear hbb
    cases bb
    · have HX : Hid ((Tm.node 0 n s l).vars acc = acc ++ [n]) := by
        show _ = _
        rw [Tm.vars, if_pos rfl]
        unfold addVar
        rw [if_neg (by simpa using HBB.out)]
      have k1a : ∀ o, ((w0.drewN 1).alloc o).cell? ⟨gb, 1, none⟩ = some (.int .i64 n) := fun o => ((HBX.out.drewN 1).alloc o).cell 1
      have k1b : ∀ o o', (((w0.drewN 1).alloc o).alloc o').cell? ⟨gb, 1, none⟩ = some (.int .i64 n) := fun o o' => (((HBX.out.drewN 1).alloc o).alloc o').cell 1
      have HUA := Lib.hid (fun o => own_below2 (own_drewN HU0.out 1) ((Below.refl (w0.drewN 1).heap.size (w0.drewN 1)).alloc (Nat.le_refl _) o))
      have HUB := Lib.hid (fun o o' => own_below2 (own_drewN HU0.out 1) (((Below.refl (w0.drewN 1).heap.size (w0.drewN 1)).alloc (Nat.le_refl _) o).alloc (by simp) o'))
      have hd1 : Below w0.heap.size w0 (w0.drewN 1) := ⟨rfl, rfl, rfl, Nat.le_refl _, fun _ _ => rfl⟩
      have HAA := Lib.hid (fun o => hd1.alloc (Nat.le_refl _) o)
      have HAB := Lib.hid (fun o o' => (hd1.alloc (Nat.le_refl _) o).alloc (by simp) o')
      clear hd1
      have HEA : Hid (((w0.drewN 1).alloc (.cells #[] 3)).ownsRow w0.heap.size 3 1 (.slice (some ⟨w0.heap.size, 0, none⟩) 0 0) 0 []) := empty_row (w0.drewN 1)
      have HEB : Hid ((((w0.drewN 1).alloc (.cells #[] 3)).alloc (.cells #[.int .i64 n] 3)).ownsRow w0.heap.size 3 1 (.slice (some ⟨w0.heap.size, 0, none⟩) 0 0) 0 []) := own_below2 HEA.out ((Below.refl _ _).alloc (Nat.le_refl _) _)
      have HEC : Hid ((((w0.drewN 1).alloc (.cells #[.int .i64 n] 3)).alloc (.cells #[] 3)).ownsRow w0.heap.size 3 1 (.slice (some ⟨w0.heap.size + 1, 0, none⟩) 0 0) 0 []) := by
        have e := empty_row ((w0.drewN 1).alloc (.cells #[.int .i64 n] 3))
        have e1 : ((w0.drewN 1).alloc (.cells #[.int .i64 n] 3)).heap.size = w0.heap.size + 1 := by simp
        rw [e1] at e
        exact own_more e (fun k hk => by simp only [Value.ownBlock, Option.some.injEq] at hk; omega)
      have HLA : Hid (w0.heap.size ≤ ((w0.drewN 1).alloc (.cells #[] 3)).heap.size) := by show _ ≤ _; simp
      have HLB : Hid (w0.heap.size ≤ (((w0.drewN 1).alloc (.cells #[] 3)).alloc (.cells #[.int .i64 n] 3)).heap.size) := by show _ ≤ _; simp; omega
      have HLC : Hid (w0.heap.size ≤ (((w0.drewN 1).alloc (.cells #[.int .i64 n] 3)).alloc (.cells #[] 3)).heap.size) := by show _ ≤ _; simp; omega
      have HNB : Hid (Box (((w0.drewN 1).alloc (.cells #[] 3)).alloc (.cells #[.int .i64 n] 3)) (w0.heap.size + 1) 3 #[.int .i64 n]) := by
        have e := Box.new ((w0.drewN 1).alloc (.cells #[] 3)) 3 #[.int .i64 n]
        have e1 : ((w0.drewN 1).alloc (.cells #[] 3)).heap.size = w0.heap.size + 1 := by simp
        rw [e1] at e
        exact e
      have HNC : Hid (Box (((w0.drewN 1).alloc (.cells #[.int .i64 n] 3)).alloc (.cells #[] 3)) w0.heap.size 3 #[.int .i64 n]) := (Box.new (w0.drewN 1) 3 #[.int .i64 n]).alloc _
      have HQB : Hid ((Value.slice (some ⟨w0.heap.size, 0, none⟩) 0 0).ownBlock ≠ some (w0.heap.size + 1)) := by show _ ≠ _; simp [Value.ownBlock]
      have HQC : Hid ((Value.slice (some ⟨w0.heap.size + 1, 0, none⟩) 0 0).ownBlock ≠ some w0.heap.size) := by show _ ≠ _; simp [Value.ownBlock]
      have HM1 : Hid (0 + acc.length ≤ maxLen) := by show _ ≤ _; have := HSZ.out; unfold maxLen; omega
      have HM2 : Hid ((0 + acc.length) * 8 ≤ 140737488355328) := by show _ ≤ _; have := HSZ.out; omega
      have HM3 : Hid (acc.length + 1 ≤ maxLen) := by show _ ≤ _; have := HSZ.out; unfold maxLen; omega
      have HM4 : Hid ((acc.length + 1) * 8 ≤ 140737488355328) := by show _ ≤ _; have := HSZ.out; omega
      go_enter Tryd.func28, Tryd.ntmps28
      go_upto_region 1 with (fail)
      rw [HW0.out, HGB.out]
      go_upto_region 3 with (go_at_call 40; refine (has_is HU0.out HBB.out).mono ?_; rintro e w' ⟨rfl, rfl⟩)
      go_region_held3 (fun w' => w'.cell? ⟨gb, 1, none⟩ = some (.int .i64 n))
        (first | exact hS6 | exact hS5a _ | exact hS5 | exact k1b _ _ | exact k1a _ | exact k1)
        (first
            | (refine step_both _ rfl (.tmp 14) (.tmp 15) 41 rfl w0.heap.size 3 i0 (.int .i64 0) 1 8 Tryd.underlying41 HI.out HZ0.out HZ1.out HZ2.out rfl (by decide) (.slice (some ⟨w0.heap.size, 0, none⟩) 0 0) 0 [] rfl HEA.out 0 u acc.length (acc.map (Value.int .i64)) rfl (HUA.out _) (ints_one acc) HM1.out HM2.out HLA.out ?_; intro v5 w5 hown5 hgr5 _; have HB5 := Lib.hid (bel_own (HAA.out (.cells #[] 3)) HLA.out HEA.out hgr5); have hS5 := (HBX.out.below HB5.out HBX.out.lt).cell 1; have hS5a := fun o => ((HBX.out.below HB5.out HBX.out.lt).alloc o).cell 1; rw [Nat.zero_add, List.nil_append] at hown5; have HO5 := Lib.hid hown5; clear hown5 hgr5)
            | (refine step_both _ rfl (.tmp 14) (.tmp 15) 41 rfl w0.heap.size 3 i0 (.int .i64 0) 1 8 Tryd.underlying41 HI.out HZ0.out HZ1.out HZ2.out rfl (by decide) (.slice (some ⟨w0.heap.size, 0, none⟩) 0 0) 0 [] rfl HEB.out 0 u acc.length (acc.map (Value.int .i64)) rfl (HUB.out _ _) (ints_one acc) HM1.out HM2.out HLB.out ?_; intro v5 w5 hown5 hgr5 _; have HB5 := Lib.hid (bel_own (HAB.out (.cells #[] 3) (.cells #[.int .i64 n] 3)) HLB.out HEB.out hgr5); have HNX := Lib.hid (nbox_keep HNB.out hgr5 HQB.out); have hS5 := (HBX.out.below HB5.out HBX.out.lt).cell 1; have hS5a := fun o => ((HBX.out.below HB5.out HBX.out.lt).alloc o).cell 1; rw [Nat.zero_add, List.nil_append] at hown5; have HO5 := Lib.hid hown5; clear hown5 hgr5)
            | (refine step_both _ rfl (.tmp 14) (.tmp 15) 41 rfl w0.heap.size 3 i0 (.int .i64 0) 1 8 Tryd.underlying41 HI.out HZ0.out HZ1.out HZ2.out rfl (by decide) (.slice (some ⟨w0.heap.size + 1, 0, none⟩) 0 0) 0 [] rfl HEC.out 0 u acc.length (acc.map (Value.int .i64)) rfl (HUB.out _ _) (ints_one acc) HM1.out HM2.out HLC.out ?_; intro v5 w5 hown5 hgr5 _; have HB5 := Lib.hid (bel_own (HAB.out (.cells #[.int .i64 n] 3) (.cells #[] 3)) HLC.out HEC.out hgr5); have HNY := Lib.hid (nbox_keep HNC.out hgr5 HQC.out); have hS5 := (HBX.out.below HB5.out HBX.out.lt).cell 1; have hS5a := fun o => ((HBX.out.below HB5.out HBX.out.lt).alloc o).cell 1; rw [Nat.zero_add, List.nil_append] at hown5; have HO5 := Lib.hid hown5; clear hown5 hgr5)
            | (refine step_own_at _ rfl (.tmp 16) (.tmp 19) 41 rfl w0.heap.size 3 i0 (.int .i64 0) 1 8 Tryd.underlying41 HI.out HZ0.out HZ1.out HZ2.out rfl (by decide) v5 acc.length _ rfl HO5.out ⟨w0.heap.size + 1, 0, none⟩ 1 1 [.int .i64 n] rfl rfl (box_one_new2 HNX.out) (one_word _ _) HM3.out HM4.out HB5.out.size ?_; intro v6 w6 hown6 hgr6 _; have HB6 := Lib.hid (bel_own HB5.out HB5.out.size HO5.out hgr6); have hS6 := (HBX.out.below HB6.out HBX.out.lt).cell 1; have HO6 := Lib.hid hown6; clear hown6 hgr6)
            | (refine step_own_at _ rfl (.tmp 16) (.tmp 19) 41 rfl w0.heap.size 3 i0 (.int .i64 0) 1 8 Tryd.underlying41 HI.out HZ0.out HZ1.out HZ2.out rfl (by decide) v5 acc.length _ rfl HO5.out ⟨w0.heap.size, 0, none⟩ 1 1 [.int .i64 n] rfl rfl (box_one_new2 HNY.out) (one_word _ _) HM3.out HM4.out HB5.out.size ?_; intro v6 w6 hown6 hgr6 _; have HB6 := Lib.hid (bel_own HB5.out HB5.out.size HO5.out hgr6); have hS6 := (HBX.out.below HB6.out HBX.out.lt).cell 1; have HO6 := Lib.hid hown6; clear hown6 hgr6)
            | (refine step_own_at _ rfl (.tmp 16) (.tmp 19) 41 rfl w0.heap.size 3 i0 (.int .i64 0) 1 8 Tryd.underlying41 HI.out HZ0.out HZ1.out HZ2.out rfl (by decide) v5 acc.length _ rfl (own_below2 HO5.out ((Below.refl _ _).alloc (Nat.le_refl _) _)) ⟨w5.heap.size, 0, none⟩ 1 1 [.int .i64 n] rfl rfl (cell_one_new _ _ _) (one_word _ _) HM3.out HM4.out (Nat.le_trans HB5.out.size (by simp)) ?_; intro v6 w6 hown6 hgr6 _; have HB6 := Lib.hid (bel_own (HB5.out.alloc HB5.out.size _) (Nat.le_trans HB5.out.size (by simp)) (own_below2 HO5.out ((Below.refl _ _).alloc (Nat.le_refl _) _)) hgr6); have hS6 := (HBX.out.below HB6.out HBX.out.lt).cell 1; have HO6 := Lib.hid hown6; clear hown6 hgr6)
            | fail)
      all_goals
        clear k0 k1 k1a k1b hS5 hS5a hS6
        go_wp2_with (fail)
        go_ret
        refine ⟨_, rfl, ?_, HB0.out.trans (HB6.out.mono HB0.out.size)⟩
        rw [HX.out]
        have e1 : (acc ++ [n]).length = acc.length + 1 := by simp
        have e2 : (acc ++ [n]).map (Value.int .i64) = acc.map (Value.int .i64) ++ [.int .i64 n] := by simp
        rw [e1, e2]
        exact own_more HO6.out (fun _ _ => Nat.zero_le _)
    · have HX : Hid ((Tm.node 0 n s l).vars acc = acc) := by
        show _ = _
        rw [Tm.vars, if_pos rfl]
        unfold addVar
        rw [if_pos (by simpa using HBB.out)]
      go_enter Tryd.func28, Tryd.ntmps28
      go_upto_region 1 with (fail)
      rw [HW0.out, HGB.out]
      go_wp2_with (go_at_call 40; refine (has_is HU0.out HBB.out).mono ?_; rintro e w' ⟨rfl, rfl⟩)
      go_ret
      refine ⟨_, rfl, ?_, HB0.out⟩
      rw [HX.out]
      exact HU0.out
  · have e0' : (k == 0) = false := by simpa using e0
    obtain ⟨res, hres⟩ : ∃ res, (Tm.node k n s l).vars acc = res := ⟨_, rfl⟩
    have HRES : Hid (res = varsL acc (l.drop 0)) := by
      show _ = _
      rw [← hres, Tm.vars, if_neg e0]
      rfl
    rw [hres]
    have hglt : gb < w0.heap.size := HBX.out.lt
    clear hres e0
    go_enter Tryd.func28, Tryd.ntmps28
    go_upto_region 1 with (fail)
    rw [HW0.out, HGB.out]
    go_wp2_with (fail)
    clear k0 k1
    go_loopw [1, 5] (fun a i wr => ∃ (j : Nat) (ac : List Int) (us : Value), a = us ∧ i = .int .i64 ((j : Nat) : Int) ∧ j ≤ l.length ∧ Hid (res = varsL ac (l.drop j)) ∧ Hid (ac.length + sizes (l.drop j) ≤ 1000000) ∧ Hid (wr.ownsRow 0 3 1 us ac.length (ac.map (Value.int .i64))) ∧ Hid (Below w0.heap.size w0 wr)) (fun _ i _ => l.length - (intOf i).toNat)
    case atStart => exact ⟨0, acc, u, rfl, rfl, Nat.zero_le _, HRES, by have := HSZ.out; show _ ≤ _; simp; omega, HU0, Below.refl _ _⟩
    case round =>
      obtain ⟨j, ac, us, rfl, rfl, hj, HR1, HZ, HO, HBr⟩ := hrel
      have r3 : wr.cell? ⟨gb, 3, none⟩ = some (.slice A l.length c) := (HBr.out.cell (p := ⟨gb, 3, none⟩) hglt).trans (HBX.out.cell 3)
      by_cases hlt : j < l.length
      · obtain ⟨b, off, v0, v1, v2, v3, rfl, hb, c0, c1, c2, c3, hr⟩ := H6.out j hlt
        have hbw : b < w.heap.size := HS.out b hb
        have hb1 := HB0.out.trans (HBr.out.mono HB0.out.size)
        have q0 := (hb1.cell (p := ⟨b, off + j * 4, none⟩) hbw).trans c0
        have q1 := (hb1.cell (p := ⟨b, off + j * 4 + 1, none⟩) hbw).trans c1
        have q2 := (hb1.cell (p := ⟨b, off + j * 4 + 2, none⟩) hbw).trans c2
        have q3 := (hb1.cell (p := ⟨b, off + j * 4 + 3, none⟩) hbw).trans c3
        have hd1 := varsL_drop ac l j hlt
        have hd2 := sizes_drop l j hlt
        have hvl := vars_len ac l[j]
        have hz1 := HZ.out
        rw [hd2] at hz1
        have HC := Lib.hid (IH.out l[j] (.agg #[v0, v1, v2, v3]) wr S _ ac (hr.below hb1 HS.out) (fun b hb => by have := HS.out b hb; have := hb1.size; omega) HO.out (by omega))
        have HR2 := Lib.hid (HR1.out.trans hd1)
        have HZ2' : Hid ((l[j].vars ac).length + sizes (l.drop (j + 1)) ≤ 1000000) := by show _ ≤ _; omega
        clear c0 c1 c2 c3 hr hd1 hd2 hvl hz1
        go_wp2_with (go_at_call 28; refine HC.out.mono ?_; rintro e w5 ⟨u5, rfl, ho5, hb5⟩; have HO5 := Lib.hid ho5; have HB5 := Lib.hid (HBr.out.trans (hb5.mono HBr.out.size)); clear ho5 hb5)
        go_roundw
        case rel => exact ⟨j + 1, _, u5, rfl, by go_num, by omega, HR2, HZ2', HO5, HB5⟩
        case measure => simp [intOf]; omega
      · have hge : (l.length : Int) ≤ (j : Int) := by omega
        have HX : Hid (res = ac) := by
          show _ = _
          rw [HR1.out, List.drop_eq_nil_of_le (by omega), varsL]
        go_wp2_with (fail)
        go_ret
        refine ⟨_, rfl, ?_, HB0.out.trans (HBr.out.mono HB0.out.size)⟩
        rw [HX.out]
        exact HO.out

theorem rvars_any : ∀ f, RVars f := by
  intro f
  induction f with
  | zero => intro t v w S u acc h; exact h.elim
  | succ f ih => exact rvars_step ih

set_option maxRecDepth 100000 in
theorem rVars_any {f : Nat} (l : List Tm) (A : Option Addr) (c : Nat) (w : World) (S : Nat → Prop) (hc : l.length ≤ c) (hcm : c ≤ maxLen)
    (hp : ∀ i (h : i < l.length), ∃ b off v0 v1 v2 v3, A = some ⟨b, off, none⟩ ∧ S b ∧ w.cell? ⟨b, off + i * 4, none⟩ = some v0 ∧ w.cell? ⟨b, off + i * 4 + 1, none⟩ = some v1 ∧
        w.cell? ⟨b, off + i * 4 + 2, none⟩ = some v2 ∧ w.cell? ⟨b, off + i * 4 + 3, none⟩ = some v3 ∧ Reads w S f l[i] (.agg #[v0, v1, v2, v3]))
    (hS : ∀ b, S b → b < w.heap.size) (hz : sizes l ≤ 1000000) :
    Calls Tryd.prog 17 #[.slice A l.length c] w fun e w' => ∃ vs, e = .returned vs ∧ w'.ownsRow 0 3 1 vs (varsL [] l).length ((varsL [] l).map (Value.int .i64)) ∧ Below w.heap.size w w' := by
  have HP := Lib.hid hp
  have HS := Lib.hid hS
  unfold maxLen at hcm
  obtain ⟨res, hres⟩ : ∃ res, varsL [] l = res := ⟨_, rfl⟩
  have HRES := Lib.hid hres.symm
  have HZ0 := Lib.hid hz
  rw [hres]
  clear hp hS hres hz
  go_enter Tryd.func17, Tryd.ntmps17
  go_wp2_with (fail)
  go_loopw [3, 4] (fun a i wr => ∃ (j : Nat) (ac : List Int) (us : Value), a = us ∧ i = .int .i64 ((j : Nat) : Int) ∧ j ≤ l.length ∧ Hid (res = varsL ac (l.drop j)) ∧ Hid (ac.length + sizes (l.drop j) ≤ 1000000) ∧ Hid (wr.ownsRow 0 3 1 us ac.length (ac.map (Value.int .i64))) ∧ Hid (Below w.heap.size w wr)) (fun _ i _ => l.length - (intOf i).toNat)
  case atStart => exact ⟨0, [], .slice none 0 0, rfl, rfl, Nat.zero_le _, HRES, by have := HZ0.out; show _ ≤ _; simp; omega, World.ownsRow_nil _ _ _ _, Below.refl _ _⟩
  case round =>
    obtain ⟨j, ac, us, rfl, rfl, hj, HR1, HZ, HO, HBr⟩ := hrel
    by_cases hlt : j < l.length
    · obtain ⟨b, off, v0, v1, v2, v3, rfl, hb, c0, c1, c2, c3, hr⟩ := HP.out j hlt
      have hbw : b < w.heap.size := HS.out b hb
      have q0 := (HBr.out.cell (p := ⟨b, off + j * 4, none⟩) hbw).trans c0
      have q1 := (HBr.out.cell (p := ⟨b, off + j * 4 + 1, none⟩) hbw).trans c1
      have q2 := (HBr.out.cell (p := ⟨b, off + j * 4 + 2, none⟩) hbw).trans c2
      have q3 := (HBr.out.cell (p := ⟨b, off + j * 4 + 3, none⟩) hbw).trans c3
      have hd1 := varsL_drop ac l j hlt
      have hd2 := sizes_drop l j hlt
      have hvl := vars_len ac l[j]
      have hz1 := HZ.out
      rw [hd2] at hz1
      have HC := Lib.hid (rvars_any f l[j] (.agg #[v0, v1, v2, v3]) wr S _ ac (hr.below HBr.out HS.out) (fun b hb => by have := HS.out b hb; have := HBr.out.size; omega) HO.out (by omega))
      have HR2 := Lib.hid (HR1.out.trans hd1)
      have HZ2' : Hid ((l[j].vars ac).length + sizes (l.drop (j + 1)) ≤ 1000000) := by show _ ≤ _; omega
      clear c0 c1 c2 c3 hr hd1 hd2 hvl hz1
      go_wp2_with (go_at_call 28; refine HC.out.mono ?_; rintro e w5 ⟨u5, rfl, ho5, hb5⟩; have HO5 := Lib.hid ho5; have HB5 := Lib.hid (HBr.out.trans (hb5.mono HBr.out.size)); clear ho5 hb5)
      go_roundw
      case rel => exact ⟨j + 1, _, u5, rfl, by go_num, by omega, HR2, HZ2', HO5, HB5⟩
      case measure => simp [intOf]; omega
    · have hge : (l.length : Int) ≤ (j : Int) := by omega
      have HX : Hid (res = ac) := by
        show _ = _
        rw [HR1.out, List.drop_eq_nil_of_le (by omega), varsL]
      go_wp2_with (fail)
      go_ret
      refine ⟨_, rfl, ?_, HBr.out⟩
      rw [HX.out]
      exact HO.out
end Go.Proofs.YtkfmagbaklikmaaDoor
