/-
  Terms copied from one type into another (resolventlaw03.To, From), each by a contract: new memory that reads as the same tree. Condition: at most a million parts.
-/
import Derived.Test.YtkfmagbaklikmaaDoorTermA
import Derived.Maps.AppendAt
import Derived.Deep.RegionLaw
namespace Go.Proofs.YtkfmagbaklikmaaDoor
open Go Go.RowKit
set_option linter.unusedVariables false

section
variable {P : Program} (w : World)
/-- An append onto an owned row, as one step of a region that draws its order; where the new row lies. -/
theorem step_own_at {ops : Array Oper} {o : Oper} {a : Act} {K : Act → World → Prop} {Q : Exit → Act → World → Prop} {E : Prop} (hgd : o.guard = none) (s x : Operand) (t : TypeId)
    (ho : o.op = .call { callee := .builtin .append, args := #[s, x], argTypes := #[t, t] })
    (base : Nat) (e : TypeId) (i : TypeInfo) (z : Value) (size bytes : Nat) (ht : P.underlying t = some (.slice e)) (hi : P.info? e = some i) (hz : i.zero = some z)
    (hsize : i.size = size) (hby : i.bytes = bytes) (hzs : z.cells.size = size) (hsz : 0 < size)
    (v : Value) (n : Nat) (xs : List Value) (hs : a.eval s = v) (hown : w.ownsRow base e size v n xs)
    (ad : Addr) (m c : Nat) (news : List Value) (hx : a.eval x = .slice (some ad) m c) (hl : news.length = m * size) (hnews : ∀ j u, news[j]? = some u → w.cell? (ad.add j) = some u) (h1 : ∀ u ∈ news, u.oneCell' = true)
    (h63 : n + m ≤ maxLen) (hbytes : (n + m) * bytes ≤ 140737488355328) (hbase : base ≤ w.heap.size)
    (h : ∀ v' w', w'.ownsRow base e size v' (n + m) (xs ++ news) → w.grownBy w' v.ownBlock → (v'.ownBlock = v.ownBlock ∨ v'.ownBlock = some w.heap.size) → K (a.put o.dst v') w') :
    if Region.wanted o (yielded ops a.tmps) = true then Oper.wp P o a w K Q else E := by
  have hw : Region.wanted o (yielded ops a.tmps) = true := by simp [Region.wanted, hgd]
  rw [if_pos hw]
  obtain ⟨v', w', hr, h2, h3, _, h5⟩ := run_append_own_at (P := P) w base t o.type e i z size bytes ht hi hz hsize hby hzs hsz v n xs hown ad m c news hl hnews h1 h63 hbytes hbase
  unfold Oper.wp execOp
  simp only [ho, resolve, invoke, builtin, Sem.run_bind, Sem.run_pure, Result.andThen_ok, List.map_toArray, List.map_cons, List.map_nil, hs, hx, hr]
  exact h v' w' h2 h3 h5
end

theorem cells_four (w : World) (a b c d : Value) (t : TypeId) : ∀ j u, [a, b, c, d][j]? = some u → (w.alloc (.cells #[a, b, c, d] t)).cell? ((⟨w.heap.size, 0, none⟩ : Addr).add j) = some u := by
  intro j u hu
  have e : (⟨w.heap.size, 0, none⟩ : Addr).add j = ⟨w.heap.size, j, none⟩ := by unfold Addr.add; split <;> simp_all
  rw [e, (Box.new w t #[a, b, c, d]).cell j]
  simpa using hu

theorem infoT : (Tryd.prog.info? 28).map (fun i => (i.zero, i.size, i.bytes)) = some (some (.agg #[.int .i64 0, .int .i64 0, .string ⟨#[]⟩, .slice none 0 0]), 4, 56) := by kernel_rfl
theorem infoR : (Tryd.prog.info? 24).map (fun i => (i.zero, i.size, i.bytes)) = some (some (.agg #[.int .i64 0, .int .i64 0, .string ⟨#[]⟩, .slice none 0 0]), 4, 56) := by kernel_rfl

theorem len_le_sizes : ∀ l : List Tm, l.length ≤ sizes l
  | [] => by simp
  | .node k n s r :: l => by
    have := len_le_sizes l
    simp [sizes, size_node]
    omega

/-- The first j parts stand in a row of values. -/
def Done (w : World) (S : Nat → Prop) (f : Nat) (l : List Tm) (j : Nat) (xs : List Value) : Prop :=
  ∀ i (h : i < l.length), i < j → ∃ y0 y1 y2 y3, xs[i * 4]? = some y0 ∧ xs[i * 4 + 1]? = some y1 ∧ xs[i * 4 + 2]? = some y2 ∧ xs[i * 4 + 3]? = some y3 ∧ Reads w S f l[i] (.agg #[y0, y1, y2, y3])

theorem Done.snoc {w w' : World} {S S' : Nat → Prop} {f : Nat} {l : List Tm} {j : Nat} {xs : List Value} {x0 x1 x2 x3 : Value} (h : Done w S f l j xs) (hx : xs.length = j * 4) (hj : j < l.length)
    (hS : ∀ b, S b → S' b) (hc : ∀ p : Addr, S p.block → w'.cell? p = w.cell? p) (hr : Reads w' S' f (l[j]'hj) (.agg #[x0, x1, x2, x3])) : Done w' S' f l (j + 1) (xs ++ [x0, x1, x2, x3]) := by
  intro i hi hij
  by_cases e : i = j
  · subst e
    refine ⟨x0, x1, x2, x3, ?_, ?_, ?_, ?_, hr⟩ <;> (rw [List.getElem?_append_right (by omega)]; simp [hx])
  · obtain ⟨y0, y1, y2, y3, a0, a1, a2, a3, hr'⟩ := h i hi (by omega)
    refine ⟨y0, y1, y2, y3, ?_, ?_, ?_, ?_, hr'.mono hS hc⟩ <;> (rw [List.getElem?_append_left (by omega)]; assumption)

/-- A whole row reads as a tree's parts. -/
theorem reads_of_done {w : World} {S : Nat → Prop} {base : Nat} {e : TypeId} {f : Nat} {k n : Int} {s : ByteArray} {l : List Tm} {A : Option Addr} {c : Nat} {xs : List Value} (ho : w.ownsRow base e 4 (.slice A l.length c) l.length xs) (h : Done w S f l l.length xs)
    (hs : s.size ≤ maxLen) (hk : (Lit.int .i64 k).wf = true) (hn : (Lit.int .i64 n).wf = true) {S' : Nat → Prop} (hS : ∀ b, S b → S' b) (hO : ∀ b, (Value.slice A l.length c).ownBlock = some b → S' b) :
    Reads w S' (f + 1) (.node k n s l) (.agg #[.int .i64 k, .int .i64 n, .string s, .slice A l.length c]) := by
  have hc : l.length ≤ c ∧ c ≤ maxLen := by
    rcases ho.2 with ⟨h0, h1⟩ | ⟨g, cap, cur, he, _, _, h2, h3, _⟩
    · simp only [Value.slice.injEq] at h0
      unfold maxLen
      omega
    · simp only [Value.slice.injEq, true_and] at he
      omega
  refine ⟨A, c, rfl, hc.1, hc.2, hs, hk, hn, fun i hi => ?_⟩
  obtain ⟨y0, y1, y2, y3, a0, a1, a2, a3, hr⟩ := h i hi hi
  rcases ho.2 with ⟨_, h1⟩ | ⟨g, cap, cur, he, _, _, h2, h3, _⟩
  · omega
  · simp only [Value.slice.injEq, true_and] at he
    obtain ⟨rfl, rfl⟩ := he
    refine ⟨g, 0, y0, y1, y2, y3, rfl, hO g rfl, ?_, ?_, ?_, ?_, hr.more hS⟩
    · rw [Nat.zero_add, ho.cellAt _ (by omega)]; exact a0
    · rw [Nat.zero_add, ho.cellAt _ (by omega)]; exact a1
    · rw [Nat.zero_add, ho.cellAt _ (by omega)]; exact a2
    · rw [Nat.zero_add, ho.cellAt _ (by omega)]; exact a3

/-- What a round of To keeps: the box of what came in, the result's, the copy's, the row. -/
structure ToKeeps (w wr : World) (f : Nat) (k n : Int) (s : ByteArray) (l : List Tm) (sl : Value) (g1 g2 g3 j : Nat) (vs : Value) (xs : List Value) : Prop where
  b1 : Box wr g1 24 #[.int .i64 k, .int .i64 n, .string s, sl]
  b2 : Box wr g2 28 #[.int .i64 0, .int .i64 0, .string ⟨#[]⟩, .slice none 0 0]
  b3 : Box wr g3 28 #[.int .i64 k, .int .i64 n, .string s, vs]
  new1 : w.heap.size ≤ g1
  new2 : w.heap.size ≤ g2
  new3 : w.heap.size ≤ g3
  ne23 : g2 ≠ g3
  ne13 : g1 ≠ g3
  row : wr.ownsRow w.heap.size 28 4 vs j xs
  row2 : vs.ownBlock ≠ some g2
  row3 : vs.ownBlock ≠ some g3
  done : Done wr (fun b => w.heap.size ≤ b ∧ b < wr.heap.size ∧ b ≠ g2 ∧ b ≠ g3 ∧ vs.ownBlock ≠ some b) f l j xs
  below : Below w.heap.size w wr

/-- One round's step: a part copied (w5), laid in a block, appended (w6), stored. -/
theorem ToKeeps.step {w wr w5 w6 : World} {f : Nat} {k n : Int} {s : ByteArray} {l : List Tm} {sl : Value} {g1 g2 g3 j : Nat} {vs vs' : Value} {xs : List Value} {x0 x1 x2 x3 : Value} {o : Obj}
    (h : ToKeeps w wr f k n s l sl g1 g2 g3 j vs xs) (hj : j < l.length) (hb5 : Below wr.heap.size wr w5)
    (hr : Reads w5 (fun b => wr.heap.size ≤ b ∧ b < w5.heap.size) f (l[j]'hj) (.agg #[x0, x1, x2, x3]))
    (hown : w6.ownsRow w.heap.size 28 4 vs' (j + 1) (xs ++ [x0, x1, x2, x3])) (hg : (w5.alloc o).grownBy w6 vs.ownBlock)
    (hl : vs'.ownBlock = vs.ownBlock ∨ vs'.ownBlock = some (w5.alloc o).heap.size) :
    Hid (ToKeeps w (w6.setCell ⟨g3, 3, none⟩ vs') f k n s l sl g1 g2 g3 (j + 1) vs' (xs ++ [x0, x1, x2, x3])) ∧
      w6.cell? ⟨g3, 3, none⟩ = some vs ∧ w6.frozen? ⟨g3, 3, none⟩ = false ∧ w6.cell? ⟨g1, 3, none⟩ = some sl := by
  have l1 := h.b1.lt
  have l2 := h.b2.lt
  have l3 := h.b3.lt
  have s0 := h.below.size
  have s5 := hb5.size
  have s6 := hg.size
  simp only [World.size_alloc] at s6 hl
  have hvs : ∀ b, vs.ownBlock = some b → b < wr.heap.size := fun b hb => (h.row.lt b hb).2
  have b56 : Fr (fun b => vs.ownBlock = some b) w5 w6 := ((Fr.refl _ w5).alloc o).trans (Fr.of_grown hg fun _ _ e => e)
  have f6 : Fr (fun b => vs.ownBlock = some b) wr w6 := (Fr.of_below hb5).trans b56
  have c3 := h.b3.fr f6 h.row3
  have c1 := h.b1.fr f6 (fun e => absurd (own_ne_box_of h.row h.b1 e) (by decide))
  have c2 := h.b2.fr f6 h.row2
  have hn2 : vs'.ownBlock ≠ some g2 := by
    rcases hl with e | e <;> rw [e]
    · exact h.row2
    · intro x
      injection x
      omega
  have hn3 : vs'.ownBlock ≠ some g3 := by
    rcases hl with e | e <;> rw [e]
    · exact h.row3
    · intro x
      injection x
      omega
  refine ⟨⟨c1.far h.ne13 _, c2.far h.ne23 _, ?_, h.new1, h.new2, h.new3, h.ne23, h.ne13, own_set_far hown (fun b e x => hn3 (by rw [e, x])) _, hn2, hn3, ?_, ?_⟩, c3.cell 3, c3.frozen 3, c1.cell 3⟩
  · have := c3.set_ 3 vs'
    simpa using this
  · have hxs : xs.length = j * 4 := h.row.1
    refine h.done.snoc hxs hj ?_ ?_ ?_
    · rintro b ⟨a1, a2, a3, a4, a5⟩
      refine ⟨a1, by simp [World.setCell]; omega, a3, a4, ?_⟩
      rcases hl with e | e <;> rw [e]
      · exact a5
      · intro x
        injection x
        omega
    · rintro p ⟨a1, a2, a3, a4, a5⟩
      have e1 : w6.cell? p = wr.cell? p := World.cell?_of_block (w := wr) (f6.block _ a2 a5)
      rw [← e1]
      exact World.cell?_of_block (w := w6) (Below.heap_setCell w6 ⟨g3, 3, none⟩ vs' p.block a4)
    · refine hr.mono ?_ ?_
      · rintro b ⟨a1, a2⟩
        refine ⟨by omega, by simp [World.setCell]; omega, by omega, by omega, ?_⟩
        rcases hl with e | e <;> rw [e]
        · intro x
          have := hvs b x
          omega
        · intro x
          injection x
          omega
      · rintro p ⟨a1, a2⟩
        have e1 : w6.cell? p = w5.cell? p := World.cell?_of_block (w := w5) (b56.block _ a2 (fun x => by have := hvs _ x; omega))
        rw [← e1]
        exact World.cell?_of_block (w := w6) (Below.heap_setCell w6 ⟨g3, 3, none⟩ vs' p.block (by show p.block ≠ g3; omega))
  · exact ((h.below.trans (hb5.mono s0)).trans (b56.below (by omega) (fun b e => (h.row.lt b e).1))).setCell (p := ⟨g3, 3, none⟩) h.new3 _

/-- A copy in new memory. -/
def Fresh (w : World) (f : Nat) (t : Tm) (e : Ending) (w' : World) : Prop :=
  ∃ v', e = .returned v' ∧ Reads w' (fun b => w.heap.size ≤ b ∧ b < w'.heap.size) f t v' ∧ Below w.heap.size w w'

set_option maxHeartbeats 2000000 in
theorem to_any (f : Nat) : ∀ (t : Tm) (v : Value) (w : World) (S : Nat → Prop), Reads w S f t v → (∀ b, S b → b < w.heap.size) → t.size ≤ 1000000 →
    Calls Tryd.prog 6 #[v] w fun e w' => Fresh w f t e w' := by
  induction f with
  | zero => intro t v w S h; exact h.elim
  | succ f ih =>
    rintro ⟨k, n, s, l⟩ v w S ⟨A, c, rfl, h1, h2, h3, h4, h5, h6⟩ hS hsz
    have IH := Lib.hid ih
    have H6 := Lib.hid h6
    have H4 := Lib.hid h4
    have H5 := Lib.hid h5
    have H3 := Lib.hid h3
    obtain ⟨i0, hi, hz0, hz1, hz2⟩ := info_parts infoT
    have hll : l.length ≤ 1000000 := by
      have := len_le_sizes l
      rw [size_node] at hsz
      omega
    have hpart : ∀ j (h : j < l.length), l[j].size ≤ 1000000 := fun j h => by
      have e1 := sizes_take l j h
      have e2 := sizes_take_le l (j + 1)
      rw [size_node] at hsz
      omega
    have HPT := Lib.hid hpart
    clear ih h6 h4 h5 h3 hpart
    unfold maxLen at h2
    go_enter Tryd.func6, Tryd.ntmps6
    go_wp2_with fail
    have K0 : Hid (ToKeeps w (((w.alloc (.cells #[.int .i64 k, .int .i64 n, .string s, .slice A l.length c] 24)).alloc (.cells #[.int .i64 0, .int .i64 0, .string ⟨#[]⟩, .slice none 0 0] 28)).alloc (.cells #[.int .i64 k, .int .i64 n, .string s, .slice none 0 0] 28)) f k n s l (.slice A l.length c) w.heap.size (w.heap.size + 1) (w.heap.size + 1 + 1) 0 (.slice none 0 0) []) := by
      refine ⟨((Box.new w _ _).alloc _).alloc _, ?_, ?_, Nat.le_refl _, by omega, by omega, by omega, by omega, World.ownsRow_nil _ _ _ _, by simp [Value.ownBlock], by simp [Value.ownBlock], fun i h h' => absurd h' (by omega), (((Below.refl _ w).alloc (Nat.le_refl _) _).alloc (by simp) _).alloc (by simp; omega) _⟩
      · have := (Box.new (w.alloc (.cells #[.int .i64 k, .int .i64 n, .string s, .slice A l.length c] 24)) 28 #[.int .i64 0, .int .i64 0, .string ⟨#[]⟩, .slice none 0 0]).alloc (.cells #[.int .i64 k, .int .i64 n, .string s, .slice none 0 0] 28)
        simpa using this
      · have := Box.new ((w.alloc (.cells #[.int .i64 k, .int .i64 n, .string s, .slice A l.length c] 24)).alloc (.cells #[.int .i64 0, .int .i64 0, .string ⟨#[]⟩, .slice none 0 0] 28)) 28 #[.int .i64 k, .int .i64 n, .string s, .slice none 0 0]
        simpa using this
    obtain ⟨w0, hw0⟩ : ∃ w0, ((w.alloc (.cells #[.int .i64 k, .int .i64 n, .string s, .slice A l.length c] 24)).alloc (.cells #[.int .i64 0, .int .i64 0, .string ⟨#[]⟩, .slice none 0 0] 28)).alloc (.cells #[.int .i64 k, .int .i64 n, .string s, .slice none 0 0] 28) = w0 := ⟨_, rfl⟩
    obtain ⟨g3, hg3⟩ : ∃ g3, w.heap.size + 1 + 1 = g3 := ⟨_, rfl⟩
    obtain ⟨g2, hg2⟩ : ∃ g2, w.heap.size + 1 = g2 := ⟨_, rfl⟩
    obtain ⟨g1, hg1⟩ : ∃ g1, w.heap.size = g1 := ⟨_, rfl⟩
    have K1 : Hid (ToKeeps w w0 f k n s l (.slice A l.length c) g1 g2 g3 0 (.slice none 0 0) []) := by
      rw [← hw0, ← hg1, ← hg2, ← hg3]
      exact K0
    rw [hw0, hg3, hg2, hg1]
    clear hw0 hg3 hg2 hg1 K0
    go_loopw [4] (fun i wr => ∃ (j : Nat) (vs : Value) (xs : List Value), j ≤ l.length ∧ i = .int .i64 j ∧ Hid (ToKeeps w wr f k n s l (.slice A l.length c) g1 g2 g3 j vs xs)) (fun i _ => l.length - (intOf i).toNat)
    case atStart => exact ⟨0, _, _, Nat.zero_le _, rfl, K1⟩
    case round =>
      obtain ⟨j, vs, xs, hj, rfl, KR⟩ := hrel
      clear K1
      have k1 : wr.cell? ⟨g1, 3, none⟩ = some (.slice A l.length c) := KR.out.b1.cell 3
      have k3 : wr.cell? ⟨g3, 3, none⟩ = some vs := KR.out.b3.cell 3
      by_cases hlt : j < l.length
      · obtain ⟨b, off, v0, v1, v2, v3, rfl, hb, c0, c1, c2, c3, hr⟩ := H6.out j hlt
        have hbl := KR.out.below
        have hbw : b < w.heap.size := hS b hb
        have q0 := (hbl.cell (p := ⟨b, off + j * 4, none⟩) hbw).trans c0
        have q1 := (hbl.cell (p := ⟨b, off + j * 4 + 1, none⟩) hbw).trans c1
        have q2 := (hbl.cell (p := ⟨b, off + j * 4 + 2, none⟩) hbw).trans c2
        have q3 := (hbl.cell (p := ⟨b, off + j * 4 + 3, none⟩) hbw).trans c3
        have HR := Lib.hid (IH.out l[j] _ (wr.drewN 1) S ((hr.below hbl hS).drewN 1) (fun b hb => by have := hbl.size; have := hS b hb; simp; omega) (HPT.out j hlt))
        obtain ⟨A3, cp3, hv3, _⟩ := own_form KR.out.row
        subst hv3
        have hsz := hbl.size
        have l1 := KR.out.b1.lt
        have l3 := KR.out.b3.lt
        have j0 : (0 : Int) ≤ (j : Int) := by omega
        have j1 : (j : Int) < (l.length : Int) := by omega
        clear c0 c1 c2 c3 hr hbl
        go_upto_region 5 with fail
        go_region_law
          (first
            | (go_simp; go_at_call 6; refine HR.out.mono ?_; intro e w5 hc5; obtain ⟨v5, rfl, hr5, hb5⟩ := hc5; obtain ⟨k5, n5, s5, A5, m5, c5, hv5⟩ := hr5.form; rw [hv5] at hr5; rw [hv5]; clear hv5; have hS5 := And.intro (And.intro ((hb5.cell (p := ⟨g1, 3, none⟩) l1).trans k1) ((hb5.cell (p := ⟨g3, 3, none⟩) l3).trans k3)) (And.intro ((hb5.cell (p := ⟨b, off + j * 4, none⟩) (by simp; omega)).trans q0) (And.intro ((hb5.cell (p := ⟨b, off + j * 4 + 1, none⟩) (by simp; omega)).trans q1) (And.intro ((hb5.cell (p := ⟨b, off + j * 4 + 2, none⟩) (by simp; omega)).trans q2) ((hb5.cell (p := ⟨b, off + j * 4 + 3, none⟩) (by simp; omega)).trans q3)))); have hw5 : wr.heap.size ≤ w5.heap.size := hb5.size; have hS5a := fun o => And.intro (And.intro ((cell_alloc_lt w5 o (p := ⟨g1, 3, none⟩) (by show g1 < _; omega)).trans hS5.1.1) ((cell_alloc_lt w5 o (p := ⟨g3, 3, none⟩) (by show g3 < _; omega)).trans hS5.1.2)) (And.intro ((cell_alloc_lt w5 o (p := ⟨b, off + j * 4, none⟩) (by show b < _; omega)).trans hS5.2.1) (And.intro ((cell_alloc_lt w5 o (p := ⟨b, off + j * 4 + 1, none⟩) (by show b < _; omega)).trans hS5.2.2.1) (And.intro ((cell_alloc_lt w5 o (p := ⟨b, off + j * 4 + 2, none⟩) (by show b < _; omega)).trans hS5.2.2.2.1) ((cell_alloc_lt w5 o (p := ⟨b, off + j * 4 + 3, none⟩) (by show b < _; omega)).trans hS5.2.2.2.2)))))
            | (refine step_own_at _ rfl (.tmp 20) (.tmp 27) 26 rfl w.heap.size 28 i0 _ 4 56 Tryd.underlying26 hi hz0 hz1 hz2 rfl (by decide) (.slice A3 j cp3) j xs rfl (own_fr (S := fun _ => False) (w := wr) KR.out.row ((Fr.of_below (S := fun _ => False) (w := wr) (below_from_drewN (m := 1) hb5)).alloc _) (fun _ _ x => x)) ⟨w5.heap.size, 0, none⟩ 1 1 [.int .i64 k5, .int .i64 n5, .string s5, .slice A5 m5 c5] rfl rfl (cells_four _ _ _ _ _ _) (by intro u hu; simp only [List.mem_cons, List.not_mem_nil, or_false] at hu; rcases hu with rfl | rfl | rfl | rfl <;> rfl) (by unfold maxLen; omega) (by omega) (by have := hb5.size; simp at this ⊢; omega) ?_; intro v6 w6 hown6 hgr6 hloc6; obtain ⟨hK6, z3, zf, z1⟩ := KR.out.step hlt (below_from_drewN (m := 1) hb5) hr5 hown6 hgr6 hloc6; obtain ⟨A6, cp6, hv6, _⟩ := own_form hown6; rw [hv6] at hK6 ⊢; clear hv6 hown6 hgr6 hloc6))
        all_goals
          clear KR IH HR q0 q1 q2 q3 k1 k3
          go_wp2_with fail
          go_roundw
          case rel => exact ⟨j + 1, _, _, by omega, by go_num, hK6⟩
          case measure => simp [intOf]; omega
      · have hje : j = l.length := by omega
        subst hje
        obtain ⟨A3, cp3, hv3, _⟩ := own_form KR.out.row
        subst hv3
        have hge : (l.length : Int) ≤ (l.length : Int) := by omega
        have m0 : wr.cell? ⟨g3, 0, none⟩ = some (.int .i64 k) := KR.out.b3.cell 0
        have m1 : wr.cell? ⟨g3, 1, none⟩ = some (.int .i64 n) := KR.out.b3.cell 1
        have m2 : wr.cell? ⟨g3, 2, none⟩ = some (.string s) := KR.out.b3.cell 2
        have r0 : wr.cell? ⟨g2, 0, none⟩ = some (.int .i64 0) := KR.out.b2.cell 0
        have r1 : wr.cell? ⟨g2, 1, none⟩ = some (.int .i64 0) := KR.out.b2.cell 1
        have r2 : wr.cell? ⟨g2, 2, none⟩ = some (.string ⟨#[]⟩) := KR.out.b2.cell 2
        have r3 : wr.cell? ⟨g2, 3, none⟩ = some (.slice none 0 0) := KR.out.b2.cell 3
        have z0 : wr.frozen? ⟨g2, 0, none⟩ = false := KR.out.b2.frozen 0
        have z1 : wr.frozen? ⟨g2, 1, none⟩ = false := KR.out.b2.frozen 1
        have z2 : wr.frozen? ⟨g2, 2, none⟩ = false := KR.out.b2.frozen 2
        have z3 : wr.frozen? ⟨g2, 3, none⟩ = false := KR.out.b2.frozen 3
        obtain ⟨w4, hw4⟩ : ∃ w4, (((wr.setCell ⟨g2, 0, none⟩ (.int .i64 k)).setCell ⟨g2, 1, none⟩ (.int .i64 n)).setCell ⟨g2, 2, none⟩ (.string s)).setCell ⟨g2, 3, none⟩ (.slice A3 l.length cp3) = w4 := ⟨_, rfl⟩
        have hb4 : Box w4 g2 28 #[.int .i64 k, .int .i64 n, .string s, .slice A3 l.length cp3] := by
          rw [← hw4]
          have := (((KR.out.b2.set_ 0 (.int .i64 k)).set_ 1 (.int .i64 n)).set_ 2 (.string s)).set_ 3 (.slice A3 l.length cp3)
          simpa using this
        have hf4 : Fr (fun b => b = g2) wr w4 := by
          rw [← hw4]
          exact ((((Fr.refl (fun b => b = g2) wr).setCell (p := ⟨g2, 0, none⟩) (.inl rfl) _).setCell (p := ⟨g2, 1, none⟩) (.inl rfl) _).setCell (p := ⟨g2, 2, none⟩) (.inl rfl) _).setCell (p := ⟨g2, 3, none⟩) (.inl rfl) _
        have HW := Lib.hid hw4
        have t0 : w4.cell? ⟨g2, 0, none⟩ = some (.int .i64 k) := hb4.cell 0
        have t1 : w4.cell? ⟨g2, 1, none⟩ = some (.int .i64 n) := hb4.cell 1
        have t2 : w4.cell? ⟨g2, 2, none⟩ = some (.string s) := hb4.cell 2
        have t3 : w4.cell? ⟨g2, 3, none⟩ = some (.slice A3 l.length cp3) := hb4.cell 3
        have hdone : Done w4 (fun b => w.heap.size ≤ b ∧ b < wr.heap.size ∧ b ≠ g2 ∧ b ≠ g3 ∧ (Value.slice A3 l.length cp3).ownBlock ≠ some b) f l l.length xs := by
          intro i hi hij
          obtain ⟨y0, y1, y2, y3, a0, a1, a2, a3, hr⟩ := KR.out.done i hi hij
          exact ⟨y0, y1, y2, y3, a0, a1, a2, a3, hr.fr hf4 (fun b hb => ⟨hb.2.1, hb.2.2.1⟩)⟩
        have hrow : w4.ownsRow w.heap.size 28 4 (.slice A3 l.length cp3) l.length xs := own_fr KR.out.row hf4 (fun b e x => KR.out.row2 (by rw [e, x]))
        have HF : Hid (Fresh w (f + 1) (.node k n s l) (.returned (.agg #[.int .i64 k, .int .i64 n, .string s, .slice A3 l.length cp3])) w4) := by
          refine ⟨_, rfl, reads_of_done hrow hdone H3.out H4.out H5.out ?_ ?_, KR.out.below.trans (hf4.below KR.out.below.size (fun b e => by rw [e]; exact KR.out.new2))⟩
          · rintro b ⟨a1, a2, _⟩
            have := hf4.size
            exact ⟨a1, by omega⟩
          · intro b hb
            have := hrow.lt b hb
            exact this
        clear hdone hrow hf4 hb4 hw4 KR IH
        go_wp2_with fail
        rw [HW.out]
        exact bodyPost_ret (v := .agg #[.int .i64 k, .int .i64 n, .string s, .slice A3 l.length cp3]) (by simp [results, Tryd.results6, go_sem, t0, t1, t2, t3]) rfl HF.out

end Go.Proofs.YtkfmagbaklikmaaDoor
