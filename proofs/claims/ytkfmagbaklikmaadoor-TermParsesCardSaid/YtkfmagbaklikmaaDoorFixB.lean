/-
  One that may be, out of any (resolventref03.Fix), by a contract. Conditions: the value reads as a tree; a depth of at most 4; the number of parts left from -1000000 to 1000000.
-/
import Derived.Test.YtkfmagbaklikmaaDoorFix
import Derived.Test.YtkfmagbaklikmaaDoorParseE
namespace Go.Proofs.YtkfmagbaklikmaaDoor
open Go Go.RowKit
set_option linter.unusedVariables false
set_option linter.unusedSimpArgs false

/-- What stands in a round of Fix: the box of what came in, the result's cell, the copy's box, its row. -/
structure Fk (w wr : World) (F : Nat) (in1 : Array Value) (k n : Int) (nm : ByteArray) (g1 g2 g3 : Nat) (ts : List Tm) (vs : Value) (xs : List Value) : Prop where
  b1 : Box wr g1 24 in1
  b2 : Box wr g2 24 #[.int .i64 0, .int .i64 0, .string ⟨#[]⟩, .slice none 0 0]
  b3 : Box wr g3 24 #[.int .i64 k, .int .i64 n, .string nm, vs]
  new1 : w.heap.size ≤ g1
  new2 : w.heap.size ≤ g2
  new3 : w.heap.size ≤ g3
  ne13 : g1 ≠ g3
  ne23 : g2 ≠ g3
  row : wr.ownsRow w.heap.size 24 4 vs ts.length xs
  row1 : vs.ownBlock ≠ some g1
  row2 : vs.ownBlock ≠ some g2
  row3 : vs.ownBlock ≠ some g3
  done : Done wr (fun b => w.heap.size ≤ b ∧ b < wr.heap.size ∧ b ≠ g2 ∧ b ≠ g3 ∧ vs.ownBlock ≠ some b) F ts ts.length xs
  below : Below w.heap.size w wr
section
variable {w wr wl w6 : World} {F : Nat} {in1 : Array Value} {k n : Int} {nm : ByteArray} {g1 g2 g3 : Nat} {ts : List Tm} {vs vs' : Value} {xs : List Value}
theorem Fk.go (h : Fk w wr F in1 k n nm g1 g2 g3 ts vs xs) (hb : Below wr.heap.size wr wl) : Fk w wl F in1 k n nm g1 g2 g3 ts vs xs :=
  ⟨h.b1.below hb h.b1.lt, h.b2.below hb h.b2.lt, h.b3.below hb h.b3.lt, h.new1, h.new2, h.new3, h.ne13, h.ne23, own_below2 h.row hb, h.row1, h.row2, h.row3,
    fun i hi hij => by
      obtain ⟨y0, y1, y2, y3, a0, a1, a2, a3, hr⟩ := h.done i hi hij
      exact ⟨y0, y1, y2, y3, a0, a1, a2, a3, (hr.below hb (fun b hb' => hb'.2.1)).more (fun b hb' => ⟨hb'.1, by have := hb.size; omega, hb'.2.2⟩)⟩, h.below.trans (hb.mono h.below.size)⟩
/-- A part made (wl), laid in a block, appended (w6), the row stored. -/
theorem Fk.step (h : Fk w wr F in1 k n nm g1 g2 g3 ts vs xs) {t : Tm} {x0 x1 x2 x3 : Value} {o o' : Obj} (hb : Below wr.heap.size wr wl) (ht : Reads wl (fun b => wr.heap.size ≤ b ∧ b < wl.heap.size) F t (.agg #[x0, x1, x2, x3]))
    (hown : w6.ownsRow w.heap.size 24 4 vs' (ts.length + 1) (xs ++ [x0, x1, x2, x3])) (hg : ((wl.alloc o).alloc o').grownBy w6 vs.ownBlock) (hl : vs'.ownBlock = vs.ownBlock ∨ vs'.ownBlock = some ((wl.alloc o).alloc o').heap.size) :
    Fk w (w6.setCell ⟨g3, 3, none⟩ vs') F in1 k n nm g1 g2 g3 (ts ++ [t]) vs' (xs ++ [x0, x1, x2, x3]) ∧ w6.cell? ⟨g3, 3, none⟩ = some vs ∧ w6.frozen? ⟨g3, 3, none⟩ = false := by
  have A := (h.go hb)
  have l1 := h.b1.lt
  have l2 := h.b2.lt
  have l3 := h.b3.lt
  have s0 := h.below.size
  have s5 := hb.size
  have s6 := hg.size
  simp only [World.size_alloc] at s6 hl
  have hvs : ∀ b, vs.ownBlock = some b → w.heap.size ≤ b ∧ b < wr.heap.size := fun b hb => h.row.lt b hb
  have b56 : Fr (fun b => vs.ownBlock = some b) wl w6 := (((Fr.refl _ wl).alloc o).alloc o').trans (Fr.of_grown hg fun _ _ e => e)
  have f6 : Fr (fun b => vs.ownBlock = some b) wr w6 := (Fr.of_below hb).trans b56
  have c3 := h.b3.fr f6 h.row3
  have c1 := h.b1.fr f6 h.row1
  have c2 := h.b2.fr f6 h.row2
  have hn : ∀ g, vs.ownBlock ≠ some g → g < wr.heap.size → vs'.ownBlock ≠ some g := by
    intro g hg' hlt
    rcases hl with e | e <;> rw [e]
    · exact hg'
    · intro x
      injection x
      omega
  have hn1 := hn g1 h.row1 l1
  have hn2 := hn g2 h.row2 l2
  have hn3 := hn g3 h.row3 l3
  refine ⟨⟨c1.far h.ne13 _, c2.far h.ne23 _, ?_, h.new1, h.new2, h.new3, h.ne13, h.ne23, ?_, hn1, hn2, hn3, ?_, ?_⟩, c3.cell 3, c3.frozen 3⟩
  · have := c3.set_ 3 vs'
    simpa using this
  · have e : (ts ++ [t]).length = ts.length + 1 := by simp
    rw [e]
    exact own_set_far hown (fun b e x => hn3 (by rw [e, x])) _
  · refine Done.app h.done h.row.1 ?_ ?_ ?_
    · rintro b ⟨a1, a2, a3, a4, a5⟩
      refine ⟨a1, by simp [World.setCell]; omega, a3, a4, ?_⟩
      rcases hl with e | e <;> rw [e]
      · exact a5
      · intro x
        injection x
        omega
    · rintro p ⟨a1, a2, a3, a4, a5⟩
      have e1 : w6.cell? p = wr.cell? p := World.cell?_of_block (w := wr) (f6.block _ a2 a5)
      rw [← e1]
      exact World.cell?_of_block (w := w6) (Below.heap_setCell w6 ⟨g3, 3, none⟩ vs' p.block a4)
    · refine ht.mono ?_ ?_
      · rintro b ⟨a1, a2⟩
        refine ⟨by omega, by simp [World.setCell]; omega, by omega, by omega, ?_⟩
        rcases hl with e | e <;> rw [e]
        · intro x
          have := hvs b x
          omega
        · intro x
          injection x
          omega
      · rintro p ⟨a1, a2⟩
        have e1 : w6.cell? p = wl.cell? p := World.cell?_of_block (w := wl) (b56.block _ a2 (fun x => by have := hvs _ x; omega))
        rw [← e1]
        exact World.cell?_of_block (w := w6) (Below.heap_setCell w6 ⟨g3, 3, none⟩ vs' p.block (by show p.block ≠ g3; omega))
  · exact ((h.below.trans (hb.mono s0)).trans (b56.below (by omega) (fun b e => (h.row.lt b e).1))).setCell (p := ⟨g3, 3, none⟩) h.new3 _
end

theorem fk_end {w wr W : World} {F : Nat} {in1 : Array Value} {k n : Int} {nm : ByteArray} {g1 g2 g3 : Nat} {ts : List Tm} {A : Option Addr} {c : Nat} {xs : List Value} (h : Fk w wr F in1 k n nm g1 g2 g3 ts (.slice A ts.length c) xs)
    (hs : nm.size ≤ maxLen) (hk : (Lit.int .i64 k).wf = true) (hn : (Lit.int .i64 n).wf = true) (hf : Fr (fun b => b = g2) wr W) :
    Reads W (fun b => w.heap.size ≤ b ∧ b < W.heap.size) (F + 1) (.node k n nm ts) (.agg #[.int .i64 k, .int .i64 n, .string nm, .slice A ts.length c]) ∧ Below w.heap.size w W := by
  have hrow : W.ownsRow w.heap.size 24 4 (.slice A ts.length c) ts.length xs := own_fr h.row hf (fun b e x => h.row2 (by rw [e, x]))
  have hdone : Done W (fun b => w.heap.size ≤ b ∧ b < wr.heap.size ∧ b ≠ g2 ∧ b ≠ g3 ∧ (Value.slice A ts.length c).ownBlock ≠ some b) F ts ts.length xs := by
    intro i hi hij
    obtain ⟨y0, y1, y2, y3, a0, a1, a2, a3, hr⟩ := h.done i hi hij
    exact ⟨y0, y1, y2, y3, a0, a1, a2, a3, hr.fr hf (fun b hb => ⟨hb.2.1, hb.2.2.1⟩)⟩
  refine ⟨reads_of_done hrow hdone hs hk hn ?_ ?_, h.below.trans (hf.below h.below.size (fun b e => by rw [e]; exact h.new2))⟩
  · rintro b ⟨a1, a2, _⟩
    have := hf.size
    exact ⟨a1, by omega⟩
  · intro b hb
    exact hrow.lt b hb
def FixOk (w : World) (d : Nat) (t : Tm) (left : Int) (e : Ending) (w' : World) : Prop :=
  ∃ v', e = .returned (.tuple #[v', .int .i64 (fixT d t left).2]) ∧ Reads w' (fun b => w.heap.size ≤ b ∧ b < w'.heap.size) (d + 1) (fixT d t left).1 v' ∧ Below w.heap.size w w'
def FixC (d : Nat) : Prop := ∀ (t : Tm) (v : Value) (w : World) (S : Nat → Prop) (f : Nat) (left : Int), Reads w S f t v → (∀ b, S b → b < w.heap.size) → -1000000 ≤ left → left ≤ 1000000 →
    Calls Tryd.prog 22 #[v, .int .i64 ((d : Nat) : Int), .int .i64 left] w fun e w' => FixOk w d t left e w'

theorem fix_small (kk nn : Int) (s : ByteArray) (l : List Tm) (d : Nat) (left K : Int) (hK : fixKind kk d left = K) (h1 : K ≤ 1) :
    fixT d (.node kk nn s l) left = (.node K (if K = 0 then modU nn 6 else 0) (fixName K nn) [], left - 1) := by
  have hw := (fixWant_range K nn).2.2.2 h1
  cases d with
  | zero => rw [fixT, hK]
  | succ d =>
    rw [fixT]
    simp only [hK, hw, fixL]
theorem fk_start (w : World) (F : Nat) (in1 : Array Value) (K N : Int) (nm : ByteArray) : Fk w ((((w.alloc (.cells in1 24)).alloc (.cells #[.int .i64 0, .int .i64 0, .string ⟨#[]⟩, .slice none 0 0] 24)).alloc (.cells #[.string ⟨#[97]⟩, .string ⟨#[98]⟩, .string ⟨#[99]⟩, .string ⟨#[102]⟩, .string ⟨#[103]⟩] 9)).alloc (.cells #[.int .i64 (K), .int .i64 N, .string nm, .slice none 0 0] 24)) F in1 K N nm w.heap.size (w.heap.size + 1) (w.heap.size + 1 + 1 + 1) [] (.slice none 0 0) [] := by
  refine ⟨(((Box.new w _ _).alloc _).alloc _).alloc _, ?_, ?_, Nat.le_refl _, by omega, by omega, by omega, by omega, World.ownsRow_nil _ _ _ _, by simp [Value.ownBlock], by simp [Value.ownBlock], by simp [Value.ownBlock], fun i h => by simp at h, ((((Below.refl _ w).alloc (Nat.le_refl _) _).alloc (by simp) _).alloc (by simp; omega) _).alloc (by simp; omega) _⟩
  · have := ((Box.new (w.alloc (.cells in1 24)) 24 #[.int .i64 0, .int .i64 0, .string ⟨#[]⟩, .slice none 0 0]).alloc (.cells #[.string ⟨#[97]⟩, .string ⟨#[98]⟩, .string ⟨#[99]⟩, .string ⟨#[102]⟩, .string ⟨#[103]⟩] 9)).alloc (.cells #[.int .i64 K, .int .i64 N, .string nm, .slice none 0 0] 24)
    simpa using this
  · have := Box.new (((w.alloc (.cells in1 24)).alloc (.cells #[.int .i64 0, .int .i64 0, .string ⟨#[]⟩, .slice none 0 0] 24)).alloc (.cells #[.string ⟨#[97]⟩, .string ⟨#[98]⟩, .string ⟨#[99]⟩, .string ⟨#[102]⟩, .string ⟨#[103]⟩] 9)) 24 #[.int .i64 K, .int .i64 N, .string nm, .slice none 0 0]
    simpa using this

set_option maxHeartbeats 4000000 in
set_option maxRecDepth 100000 in
theorem fix_few (d : Nat) (kk nn : Int) (s : ByteArray) (l : List Tm) (v : Value) (w : World) (S : Nat → Prop) (f : Nat) (left : Int) (hr : Reads w S f (.node kk nn s l) v) (hS : ∀ b, S b → b < w.heap.size) (hl0 : -1000000 ≤ left) (hl1 : left ≤ 1000000) (hsm : fixKind kk d left ≤ 1) (hd4 : d ≤ 4) :
    Calls Tryd.prog 22 #[v, .int .i64 ((d : Nat) : Int), .int .i64 left] w fun e w' => FixOk w d (.node kk nn s l) left e w' := by
  obtain ⟨f, rfl⟩ : ∃ f', f = f' + 1 := by
    cases f with
    | zero => exact hr.elim
    | succ f' => exact ⟨f', rfl⟩
  obtain ⟨A, c, rfl, h1, h2, h3, h4, h5, h6⟩ := hr
  have HSM := Lib.hid hsm
  have H6 := Lib.hid h6
  have HS := Lib.hid hS
  unfold maxLen at h2
  clear hsm h6 hS h3 h4 h5
  have hk4 := modU_range kk 4 (by decide)
  obtain ⟨kv, hkv⟩ : ∃ kv, modU kk 4 = kv := ⟨_, rfl⟩
  have hfk : fixKind kk d left = if 2 ≤ kv ∧ (d = 0 ∨ left < 4) then kv - 2 else kv := by unfold fixKind; rw [hkv]
  have HFK := Lib.hid hfk
  rw [hkv] at hk4
  unfold modU at hkv
  have hkw : IntKind.i64.wrap kv = kv := IntWalk.i64_in _ (by omega)
  clear hfk
  obtain ⟨i0, hi, hz0, hz1, hz2⟩ := info_parts infoR
  have HI := Lib.hid hi
  have HZ0 := Lib.hid hz0
  have HZ1 := Lib.hid hz1
  have HZ2 := Lib.hid hz2
  clear hi hz0 hz1 hz2
  have hn6 := modU_range nn 6 (by decide)
  obtain ⟨n6, hn6e⟩ : ∃ n6, modU nn 6 = n6 := ⟨_, rfl⟩
  have HN6 := Lib.hid hn6e
  rw [hn6e] at hn6
  unfold modU at hn6e
  have hn6w : IntKind.i64.wrap n6 = n6 := IntWalk.i64_in _ (by omega)
  have hd0 : (0 : Int) ≤ (d : Int) := by omega
  rcases (show kv = 0 ∨ kv = 1 ∨ kv = 2 ∨ kv = 3 by omega) with rfl | rfl | rfl | rfl
  · clear hk4
    have HEQ : Hid (fixT d (.node kk nn s l) left = (.node 0 n6 ⟨#[]⟩ [], left - 1)) := Lib.hid (by rw [fix_small kk nn s l d left 0 (HFK.out.trans (by simp)) (by decide), if_pos rfl, HN6.out, fixName_none _ _ (by decide) (by decide)])
    have HFS := Lib.hid (fk_start w d #[.int .i64 kk, .int .i64 nn, .string s, .slice A l.length c] 0 n6 ⟨#[]⟩)
    go_enter Tryd.func22, Tryd.ntmps22
    go_upto_region 19 with (fail)

    obtain ⟨W0, hW0⟩ : ∃ W0, ((((w.alloc (.cells #[.int .i64 kk, .int .i64 nn, .string s, .slice A l.length c] 24)).alloc (.cells #[.int .i64 0, .int .i64 0, .string ⟨#[]⟩, .slice none 0 0] 24)).alloc (.cells #[.string ⟨#[97]⟩, .string ⟨#[98]⟩, .string ⟨#[99]⟩, .string ⟨#[102]⟩, .string ⟨#[103]⟩] 9)).alloc (.cells #[.int .i64 0, .int .i64 n6, .string ⟨#[]⟩, .slice none 0 0] 24)) = W0 := ⟨_, rfl⟩
    obtain ⟨g3, hg3⟩ : ∃ g3, w.heap.size + 1 + 1 + 1 = g3 := ⟨_, rfl⟩
    obtain ⟨g2, hg2⟩ : ∃ g2, w.heap.size + 1 = g2 := ⟨_, rfl⟩
    obtain ⟨g1, hg1⟩ : ∃ g1, w.heap.size = g1 := ⟨_, rfl⟩
    have K1 : Hid (Fk w W0 d #[.int .i64 kk, .int .i64 nn, .string s, .slice A l.length c] 0 n6 ⟨#[]⟩ g1 g2 g3 [] (.slice none 0 0) []) := by
      rw [← hW0, ← hg1, ← hg2, ← hg3]
      exact HFS.out
    rw [hW0, hg3, hg2, hg1]
    clear hW0 hg3 hg2 hg1 HFS
    go_wp2_with (fail)
    go_loopw [2, 12] (fun a i wr => a = .int .i64 (left - 1) ∧ i = .int .i64 0 ∧ wr = W0) (fun _ _ _ => 0)
    case atStart => exact ⟨rfl, rfl, rfl⟩
    case round =>
      obtain ⟨rfl, rfl, rfl⟩ := hrel
      have m0 : wr.cell? ⟨g3, 0, none⟩ = some (.int .i64 0) := K1.out.b3.cell 0
      have m1 : wr.cell? ⟨g3, 1, none⟩ = some (.int .i64 n6) := K1.out.b3.cell 1
      have m2 : wr.cell? ⟨g3, 2, none⟩ = some (.string ⟨#[]⟩) := K1.out.b3.cell 2
      have m3 : wr.cell? ⟨g3, 3, none⟩ = some (.slice none 0 0) := K1.out.b3.cell 3
      have r0 : wr.cell? ⟨g2, 0, none⟩ = some (.int .i64 0) := K1.out.b2.cell 0
      have r1 : wr.cell? ⟨g2, 1, none⟩ = some (.int .i64 0) := K1.out.b2.cell 1
      have r2 : wr.cell? ⟨g2, 2, none⟩ = some (.string ⟨#[]⟩) := K1.out.b2.cell 2
      have r3 : wr.cell? ⟨g2, 3, none⟩ = some (.slice none 0 0) := K1.out.b2.cell 3
      have z0 : wr.frozen? ⟨g2, 0, none⟩ = false := K1.out.b2.frozen 0
      have z1 : wr.frozen? ⟨g2, 1, none⟩ = false := K1.out.b2.frozen 1
      have z2 : wr.frozen? ⟨g2, 2, none⟩ = false := K1.out.b2.frozen 2
      have z3 : wr.frozen? ⟨g2, 3, none⟩ = false := K1.out.b2.frozen 3
      go_wp2_with (fail)
      refine ret_store4 (x := .int .i64 (left - 1)) K1.out.b2 (by intro W c0 c1 c2 c3; simp [results, Tryd.results22, go_sem, c0, c1, c2, c3]) ?_
      intro W hW hF
      obtain ⟨e1, e2⟩ := fk_end K1.out (by decide) (by decide) (by simp only [Lit.wf, Bool.and_eq_true, decide_eq_true_eq]; exact ⟨by show -9223372036854775808 ≤ _; omega, by show _ ≤ 9223372036854775807; omega⟩) hF
      unfold FixOk
      rw [HEQ.out]
      exact ⟨_, rfl, e1, e2⟩
  · clear hk4
    have hn3 := modU_range nn 3 (by decide)
    obtain ⟨n3, hn3e⟩ : ∃ n3, modU nn 3 = n3 := ⟨_, rfl⟩
    have HN3 := Lib.hid hn3e
    rw [hn3e] at hn3
    unfold modU at hn3e
    have hn3w : IntKind.i64.wrap n3 = n3 := IntWalk.i64_in _ (by omega)
    rcases (show n3 = 0 ∨ n3 = 1 ∨ n3 = 2 by omega) with rfl | rfl | rfl
    · have HEQ : Hid (fixT d (.node kk nn s l) left = (.node 1 0 ⟨#[97]⟩ [], left - 1)) := Lib.hid (by rw [fix_small kk nn s l d left 1 (HFK.out.trans (by simp)) (by decide), if_neg (by decide)]; simp [fixName, HN3.out])
      have HFS := Lib.hid (fk_start w d #[.int .i64 kk, .int .i64 nn, .string s, .slice A l.length c] 1 0 ⟨#[97]⟩)
      go_enter Tryd.func22, Tryd.ntmps22
      go_upto_region 19 with (fail)

      obtain ⟨W0, hW0⟩ : ∃ W0, ((((w.alloc (.cells #[.int .i64 kk, .int .i64 nn, .string s, .slice A l.length c] 24)).alloc (.cells #[.int .i64 0, .int .i64 0, .string ⟨#[]⟩, .slice none 0 0] 24)).alloc (.cells #[.string ⟨#[97]⟩, .string ⟨#[98]⟩, .string ⟨#[99]⟩, .string ⟨#[102]⟩, .string ⟨#[103]⟩] 9)).alloc (.cells #[.int .i64 1, .int .i64 0, .string ⟨#[97]⟩, .slice none 0 0] 24)) = W0 := ⟨_, rfl⟩
      obtain ⟨g3, hg3⟩ : ∃ g3, w.heap.size + 1 + 1 + 1 = g3 := ⟨_, rfl⟩
      obtain ⟨g2, hg2⟩ : ∃ g2, w.heap.size + 1 = g2 := ⟨_, rfl⟩
      obtain ⟨g1, hg1⟩ : ∃ g1, w.heap.size = g1 := ⟨_, rfl⟩
      have K1 : Hid (Fk w W0 d #[.int .i64 kk, .int .i64 nn, .string s, .slice A l.length c] 1 0 ⟨#[97]⟩ g1 g2 g3 [] (.slice none 0 0) []) := by
        rw [← hW0, ← hg1, ← hg2, ← hg3]
        exact HFS.out
      rw [hW0, hg3, hg2, hg1]
      clear hW0 hg3 hg2 hg1 HFS
      go_wp2_with (fail)
      go_loopw [2, 12] (fun a i wr => a = .int .i64 (left - 1) ∧ i = .int .i64 0 ∧ wr = W0) (fun _ _ _ => 0)
      case atStart => exact ⟨rfl, rfl, rfl⟩
      case round =>
        obtain ⟨rfl, rfl, rfl⟩ := hrel
        have m0 : wr.cell? ⟨g3, 0, none⟩ = some (.int .i64 1) := K1.out.b3.cell 0
        have m1 : wr.cell? ⟨g3, 1, none⟩ = some (.int .i64 0) := K1.out.b3.cell 1
        have m2 : wr.cell? ⟨g3, 2, none⟩ = some (.string ⟨#[97]⟩) := K1.out.b3.cell 2
        have m3 : wr.cell? ⟨g3, 3, none⟩ = some (.slice none 0 0) := K1.out.b3.cell 3
        have r0 : wr.cell? ⟨g2, 0, none⟩ = some (.int .i64 0) := K1.out.b2.cell 0
        have r1 : wr.cell? ⟨g2, 1, none⟩ = some (.int .i64 0) := K1.out.b2.cell 1
        have r2 : wr.cell? ⟨g2, 2, none⟩ = some (.string ⟨#[]⟩) := K1.out.b2.cell 2
        have r3 : wr.cell? ⟨g2, 3, none⟩ = some (.slice none 0 0) := K1.out.b2.cell 3
        have z0 : wr.frozen? ⟨g2, 0, none⟩ = false := K1.out.b2.frozen 0
        have z1 : wr.frozen? ⟨g2, 1, none⟩ = false := K1.out.b2.frozen 1
        have z2 : wr.frozen? ⟨g2, 2, none⟩ = false := K1.out.b2.frozen 2
        have z3 : wr.frozen? ⟨g2, 3, none⟩ = false := K1.out.b2.frozen 3
        go_wp2_with (fail)
        refine ret_store4 (x := .int .i64 (left - 1)) K1.out.b2 (by intro W c0 c1 c2 c3; simp [results, Tryd.results22, go_sem, c0, c1, c2, c3]) ?_
        intro W hW hF
        obtain ⟨e1, e2⟩ := fk_end K1.out (by decide) (by decide) (by decide) hF
        unfold FixOk
        rw [HEQ.out]
        exact ⟨_, rfl, e1, e2⟩
    · have HEQ : Hid (fixT d (.node kk nn s l) left = (.node 1 0 ⟨#[98]⟩ [], left - 1)) := Lib.hid (by rw [fix_small kk nn s l d left 1 (HFK.out.trans (by simp)) (by decide), if_neg (by decide)]; simp [fixName, HN3.out])
      have HFS := Lib.hid (fk_start w d #[.int .i64 kk, .int .i64 nn, .string s, .slice A l.length c] 1 0 ⟨#[98]⟩)
      go_enter Tryd.func22, Tryd.ntmps22
      go_upto_region 19 with (fail)

      obtain ⟨W0, hW0⟩ : ∃ W0, ((((w.alloc (.cells #[.int .i64 kk, .int .i64 nn, .string s, .slice A l.length c] 24)).alloc (.cells #[.int .i64 0, .int .i64 0, .string ⟨#[]⟩, .slice none 0 0] 24)).alloc (.cells #[.string ⟨#[97]⟩, .string ⟨#[98]⟩, .string ⟨#[99]⟩, .string ⟨#[102]⟩, .string ⟨#[103]⟩] 9)).alloc (.cells #[.int .i64 1, .int .i64 0, .string ⟨#[98]⟩, .slice none 0 0] 24)) = W0 := ⟨_, rfl⟩
      obtain ⟨g3, hg3⟩ : ∃ g3, w.heap.size + 1 + 1 + 1 = g3 := ⟨_, rfl⟩
      obtain ⟨g2, hg2⟩ : ∃ g2, w.heap.size + 1 = g2 := ⟨_, rfl⟩
      obtain ⟨g1, hg1⟩ : ∃ g1, w.heap.size = g1 := ⟨_, rfl⟩
      have K1 : Hid (Fk w W0 d #[.int .i64 kk, .int .i64 nn, .string s, .slice A l.length c] 1 0 ⟨#[98]⟩ g1 g2 g3 [] (.slice none 0 0) []) := by
        rw [← hW0, ← hg1, ← hg2, ← hg3]
        exact HFS.out
      rw [hW0, hg3, hg2, hg1]
      clear hW0 hg3 hg2 hg1 HFS
      go_wp2_with (fail)
      go_loopw [2, 12] (fun a i wr => a = .int .i64 (left - 1) ∧ i = .int .i64 0 ∧ wr = W0) (fun _ _ _ => 0)
      case atStart => exact ⟨rfl, rfl, rfl⟩
      case round =>
        obtain ⟨rfl, rfl, rfl⟩ := hrel
        have m0 : wr.cell? ⟨g3, 0, none⟩ = some (.int .i64 1) := K1.out.b3.cell 0
        have m1 : wr.cell? ⟨g3, 1, none⟩ = some (.int .i64 0) := K1.out.b3.cell 1
        have m2 : wr.cell? ⟨g3, 2, none⟩ = some (.string ⟨#[98]⟩) := K1.out.b3.cell 2
        have m3 : wr.cell? ⟨g3, 3, none⟩ = some (.slice none 0 0) := K1.out.b3.cell 3
        have r0 : wr.cell? ⟨g2, 0, none⟩ = some (.int .i64 0) := K1.out.b2.cell 0
        have r1 : wr.cell? ⟨g2, 1, none⟩ = some (.int .i64 0) := K1.out.b2.cell 1
        have r2 : wr.cell? ⟨g2, 2, none⟩ = some (.string ⟨#[]⟩) := K1.out.b2.cell 2
        have r3 : wr.cell? ⟨g2, 3, none⟩ = some (.slice none 0 0) := K1.out.b2.cell 3
        have z0 : wr.frozen? ⟨g2, 0, none⟩ = false := K1.out.b2.frozen 0
        have z1 : wr.frozen? ⟨g2, 1, none⟩ = false := K1.out.b2.frozen 1
        have z2 : wr.frozen? ⟨g2, 2, none⟩ = false := K1.out.b2.frozen 2
        have z3 : wr.frozen? ⟨g2, 3, none⟩ = false := K1.out.b2.frozen 3
        go_wp2_with (fail)
        refine ret_store4 (x := .int .i64 (left - 1)) K1.out.b2 (by intro W c0 c1 c2 c3; simp [results, Tryd.results22, go_sem, c0, c1, c2, c3]) ?_
        intro W hW hF
        obtain ⟨e1, e2⟩ := fk_end K1.out (by decide) (by decide) (by decide) hF
        unfold FixOk
        rw [HEQ.out]
        exact ⟨_, rfl, e1, e2⟩
    · have HEQ : Hid (fixT d (.node kk nn s l) left = (.node 1 0 ⟨#[99]⟩ [], left - 1)) := Lib.hid (by rw [fix_small kk nn s l d left 1 (HFK.out.trans (by simp)) (by decide), if_neg (by decide)]; simp [fixName, HN3.out])
      have HFS := Lib.hid (fk_start w d #[.int .i64 kk, .int .i64 nn, .string s, .slice A l.length c] 1 0 ⟨#[99]⟩)
      go_enter Tryd.func22, Tryd.ntmps22
      go_upto_region 19 with (fail)

      obtain ⟨W0, hW0⟩ : ∃ W0, ((((w.alloc (.cells #[.int .i64 kk, .int .i64 nn, .string s, .slice A l.length c] 24)).alloc (.cells #[.int .i64 0, .int .i64 0, .string ⟨#[]⟩, .slice none 0 0] 24)).alloc (.cells #[.string ⟨#[97]⟩, .string ⟨#[98]⟩, .string ⟨#[99]⟩, .string ⟨#[102]⟩, .string ⟨#[103]⟩] 9)).alloc (.cells #[.int .i64 1, .int .i64 0, .string ⟨#[99]⟩, .slice none 0 0] 24)) = W0 := ⟨_, rfl⟩
      obtain ⟨g3, hg3⟩ : ∃ g3, w.heap.size + 1 + 1 + 1 = g3 := ⟨_, rfl⟩
      obtain ⟨g2, hg2⟩ : ∃ g2, w.heap.size + 1 = g2 := ⟨_, rfl⟩
      obtain ⟨g1, hg1⟩ : ∃ g1, w.heap.size = g1 := ⟨_, rfl⟩
      have K1 : Hid (Fk w W0 d #[.int .i64 kk, .int .i64 nn, .string s, .slice A l.length c] 1 0 ⟨#[99]⟩ g1 g2 g3 [] (.slice none 0 0) []) := by
        rw [← hW0, ← hg1, ← hg2, ← hg3]
        exact HFS.out
      rw [hW0, hg3, hg2, hg1]
      clear hW0 hg3 hg2 hg1 HFS
      go_wp2_with (fail)
      go_loopw [2, 12] (fun a i wr => a = .int .i64 (left - 1) ∧ i = .int .i64 0 ∧ wr = W0) (fun _ _ _ => 0)
      case atStart => exact ⟨rfl, rfl, rfl⟩
      case round =>
        obtain ⟨rfl, rfl, rfl⟩ := hrel
        have m0 : wr.cell? ⟨g3, 0, none⟩ = some (.int .i64 1) := K1.out.b3.cell 0
        have m1 : wr.cell? ⟨g3, 1, none⟩ = some (.int .i64 0) := K1.out.b3.cell 1
        have m2 : wr.cell? ⟨g3, 2, none⟩ = some (.string ⟨#[99]⟩) := K1.out.b3.cell 2
        have m3 : wr.cell? ⟨g3, 3, none⟩ = some (.slice none 0 0) := K1.out.b3.cell 3
        have r0 : wr.cell? ⟨g2, 0, none⟩ = some (.int .i64 0) := K1.out.b2.cell 0
        have r1 : wr.cell? ⟨g2, 1, none⟩ = some (.int .i64 0) := K1.out.b2.cell 1
        have r2 : wr.cell? ⟨g2, 2, none⟩ = some (.string ⟨#[]⟩) := K1.out.b2.cell 2
        have r3 : wr.cell? ⟨g2, 3, none⟩ = some (.slice none 0 0) := K1.out.b2.cell 3
        have z0 : wr.frozen? ⟨g2, 0, none⟩ = false := K1.out.b2.frozen 0
        have z1 : wr.frozen? ⟨g2, 1, none⟩ = false := K1.out.b2.frozen 1
        have z2 : wr.frozen? ⟨g2, 2, none⟩ = false := K1.out.b2.frozen 2
        have z3 : wr.frozen? ⟨g2, 3, none⟩ = false := K1.out.b2.frozen 3
        go_wp2_with (fail)
        refine ret_store4 (x := .int .i64 (left - 1)) K1.out.b2 (by intro W c0 c1 c2 c3; simp [results, Tryd.results22, go_sem, c0, c1, c2, c3]) ?_
        intro W hW hF
        obtain ⟨e1, e2⟩ := fk_end K1.out (by decide) (by decide) (by decide) hF
        unfold FixOk
        rw [HEQ.out]
        exact ⟨_, rfl, e1, e2⟩
  · clear hk4
    by_cases hz : (d : Int) ≤ 0
    · have HEQ : Hid (fixT d (.node kk nn s l) left = (.node 0 n6 ⟨#[]⟩ [], left - 1)) := Lib.hid (by rw [fix_small kk nn s l d left 0 (HFK.out.trans (by rw [if_pos ⟨by decide, .inl (by omega)⟩]; rfl)) (by decide), if_pos rfl, HN6.out, fixName_none _ _ (by decide) (by decide)])
      have HFS := Lib.hid (fk_start w d #[.int .i64 kk, .int .i64 nn, .string s, .slice A l.length c] 0 n6 ⟨#[]⟩)
      go_enter Tryd.func22, Tryd.ntmps22
      go_upto_region 19 with (fail)

      obtain ⟨W0, hW0⟩ : ∃ W0, ((((w.alloc (.cells #[.int .i64 kk, .int .i64 nn, .string s, .slice A l.length c] 24)).alloc (.cells #[.int .i64 0, .int .i64 0, .string ⟨#[]⟩, .slice none 0 0] 24)).alloc (.cells #[.string ⟨#[97]⟩, .string ⟨#[98]⟩, .string ⟨#[99]⟩, .string ⟨#[102]⟩, .string ⟨#[103]⟩] 9)).alloc (.cells #[.int .i64 0, .int .i64 n6, .string ⟨#[]⟩, .slice none 0 0] 24)) = W0 := ⟨_, rfl⟩
      obtain ⟨g3, hg3⟩ : ∃ g3, w.heap.size + 1 + 1 + 1 = g3 := ⟨_, rfl⟩
      obtain ⟨g2, hg2⟩ : ∃ g2, w.heap.size + 1 = g2 := ⟨_, rfl⟩
      obtain ⟨g1, hg1⟩ : ∃ g1, w.heap.size = g1 := ⟨_, rfl⟩
      have K1 : Hid (Fk w W0 d #[.int .i64 kk, .int .i64 nn, .string s, .slice A l.length c] 0 n6 ⟨#[]⟩ g1 g2 g3 [] (.slice none 0 0) []) := by
        rw [← hW0, ← hg1, ← hg2, ← hg3]
        exact HFS.out
      rw [hW0, hg3, hg2, hg1]
      clear hW0 hg3 hg2 hg1 HFS
      go_wp2_with (fail)
      go_loopw [2, 12] (fun a i wr => a = .int .i64 (left - 1) ∧ i = .int .i64 0 ∧ wr = W0) (fun _ _ _ => 0)
      case atStart => exact ⟨rfl, rfl, rfl⟩
      case round =>
        obtain ⟨rfl, rfl, rfl⟩ := hrel
        have m0 : wr.cell? ⟨g3, 0, none⟩ = some (.int .i64 0) := K1.out.b3.cell 0
        have m1 : wr.cell? ⟨g3, 1, none⟩ = some (.int .i64 n6) := K1.out.b3.cell 1
        have m2 : wr.cell? ⟨g3, 2, none⟩ = some (.string ⟨#[]⟩) := K1.out.b3.cell 2
        have m3 : wr.cell? ⟨g3, 3, none⟩ = some (.slice none 0 0) := K1.out.b3.cell 3
        have r0 : wr.cell? ⟨g2, 0, none⟩ = some (.int .i64 0) := K1.out.b2.cell 0
        have r1 : wr.cell? ⟨g2, 1, none⟩ = some (.int .i64 0) := K1.out.b2.cell 1
        have r2 : wr.cell? ⟨g2, 2, none⟩ = some (.string ⟨#[]⟩) := K1.out.b2.cell 2
        have r3 : wr.cell? ⟨g2, 3, none⟩ = some (.slice none 0 0) := K1.out.b2.cell 3
        have z0 : wr.frozen? ⟨g2, 0, none⟩ = false := K1.out.b2.frozen 0
        have z1 : wr.frozen? ⟨g2, 1, none⟩ = false := K1.out.b2.frozen 1
        have z2 : wr.frozen? ⟨g2, 2, none⟩ = false := K1.out.b2.frozen 2
        have z3 : wr.frozen? ⟨g2, 3, none⟩ = false := K1.out.b2.frozen 3
        go_wp2_with (fail)
        refine ret_store4 (x := .int .i64 (left - 1)) K1.out.b2 (by intro W c0 c1 c2 c3; simp [results, Tryd.results22, go_sem, c0, c1, c2, c3]) ?_
        intro W hW hF
        obtain ⟨e1, e2⟩ := fk_end K1.out (by decide) (by decide) (by simp only [Lit.wf, Bool.and_eq_true, decide_eq_true_eq]; exact ⟨by show -9223372036854775808 ≤ _; omega, by show _ ≤ 9223372036854775807; omega⟩) hF
        unfold FixOk
        rw [HEQ.out]
        exact ⟨_, rfl, e1, e2⟩
    · have hz2 : (0 : Int) < (d : Int) := by omega
      by_cases h4 : left < 4
      · have HEQ : Hid (fixT d (.node kk nn s l) left = (.node 0 n6 ⟨#[]⟩ [], left - 1)) := Lib.hid (by rw [fix_small kk nn s l d left 0 (HFK.out.trans (by rw [if_pos ⟨by decide, .inr h4⟩]; rfl)) (by decide), if_pos rfl, HN6.out, fixName_none _ _ (by decide) (by decide)])
        have HFS := Lib.hid (fk_start w d #[.int .i64 kk, .int .i64 nn, .string s, .slice A l.length c] 0 n6 ⟨#[]⟩)
        go_enter Tryd.func22, Tryd.ntmps22
        go_upto_region 19 with (fail)

        obtain ⟨W0, hW0⟩ : ∃ W0, ((((w.alloc (.cells #[.int .i64 kk, .int .i64 nn, .string s, .slice A l.length c] 24)).alloc (.cells #[.int .i64 0, .int .i64 0, .string ⟨#[]⟩, .slice none 0 0] 24)).alloc (.cells #[.string ⟨#[97]⟩, .string ⟨#[98]⟩, .string ⟨#[99]⟩, .string ⟨#[102]⟩, .string ⟨#[103]⟩] 9)).alloc (.cells #[.int .i64 0, .int .i64 n6, .string ⟨#[]⟩, .slice none 0 0] 24)) = W0 := ⟨_, rfl⟩
        obtain ⟨g3, hg3⟩ : ∃ g3, w.heap.size + 1 + 1 + 1 = g3 := ⟨_, rfl⟩
        obtain ⟨g2, hg2⟩ : ∃ g2, w.heap.size + 1 = g2 := ⟨_, rfl⟩
        obtain ⟨g1, hg1⟩ : ∃ g1, w.heap.size = g1 := ⟨_, rfl⟩
        have K1 : Hid (Fk w W0 d #[.int .i64 kk, .int .i64 nn, .string s, .slice A l.length c] 0 n6 ⟨#[]⟩ g1 g2 g3 [] (.slice none 0 0) []) := by
          rw [← hW0, ← hg1, ← hg2, ← hg3]
          exact HFS.out
        rw [hW0, hg3, hg2, hg1]
        clear hW0 hg3 hg2 hg1 HFS
        go_wp2_with (fail)
        go_loopw [2, 12] (fun a i wr => a = .int .i64 (left - 1) ∧ i = .int .i64 0 ∧ wr = W0) (fun _ _ _ => 0)
        case atStart => exact ⟨rfl, rfl, rfl⟩
        case round =>
          obtain ⟨rfl, rfl, rfl⟩ := hrel
          have m0 : wr.cell? ⟨g3, 0, none⟩ = some (.int .i64 0) := K1.out.b3.cell 0
          have m1 : wr.cell? ⟨g3, 1, none⟩ = some (.int .i64 n6) := K1.out.b3.cell 1
          have m2 : wr.cell? ⟨g3, 2, none⟩ = some (.string ⟨#[]⟩) := K1.out.b3.cell 2
          have m3 : wr.cell? ⟨g3, 3, none⟩ = some (.slice none 0 0) := K1.out.b3.cell 3
          have r0 : wr.cell? ⟨g2, 0, none⟩ = some (.int .i64 0) := K1.out.b2.cell 0
          have r1 : wr.cell? ⟨g2, 1, none⟩ = some (.int .i64 0) := K1.out.b2.cell 1
          have r2 : wr.cell? ⟨g2, 2, none⟩ = some (.string ⟨#[]⟩) := K1.out.b2.cell 2
          have r3 : wr.cell? ⟨g2, 3, none⟩ = some (.slice none 0 0) := K1.out.b2.cell 3
          have z0 : wr.frozen? ⟨g2, 0, none⟩ = false := K1.out.b2.frozen 0
          have z1 : wr.frozen? ⟨g2, 1, none⟩ = false := K1.out.b2.frozen 1
          have z2 : wr.frozen? ⟨g2, 2, none⟩ = false := K1.out.b2.frozen 2
          have z3 : wr.frozen? ⟨g2, 3, none⟩ = false := K1.out.b2.frozen 3
          go_wp2_with (fail)
          refine ret_store4 (x := .int .i64 (left - 1)) K1.out.b2 (by intro W c0 c1 c2 c3; simp [results, Tryd.results22, go_sem, c0, c1, c2, c3]) ?_
          intro W hW hF
          obtain ⟨e1, e2⟩ := fk_end K1.out (by decide) (by decide) (by simp only [Lit.wf, Bool.and_eq_true, decide_eq_true_eq]; exact ⟨by show -9223372036854775808 ≤ _; omega, by show _ ≤ 9223372036854775807; omega⟩) hF
          unfold FixOk
          rw [HEQ.out]
          exact ⟨_, rfl, e1, e2⟩
      · exfalso
        have := HSM.out
        rw [HFK.out, if_neg (by omega)] at this
        omega
  · clear hk4
    by_cases hz : (d : Int) ≤ 0
    · have hn3 := modU_range nn 3 (by decide)
      obtain ⟨n3, hn3e⟩ : ∃ n3, modU nn 3 = n3 := ⟨_, rfl⟩
      have HN3 := Lib.hid hn3e
      rw [hn3e] at hn3
      unfold modU at hn3e
      have hn3w : IntKind.i64.wrap n3 = n3 := IntWalk.i64_in _ (by omega)
      rcases (show n3 = 0 ∨ n3 = 1 ∨ n3 = 2 by omega) with rfl | rfl | rfl
      · have HEQ : Hid (fixT d (.node kk nn s l) left = (.node 1 0 ⟨#[97]⟩ [], left - 1)) := Lib.hid (by rw [fix_small kk nn s l d left 1 (HFK.out.trans (by rw [if_pos ⟨by decide, .inl (by omega)⟩]; rfl)) (by decide), if_neg (by decide)]; simp [fixName, HN3.out])
        have HFS := Lib.hid (fk_start w d #[.int .i64 kk, .int .i64 nn, .string s, .slice A l.length c] 1 0 ⟨#[97]⟩)
        go_enter Tryd.func22, Tryd.ntmps22
        go_upto_region 19 with (fail)

        obtain ⟨W0, hW0⟩ : ∃ W0, ((((w.alloc (.cells #[.int .i64 kk, .int .i64 nn, .string s, .slice A l.length c] 24)).alloc (.cells #[.int .i64 0, .int .i64 0, .string ⟨#[]⟩, .slice none 0 0] 24)).alloc (.cells #[.string ⟨#[97]⟩, .string ⟨#[98]⟩, .string ⟨#[99]⟩, .string ⟨#[102]⟩, .string ⟨#[103]⟩] 9)).alloc (.cells #[.int .i64 1, .int .i64 0, .string ⟨#[97]⟩, .slice none 0 0] 24)) = W0 := ⟨_, rfl⟩
        obtain ⟨g3, hg3⟩ : ∃ g3, w.heap.size + 1 + 1 + 1 = g3 := ⟨_, rfl⟩
        obtain ⟨g2, hg2⟩ : ∃ g2, w.heap.size + 1 = g2 := ⟨_, rfl⟩
        obtain ⟨g1, hg1⟩ : ∃ g1, w.heap.size = g1 := ⟨_, rfl⟩
        have K1 : Hid (Fk w W0 d #[.int .i64 kk, .int .i64 nn, .string s, .slice A l.length c] 1 0 ⟨#[97]⟩ g1 g2 g3 [] (.slice none 0 0) []) := by
          rw [← hW0, ← hg1, ← hg2, ← hg3]
          exact HFS.out
        rw [hW0, hg3, hg2, hg1]
        clear hW0 hg3 hg2 hg1 HFS
        go_wp2_with (fail)
        go_loopw [2, 12] (fun a i wr => a = .int .i64 (left - 1) ∧ i = .int .i64 0 ∧ wr = W0) (fun _ _ _ => 0)
        case atStart => exact ⟨rfl, rfl, rfl⟩
        case round =>
          obtain ⟨rfl, rfl, rfl⟩ := hrel
          have m0 : wr.cell? ⟨g3, 0, none⟩ = some (.int .i64 1) := K1.out.b3.cell 0
          have m1 : wr.cell? ⟨g3, 1, none⟩ = some (.int .i64 0) := K1.out.b3.cell 1
          have m2 : wr.cell? ⟨g3, 2, none⟩ = some (.string ⟨#[97]⟩) := K1.out.b3.cell 2
          have m3 : wr.cell? ⟨g3, 3, none⟩ = some (.slice none 0 0) := K1.out.b3.cell 3
          have r0 : wr.cell? ⟨g2, 0, none⟩ = some (.int .i64 0) := K1.out.b2.cell 0
          have r1 : wr.cell? ⟨g2, 1, none⟩ = some (.int .i64 0) := K1.out.b2.cell 1
          have r2 : wr.cell? ⟨g2, 2, none⟩ = some (.string ⟨#[]⟩) := K1.out.b2.cell 2
          have r3 : wr.cell? ⟨g2, 3, none⟩ = some (.slice none 0 0) := K1.out.b2.cell 3
          have z0 : wr.frozen? ⟨g2, 0, none⟩ = false := K1.out.b2.frozen 0
          have z1 : wr.frozen? ⟨g2, 1, none⟩ = false := K1.out.b2.frozen 1
          have z2 : wr.frozen? ⟨g2, 2, none⟩ = false := K1.out.b2.frozen 2
          have z3 : wr.frozen? ⟨g2, 3, none⟩ = false := K1.out.b2.frozen 3
          go_wp2_with (fail)
          refine ret_store4 (x := .int .i64 (left - 1)) K1.out.b2 (by intro W c0 c1 c2 c3; simp [results, Tryd.results22, go_sem, c0, c1, c2, c3]) ?_
          intro W hW hF
          obtain ⟨e1, e2⟩ := fk_end K1.out (by decide) (by decide) (by decide) hF
          unfold FixOk
          rw [HEQ.out]
          exact ⟨_, rfl, e1, e2⟩
      · have HEQ : Hid (fixT d (.node kk nn s l) left = (.node 1 0 ⟨#[98]⟩ [], left - 1)) := Lib.hid (by rw [fix_small kk nn s l d left 1 (HFK.out.trans (by rw [if_pos ⟨by decide, .inl (by omega)⟩]; rfl)) (by decide), if_neg (by decide)]; simp [fixName, HN3.out])
        have HFS := Lib.hid (fk_start w d #[.int .i64 kk, .int .i64 nn, .string s, .slice A l.length c] 1 0 ⟨#[98]⟩)
        go_enter Tryd.func22, Tryd.ntmps22
        go_upto_region 19 with (fail)

        obtain ⟨W0, hW0⟩ : ∃ W0, ((((w.alloc (.cells #[.int .i64 kk, .int .i64 nn, .string s, .slice A l.length c] 24)).alloc (.cells #[.int .i64 0, .int .i64 0, .string ⟨#[]⟩, .slice none 0 0] 24)).alloc (.cells #[.string ⟨#[97]⟩, .string ⟨#[98]⟩, .string ⟨#[99]⟩, .string ⟨#[102]⟩, .string ⟨#[103]⟩] 9)).alloc (.cells #[.int .i64 1, .int .i64 0, .string ⟨#[98]⟩, .slice none 0 0] 24)) = W0 := ⟨_, rfl⟩
        obtain ⟨g3, hg3⟩ : ∃ g3, w.heap.size + 1 + 1 + 1 = g3 := ⟨_, rfl⟩
        obtain ⟨g2, hg2⟩ : ∃ g2, w.heap.size + 1 = g2 := ⟨_, rfl⟩
        obtain ⟨g1, hg1⟩ : ∃ g1, w.heap.size = g1 := ⟨_, rfl⟩
        have K1 : Hid (Fk w W0 d #[.int .i64 kk, .int .i64 nn, .string s, .slice A l.length c] 1 0 ⟨#[98]⟩ g1 g2 g3 [] (.slice none 0 0) []) := by
          rw [← hW0, ← hg1, ← hg2, ← hg3]
          exact HFS.out
        rw [hW0, hg3, hg2, hg1]
        clear hW0 hg3 hg2 hg1 HFS
        go_wp2_with (fail)
        go_loopw [2, 12] (fun a i wr => a = .int .i64 (left - 1) ∧ i = .int .i64 0 ∧ wr = W0) (fun _ _ _ => 0)
        case atStart => exact ⟨rfl, rfl, rfl⟩
        case round =>
          obtain ⟨rfl, rfl, rfl⟩ := hrel
          have m0 : wr.cell? ⟨g3, 0, none⟩ = some (.int .i64 1) := K1.out.b3.cell 0
          have m1 : wr.cell? ⟨g3, 1, none⟩ = some (.int .i64 0) := K1.out.b3.cell 1
          have m2 : wr.cell? ⟨g3, 2, none⟩ = some (.string ⟨#[98]⟩) := K1.out.b3.cell 2
          have m3 : wr.cell? ⟨g3, 3, none⟩ = some (.slice none 0 0) := K1.out.b3.cell 3
          have r0 : wr.cell? ⟨g2, 0, none⟩ = some (.int .i64 0) := K1.out.b2.cell 0
          have r1 : wr.cell? ⟨g2, 1, none⟩ = some (.int .i64 0) := K1.out.b2.cell 1
          have r2 : wr.cell? ⟨g2, 2, none⟩ = some (.string ⟨#[]⟩) := K1.out.b2.cell 2
          have r3 : wr.cell? ⟨g2, 3, none⟩ = some (.slice none 0 0) := K1.out.b2.cell 3
          have z0 : wr.frozen? ⟨g2, 0, none⟩ = false := K1.out.b2.frozen 0
          have z1 : wr.frozen? ⟨g2, 1, none⟩ = false := K1.out.b2.frozen 1
          have z2 : wr.frozen? ⟨g2, 2, none⟩ = false := K1.out.b2.frozen 2
          have z3 : wr.frozen? ⟨g2, 3, none⟩ = false := K1.out.b2.frozen 3
          go_wp2_with (fail)
          refine ret_store4 (x := .int .i64 (left - 1)) K1.out.b2 (by intro W c0 c1 c2 c3; simp [results, Tryd.results22, go_sem, c0, c1, c2, c3]) ?_
          intro W hW hF
          obtain ⟨e1, e2⟩ := fk_end K1.out (by decide) (by decide) (by decide) hF
          unfold FixOk
          rw [HEQ.out]
          exact ⟨_, rfl, e1, e2⟩
      · have HEQ : Hid (fixT d (.node kk nn s l) left = (.node 1 0 ⟨#[99]⟩ [], left - 1)) := Lib.hid (by rw [fix_small kk nn s l d left 1 (HFK.out.trans (by rw [if_pos ⟨by decide, .inl (by omega)⟩]; rfl)) (by decide), if_neg (by decide)]; simp [fixName, HN3.out])
        have HFS := Lib.hid (fk_start w d #[.int .i64 kk, .int .i64 nn, .string s, .slice A l.length c] 1 0 ⟨#[99]⟩)
        go_enter Tryd.func22, Tryd.ntmps22
        go_upto_region 19 with (fail)

        obtain ⟨W0, hW0⟩ : ∃ W0, ((((w.alloc (.cells #[.int .i64 kk, .int .i64 nn, .string s, .slice A l.length c] 24)).alloc (.cells #[.int .i64 0, .int .i64 0, .string ⟨#[]⟩, .slice none 0 0] 24)).alloc (.cells #[.string ⟨#[97]⟩, .string ⟨#[98]⟩, .string ⟨#[99]⟩, .string ⟨#[102]⟩, .string ⟨#[103]⟩] 9)).alloc (.cells #[.int .i64 1, .int .i64 0, .string ⟨#[99]⟩, .slice none 0 0] 24)) = W0 := ⟨_, rfl⟩
        obtain ⟨g3, hg3⟩ : ∃ g3, w.heap.size + 1 + 1 + 1 = g3 := ⟨_, rfl⟩
        obtain ⟨g2, hg2⟩ : ∃ g2, w.heap.size + 1 = g2 := ⟨_, rfl⟩
        obtain ⟨g1, hg1⟩ : ∃ g1, w.heap.size = g1 := ⟨_, rfl⟩
        have K1 : Hid (Fk w W0 d #[.int .i64 kk, .int .i64 nn, .string s, .slice A l.length c] 1 0 ⟨#[99]⟩ g1 g2 g3 [] (.slice none 0 0) []) := by
          rw [← hW0, ← hg1, ← hg2, ← hg3]
          exact HFS.out
        rw [hW0, hg3, hg2, hg1]
        clear hW0 hg3 hg2 hg1 HFS
        go_wp2_with (fail)
        go_loopw [2, 12] (fun a i wr => a = .int .i64 (left - 1) ∧ i = .int .i64 0 ∧ wr = W0) (fun _ _ _ => 0)
        case atStart => exact ⟨rfl, rfl, rfl⟩
        case round =>
          obtain ⟨rfl, rfl, rfl⟩ := hrel
          have m0 : wr.cell? ⟨g3, 0, none⟩ = some (.int .i64 1) := K1.out.b3.cell 0
          have m1 : wr.cell? ⟨g3, 1, none⟩ = some (.int .i64 0) := K1.out.b3.cell 1
          have m2 : wr.cell? ⟨g3, 2, none⟩ = some (.string ⟨#[99]⟩) := K1.out.b3.cell 2
          have m3 : wr.cell? ⟨g3, 3, none⟩ = some (.slice none 0 0) := K1.out.b3.cell 3
          have r0 : wr.cell? ⟨g2, 0, none⟩ = some (.int .i64 0) := K1.out.b2.cell 0
          have r1 : wr.cell? ⟨g2, 1, none⟩ = some (.int .i64 0) := K1.out.b2.cell 1
          have r2 : wr.cell? ⟨g2, 2, none⟩ = some (.string ⟨#[]⟩) := K1.out.b2.cell 2
          have r3 : wr.cell? ⟨g2, 3, none⟩ = some (.slice none 0 0) := K1.out.b2.cell 3
          have z0 : wr.frozen? ⟨g2, 0, none⟩ = false := K1.out.b2.frozen 0
          have z1 : wr.frozen? ⟨g2, 1, none⟩ = false := K1.out.b2.frozen 1
          have z2 : wr.frozen? ⟨g2, 2, none⟩ = false := K1.out.b2.frozen 2
          have z3 : wr.frozen? ⟨g2, 3, none⟩ = false := K1.out.b2.frozen 3
          go_wp2_with (fail)
          refine ret_store4 (x := .int .i64 (left - 1)) K1.out.b2 (by intro W c0 c1 c2 c3; simp [results, Tryd.results22, go_sem, c0, c1, c2, c3]) ?_
          intro W hW hF
          obtain ⟨e1, e2⟩ := fk_end K1.out (by decide) (by decide) (by decide) hF
          unfold FixOk
          rw [HEQ.out]
          exact ⟨_, rfl, e1, e2⟩
    · have hz2 : (0 : Int) < (d : Int) := by omega
      by_cases h4 : left < 4
      · have hn3 := modU_range nn 3 (by decide)
        obtain ⟨n3, hn3e⟩ : ∃ n3, modU nn 3 = n3 := ⟨_, rfl⟩
        have HN3 := Lib.hid hn3e
        rw [hn3e] at hn3
        unfold modU at hn3e
        have hn3w : IntKind.i64.wrap n3 = n3 := IntWalk.i64_in _ (by omega)
        rcases (show n3 = 0 ∨ n3 = 1 ∨ n3 = 2 by omega) with rfl | rfl | rfl
        · have HEQ : Hid (fixT d (.node kk nn s l) left = (.node 1 0 ⟨#[97]⟩ [], left - 1)) := Lib.hid (by rw [fix_small kk nn s l d left 1 (HFK.out.trans (by rw [if_pos ⟨by decide, .inr h4⟩]; rfl)) (by decide), if_neg (by decide)]; simp [fixName, HN3.out])
          have HFS := Lib.hid (fk_start w d #[.int .i64 kk, .int .i64 nn, .string s, .slice A l.length c] 1 0 ⟨#[97]⟩)
          go_enter Tryd.func22, Tryd.ntmps22
          go_upto_region 19 with (fail)

          obtain ⟨W0, hW0⟩ : ∃ W0, ((((w.alloc (.cells #[.int .i64 kk, .int .i64 nn, .string s, .slice A l.length c] 24)).alloc (.cells #[.int .i64 0, .int .i64 0, .string ⟨#[]⟩, .slice none 0 0] 24)).alloc (.cells #[.string ⟨#[97]⟩, .string ⟨#[98]⟩, .string ⟨#[99]⟩, .string ⟨#[102]⟩, .string ⟨#[103]⟩] 9)).alloc (.cells #[.int .i64 1, .int .i64 0, .string ⟨#[97]⟩, .slice none 0 0] 24)) = W0 := ⟨_, rfl⟩
          obtain ⟨g3, hg3⟩ : ∃ g3, w.heap.size + 1 + 1 + 1 = g3 := ⟨_, rfl⟩
          obtain ⟨g2, hg2⟩ : ∃ g2, w.heap.size + 1 = g2 := ⟨_, rfl⟩
          obtain ⟨g1, hg1⟩ : ∃ g1, w.heap.size = g1 := ⟨_, rfl⟩
          have K1 : Hid (Fk w W0 d #[.int .i64 kk, .int .i64 nn, .string s, .slice A l.length c] 1 0 ⟨#[97]⟩ g1 g2 g3 [] (.slice none 0 0) []) := by
            rw [← hW0, ← hg1, ← hg2, ← hg3]
            exact HFS.out
          rw [hW0, hg3, hg2, hg1]
          clear hW0 hg3 hg2 hg1 HFS
          go_wp2_with (fail)
          go_loopw [2, 12] (fun a i wr => a = .int .i64 (left - 1) ∧ i = .int .i64 0 ∧ wr = W0) (fun _ _ _ => 0)
          case atStart => exact ⟨rfl, rfl, rfl⟩
          case round =>
            obtain ⟨rfl, rfl, rfl⟩ := hrel
            have m0 : wr.cell? ⟨g3, 0, none⟩ = some (.int .i64 1) := K1.out.b3.cell 0
            have m1 : wr.cell? ⟨g3, 1, none⟩ = some (.int .i64 0) := K1.out.b3.cell 1
            have m2 : wr.cell? ⟨g3, 2, none⟩ = some (.string ⟨#[97]⟩) := K1.out.b3.cell 2
            have m3 : wr.cell? ⟨g3, 3, none⟩ = some (.slice none 0 0) := K1.out.b3.cell 3
            have r0 : wr.cell? ⟨g2, 0, none⟩ = some (.int .i64 0) := K1.out.b2.cell 0
            have r1 : wr.cell? ⟨g2, 1, none⟩ = some (.int .i64 0) := K1.out.b2.cell 1
            have r2 : wr.cell? ⟨g2, 2, none⟩ = some (.string ⟨#[]⟩) := K1.out.b2.cell 2
            have r3 : wr.cell? ⟨g2, 3, none⟩ = some (.slice none 0 0) := K1.out.b2.cell 3
            have z0 : wr.frozen? ⟨g2, 0, none⟩ = false := K1.out.b2.frozen 0
            have z1 : wr.frozen? ⟨g2, 1, none⟩ = false := K1.out.b2.frozen 1
            have z2 : wr.frozen? ⟨g2, 2, none⟩ = false := K1.out.b2.frozen 2
            have z3 : wr.frozen? ⟨g2, 3, none⟩ = false := K1.out.b2.frozen 3
            go_wp2_with (fail)
            refine ret_store4 (x := .int .i64 (left - 1)) K1.out.b2 (by intro W c0 c1 c2 c3; simp [results, Tryd.results22, go_sem, c0, c1, c2, c3]) ?_
            intro W hW hF
            obtain ⟨e1, e2⟩ := fk_end K1.out (by decide) (by decide) (by decide) hF
            unfold FixOk
            rw [HEQ.out]
            exact ⟨_, rfl, e1, e2⟩
        · have HEQ : Hid (fixT d (.node kk nn s l) left = (.node 1 0 ⟨#[98]⟩ [], left - 1)) := Lib.hid (by rw [fix_small kk nn s l d left 1 (HFK.out.trans (by rw [if_pos ⟨by decide, .inr h4⟩]; rfl)) (by decide), if_neg (by decide)]; simp [fixName, HN3.out])
          have HFS := Lib.hid (fk_start w d #[.int .i64 kk, .int .i64 nn, .string s, .slice A l.length c] 1 0 ⟨#[98]⟩)
          go_enter Tryd.func22, Tryd.ntmps22
          go_upto_region 19 with (fail)

          obtain ⟨W0, hW0⟩ : ∃ W0, ((((w.alloc (.cells #[.int .i64 kk, .int .i64 nn, .string s, .slice A l.length c] 24)).alloc (.cells #[.int .i64 0, .int .i64 0, .string ⟨#[]⟩, .slice none 0 0] 24)).alloc (.cells #[.string ⟨#[97]⟩, .string ⟨#[98]⟩, .string ⟨#[99]⟩, .string ⟨#[102]⟩, .string ⟨#[103]⟩] 9)).alloc (.cells #[.int .i64 1, .int .i64 0, .string ⟨#[98]⟩, .slice none 0 0] 24)) = W0 := ⟨_, rfl⟩
          obtain ⟨g3, hg3⟩ : ∃ g3, w.heap.size + 1 + 1 + 1 = g3 := ⟨_, rfl⟩
          obtain ⟨g2, hg2⟩ : ∃ g2, w.heap.size + 1 = g2 := ⟨_, rfl⟩
          obtain ⟨g1, hg1⟩ : ∃ g1, w.heap.size = g1 := ⟨_, rfl⟩
          have K1 : Hid (Fk w W0 d #[.int .i64 kk, .int .i64 nn, .string s, .slice A l.length c] 1 0 ⟨#[98]⟩ g1 g2 g3 [] (.slice none 0 0) []) := by
            rw [← hW0, ← hg1, ← hg2, ← hg3]
            exact HFS.out
          rw [hW0, hg3, hg2, hg1]
          clear hW0 hg3 hg2 hg1 HFS
          go_wp2_with (fail)
          go_loopw [2, 12] (fun a i wr => a = .int .i64 (left - 1) ∧ i = .int .i64 0 ∧ wr = W0) (fun _ _ _ => 0)
          case atStart => exact ⟨rfl, rfl, rfl⟩
          case round =>
            obtain ⟨rfl, rfl, rfl⟩ := hrel
            have m0 : wr.cell? ⟨g3, 0, none⟩ = some (.int .i64 1) := K1.out.b3.cell 0
            have m1 : wr.cell? ⟨g3, 1, none⟩ = some (.int .i64 0) := K1.out.b3.cell 1
            have m2 : wr.cell? ⟨g3, 2, none⟩ = some (.string ⟨#[98]⟩) := K1.out.b3.cell 2
            have m3 : wr.cell? ⟨g3, 3, none⟩ = some (.slice none 0 0) := K1.out.b3.cell 3
            have r0 : wr.cell? ⟨g2, 0, none⟩ = some (.int .i64 0) := K1.out.b2.cell 0
            have r1 : wr.cell? ⟨g2, 1, none⟩ = some (.int .i64 0) := K1.out.b2.cell 1
            have r2 : wr.cell? ⟨g2, 2, none⟩ = some (.string ⟨#[]⟩) := K1.out.b2.cell 2
            have r3 : wr.cell? ⟨g2, 3, none⟩ = some (.slice none 0 0) := K1.out.b2.cell 3
            have z0 : wr.frozen? ⟨g2, 0, none⟩ = false := K1.out.b2.frozen 0
            have z1 : wr.frozen? ⟨g2, 1, none⟩ = false := K1.out.b2.frozen 1
            have z2 : wr.frozen? ⟨g2, 2, none⟩ = false := K1.out.b2.frozen 2
            have z3 : wr.frozen? ⟨g2, 3, none⟩ = false := K1.out.b2.frozen 3
            go_wp2_with (fail)
            refine ret_store4 (x := .int .i64 (left - 1)) K1.out.b2 (by intro W c0 c1 c2 c3; simp [results, Tryd.results22, go_sem, c0, c1, c2, c3]) ?_
            intro W hW hF
            obtain ⟨e1, e2⟩ := fk_end K1.out (by decide) (by decide) (by decide) hF
            unfold FixOk
            rw [HEQ.out]
            exact ⟨_, rfl, e1, e2⟩
        · have HEQ : Hid (fixT d (.node kk nn s l) left = (.node 1 0 ⟨#[99]⟩ [], left - 1)) := Lib.hid (by rw [fix_small kk nn s l d left 1 (HFK.out.trans (by rw [if_pos ⟨by decide, .inr h4⟩]; rfl)) (by decide), if_neg (by decide)]; simp [fixName, HN3.out])
          have HFS := Lib.hid (fk_start w d #[.int .i64 kk, .int .i64 nn, .string s, .slice A l.length c] 1 0 ⟨#[99]⟩)
          go_enter Tryd.func22, Tryd.ntmps22
          go_upto_region 19 with (fail)

          obtain ⟨W0, hW0⟩ : ∃ W0, ((((w.alloc (.cells #[.int .i64 kk, .int .i64 nn, .string s, .slice A l.length c] 24)).alloc (.cells #[.int .i64 0, .int .i64 0, .string ⟨#[]⟩, .slice none 0 0] 24)).alloc (.cells #[.string ⟨#[97]⟩, .string ⟨#[98]⟩, .string ⟨#[99]⟩, .string ⟨#[102]⟩, .string ⟨#[103]⟩] 9)).alloc (.cells #[.int .i64 1, .int .i64 0, .string ⟨#[99]⟩, .slice none 0 0] 24)) = W0 := ⟨_, rfl⟩
          obtain ⟨g3, hg3⟩ : ∃ g3, w.heap.size + 1 + 1 + 1 = g3 := ⟨_, rfl⟩
          obtain ⟨g2, hg2⟩ : ∃ g2, w.heap.size + 1 = g2 := ⟨_, rfl⟩
          obtain ⟨g1, hg1⟩ : ∃ g1, w.heap.size = g1 := ⟨_, rfl⟩
          have K1 : Hid (Fk w W0 d #[.int .i64 kk, .int .i64 nn, .string s, .slice A l.length c] 1 0 ⟨#[99]⟩ g1 g2 g3 [] (.slice none 0 0) []) := by
            rw [← hW0, ← hg1, ← hg2, ← hg3]
            exact HFS.out
          rw [hW0, hg3, hg2, hg1]
          clear hW0 hg3 hg2 hg1 HFS
          go_wp2_with (fail)
          go_loopw [2, 12] (fun a i wr => a = .int .i64 (left - 1) ∧ i = .int .i64 0 ∧ wr = W0) (fun _ _ _ => 0)
          case atStart => exact ⟨rfl, rfl, rfl⟩
          case round =>
            obtain ⟨rfl, rfl, rfl⟩ := hrel
            have m0 : wr.cell? ⟨g3, 0, none⟩ = some (.int .i64 1) := K1.out.b3.cell 0
            have m1 : wr.cell? ⟨g3, 1, none⟩ = some (.int .i64 0) := K1.out.b3.cell 1
            have m2 : wr.cell? ⟨g3, 2, none⟩ = some (.string ⟨#[99]⟩) := K1.out.b3.cell 2
            have m3 : wr.cell? ⟨g3, 3, none⟩ = some (.slice none 0 0) := K1.out.b3.cell 3
            have r0 : wr.cell? ⟨g2, 0, none⟩ = some (.int .i64 0) := K1.out.b2.cell 0
            have r1 : wr.cell? ⟨g2, 1, none⟩ = some (.int .i64 0) := K1.out.b2.cell 1
            have r2 : wr.cell? ⟨g2, 2, none⟩ = some (.string ⟨#[]⟩) := K1.out.b2.cell 2
            have r3 : wr.cell? ⟨g2, 3, none⟩ = some (.slice none 0 0) := K1.out.b2.cell 3
            have z0 : wr.frozen? ⟨g2, 0, none⟩ = false := K1.out.b2.frozen 0
            have z1 : wr.frozen? ⟨g2, 1, none⟩ = false := K1.out.b2.frozen 1
            have z2 : wr.frozen? ⟨g2, 2, none⟩ = false := K1.out.b2.frozen 2
            have z3 : wr.frozen? ⟨g2, 3, none⟩ = false := K1.out.b2.frozen 3
            go_wp2_with (fail)
            refine ret_store4 (x := .int .i64 (left - 1)) K1.out.b2 (by intro W c0 c1 c2 c3; simp [results, Tryd.results22, go_sem, c0, c1, c2, c3]) ?_
            intro W hW hF
            obtain ⟨e1, e2⟩ := fk_end K1.out (by decide) (by decide) (by decide) hF
            unfold FixOk
            rw [HEQ.out]
            exact ⟨_, rfl, e1, e2⟩
      · exfalso
        have := HSM.out
        rw [HFK.out, if_neg (by omega)] at this
        omega

end Go.Proofs.YtkfmagbaklikmaaDoor
