/-
  The program's reader: tables: names and predicates, in rows of the call's own. Conditions: counts of at most a million.
-/
import Derived.Test.YtfknoecgcoapcaaDoorObjL
import Derived.Deep.RegionLaw
namespace Go.Proofs.YtfknoecgcoapcaaDoor
open Go Go.RowKit Go.WideShapes Go.ChangeShapes
set_option linter.unusedVariables false
set_option linter.unusedSimpArgs false

theorem slStr : SlT 22 9 1 16 := ⟨Tryd.underlying22, ⟨.string ⟨#[]⟩, by kernel_rfl, rfl⟩, by decide, by decide⟩
theorem slPred : SlT 33 66 3 32 := ⟨Tryd.underlying33, ⟨.agg #[.string ⟨#[]⟩, .int .i64 0, .int .i64 0], by kernel_rfl, rfl⟩, by decide, by decide⟩

theorem step_of_append {P : Program} {ops : Array Oper} {o : Oper} {a : Act} {w : World} {K : Act → World → Prop} {Q : Exit → Act → World → Prop} {E : Prop} {t t2 : TypeId} {v u v' : Value} {w' : World}
    (hr : (Builtin.append_ #[t, t2] o.type #[v, u]).run P w = .ok v' w') (hgd : o.guard = none) (s x : Operand)
    (ho : o.op = .call { callee := .builtin .append, args := #[s, x], argTypes := #[t, t2] }) (hs : a.eval s = v) (hx : a.eval x = u)
    (h : K (a.put o.dst v') w') :
    if Region.wanted o (yielded ops a.tmps) = true then Oper.wp P o a w K Q else E := by
  have hw : Region.wanted o (yielded ops a.tmps) = true := by simp [Region.wanted, hgd]
  rw [if_pos hw]
  unfold Oper.wp execOp
  simp only [ho, resolve, invoke, builtin, Sem.run_bind, Sem.run_pure, Result.andThen_ok, List.map_toArray, List.map_cons, List.map_nil, hs, hx, hr]
  exact h

/-- What a round of tables keeps: the reader, the object's box, its rows. -/
structure Tb (w0 w1 wr : World) (R g : Nat) (r : Rd) (va vf vp : Value) (la : List ByteArray) (lf : List (ByteArray × Int)) (lp : List (ByteArray × Int × Int)) : Prop where
  rd : RdAt w0 wr R r
  box : Box wr g 36 #[va, vf, vp, .slice none 0 0]
  ra : wr.ownsRow w1.heap.size 9 1 va la.length (la.map Value.string)
  rf : wr.ownsRow w1.heap.size 63 2 vf lf.length (lf.flatMap funC)
  rp : wr.ownsRow w1.heap.size 66 3 vp lp.length (lp.flatMap predC)
  old : Fr (fun b => b = R ∨ b = g) w1 wr
  lt : R < w1.heap.size ∧ g < w1.heap.size ∧ R ≠ g ∧ w0.heap.size ≤ g ∧ w0.heap.size ≤ w1.heap.size
  bytes : ∀ c ∈ r.rest, c < 256
section
variable {w0 w1 wr w' w6 : World} {R g : Nat} {r r' : Rd} {va vf vp v6 : Value} {la : List ByteArray} {lf : List (ByteArray × Int)} {lp : List (ByteArray × Int × Int)}
theorem Tb.read (h : Tb w0 w1 wr R g r va vf vp la lf lp) (hr : RdAt w0 w' R r') (hf : Fr (fun b => b = R) wr w') (hb : ∀ c ∈ r'.rest, c < 256) : Tb w0 w1 w' R g r' va vf vp la lf lp :=
  ⟨hr, h.box.fr hf (fun e => h.lt.2.2.1 e.symm), own_fr h.ra hf (fun k hk e => by have := (own_ge h.ra hk).1; have := h.lt.1; omega), own_fr h.rf hf (fun k hk e => by have := (own_ge h.rf hk).1; have := h.lt.1; omega),
    own_fr h.rp hf (fun k hk e => by have := (own_ge h.rp hk).1; have := h.lt.1; omega), h.old.trans (hf.mono fun _ _ e => .inl e), h.lt, hb⟩
theorem Tb.drewN (h : Tb w0 w1 wr R g r va vf vp la lf lp) (n : Nat) : Tb w0 w1 (wr.drewN n) R g r va vf vp la lf lp :=
  ⟨h.rd.up (bdrew0 wr n), h.box, h.ra, h.rf, h.rp, h.old.drewN n, h.lt, h.bytes⟩
theorem store_old {v : Value} (ho : Fr (fun b => b = R ∨ b = g) w1 wr) (h1 : ∀ k, v.ownBlock = some k → w1.heap.size ≤ k) (hf : Fr (fun b => v.ownBlock = some b) wr w6) (i : Nat) (u : Value) :
    Fr (fun b => b = R ∨ b = g) w1 (w6.setCell ⟨g, i, none⟩ u) := by
  have h2 : Fr (fun b => b = R ∨ b = g ∨ w1.heap.size ≤ b) w1 (w6.setCell ⟨g, i, none⟩ u) :=
    ((ho.mono (T := fun b => b = R ∨ b = g ∨ w1.heap.size ≤ b) (fun k _ e => e.elim .inl (fun x => .inr (.inl x)))).trans (hf.mono fun k _ e => .inr (.inr (h1 k e)))).setCell (p := ⟨g, i, none⟩) (.inl (.inr (.inl rfl))) u
  exact h2.mono fun k hk e => by
    rcases e with e | e | e
    · exact .inl e
    · exact .inr e
    · omega
theorem Tb.puta {s : ByteArray} (h : Tb w0 w1 wr R g r va vf vp la lf lp) (ha : App wr w6 w1.heap.size 9 1 va v6 (la.length + 1) (la.map Value.string ++ [.string s])) :
    Tb w0 w1 (w6.setCell ⟨g, 0, none⟩ v6) R g r v6 vf vp (la ++ [s]) lf lp ∧ w6.cell? ⟨g, 0, none⟩ = some va ∧ w6.frozen? ⟨g, 0, none⟩ = false := by
  have hne : va.ownBlock ≠ some g := fun e => by have := (own_ge h.ra e).1; have := h.lt.2.1; omega
  have hnR : va.ownBlock ≠ some R := fun e => by have := (own_ge h.ra e).1; have := h.lt.1; omega
  have hb := h.box.fr ha.fr hne
  have hrd : RdAt w0 w6 R r := h.rd.fr ha.fr hnR (fun k hk => by have := (own_ge h.ra hk).1; have := h.lt.2.2.2.2; omega)
  refine ⟨⟨hrd.fr ((Fr.refl (fun b => b = g) w6).setCell (p := ⟨g, 0, none⟩) (.inl rfl) v6) h.lt.2.2.1 (fun k hk => by rw [hk]; exact h.lt.2.2.2.1), ?_, (by have h2 := own_set_far ha.own (p := ⟨g, 0, none⟩) (fun k hk e => by have := (own_ge ha.own hk).1; have := h.lt.2.1; simp at e; omega) v6; rw [List.length_append]; simpa [funC, predC] using h2), own_set_far (own_fr h.rf ha.fr (fun k hk e => own_ne_own h.rf h.ra (by decide) k hk e)) (p := ⟨g, 0, none⟩) (fun k hk e => by have := (own_ge h.rf hk).1; have := h.lt.2.1; simp at e; omega) v6, own_set_far (own_fr h.rp ha.fr (fun k hk e => own_ne_own h.rp h.ra (by decide) k hk e)) (p := ⟨g, 0, none⟩) (fun k hk e => by have := (own_ge h.rp hk).1; have := h.lt.2.1; simp at e; omega) v6, store_old h.old (fun k hk => (own_ge h.ra hk).1) ha.fr 0 v6, h.lt, h.bytes⟩, hb.cell 0, hb.frozen 0⟩
  have := hb.set_ 0 v6
  simpa using this
theorem Tb.putf {s : ByteArray} {n : Int} (h : Tb w0 w1 wr R g r va vf vp la lf lp) (ha : App wr w6 w1.heap.size 63 2 vf v6 (lf.length + 1) (lf.flatMap funC ++ [.string s, .int .i64 n])) :
    Tb w0 w1 (w6.setCell ⟨g, 1, none⟩ v6) R g r va v6 vp la (lf ++ [(s, n)]) lp ∧ w6.cell? ⟨g, 1, none⟩ = some vf ∧ w6.frozen? ⟨g, 1, none⟩ = false := by
  have hne : vf.ownBlock ≠ some g := fun e => by have := (own_ge h.rf e).1; have := h.lt.2.1; omega
  have hnR : vf.ownBlock ≠ some R := fun e => by have := (own_ge h.rf e).1; have := h.lt.1; omega
  have hb := h.box.fr ha.fr hne
  have hrd : RdAt w0 w6 R r := h.rd.fr ha.fr hnR (fun k hk => by have := (own_ge h.rf hk).1; have := h.lt.2.2.2.2; omega)
  refine ⟨⟨hrd.fr ((Fr.refl (fun b => b = g) w6).setCell (p := ⟨g, 1, none⟩) (.inl rfl) v6) h.lt.2.2.1 (fun k hk => by rw [hk]; exact h.lt.2.2.2.1), ?_, own_set_far (own_fr h.ra ha.fr (fun k hk e => own_ne_own h.ra h.rf (by decide) k hk e)) (p := ⟨g, 1, none⟩) (fun k hk e => by have := (own_ge h.ra hk).1; have := h.lt.2.1; simp at e; omega) v6, (by have h2 := own_set_far ha.own (p := ⟨g, 1, none⟩) (fun k hk e => by have := (own_ge ha.own hk).1; have := h.lt.2.1; simp at e; omega) v6; rw [List.length_append]; simpa [funC, predC] using h2), own_set_far (own_fr h.rp ha.fr (fun k hk e => own_ne_own h.rp h.rf (by decide) k hk e)) (p := ⟨g, 1, none⟩) (fun k hk e => by have := (own_ge h.rp hk).1; have := h.lt.2.1; simp at e; omega) v6, store_old h.old (fun k hk => (own_ge h.rf hk).1) ha.fr 1 v6, h.lt, h.bytes⟩, hb.cell 1, hb.frozen 1⟩
  have := hb.set_ 1 v6
  simpa using this
theorem Tb.putp {s : ByteArray} {n m : Int} (h : Tb w0 w1 wr R g r va vf vp la lf lp) (ha : App wr w6 w1.heap.size 66 3 vp v6 (lp.length + 1) (lp.flatMap predC ++ [.string s, .int .i64 n, .int .i64 m])) :
    Tb w0 w1 (w6.setCell ⟨g, 2, none⟩ v6) R g r va vf v6 la lf (lp ++ [(s, n, m)]) ∧ w6.cell? ⟨g, 2, none⟩ = some vp ∧ w6.frozen? ⟨g, 2, none⟩ = false := by
  have hne : vp.ownBlock ≠ some g := fun e => by have := (own_ge h.rp e).1; have := h.lt.2.1; omega
  have hnR : vp.ownBlock ≠ some R := fun e => by have := (own_ge h.rp e).1; have := h.lt.1; omega
  have hb := h.box.fr ha.fr hne
  have hrd : RdAt w0 w6 R r := h.rd.fr ha.fr hnR (fun k hk => by have := (own_ge h.rp hk).1; have := h.lt.2.2.2.2; omega)
  refine ⟨⟨hrd.fr ((Fr.refl (fun b => b = g) w6).setCell (p := ⟨g, 2, none⟩) (.inl rfl) v6) h.lt.2.2.1 (fun k hk => by rw [hk]; exact h.lt.2.2.2.1), ?_, own_set_far (own_fr h.ra ha.fr (fun k hk e => own_ne_own h.ra h.rp (by decide) k hk e)) (p := ⟨g, 2, none⟩) (fun k hk e => by have := (own_ge h.ra hk).1; have := h.lt.2.1; simp at e; omega) v6, own_set_far (own_fr h.rf ha.fr (fun k hk e => own_ne_own h.rf h.rp (by decide) k hk e)) (p := ⟨g, 2, none⟩) (fun k hk e => by have := (own_ge h.rf hk).1; have := h.lt.2.1; simp at e; omega) v6, (by have h2 := own_set_far ha.own (p := ⟨g, 2, none⟩) (fun k hk e => by have := (own_ge ha.own hk).1; have := h.lt.2.1; simp at e; omega) v6; rw [List.length_append]; simpa [funC, predC] using h2), store_old h.old (fun k hk => (own_ge h.rp hk).1) ha.fr 2 v6, h.lt, h.bytes⟩, hb.cell 2, hb.frozen 2⟩
  have := hb.set_ 2 v6
  simpa using this

end

theorem many_lt {α : Type} {f : Rd → α × Rd} (hf : ∀ r, (∀ c ∈ r.rest, c < 256) → ∀ c ∈ (f r).2.rest, c < 256) : ∀ (n : Nat) (r : Rd), (∀ c ∈ r.rest, c < 256) → ∀ c ∈ (manyR f n r).2.rest, c < 256
  | 0, _, h => h
  | n + 1, r, h => many_lt hf n (f r).2 (hf r h)
theorem many_len {α : Type} {f : Rd → α × Rd} : ∀ (n : Nat) (r : Rd), (manyR f n r).1.length = n
  | 0, _ => rfl
  | n + 1, r => by simp [manyR, many_len n]
theorem nameR_lt {r : Rd} (h : ∀ c ∈ r.rest, c < 256) : ∀ c ∈ (nameR r).2.rest, c < 256 := (took_lt (num_lt (n := 1) h).2).2
theorem funR_lt {r : Rd} (h : ∀ c ∈ r.rest, c < 256) : ∀ c ∈ (funR r).2.rest, c < 256 := (num_lt (n := 1) (nameR_lt h)).2
theorem predR_lt {r : Rd} (h : ∀ c ∈ r.rest, c < 256) : ∀ c ∈ (predR r).2.rest, c < 256 := (num_lt (n := 2) (num_lt (n := 1) (nameR_lt h)).2).2

/-- How far a row has come. -/
def Part {α : Type} (f : Rd → α × Rd) (n j : Nat) (r r' : Rd) (l : List α) : Prop := l.length + j = n ∧ l ++ (manyR f j r').1 = (manyR f n r).1 ∧ (manyR f j r').2 = (manyR f n r).2
theorem Part.start {α : Type} (f : Rd → α × Rd) (n : Nat) (r : Rd) : Part f n n r r [] := ⟨by simp, rfl, rfl⟩
theorem Part.step {α : Type} {f : Rd → α × Rd} {n j : Nat} {r r' : Rd} {l : List α} (h : Part f n (j + 1) r r' l) : Part f n j r (f r').2 (l ++ [(f r').1]) :=
  ⟨by have := h.1; simp; omega, by rw [← h.2.1, manyR]; simp, by rw [← h.2.2]; rfl⟩
theorem Part.done {α : Type} {f : Rd → α × Rd} {n : Nat} {r r' : Rd} {l : List α} (h : Part f n 0 r r' l) : manyR f n r = (l, r') := by
  refine Prod.ext ?_ h.2.2.symm
  have := h.2.1
  rw [manyR, List.append_nil] at this
  exact this.symm

/-- What reading the tables comes to. -/
def Tabs (w0 w : World) (R : Nat) (a f p : Nat) (r : Rd) (e : Ending) (w' : World) : Prop :=
  ∃ va vf vp, e = .returned (.agg #[va, vf, vp, .slice none 0 0]) ∧
    w'.ownsRow w.heap.size 9 1 va (manyR nameR a r).1.length ((manyR nameR a r).1.map Value.string) ∧
    w'.ownsRow w.heap.size 63 2 vf (manyR funR f (manyR nameR a r).2).1.length ((manyR funR f (manyR nameR a r).2).1.flatMap funC) ∧
    w'.ownsRow w.heap.size 66 3 vp (manyR predR p (manyR funR f (manyR nameR a r).2).2).1.length ((manyR predR p (manyR funR f (manyR nameR a r).2).2).1.flatMap predC) ∧
    RdAt w0 w' R (manyR predR p (manyR funR f (manyR nameR a r).2).2).2 ∧ Fr (fun b => b = R) w w'

set_option maxRecDepth 100000 in
set_option maxHeartbeats 16000000 in
theorem tables_any (a f p : Nat) (ha : a ≤ 1000) (hf : f ≤ 1000) (hp : p ≤ 1000) (r : Rd) (hr : ∀ c ∈ r.rest, c < 256) (R : Nat) (w0 w : World) (h : RdAt w0 w R r) (hR : R < w.heap.size) :
    Calls Tryd.prog 67 #[.pointer (some ⟨R, 0, none⟩), .int .i64 a, .int .i64 f, .int .i64 p] w (Tabs w0 w R a f p r) := by
  have hz : Tryd.prog.info? 36 = Tryd.prog.info? 36 := rfl
  have T0 : Hid (Tb w0 ((w.alloc (.cells #[.slice none 0 0, .slice none 0 0, .slice none 0 0, .slice none 0 0] 36)).alloc (.cells #[.slice none 0 0, .slice none 0 0, .slice none 0 0, .slice none 0 0] 36))
      ((w.alloc (.cells #[.slice none 0 0, .slice none 0 0, .slice none 0 0, .slice none 0 0] 36)).alloc (.cells #[.slice none 0 0, .slice none 0 0, .slice none 0 0, .slice none 0 0] 36)) R (w.heap.size + 1) r (.slice none 0 0) (.slice none 0 0) (.slice none 0 0) [] [] []) := by
    refine Lib.hid ⟨h.up (two_below w _ _), ?_, ⟨rfl, .inl ⟨rfl, rfl⟩⟩, ⟨rfl, .inl ⟨rfl, rfl⟩⟩, ⟨rfl, .inl ⟨rfl, rfl⟩⟩, Fr.refl _ _, ?_, hr⟩
    · have h := Box.new (w.alloc (.cells #[.slice none 0 0, .slice none 0 0, .slice none 0 0, .slice none 0 0] 36)) 36 #[.slice none 0 0, .slice none 0 0, .slice none 0 0, .slice none 0 0]
      rw [World.size_alloc] at h
      exact h
    · have := h.below.size
      simp only [World.size_alloc]
      omega
  have B8 : Hid (Box ((w.alloc (.cells #[.slice none 0 0, .slice none 0 0, .slice none 0 0, .slice none 0 0] 36)).alloc (.cells #[.slice none 0 0, .slice none 0 0, .slice none 0 0, .slice none 0 0] 36)) w.heap.size 36 #[.slice none 0 0, .slice none 0 0, .slice none 0 0, .slice none 0 0]) := Lib.hid ((Box.new w _ _).alloc _)
  have HBE := Lib.hid (two_below w (.cells #[.slice none 0 0, .slice none 0 0, .slice none 0 0, .slice none 0 0] 36) (.cells #[.slice none 0 0, .slice none 0 0, .slice none 0 0, .slice none 0 0] 36))
  have HRL := Lib.hid hR
  clear h hr hR hz
  go_enter Tryd.func67, Tryd.ntmps67
  go_wp2
  obtain ⟨w1, hw1⟩ : ∃ w1, (w.alloc (.cells #[.slice none 0 0, .slice none 0 0, .slice none 0 0, .slice none 0 0] 36)).alloc (.cells #[.slice none 0 0, .slice none 0 0, .slice none 0 0, .slice none 0 0] 36) = w1 := ⟨_, rfl⟩
  rw [hw1] at T0 B8 HBE ⊢
  obtain ⟨g, hg⟩ : ∃ g, w.heap.size + 1 = g := ⟨_, rfl⟩
  rw [hg] at T0 ⊢
  obtain ⟨g8, hg8⟩ : ∃ g8, w.heap.size = g8 := ⟨_, rfl⟩
  rw [hg8] at B8 ⊢
  have HG8 := Lib.hid hg8
  have HG := Lib.hid hg
  clear hw1 hg hg8
  go_loopw [11] (fun iv wr => ∃ (k : Nat) (r' : Rd) (va : Value) (la : List ByteArray), k ≤ a ∧ iv = .int .i64 k ∧ Hid (Part nameR a (a - k) r r' la) ∧ Hid (Tb w0 w1 wr R g r' va (.slice none 0 0) (.slice none 0 0) la [] [])) (fun iv _ => a - (intOf iv).toNat)
  case atStart => exact ⟨0, r, _, [], by omega, rfl, Lib.hid (Part.start _ _ _), T0⟩
  obtain ⟨k, r', va, la, hk, rfl, HP, HT⟩ := hrel
  clear T0
  by_cases hlt : k < a
  case pos =>
    have HNM := Lib.hid (nameP_any r' HT.out.bytes R w0 (wr.drewN 1) (HT.out.drewN 1).rd)
    have HP2 : Hid (Part nameR a (a - (k + 1)) r (nameR r').2 (la ++ [(nameR r').1])) := Lib.hid (by
      have h := HP.out
      rw [show a - k = (a - (k + 1)) + 1 by omega] at h
      exact h.step)
    have HBY := Lib.hid (nameR_lt HT.out.bytes)
    have HLN : Hid (la.length ≤ 1000) := Lib.hid (by have := HP.out.1; omega)
    unfold Named at HNM
    generalize (nameR r').1 = s at HNM HP2
    generalize (nameR r').2 = r2 at HNM HP2 HBY
    have c0 := HT.out.box.cell 0
    go_upto_region 4 with fail
    go_region_law
      (first
        | (go_simp; go_at_call 74; refine HNM.out.mono ?_; rintro e w5 ⟨rfl, hr5, hf5⟩; have HT5 := Lib.hid ((HT.out.drewN 1).read hr5 hf5 HBY.out); have e0 := HT5.out.box.cell 0; have e1 := fun o => (HT5.out.box.alloc o).cell 0; obtain ⟨v6, w6, hr6, HA6⟩ := app_one slStr HT5.out.ra [.string s] rfl (by intro u hu; simp only [List.mem_cons, List.not_mem_nil, or_false] at hu; rcases hu with rfl; rfl) (by have := HLN.out; omega) (by have h1 := HT5.out.old.size; exact h1) 22; obtain ⟨A6, c6, hv6⟩ := HA6.out.form; subst hv6; obtain ⟨hT6, z0, z1⟩ := HT5.out.puta HA6.out; have HT6 := Lib.hid hT6; have HR6 := Lib.hid hr6; clear hr5 hf5 hr6 hT6)
        | (refine step_of_append HR6.out rfl _ _ rfl rfl rfl ?_))
    all_goals
      go_wp2_with fail
      go_roundw
      case rel => exact ⟨k + 1, r2, _, _, by omega, by go_num, HP2, HT6⟩
      case measure => simp [intOf]; omega
  obtain rfl : k = a := by omega
  have HD1 : Hid (manyR nameR k r = (la, r')) := Lib.hid (by have h := HP.out; rw [Nat.sub_self] at h; exact h.done)
  have T1 := HT
  have HR1 : Hid (Part funR f f r' r' []) := Lib.hid (Part.start _ _ _)
  obtain ⟨r1, hr1⟩ : ∃ r1, r' = r1 := ⟨_, rfl⟩
  rw [hr1] at HD1 T1 HR1
  clear HT HP hlt hr1
  go_wp2
  go_loopw [24] (fun iv wr => ∃ (k : Nat) (r' : Rd) (vf : Value) (lf : List (ByteArray × Int)), k ≤ f ∧ iv = .int .i64 k ∧ Hid (Part funR f (f - k) r1 r' lf) ∧ Hid (Tb w0 w1 wr R g r' va vf (.slice none 0 0) la lf [])) (fun iv _ => f - (intOf iv).toNat)
  case atStart => exact ⟨0, r1, _, [], by omega, rfl, HR1, T1⟩
  obtain ⟨k2, r', vf, lf, hk2, rfl, HP, HT⟩ := hrel
  clear T1 HR1
  by_cases hlt : k2 < f
  case pos =>
    have HNM := Lib.hid (nameP_any r' HT.out.bytes R w0 (wr.drewN 1) (HT.out.drewN 1).rd)
    have HNU := Lib.hid (fun (w' : World) h => number_any 1 (by omega) (nameR r').2 (nameR_lt HT.out.bytes) R w0 w' h)
    have HP2 : Hid (Part funR f (f - (k2 + 1)) r1 (numR 1 (nameR r').2).2 (lf ++ [((nameR r').1, ((numR 1 (nameR r').2).1 : Int))])) := Lib.hid (by
      have h := HP.out
      rw [show f - k2 = (f - (k2 + 1)) + 1 by omega] at h
      exact h.step)
    have HBY := Lib.hid (nameR_lt HT.out.bytes)
    have HBY2 := Lib.hid (num_lt (n := 1) (nameR_lt HT.out.bytes)).2
    have HLN : Hid (lf.length ≤ 1000) := Lib.hid (by have := HP.out.1; omega)
    unfold Named at HNM
    unfold Read at HNU
    generalize (numR 1 (nameR r').2).1 = n at HNU HP2
    generalize (numR 1 (nameR r').2).2 = r3 at HNU HP2 HBY2
    generalize (nameR r').1 = s at HNM HP2
    generalize (nameR r').2 = r2 at HNM HBY HNU
    have c0 := HT.out.box.cell 1
    go_upto_region 8 with fail
    go_region_law
      (first
        | (go_simp; go_at_call 74; refine HNM.out.mono ?_; rintro e w5 ⟨rfl, hr5, hf5⟩; have HT5 := Lib.hid ((HT.out.drewN 1).read hr5 hf5 HBY.out); have e0 := HT5.out.box.cell 1; clear hr5 hf5)
        | (go_simp; go_at_call 66; refine (HNU.out _ HT5.out.rd).mono ?_; rintro e w7 ⟨rfl, hr7, hf7⟩; have HT7 := Lib.hid (HT5.out.read hr7 hf7 HBY2.out); have e7 := HT7.out.box.cell 1; have e1 := fun o => (HT7.out.box.alloc o).cell 1; obtain ⟨v6, w6, hr6, HA6⟩ := app_one slFun HT7.out.rf [.string s, .int .i64 (n : Int)] rfl (by intro u hu; simp only [List.mem_cons, List.not_mem_nil, or_false] at hu; rcases hu with rfl | rfl <;> rfl) (by have := HLN.out; omega) (by have h1 := HT7.out.old.size; exact h1) 30; obtain ⟨A6, c6, hv6⟩ := HA6.out.form; subst hv6; obtain ⟨hT6, z0, z1⟩ := HT7.out.putf HA6.out; have HT6 := Lib.hid hT6; have HR6 := Lib.hid hr6; clear hr7 hf7 hr6 hT6)
        | (refine step_of_append HR6.out rfl _ _ rfl rfl rfl ?_))
    all_goals
      go_wp2_with fail
      go_roundw
      case rel => exact ⟨k2 + 1, r3, _, _, by omega, by go_num, HP2, HT6⟩
      case measure => simp [intOf]; omega
  obtain rfl : k2 = f := by omega
  have HD2 : Hid (manyR funR k2 r1 = (lf, r')) := Lib.hid (by have h := HP.out; rw [Nat.sub_self] at h; exact h.done)
  have T2 := HT
  have HR2 : Hid (Part predR p p r' r' []) := Lib.hid (Part.start _ _ _)
  obtain ⟨r1', hr1⟩ : ∃ r1', r' = r1' := ⟨_, rfl⟩
  rw [hr1] at HD2 T2 HR2
  clear HT HP hlt hr1
  go_wp2
  go_loopw [40] (fun iv wr => ∃ (k : Nat) (r' : Rd) (vp : Value) (lp : List (ByteArray × Int × Int)), k ≤ p ∧ iv = .int .i64 k ∧ Hid (Part predR p (p - k) r1' r' lp) ∧ Hid (Tb w0 w1 wr R g r' va vf vp la lf lp)) (fun iv _ => p - (intOf iv).toNat)
  case atStart => exact ⟨0, r1', _, [], by omega, rfl, HR2, T2⟩
  obtain ⟨k3, r', vp, lp, hk3, rfl, HP, HT⟩ := hrel
  clear T2 HR2
  by_cases hlt : k3 < p
  case pos =>
    have HNM := Lib.hid (nameP_any r' HT.out.bytes R w0 (wr.drewN 1) (HT.out.drewN 1).rd)
    have HNU := Lib.hid (fun (w' : World) h => number_any 1 (by omega) (nameR r').2 (nameR_lt HT.out.bytes) R w0 w' h)
    have HNV := Lib.hid (fun (w' : World) h => number_any 2 (by omega) (numR 1 (nameR r').2).2 (num_lt (n := 1) (nameR_lt HT.out.bytes)).2 R w0 w' h)
    have HP2 : Hid (Part predR p (p - (k3 + 1)) r1' (numR 2 (numR 1 (nameR r').2).2).2 (lp ++ [((nameR r').1, ((numR 1 (nameR r').2).1 : Int), ((numR 2 (numR 1 (nameR r').2).2).1 : Int))])) := Lib.hid (by
      have h := HP.out
      rw [show p - k3 = (p - (k3 + 1)) + 1 by omega] at h
      exact h.step)
    have HBY := Lib.hid (nameR_lt HT.out.bytes)
    have HBY2 := Lib.hid (num_lt (n := 1) (nameR_lt HT.out.bytes)).2
    have HBY3 := Lib.hid (num_lt (n := 2) (num_lt (n := 1) (nameR_lt HT.out.bytes)).2).2
    have HLN : Hid (lp.length ≤ 1000) := Lib.hid (by have := HP.out.1; omega)
    unfold Named at HNM
    unfold Read at HNU HNV
    generalize (numR 2 (numR 1 (nameR r').2).2).1 = m at HNV HP2
    generalize (numR 2 (numR 1 (nameR r').2).2).2 = r4 at HNV HP2 HBY3
    generalize (numR 1 (nameR r').2).1 = n at HNU HP2
    generalize (numR 1 (nameR r').2).2 = r3 at HNU HNV HBY2
    generalize (nameR r').1 = s at HNM HP2
    generalize (nameR r').2 = r2 at HNM HBY HNU
    have c0 := HT.out.box.cell 2
    go_upto_region 12 with fail
    go_region_law
      (first
        | (go_simp; go_at_call 74; refine HNM.out.mono ?_; rintro e w5 ⟨rfl, hr5, hf5⟩; have HT5 := Lib.hid ((HT.out.drewN 1).read hr5 hf5 HBY.out); have e0 := HT5.out.box.cell 2; clear hr5 hf5)
        | (go_simp; go_at_call 66; refine (HNV.out _ HT7.out.rd).mono ?_; rintro e w8 ⟨rfl, hr8, hf8⟩; have HT8 := Lib.hid (HT7.out.read hr8 hf8 HBY3.out); have e8 := HT8.out.box.cell 2; have e1 := fun o => (HT8.out.box.alloc o).cell 2; obtain ⟨v6, w6, hr6, HA6⟩ := app_one slPred HT8.out.rp [.string s, .int .i64 (n : Int), .int .i64 (m : Int)] rfl (by intro u hu; simp only [List.mem_cons, List.not_mem_nil, or_false] at hu; rcases hu with rfl | rfl | rfl <;> rfl) (by have := HLN.out; omega) (by have h1 := HT8.out.old.size; exact h1) 33; obtain ⟨A6, c6, hv6⟩ := HA6.out.form; subst hv6; obtain ⟨hT6, z0, z1⟩ := HT8.out.putp HA6.out; have HT6 := Lib.hid hT6; have HR6 := Lib.hid hr6; clear hr8 hf8 hr6 hT6)
        | (go_simp; go_at_call 66; refine (HNU.out _ HT5.out.rd).mono ?_; rintro e w7 ⟨rfl, hr7, hf7⟩; have HT7 := Lib.hid (HT5.out.read hr7 hf7 HBY2.out); have e7 := HT7.out.box.cell 2; clear hr7 hf7)
        | (refine step_of_append HR6.out rfl _ _ rfl rfl rfl ?_))
    all_goals
      go_wp2_with fail
      go_roundw
      case rel => exact ⟨k3 + 1, r4, _, _, by omega, by go_num, HP2, HT6⟩
      case measure => simp [intOf]; omega
  obtain rfl : k3 = p := by omega
  have HD3 : Hid (manyR predR k3 r1' = (lp, r')) := Lib.hid (by have h := HP.out; rw [Nat.sub_self] at h; exact h.done)
  obtain ⟨Aa, ca, hva, _⟩ := own_form HT.out.ra
  obtain ⟨Af, cf, hvf, _⟩ := own_form HT.out.rf
  obtain ⟨Ap, cp, hvp, _⟩ := own_form HT.out.rp
  subst hva hvf hvp
  have HB8 := Lib.hid (B8.out.fr HT.out.old (by have h1 := HRL.out; have h2 := HG8.out; have h3 := HG.out; omega))
  have x0 := HT.out.box.cell 0
  have x1 := HT.out.box.cell 1
  have x2 := HT.out.box.cell 2
  have x3 := HT.out.box.cell 3
  have y0 := HB8.out.cell 0
  have y1 := HB8.out.cell 1
  have y2 := HB8.out.cell 2
  have y3 := HB8.out.cell 3
  have z0 := HB8.out.frozen 0
  have z1 := HB8.out.frozen 1
  have z2 := HB8.out.frozen 2
  have z3 := HB8.out.frozen 3
  go_wp2
  obtain ⟨w9, hw9⟩ : ∃ w9, (((wr.setCell ⟨g8, 0, none⟩ (.slice Aa la.length ca)).setCell ⟨g8, 1, none⟩ (.slice Af lf.length cf)).setCell ⟨g8, 2, none⟩ (.slice Ap lp.length cp)).setCell ⟨g8, 3, none⟩ (.slice none 0 0) = w9 := ⟨_, rfl⟩
  have hb9 : Box w9 g8 36 #[.slice Aa la.length ca, .slice Af lf.length cf, .slice Ap lp.length cp, .slice none 0 0] := by
    rw [← hw9]
    have := (((HB8.out.set_ 0 (.slice Aa la.length ca)).set_ 1 (.slice Af lf.length cf)).set_ 2 (.slice Ap lp.length cp)).set_ 3 (.slice none 0 0)
    simpa using this
  have hf9 : Fr (fun b => b = g8) wr w9 := by
    rw [← hw9]
    exact ((((Fr.refl (fun b => b = g8) wr).setCell (p := ⟨g8, 0, none⟩) (.inl rfl) _).setCell (p := ⟨g8, 1, none⟩) (.inl rfl) _).setCell (p := ⟨g8, 2, none⟩) (.inl rfl) _).setCell (p := ⟨g8, 3, none⟩) (.inl rfl) _
  rw [hw9]
  have hge : g8 < w1.heap.size ∧ g < w1.heap.size := by have h1 := HT.out.lt; have h2 := HG8.out; have h3 := HG.out; omega
  have hbase : w.heap.size ≤ w1.heap.size := HBE.out.size
  refine bodyPost_ret (v := .agg #[.slice Aa la.length ca, .slice Af lf.length cf, .slice Ap lp.length cp, .slice none 0 0]) (results_cell_row rfl _ _ g8 36 _ (0, 0) _ rfl hb9 Tryd.underlying36 rfl (by kernel_rfl)) rfl ⟨_, _, _, rfl, ?_, ?_, ?_, ?_, ?_⟩
  · rw [HD1.out]
    exact own_more (own_fr HT.out.ra hf9 (fun k hk e => by have := (own_ge HT.out.ra hk).1; omega)) (fun k hk => by have := (own_ge HT.out.ra hk).1; omega)
  · rw [HD1.out, HD2.out]
    exact own_more (own_fr HT.out.rf hf9 (fun k hk e => by have := (own_ge HT.out.rf hk).1; omega)) (fun k hk => by have := (own_ge HT.out.rf hk).1; omega)
  · rw [HD1.out, HD2.out, HD3.out]
    exact own_more (own_fr HT.out.rp hf9 (fun k hk e => by have := (own_ge HT.out.rp hk).1; omega)) (fun k hk => by have := (own_ge HT.out.rp hk).1; omega)
  · rw [HD1.out, HD2.out, HD3.out]
    exact HT.out.rd.fr hf9 (by have h1 := HRL.out; have h2 := HG8.out; omega) (fun k hk => by have h2 := HG8.out; have h3 := HT.out.lt; have h4 := HG.out; have h5 := HT.out.rd.new; have h6 := HRL.out; omega)
  · have h2 : Fr (fun b => b = R ∨ w.heap.size ≤ b) w w9 := (((Fr.refl _ w).trans (Fr.of_below (S := fun b => b = R ∨ w.heap.size ≤ b) HBE.out)).trans (HT.out.old.mono fun k hk e => by have h2 := HG8.out; have h3 := HG.out; rcases e with e | e; exact .inl e; exact .inr (by omega))).trans (hf9.mono fun k hk e => .inr (by have h2 := HG8.out; omega))
    exact h2.mono fun k hk e => by rcases e with e | e; exact e; omega


end Go.Proofs.YtfknoecgcoapcaaDoor
