/-
  2 texts in one (LinkLA LinkLQ). Conditions: those of each theorem.
-/
import Derived.Test.YtclkdlegogjnbaaGreatDoorK50
import Derived.Test.YtclkdlegogjnbaaGreatDoorK49
namespace Go.Proofs.YtclkdlegogjnbaaGreatDoor
open Go Go.RowKit Go.WideShapes Go.ChangeShapes
set_option linter.unusedVariables false
set_option linter.unusedSimpArgs false

/-- How many instructions stand ahead of the k-th object's. -/
def baseAt (l : List Ob) (k : Nat) : Nat := ((l.take k).map fun x => x.code.length).sum
theorem baseAt_step (l : List Ob) (k : Nat) (h : k < l.length) : baseAt l (k + 1) = baseAt l k + l[k].code.length := by
  unfold baseAt
  rw [List.take_succ_eq_append_getElem h, List.map_append, List.sum_append]
  simp
theorem codeJ_at (W : Ob) : ∀ (l : List Ob) (base k : Nat) (hk : k < l.length) (j : Nat) (hj : j < l[k].code.length), (codeJ W base l)[baseAt l k + j]? = some (insJ W l[k] ((base + baseAt l k : Nat) : Int) l[k].code[j])
  | [], _, k, hk, _, _ => by simp at hk
  | x :: l, base, 0, hk, j, hj => by
    unfold codeJ baseAt
    simp only [List.take_zero, List.map_nil, List.sum_nil, Nat.zero_add, Nat.add_zero]
    rw [List.getElem?_append_left (by simpa using hj), List.getElem?_map]
    have hj' : j < x.code.length := hj
    rw [List.getElem?_eq_getElem hj']
    rfl
  | x :: l, base, k + 1, hk, j, hj => by
    have ih := codeJ_at W l (base + x.code.length) k (by simpa using hk) j (by simpa using hj)
    have e : baseAt (x :: l) (k + 1) = x.code.length + baseAt l k := by simp [baseAt]
    unfold codeJ
    rw [e, List.getElem?_append_right (by simp; omega), List.length_map, show x.code.length + baseAt l k + j - x.code.length = baseAt l k + j by omega, ih]
    simp only [List.getElem_cons_succ]
    congr 3
    omega
/-- What is known of objects that were made one. -/
structure Made (l : List Ob) (o : Ob) : Prop where
  checks : ∀ x ∈ l, checkOf x = 0
  code : o.code = codeJ o 0 l
  has : ∀ x ∈ l, (∀ s ∈ x.atoms, s ∈ o.atoms) ∧ (∀ f ∈ x.funs, f ∈ o.funs) ∧ ∀ p ∈ x.preds, called p ∈ o.preds.map called
  check : checkOf o = 0
theorem made_of {l : List Ob} (hl : l.length ≤ 50) (h : (linkP l).2.1 = 0) : ∃ o, linkP l = (o, 0, -1) ∧ Made l o := by
  rw [link_eq l (by omega)] at h ⊢
  obtain ⟨o, h1, h2, h3, _, _⟩ := link_ok h
  obtain ⟨h4, h5⟩ := fold_code l 0 emptyOb o h3 h2
  refine ⟨o, h1, h2, by simpa [emptyOb] using h4, h5, ?_⟩
  have := link_check l hl
  rw [h1] at this
  exact this
theorem insJ_op (W x : Ob) (base : Int) (i : Ins) : (insJ W x base i).1 = i.1 := rfl
/-- An instruction of a made one object. -/
theorem Made.at_ {l : List Ob} {o : Ob} (h : Made l o) (k : Nat) (hk : k < l.length) (j : Nat) (hj : j < l[k].code.length) : baseAt l k + j < o.code.length ∧ o.code[baseAt l k + j]? = some (insJ o l[k] ((baseAt l k : Nat) : Int) l[k].code[j]) := by
  have h1 := codeJ_at o l 0 k hk j hj
  rw [← h.code, Nat.zero_add] at h1
  exact ⟨(List.getElem?_eq_some_iff.1 h1).1, h1⟩
theorem Made.len {l : List Ob} {o : Ob} (h : Made l o) : o.code.length = baseAt l l.length := by
  have h1 := codeJ_len o l 0
  rw [← h.code] at h1
  rw [h1]
  unfold baseAt
  rw [List.take_length]
theorem Made.means {l : List Ob} {o : Ob} (h : Made l o) (k : Nat) (hk : k < l.length) (base : Int) (i : Ins) (hi : i ∈ l[k].code) (j : Nat) (hj : j < (opsOf i.1).length) :
    meansB l[k] o ((opsOf i.1).getD j 0) ((argOf i).getD j 0) ((argOf (insJ o l[k] base i)).getD j 0) base = true := by
  obtain ⟨h1, h2, h3⟩ := h.has _ (List.getElem_mem hk)
  exact means_ok (codeErr_allL (check_parts (h.checks _ (List.getElem_mem hk))).2.2.2 i hi) h1 h2 h3 j hj
theorem Made.two {l : List Ob} {o : Ob} (h : Made l o) (k : Nat) (hk : k < l.length) (base : Int) (hb : 0 ≤ base ∧ base ≤ 1000000) (i : Ins) (hi : i ∈ l[k].code) (j : Nat) (hj : j < (opsOf i.1).length) :
    TwoOk l[k] o ((opsOf i.1).getD j 0) ((argOf i).getD j 0) ((argOf (insJ o l[k] base i)).getD j 0) := by
  obtain ⟨h1, h2, h3⟩ := h.has _ (List.getElem_mem hk)
  have hfew := ops_few i.1
  have ho := ops_of (h.checks _ (List.getElem_mem hk)) i hi j hj
  rw [insJ_arg _ _ _ _ j (by omega), if_pos hj]
  generalize (opsOf i.1).getD j 0 = kd at ho ⊢
  generalize (argOf i).getD j 0 = n at ho ⊢
  obtain ⟨o3, o4, o7, o8⟩ := ho
  refine ⟨fun e => ⟨o3 e, ?_⟩, fun e => ⟨o4 e, ?_⟩, fun e => ⟨o7 e, ?_⟩, fun e => ⟨o8 e, ?_⟩⟩
  · have hn := o3 e
    unfold opdJ
    rw [if_pos e]
    have hm := h1 (l[k].atoms.getD n.toNat ⟨#[]⟩) (by rw [List.getD_eq_getElem?_getD, List.getElem?_eq_getElem (by omega)]; exact List.getElem_mem _)
    have := place_lt hm
    omega
  · have hn := o4 e
    unfold opdJ
    rw [if_neg (by omega), if_pos e]
    have hm := h2 (l[k].funs.getD n.toNat (⟨#[]⟩, 0)) (by rw [List.getD_eq_getElem?_getD, List.getElem?_eq_getElem (by omega)]; exact List.getElem_mem _)
    have := place_lt hm
    omega
  · have hn := o7 e
    unfold opdJ
    rw [if_neg (by omega), if_neg (by omega), if_pos e]
    have hm := h3 (l[k].preds.getD n.toNat (⟨#[]⟩, 0, 0)) (by rw [List.getD_eq_getElem?_getD, List.getElem?_eq_getElem (by omega)]; exact List.getElem_mem _)
    obtain ⟨q, hq, h4, _⟩ := findFrom_at _ _ 0 o.preds (findFrom_mem _ _ 0 o.preds hm)
    rw [h4]
    omega
  · have hn := o8 e
    unfold opdJ
    rw [if_neg (by omega), if_neg (by omega), if_neg (by omega), if_pos e]
    split <;> omega
theorem baseAt_le {l : List Ob} {o : Ob} (h : Made l o) {k : Nat} (hk : k ≤ l.length) : baseAt l k ≤ 1024 := by
  have h1 := h.len
  have h2 := (check_parts h.check).1.2.2.2
  have h3 : baseAt l k ≤ baseAt l l.length := by
    unfold baseAt
    rw [List.take_length]
    have e : l = l.take k ++ l.drop k := (List.take_append_drop k l).symm
    conv => rhs; rw [e, List.map_append, List.sum_append]
    omega
  omega

end Go.Proofs.YtclkdlegogjnbaaGreatDoor

namespace Go.Proofs.YtclkdlegogjnbaaGreatDoor
open Go Go.RowKit Go.WideShapes Go.ChangeShapes
set_option linter.unusedVariables false
set_option linter.unusedSimpArgs false

/-- Behind the two instructions' boxes. -/
def Cut12 (wr wc : World) (t12 t13 : Value) (x0 x1 x2 x3 x4 y0 y1 y2 y3 y4 : Int) : Prop :=
  ∃ gx gy, t12 = .pointer (some ⟨gx, 0, none⟩) ∧ t13 = .pointer (some ⟨gy, 0, none⟩) ∧ Box wc gx 51 #[.int .i64 x0, .int .i64 x1, .int .i64 x2, .int .i64 x3, .int .i64 x4] ∧ Box wc gy 52 #[.int .i64 y0, .int .i64 y1, .int .i64 y2, .int .i64 y3, .int .i64 y4] ∧ Below wr.heap.size wr wc
theorem cell_block_lt10 {w : World} {a : Addr} {v : Value} (h : w.cell? a = some v) : a.block < w.heap.size := by
  unfold World.cell? at h
  split at h
  · rename_i hb; exact (Array.getElem?_eq_some_iff.1 hb).1
  · cases h
theorem bel_cell {w W : World} {p : Addr} {v : Value} (h : w.cell? p = some v) (hb : Below w.heap.size w W) : W.cell? p = some v := (hb.cell (cell_block_lt10 h)).trans h
theorem kinds_at (L : List Int) (m : Nat) (h : m < L.length) : ((L.map (Value.int .i64)).toArray)[m]? = some (.int .i64 (L.getD m 0)) := by
  simp [List.getD_eq_getElem?_getD, List.getElem?_eq_getElem h]
theorem arg_atL (x0 x1 x2 x3 x4 : Int) (m : Nat) (h : m < 4) : (#[.int .i64 x0, .int .i64 x1, .int .i64 x2, .int .i64 x3, .int .i64 x4] : Array Value)[1 + m]? = some (.int .i64 ((argOf (x0, x1, x2, x3, x4)).getD m 0)) := by
  match m, h with
  | 0, _ => rfl
  | 1, _ => rfl
  | 2, _ => rfl
  | 3, _ => rfl
theorem step_of_callL {P : Program} {ops : Array Oper} {o : Oper} {a : Act} {w : World} {K : Act → World → Prop} {Q : Exit → Act → World → Prop} {E : Prop} {f : FuncId} {ts : Array TypeId} {vs : Array Value}
    (hw : Region.wanted o (yielded ops a.tmps) = true) (hen : ∀ args w, (callFunc f args).run P w = .ok (.enter f args) w) (xs : Array Operand) (ho : o.op = .call { callee := .value (.func f), args := xs, argTypes := ts })
    (hx : xs.map a.eval = vs) (h : Calls P f vs w fun e w' => ∃ v, e = .returned v ∧ K (a.put o.dst v) w') :
    if Region.wanted o (yielded ops a.tmps) = true then Oper.wp P o a w K Q else E := by
  rw [if_pos hw]
  unfold Oper.wp execOp
  simp only [ho, resolve, invoke, Act.eval, Deferred.ofValue, Sem.run_bind, Sem.run_pure, Result.andThen_ok, hen]
  rw [Oper.upon_enter, hx]
  simp only [Array.empty_append, Array.append_empty]
  refine h.mono fun e w' he => ?_
  obtain ⟨v, rfl, hk⟩ := he
  exact hk
theorem cut12_15 {x0 x1 x2 x3 x4 y0 y1 y2 y3 y4 : Int} (w2 wr : World) (hb : Below wr.heap.size wr w2) :
    Cut12 wr ((w2.alloc (.cells #[.int .i64 x0, .int .i64 x1, .int .i64 x2, .int .i64 x3, .int .i64 x4] 51)).alloc (.cells #[.int .i64 y0, .int .i64 y1, .int .i64 y2, .int .i64 y3, .int .i64 y4] 52)) (.pointer (some ⟨w2.heap.size, 0, none⟩)) (.pointer (some ⟨w2.heap.size + 1, 0, none⟩)) x0 x1 x2 x3 x4 y0 y1 y2 y3 y4 := by
  have h1 := (Box.new w2 51 #[.int .i64 x0, .int .i64 x1, .int .i64 x2, .int .i64 x3, .int .i64 x4]).alloc (.cells #[.int .i64 y0, .int .i64 y1, .int .i64 y2, .int .i64 y3, .int .i64 y4] 52)
  have h2 := Box.new (w2.alloc (.cells #[.int .i64 x0, .int .i64 x1, .int .i64 x2, .int .i64 x3, .int .i64 x4] 51)) 52 #[.int .i64 y0, .int .i64 y1, .int .i64 y2, .int .i64 y3, .int .i64 y4]
  rw [World.size_alloc] at h2
  have hs := hb.size
  exact ⟨_, _, rfl, rfl, h1, h2, (hb.alloc hs _).alloc (by simp; omega) _⟩
theorem cut12_16 {x0 x1 x2 x3 x4 y0 y1 y2 y3 y4 : Int} (w2 wr : World) (hb : Below wr.heap.size wr w2) :
    Cut12 wr ((w2.alloc (.cells #[.int .i64 y0, .int .i64 y1, .int .i64 y2, .int .i64 y3, .int .i64 y4] 52)).alloc (.cells #[.int .i64 x0, .int .i64 x1, .int .i64 x2, .int .i64 x3, .int .i64 x4] 51)) (.pointer (some ⟨w2.heap.size + 1, 0, none⟩)) (.pointer (some ⟨w2.heap.size, 0, none⟩)) x0 x1 x2 x3 x4 y0 y1 y2 y3 y4 := by
  have h2 := (Box.new w2 52 #[.int .i64 y0, .int .i64 y1, .int .i64 y2, .int .i64 y3, .int .i64 y4]).alloc (.cells #[.int .i64 x0, .int .i64 x1, .int .i64 x2, .int .i64 x3, .int .i64 x4] 51)
  have h1 := Box.new (w2.alloc (.cells #[.int .i64 y0, .int .i64 y1, .int .i64 y2, .int .i64 y3, .int .i64 y4] 52)) 51 #[.int .i64 x0, .int .i64 x1, .int .i64 x2, .int .i64 x3, .int .i64 x4]
  rw [World.size_alloc] at h1
  have hs := hb.size
  exact ⟨_, _, rfl, rfl, h1, h2, (hb.alloc hs _).alloc (by simp; omega) _⟩

end Go.Proofs.YtclkdlegogjnbaaGreatDoor
