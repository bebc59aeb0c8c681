/-
  Two regions of the document's line (resolventref09): a label that is used is noted; the instruction comes behind the code: step by step, of whatever frame. Conditions: those of each theorem.
-/
import Derived.Test.YtfgnapfodnhppaaGreatDoorJ42
import Derived.Test.YtfgnapfodnhppaaGreatDoorJ13
import Derived.RegionTactic
namespace Go.Proofs.YtfgnapfodnhppaaGreatDoor
open Go Go.RowKit Go.WideShapes Go.ChangeShapes
set_option linter.unusedVariables false
set_option linter.unusedSimpArgs false

theorem eval_put {a : Act} {d : Nat} {v : Value} (hs : d < a.tmps.size) (k : Nat) : (a.put (some d) v).eval (.tmp k) = if k = d then v else a.eval (.tmp k) := by
  unfold Act.put Act.eval
  simp only [Array.getD_eq_getD_getElem?, Array.getElem?_setIfInBounds]
  by_cases h : d = k
  · subst h
    rw [if_pos rfl, if_pos rfl, if_pos hs]
    rfl
  · rw [if_neg h, if_neg (fun e => h e.symm)]
theorem size_put {a : Act} {d : Nat} {v : Value} : (a.put (some d) v).tmps.size = a.tmps.size := by simp [Act.put]
theorem wanted_none {o : Oper} {ops : Array Oper} {tm : Array Value} (h : o.guard = none) : Region.wanted o (yielded ops tm) = true := by simp [Region.wanted, h]
theorem step_val {P : Program} {ops : Array Oper} {o : Oper} {a : Act} {w w' : World} {K : Act → World → Prop} {Q : Exit → Act → World → Prop} {E : Prop} {v : Value} (hg : o.guard = none) (h : (execOp a.eval o).run P w = .ok (.value v) w') (hk : K (a.put o.dst v) w') :
    if Region.wanted o (yielded ops a.tmps) = true then Oper.wp P o a w K Q else E := by
  rw [if_pos (wanted_none hg)]
  unfold Oper.wp
  rw [h]
  exact hk
theorem step_skip {P : Program} {ops : Array Oper} {o : Oper} {a : Act} {w w' : World} {K : Act → World → Prop} {Q : Exit → Act → World → Prop} {E : Prop} (hg : o.guard = none) (h : (execOp a.eval o).run P w = .ok .skip w') (hk : K (a.put o.dst undef) w') :
    if Region.wanted o (yielded ops a.tmps) = true then Oper.wp P o a w K Q else E := by
  rw [if_pos (wanted_none hg)]
  unfold Oper.wp
  rw [h]
  exact hk
theorem exec_loadG {P : Program} {o : Oper} {a : Act} {w : World} {t : TypeId} {x : Operand} {p v : Value} (ho : o.op = .load t x) (hx : a.eval x = p) (h : (Instr.loadAt t p).run P w = .ok v w) : (execOp a.eval o).run P w = .ok (.value v) w := by
  unfold execOp
  simp only [ho, hx, Sem.run_bind, h, Result.andThen_ok, Sem.run_pure]
theorem exec_move {P : Program} {o : Oper} {a : Act} {w : World} {x : Operand} {v : Value} (ho : o.op = .move x) (hx : a.eval x = v) : (execOp a.eval o).run P w = .ok (.value v) w := by
  unfold execOp
  simp only [ho, hx, Sem.run_pure]
theorem exec_nil {P : Program} {o : Oper} {a : Act} {w : World} {x : Operand} {p : Addr} (ho : o.op = .nilCheck x) (hx : a.eval x = .pointer (some p)) : (execOp a.eval o).run P w = .ok (.value (.pointer (some p))) w := by
  unfold execOp
  simp only [ho, hx]
  go_simp
theorem exec_field {P : Program} {o : Oper} {a : Act} {w : World} {x : Operand} {t : TypeId} {k : Nat} {p v : Value} (ho : o.op = .fieldAddr t x k) (hx : a.eval x = p) (h : (Instr.fieldAt t p k).run P w = .ok v w) : (execOp a.eval o).run P w = .ok (.value v) w := by
  unfold execOp
  simp only [ho, hx, Sem.run_bind, h, Result.andThen_ok, Sem.run_pure]
def o4_0 : Oper := ⟨some 246, .move (.tmp 0), 61, "ref.go:148", #[], none⟩
def o4_1 : Oper := ⟨some 247, .move (.tmp 0), 61, "ref.go:148", #[], none⟩
def o4_2 : Oper := ⟨some 248, .nilCheck (.tmp 247), 0, "ref.go:148", #[⟨1, .data⟩], none⟩
def o4_3 : Oper := ⟨some 249, .fieldAddr 66 (.tmp 248) 0, 0, "ref.go:148", #[⟨2, .data⟩], none⟩
def o4_4 : Oper := ⟨some 250, .fieldAddr 39 (.tmp 249) 3, 0, "ref.go:148", #[⟨3, .data⟩], none⟩
def o4_5 : Oper := ⟨some 251, .load 37 (.tmp 250), 37, "ref.go:148", #[⟨4, .data⟩], none⟩
def o4_6 : Oper := ⟨some 252, .load 71 (.tmp 13), 71, "ref.go:148", #[], none⟩
def o4_7 : Oper := ⟨some 253, .buildSlice 37 1 #[(0, .tmp 252)], 37, "ref.go:148", #[⟨6, .data⟩], none⟩
def o4_8 : Oper := ⟨some 254, .call { callee := .builtin .append, args := #[.tmp 251, .tmp 253], argTypes := #[37, 37] }, 37, "ref.go:148", #[⟨5, .data⟩, ⟨7, .data⟩], none⟩
def o4_9 : Oper := ⟨some 255, .nilCheck (.tmp 246), 0, "ref.go:148", #[⟨0, .data⟩, ⟨0, .phase⟩, ⟨1, .phase⟩, ⟨2, .phase⟩, ⟨3, .phase⟩, ⟨4, .phase⟩, ⟨5, .phase⟩, ⟨6, .phase⟩, ⟨7, .phase⟩, ⟨8, .phase⟩], none⟩
def o4_10 : Oper := ⟨some 256, .fieldAddr 66 (.tmp 255) 0, 0, "ref.go:148", #[⟨9, .data⟩, ⟨0, .phase⟩, ⟨1, .phase⟩, ⟨2, .phase⟩, ⟨3, .phase⟩, ⟨4, .phase⟩, ⟨5, .phase⟩, ⟨6, .phase⟩, ⟨7, .phase⟩, ⟨8, .phase⟩], none⟩
def o4_11 : Oper := ⟨some 257, .fieldAddr 39 (.tmp 256) 3, 0, "ref.go:148", #[⟨10, .data⟩, ⟨0, .phase⟩, ⟨1, .phase⟩, ⟨2, .phase⟩, ⟨3, .phase⟩, ⟨4, .phase⟩, ⟨5, .phase⟩, ⟨6, .phase⟩, ⟨7, .phase⟩, ⟨8, .phase⟩], none⟩
def o4_12 : Oper := ⟨none, .store 37 (.tmp 257) (.tmp 254), 0, "ref.go:148", #[⟨11, .data⟩, ⟨8, .data⟩, ⟨8, .chain⟩, ⟨0, .phase⟩, ⟨1, .phase⟩, ⟨2, .phase⟩, ⟨3, .phase⟩, ⟨4, .phase⟩, ⟨5, .phase⟩, ⟨6, .phase⟩, ⟨7, .phase⟩, ⟨8, .phase⟩], none⟩
def ops40 : Array Oper := #[o4_0, o4_1, o4_2, o4_3, o4_4, o4_5, o4_6, o4_7, o4_8, o4_9, o4_10, o4_11, o4_12]
def o3_0 : Oper := ⟨some 228, .move (.tmp 0), 61, "ref.go:145", #[], none⟩
def o3_1 : Oper := ⟨some 229, .move (.tmp 0), 61, "ref.go:145", #[], none⟩
def o3_2 : Oper := ⟨some 230, .nilCheck (.tmp 229), 0, "ref.go:145", #[⟨1, .data⟩], none⟩
def o3_3 : Oper := ⟨some 231, .fieldAddr 66 (.tmp 230) 2, 0, "ref.go:145", #[⟨2, .data⟩], none⟩
def o3_4 : Oper := ⟨some 232, .load 63 (.tmp 231), 63, "ref.go:145", #[⟨3, .data⟩], none⟩
def o3_5 : Oper := ⟨some 233, .move (.tmp 0), 61, "ref.go:145", #[], none⟩
def o3_6 : Oper := ⟨some 234, .nilCheck (.tmp 233), 0, "ref.go:145", #[⟨5, .data⟩], none⟩
def o3_7 : Oper := ⟨some 235, .fieldAddr 66 (.tmp 234) 0, 0, "ref.go:145", #[⟨6, .data⟩], none⟩
def o3_8 : Oper := ⟨some 236, .fieldAddr 39 (.tmp 235) 3, 0, "ref.go:145", #[⟨7, .data⟩], none⟩
def o3_9 : Oper := ⟨some 237, .load 37 (.tmp 236), 37, "ref.go:145", #[⟨8, .data⟩], none⟩
def o3_10 : Oper := ⟨some 238, .call { callee := .builtin .len, args := #[.tmp 237], argTypes := #[37] }, 3, "ref.go:145", #[⟨9, .data⟩], none⟩
def o3_11 : Oper := ⟨some 239, .move (.tmp 19), 3, "ref.go:145", #[], none⟩
def o3_12 : Oper := ⟨some 240, .move (.tmp 2), 3, "ref.go:145", #[], none⟩
def o3_13 : Oper := ⟨some 241, .build 68 #[(0, .tmp 238), (1, .tmp 239), (2, .tmp 240)], 68, "ref.go:145", #[⟨10, .data⟩, ⟨11, .data⟩, ⟨12, .data⟩], none⟩
def o3_14 : Oper := ⟨some 242, .buildSlice 63 1 #[(0, .tmp 241)], 63, "ref.go:145", #[⟨13, .data⟩], none⟩
def o3_15 : Oper := ⟨some 243, .call { callee := .builtin .append, args := #[.tmp 232, .tmp 242], argTypes := #[63, 63] }, 63, "ref.go:145", #[⟨4, .data⟩, ⟨14, .data⟩], none⟩
def o3_16 : Oper := ⟨some 244, .nilCheck (.tmp 228), 0, "ref.go:145", #[⟨0, .data⟩, ⟨0, .phase⟩, ⟨1, .phase⟩, ⟨2, .phase⟩, ⟨3, .phase⟩, ⟨4, .phase⟩, ⟨5, .phase⟩, ⟨6, .phase⟩, ⟨7, .phase⟩, ⟨8, .phase⟩, ⟨9, .phase⟩, ⟨10, .phase⟩, ⟨11, .phase⟩, ⟨12, .phase⟩, ⟨13, .phase⟩, ⟨14, .phase⟩, ⟨15, .phase⟩], none⟩
def o3_17 : Oper := ⟨some 245, .fieldAddr 66 (.tmp 244) 2, 0, "ref.go:145", #[⟨16, .data⟩, ⟨0, .phase⟩, ⟨1, .phase⟩, ⟨2, .phase⟩, ⟨3, .phase⟩, ⟨4, .phase⟩, ⟨5, .phase⟩, ⟨6, .phase⟩, ⟨7, .phase⟩, ⟨8, .phase⟩, ⟨9, .phase⟩, ⟨10, .phase⟩, ⟨11, .phase⟩, ⟨12, .phase⟩, ⟨13, .phase⟩, ⟨14, .phase⟩, ⟨15, .phase⟩], none⟩
def o3_18 : Oper := ⟨none, .store 63 (.tmp 245) (.tmp 243), 0, "ref.go:145", #[⟨17, .data⟩, ⟨15, .data⟩, ⟨15, .chain⟩, ⟨0, .phase⟩, ⟨1, .phase⟩, ⟨2, .phase⟩, ⟨3, .phase⟩, ⟨4, .phase⟩, ⟨5, .phase⟩, ⟨6, .phase⟩, ⟨7, .phase⟩, ⟨8, .phase⟩, ⟨9, .phase⟩, ⟨10, .phase⟩, ⟨11, .phase⟩, ⟨12, .phase⟩, ⟨13, .phase⟩, ⟨14, .phase⟩, ⟨15, .phase⟩], none⟩
def ops39 : Array Oper := #[o3_0, o3_1, o3_2, o3_3, o3_4, o3_5, o3_6, o3_7, o3_8, o3_9, o3_10, o3_11, o3_12, o3_13, o3_14, o3_15, o3_16, o3_17, o3_18]

abbrev pg (g k : Nat) : Value := .pointer (some ⟨g, k, none⟩)
theorem f66_0 (g : Nat) (w : World) : (Instr.fieldAt 66 (pg g 0) 0).run Tryz.prog w = .ok (pg g 0) w := by go_simp
theorem f66_2 (g : Nat) (w : World) : (Instr.fieldAt 66 (pg g 0) 2).run Tryz.prog w = .ok (pg g 1028) w := by go_simp
theorem f39_3 (g : Nat) (w : World) : (Instr.fieldAt 39 (pg g 0) 3).run Tryz.prog w = .ok (pg g 3) w := by go_simp
theorem l37 (g k : Nat) (w : World) {v : Value} (h : w.cell? ⟨g, k, none⟩ = some v) : (Instr.loadAt 37 (.pointer (some ⟨g, k, none⟩))).run Tryz.prog w = .ok v w := by go_simp
theorem l63 (g k : Nat) (w : World) {v : Value} (h : w.cell? ⟨g, k, none⟩ = some v) : (Instr.loadAt 63 (.pointer (some ⟨g, k, none⟩))).run Tryz.prog w = .ok v w := by go_simp
theorem l71 (g : Nat) (w : World) {v0 v1 v2 v3 v4 : Value} (h0 : w.cell? ⟨g, 0, none⟩ = some v0) (h1 : w.cell? ⟨g, 1, none⟩ = some v1) (h2 : w.cell? ⟨g, 2, none⟩ = some v2) (h3 : w.cell? ⟨g, 3, none⟩ = some v3) (h4 : w.cell? ⟨g, 4, none⟩ = some v4) :
    (Instr.loadAt 71 (pg g 0)).run Tryz.prog w = .ok (.agg #[v0, v1, v2, v3, v4]) w := by go_simp
theorem bs37 {a : Act} {w : World} {o : Oper} {x : Nat} {i0 i1 i2 i3 i4 : Int} (ho : o.op = .buildSlice 37 1 #[(0, .tmp x)]) (hx : a.eval (.tmp x) = .agg #[.int .i64 i0, .int .i64 i1, .int .i64 i2, .int .i64 i3, .int .i64 i4]) :
    (execOp a.eval o).run Tryz.prog w = .ok (.value (.slice (some ⟨w.heap.size, 0, none⟩) 1 1)) (w.alloc (.cells #[.int .i64 i0, .int .i64 i1, .int .i64 i2, .int .i64 i3, .int .i64 i4] 71)) := by
  unfold execOp
  simp only [ho]
  unfold Act.eval at hx
  simp only [Array.getD_eq_getD_getElem?] at hx
  go_simp
theorem bs63 {a : Act} {w : World} {o : Oper} {x : Nat} {i0 i1 i2 : Int} (ho : o.op = .buildSlice 63 1 #[(0, .tmp x)]) (hx : a.eval (.tmp x) = .agg #[.int .i64 i0, .int .i64 i1, .int .i64 i2]) :
    (execOp a.eval o).run Tryz.prog w = .ok (.value (.slice (some ⟨w.heap.size, 0, none⟩) 1 1)) (w.alloc (.cells #[.int .i64 i0, .int .i64 i1, .int .i64 i2] 68)) := by
  unfold execOp
  simp only [ho]
  unfold Act.eval at hx
  simp only [Array.getD_eq_getD_getElem?] at hx
  go_simp
theorem st1 {a : Act} {w : World} {o : Oper} {t : TypeId} {x y : Operand} {g k n c : Nat} {u : Value} {A : Option Addr} (ho : o.op = .store t x y) (ht : t = 37 ∨ t = 63) (hx : a.eval x = .pointer (some ⟨g, k, none⟩)) (hy : a.eval y = .slice A n c) (hc : w.cell? ⟨g, k, none⟩ = some u) (hf : w.frozen? ⟨g, k, none⟩ = false) :
    (execOp a.eval o).run Tryz.prog w = .ok .skip (w.setCell ⟨g, k, none⟩ (.slice A n c)) := by
  unfold execOp
  rcases ht with rfl | rfl <;> (simp only [ho, hx, hy]; go_simp)

theorem exec_len {a : Act} {w : World} {o : Oper} {x n c : Nat} {A : Option Addr} (ho : o.op = .call { callee := .builtin .len, args := #[.tmp x], argTypes := #[37] }) (hx : a.eval (.tmp x) = .slice A n c) : (execOp a.eval o).run Tryz.prog w = .ok (.value (.int .i64 n)) w := by
  unfold execOp
  simp only [ho]
  unfold Act.eval at hx
  simp only [Array.getD_eq_getD_getElem?] at hx
  go_simp
theorem exec_build {a : Act} {w : World} {o : Oper} {x y z : Nat} {i0 i1 i2 : Int} (ho : o.op = .build 68 #[(0, .tmp x), (1, .tmp y), (2, .tmp z)]) (hx : a.eval (.tmp x) = .int .i64 i0) (hy : a.eval (.tmp y) = .int .i64 i1) (hz : a.eval (.tmp z) = .int .i64 i2) : (execOp a.eval o).run Tryz.prog w = .ok (.value (.agg #[.int .i64 i0, .int .i64 i1, .int .i64 i2])) w := by
  unfold execOp
  simp only [ho]
  unfold Act.eval at hx hy hz
  simp only [Array.getD_eq_getD_getElem?] at hx hy hz
  go_simp
theorem exec_append {P : Program} {o : Oper} {a : Act} {w w' : World} {t t2 : TypeId} {v u v' : Value} {s x : Operand} (ho : o.op = .call { callee := .builtin .append, args := #[s, x], argTypes := #[t, t2] }) (hs : a.eval s = v) (hx : a.eval x = u) (hr : (Builtin.append_ #[t, t2] o.type #[v, u]).run P w = .ok v' w') : (execOp a.eval o).run P w = .ok (.value v') w' := by
  unfold execOp
  simp only [ho, resolve, invoke, builtin, Sem.run_bind, Sem.run_pure, Result.andThen_ok, List.map_toArray, List.map_cons, List.map_nil, hs, hx, hr]
section
variable {P : Program} {md : Region.Mode} {ops : Array Oper} {Q : Exit → Act → World → Prop} {fuel : Nat} {listed : Array Bool} {a : Act} {w : World}
theorem wpAny_one {i : Nat} {o : Oper} {v : Value} {w' : World} (hr : Region.ready md ops listed = [i]) (ho : ops[i]? = some o) (hg : o.guard = none) (h : (execOp a.eval o).run P w = .ok (.value v) w') (hk : wpAny P md ops Q fuel (listed.setIfInBounds i true) (a.put o.dst v) w') : wpAny P md ops Q (fuel + 1) listed a w :=
  wpAny_ready hr (by simp) (AllReady.cons ho (fun K hK => step_val hg h (hK _ _ hk)) AllReady.nil)
theorem wpAny_skip {i : Nat} {o : Oper} {w' : World} (hr : Region.ready md ops listed = [i]) (ho : ops[i]? = some o) (hg : o.guard = none) (hd : o.dst = none) (h : (execOp a.eval o).run P w = .ok .skip w') (hk : wpAny P md ops Q fuel (listed.setIfInBounds i true) a w') : wpAny P md ops Q (fuel + 1) listed a w :=
  wpAny_ready hr (by simp) (AllReady.cons ho (fun K hK => step_skip hg h (hK _ _ (by rw [hd]; exact hk))) AllReady.nil)
theorem wpAny_two {i j : Nat} {o1 o2 : Oper} {v1 v2 : Value} {w1 w2 : World} (hr : Region.ready md ops listed = [i, j]) (ho1 : ops[i]? = some o1) (hg1 : o1.guard = none) (h1 : (execOp a.eval o1).run P w = .ok (.value v1) w1) (ho2 : ops[j]? = some o2) (hg2 : o2.guard = none) (h2 : (execOp a.eval o2).run P w = .ok (.value v2) w2)
    (hk1 : wpAny P md ops Q fuel (listed.setIfInBounds i true) (a.put o1.dst v1) w1) (hk2 : wpAny P md ops Q fuel (listed.setIfInBounds j true) (a.put o2.dst v2) w2) : wpAny P md ops Q (fuel + 1) listed a w :=
  wpAny_ready hr (by simp) (AllReady.cons ho1 (fun K hK => step_val hg1 h1 (hK _ _ hk1)) (AllReady.cons ho2 (fun K hK => step_val hg2 h2 (hK _ _ hk2)) AllReady.nil))
end
theorem bp {a : Act} {d : Nat} {v : Value} (h : a.tmps.size = 258) : (a.put (some d) v).tmps.size = 258 := size_put.trans h
theorem es {a : Act} {d : Nat} {v : Value} (h : a.tmps.size = 258) (hd : Nat.blt d 258 = true) : (a.put (some d) v).eval (.tmp d) = v := by
  rw [eval_put (by rw [h]; simpa [Nat.blt_eq] using hd), if_pos rfl]
theorem eval_ne {a : Act} {d k : Nat} {v : Value} (h : Nat.beq k d = false) : (a.put (some d) v).eval (.tmp k) = a.eval (.tmp k) := by
  have hn : k ≠ d := Nat.ne_of_beq_eq_false h
  unfold Act.put Act.eval
  simp only [Array.getD_eq_getD_getElem?, Array.getElem?_setIfInBounds]
  rw [if_neg (fun e => hn e.symm)]
theorem en {a : Act} {d k : Nat} {v u : Value} (h : Nat.beq k d = false) (e : a.eval (.tmp k) = u) : (a.put (some d) v).eval (.tmp k) = u := (eval_ne h).trans e
theorem tk {P : Program} {md : Region.Mode} {ops : Array Oper} {Q : Exit → Act → World → Prop} {i : Nat} {o : Oper} {v : Value} {f : Nat} {L : Array Bool} {a : Act} {w : World} (hQ : ∀ c d v a w, Q (.panic c) (Act.put a d v) w → Q (.panic c) a w) (ho : ops[i]? = some o) (hg : o.guard = none)
    (hx : ∀ w, (execOp a.eval o).run P w = .ok (.value v) w) (h : wpAny P md ops Q f (L.setIfInBounds i true) (a.put o.dst v) w) (hs : Region.noSelect ops = true := by kernel_rfl) (hf : Region.free md ops L i = true := by kernel_rfl) (hr : (Region.ready md ops L).contains i = true := by kernel_rfl) : wpAny P md ops Q (f + 1) L a w :=
  wpAny_take ho hs hf hr (fun c a w h => hQ _ _ _ _ _ h) (Or.inl ⟨wanted_none hg, hx⟩) h
theorem put_comm {a : Act} {d e : Nat} {v u : Value} (h : d ≠ e) : (a.put (some d) v).put (some e) u = (a.put (some e) u).put (some d) v := by
  unfold Act.put
  simp only [Act.mk.injEq, and_true]
  exact Array.setIfInBounds_comm _ _ h
theorem wpAny_same {P : Program} {md : Region.Mode} {ops : Array Oper} {Q : Exit → Act → World → Prop} {f : Nat} {L L' : Array Bool} {a a' : Act} {w : World} (h : wpAny P md ops Q f L a w) (e1 : L' = L) (e2 : a' = a) : wpAny P md ops Q f L' a' w := by
  rw [e1, e2]
  exact h

set_option maxRecDepth 100000 in
set_option maxHeartbeats 4000000 in
theorem region40 {a : Act} {w w6 : World} {Q : Exit → Act → World → Prop} {g gx n9 c9 n6 c6 : Nat} {A9 A6 : Option Addr} {i0 i1 i2 i3 i4 : Int} {u : Value} (hQ : ∀ c d v a w, Q (.panic c) (Act.put a d v) w → Q (.panic c) a w)
    (hs : a.tmps.size = 258) (h0 : a.eval (.tmp 0) = pg g 0) (hx : a.eval (.tmp 13) = .pointer (some ⟨gx, 0, none⟩)) (q3 : w.drew.cell? ⟨g, 3, none⟩ = some (.slice A9 n9 c9)) (q3a : (w.drew.alloc (.cells #[.int .i64 i0, .int .i64 i1, .int .i64 i2, .int .i64 i3, .int .i64 i4] 71)).cell? ⟨g, 3, none⟩ = some (.slice A9 n9 c9))
    (x0 : w.drew.cell? ⟨gx, 0, none⟩ = some (.int .i64 i0)) (x1 : w.drew.cell? ⟨gx, 1, none⟩ = some (.int .i64 i1)) (x2 : w.drew.cell? ⟨gx, 2, none⟩ = some (.int .i64 i2)) (x3 : w.drew.cell? ⟨gx, 3, none⟩ = some (.int .i64 i3)) (x4 : w.drew.cell? ⟨gx, 4, none⟩ = some (.int .i64 i4))
    (hr : (Builtin.append_ #[37, 37] 37 #[.slice A9 n9 c9, .slice (some ⟨w.drew.heap.size, 0, none⟩) 1 1]).run Tryz.prog (w.drew.alloc (.cells #[.int .i64 i0, .int .i64 i1, .int .i64 i2, .int .i64 i3, .int .i64 i4] 71)) = .ok (.slice A6 n6 c6) w6) (z0 : w6.cell? ⟨g, 3, none⟩ = some u) (z1 : w6.frozen? ⟨g, 3, none⟩ = false)
    (hfin : Q .normal ((((((((((((a.put (some 246) (pg g 0)).put (some 247) (pg g 0)).put (some 248) (pg g 0)).put (some 249) (pg g 0)).put (some 250) (pg g 3)).put (some 251) (.slice A9 n9 c9)).put (some 252) (.agg #[.int .i64 i0, .int .i64 i1, .int .i64 i2, .int .i64 i3, .int .i64 i4])).put (some 253) (.slice (some ⟨w.drew.heap.size, 0, none⟩) 1 1)).put (some 254) (.slice A6 n6 c6)).put (some 255) (pg g 0)).put (some 256) (pg g 0)).put (some 257) (pg g 3)) (w6.setCell ⟨g, 3, none⟩ (.slice A6 n6 c6))) : (Code.region 40 ops40 true).wp Tryz.prog Q a w := by
  refine wp_region_any (by kernel_rfl) ?_
  change wpAny _ _ _ _ _ _ _ w.drew
  have htail : wpAny Tryz.prog .any ops40 Q 5 #[true, true, true, true, true, true, true, true, false, false, false, false, false] ((((((((a.put (some 246) (pg g 0)).put (some 247) (pg g 0)).put (some 248) (pg g 0)).put (some 249) (pg g 0)).put (some 250) (pg g 3)).put (some 251) (.slice A9 n9 c9)).put (some 252) (.agg #[.int .i64 i0, .int .i64 i1, .int .i64 i2, .int .i64 i3, .int .i64 i4])).put (some 253) (.slice (some ⟨w.drew.heap.size, 0, none⟩) 1 1)) (w.drew.alloc (.cells #[.int .i64 i0, .int .i64 i1, .int .i64 i2, .int .i64 i3, .int .i64 i4] 71)) := by
    refine wpAny_one (i := 8) (o := o4_8) (by kernel_rfl) rfl rfl (exec_append rfl (en rfl (en rfl (es (bp (bp (bp (bp (bp hs))))) rfl))) (es (bp (bp (bp (bp (bp (bp (bp hs))))))) rfl) hr) ?_
    refine tk hQ (i := 9) (o := o4_9) rfl rfl (fun w => exec_nil rfl (en rfl (en rfl (en rfl (en rfl (en rfl (en rfl (en rfl (en rfl (es hs rfl)))))))))) ?_
    refine tk hQ (i := 10) (o := o4_10) rfl rfl (fun w => exec_field rfl (es (bp (bp (bp (bp (bp (bp (bp (bp (bp hs))))))))) rfl) (f66_0 g w)) ?_
    refine tk hQ (i := 11) (o := o4_11) rfl rfl (fun w => exec_field rfl (es (bp (bp (bp (bp (bp (bp (bp (bp (bp (bp hs)))))))))) rfl) (f39_3 g w)) ?_
    refine wpAny_skip (i := 12) (o := o4_12) (by kernel_rfl) rfl rfl rfl (st1 rfl (.inl rfl) (es (bp (bp (bp (bp (bp (bp (bp (bp (bp (bp (bp hs))))))))))) rfl) (en rfl (en rfl (en rfl (es (bp (bp (bp (bp (bp (bp (bp (bp hs)))))))) rfl)))) z0 z1) ?_
    refine wpAny_done (by kernel_rfl) ?_ _
    exact hfin
  refine tk hQ (i := 0) (o := o4_0) rfl rfl (fun w => exec_move rfl h0) ?_
  refine tk hQ (i := 1) (o := o4_1) rfl rfl (fun w => exec_move rfl (en rfl h0)) ?_
  refine tk hQ (i := 2) (o := o4_2) rfl rfl (fun w => exec_nil rfl (es (bp hs) rfl)) ?_
  refine tk hQ (i := 3) (o := o4_3) rfl rfl (fun w => exec_field rfl (es (bp (bp hs)) rfl) (f66_0 g w)) ?_
  refine tk hQ (i := 4) (o := o4_4) rfl rfl (fun w => exec_field rfl (es (bp (bp (bp hs))) rfl) (f39_3 g w)) ?_
  refine wpAny_two (i := 5) (j := 6) (o1 := o4_5) (o2 := o4_6) (by kernel_rfl) rfl rfl (exec_loadG rfl (es (bp (bp (bp (bp hs)))) rfl) (l37 g 3 _ q3)) rfl rfl (exec_loadG rfl (en rfl (en rfl (en rfl (en rfl (en rfl hx))))) (l71 gx _ x0 x1 x2 x3 x4)) ?_ ?_
  · refine wpAny_one (i := 6) (o := o4_6) (by kernel_rfl) rfl rfl (exec_loadG rfl (en rfl (en rfl (en rfl (en rfl (en rfl (en rfl hx)))))) (l71 gx _ x0 x1 x2 x3 x4)) ?_
    refine wpAny_one (i := 7) (o := o4_7) (by kernel_rfl) rfl rfl (bs37 rfl (es (bp (bp (bp (bp (bp (bp hs)))))) rfl)) ?_
    exact wpAny_same htail (by decide) rfl
  · refine wpAny_two (i := 5) (j := 7) (o1 := o4_5) (o2 := o4_7) (by kernel_rfl) rfl rfl (exec_loadG rfl (en rfl (es (bp (bp (bp (bp hs)))) rfl)) (l37 g 3 _ q3)) rfl rfl (bs37 rfl (es (bp (bp (bp (bp (bp hs))))) rfl)) ?_ ?_
    · refine wpAny_one (i := 7) (o := o4_7) (by kernel_rfl) rfl rfl (bs37 rfl (en rfl (es (bp (bp (bp (bp (bp hs))))) rfl))) ?_
      exact wpAny_same htail (by decide) (by dsimp only [o4_0, o4_1, o4_2, o4_3, o4_4, o4_5, o4_6, o4_7]; rw [put_comm (d := 252) (e := 251) (by decide)])
    · refine wpAny_one (i := 5) (o := o4_5) (by kernel_rfl) rfl rfl (exec_loadG rfl (en rfl (en rfl (es (bp (bp (bp (bp hs)))) rfl))) (l37 g 3 _ q3a)) ?_
      exact wpAny_same htail (by decide) (by dsimp only [o4_0, o4_1, o4_2, o4_3, o4_4, o4_5, o4_6, o4_7]; rw [put_comm (d := 253) (e := 251) (by decide), put_comm (d := 252) (e := 251) (by decide)])
set_option maxRecDepth 100000 in
set_option maxHeartbeats 4000000 in
theorem region39 {a : Act} {w w6 : World} {Q : Exit → Act → World → Prop} {g n9 c9 n8 c8 n6 c6 : Nat} {A9 A8 A6 : Option Addr} {m n : Int} {u : Value} (hQ : ∀ c d v a w, Q (.panic c) (Act.put a d v) w → Q (.panic c) a w)
    (hs : a.tmps.size = 258) (h0 : a.eval (.tmp 0) = pg g 0) (h2 : a.eval (.tmp 2) = .int .i64 n) (h19 : a.eval (.tmp 19) = .int .i64 m) (q3 : w.drew.cell? ⟨g, 3, none⟩ = some (.slice A9 n9 c9)) (q8 : w.drew.cell? ⟨g, 1028, none⟩ = some (.slice A8 n8 c8)) (q8a : (w.drew.alloc (.cells #[.int .i64 n9, .int .i64 m, .int .i64 n] 68)).cell? ⟨g, 1028, none⟩ = some (.slice A8 n8 c8))
    (hr : (Builtin.append_ #[63, 63] 63 #[.slice A8 n8 c8, .slice (some ⟨w.drew.heap.size, 0, none⟩) 1 1]).run Tryz.prog (w.drew.alloc (.cells #[.int .i64 n9, .int .i64 m, .int .i64 n] 68)) = .ok (.slice A6 n6 c6) w6) (z0 : w6.cell? ⟨g, 1028, none⟩ = some u) (z1 : w6.frozen? ⟨g, 1028, none⟩ = false)
    (hfin : Q .normal ((((((((((((((((((a.put (some 228) (pg g 0)).put (some 229) (pg g 0)).put (some 230) (pg g 0)).put (some 231) (pg g 1028)).put (some 233) (pg g 0)).put (some 234) (pg g 0)).put (some 235) (pg g 0)).put (some 236) (pg g 3)).put (some 239) (.int .i64 m)).put (some 240) (.int .i64 n)).put (some 232) (.slice A8 n8 c8)).put (some 237) (.slice A9 n9 c9)).put (some 238) (.int .i64 n9)).put (some 241) (.agg #[.int .i64 n9, .int .i64 m, .int .i64 n])).put (some 242) (.slice (some ⟨w.drew.heap.size, 0, none⟩) 1 1)).put (some 243) (.slice A6 n6 c6)).put (some 244) (pg g 0)).put (some 245) (pg g 1028)) (w6.setCell ⟨g, 1028, none⟩ (.slice A6 n6 c6))) : (Code.region 39 ops39 true).wp Tryz.prog Q a w := by
  refine wp_region_any (by kernel_rfl) ?_
  change wpAny _ _ _ _ _ _ _ w.drew
  have htail : wpAny Tryz.prog .any ops39 Q 4 #[true, true, true, true, true, true, true, true, true, true, true, true, true, true, true, false, false, false, false] (((((((((((((((a.put (some 228) (pg g 0)).put (some 229) (pg g 0)).put (some 230) (pg g 0)).put (some 231) (pg g 1028)).put (some 233) (pg g 0)).put (some 234) (pg g 0)).put (some 235) (pg g 0)).put (some 236) (pg g 3)).put (some 239) (.int .i64 m)).put (some 240) (.int .i64 n)).put (some 232) (.slice A8 n8 c8)).put (some 237) (.slice A9 n9 c9)).put (some 238) (.int .i64 n9)).put (some 241) (.agg #[.int .i64 n9, .int .i64 m, .int .i64 n])).put (some 242) (.slice (some ⟨w.drew.heap.size, 0, none⟩) 1 1)) (w.drew.alloc (.cells #[.int .i64 n9, .int .i64 m, .int .i64 n] 68)) := by
    refine wpAny_one (i := 15) (o := o3_15) (by kernel_rfl) rfl rfl (exec_append rfl (en rfl (en rfl (en rfl (en rfl (es (bp (bp (bp (bp (bp (bp (bp (bp (bp (bp hs)))))))))) rfl))))) (es (bp (bp (bp (bp (bp (bp (bp (bp (bp (bp (bp (bp (bp (bp hs)))))))))))))) rfl) hr) ?_
    refine tk hQ (i := 16) (o := o3_16) rfl rfl (fun w => exec_nil rfl (en rfl (en rfl (en rfl (en rfl (en rfl (en rfl (en rfl (en rfl (en rfl (en rfl (en rfl (en rfl (en rfl (en rfl (en rfl (es hs rfl))))))))))))))))) ?_
    refine tk hQ (i := 17) (o := o3_17) rfl rfl (fun w => exec_field rfl (es (bp (bp (bp (bp (bp (bp (bp (bp (bp (bp (bp (bp (bp (bp (bp (bp hs)))))))))))))))) rfl) (f66_2 g w)) ?_
    refine wpAny_skip (i := 18) (o := o3_18) (by kernel_rfl) rfl rfl rfl (st1 rfl (.inr rfl) (es (bp (bp (bp (bp (bp (bp (bp (bp (bp (bp (bp (bp (bp (bp (bp (bp (bp hs))))))))))))))))) rfl) (en rfl (en rfl (es (bp (bp (bp (bp (bp (bp (bp (bp (bp (bp (bp (bp (bp (bp (bp hs))))))))))))))) rfl))) z0 z1) ?_
    refine wpAny_done (by kernel_rfl) ?_ _
    exact hfin
  refine tk hQ (i := 0) (o := o3_0) rfl rfl (fun w => exec_move rfl h0) ?_
  refine tk hQ (i := 1) (o := o3_1) rfl rfl (fun w => exec_move rfl (en rfl h0)) ?_
  refine tk hQ (i := 2) (o := o3_2) rfl rfl (fun w => exec_nil rfl (es (bp hs) rfl)) ?_
  refine tk hQ (i := 3) (o := o3_3) rfl rfl (fun w => exec_field rfl (es (bp (bp hs)) rfl) (f66_2 g w)) ?_
  refine tk hQ (i := 5) (o := o3_5) rfl rfl (fun w => exec_move rfl (en rfl (en rfl (en rfl (en rfl h0))))) ?_
  refine tk hQ (i := 6) (o := o3_6) rfl rfl (fun w => exec_nil rfl (es (bp (bp (bp (bp hs)))) rfl)) ?_
  refine tk hQ (i := 7) (o := o3_7) rfl rfl (fun w => exec_field rfl (es (bp (bp (bp (bp (bp hs))))) rfl) (f66_0 g w)) ?_
  refine tk hQ (i := 8) (o := o3_8) rfl rfl (fun w => exec_field rfl (es (bp (bp (bp (bp (bp (bp hs)))))) rfl) (f39_3 g w)) ?_
  refine tk hQ (i := 11) (o := o3_11) rfl rfl (fun w => exec_move rfl (en rfl (en rfl (en rfl (en rfl (en rfl (en rfl (en rfl (en rfl h19))))))))) ?_
  refine tk hQ (i := 12) (o := o3_12) rfl rfl (fun w => exec_move rfl (en rfl (en rfl (en rfl (en rfl (en rfl (en rfl (en rfl (en rfl (en rfl h2)))))))))) ?_
  refine wpAny_two (i := 4) (j := 9) (o1 := o3_4) (o2 := o3_9) (by kernel_rfl) rfl rfl (exec_loadG rfl (en rfl (en rfl (en rfl (en rfl (en rfl (en rfl (es (bp (bp (bp hs))) rfl))))))) (l63 g 1028 _ q8)) rfl rfl (exec_loadG rfl (en rfl (en rfl (es (bp (bp (bp (bp (bp (bp (bp hs))))))) rfl))) (l37 g 3 _ q3)) ?_ ?_
  · refine wpAny_one (i := 9) (o := o3_9) (by kernel_rfl) rfl rfl (exec_loadG rfl (en rfl (en rfl (en rfl (es (bp (bp (bp (bp (bp (bp (bp hs))))))) rfl)))) (l37 g 3 _ q3)) ?_
    refine tk hQ (i := 10) (o := o3_10) rfl rfl (fun w => exec_len rfl (es (bp (bp (bp (bp (bp (bp (bp (bp (bp (bp (bp hs))))))))))) rfl)) ?_
    refine tk hQ (i := 13) (o := o3_13) rfl rfl (fun w => exec_build rfl (es (bp (bp (bp (bp (bp (bp (bp (bp (bp (bp (bp (bp hs)))))))))))) rfl) (en rfl (en rfl (en rfl (en rfl (es (bp (bp (bp (bp (bp (bp (bp (bp hs)))))))) rfl))))) (en rfl (en rfl (en rfl (es (bp (bp (bp (bp (bp (bp (bp (bp (bp hs))))))))) rfl))))) ?_
    refine wpAny_one (i := 14) (o := o3_14) (by kernel_rfl) rfl rfl (bs63 rfl (es (bp (bp (bp (bp (bp (bp (bp (bp (bp (bp (bp (bp (bp hs))))))))))))) rfl)) ?_
    exact wpAny_same htail (by decide) rfl
  · refine tk hQ (i := 10) (o := o3_10) rfl rfl (fun w => exec_len rfl (es (bp (bp (bp (bp (bp (bp (bp (bp (bp (bp hs)))))))))) rfl)) ?_
    refine tk hQ (i := 13) (o := o3_13) rfl rfl (fun w => exec_build rfl (es (bp (bp (bp (bp (bp (bp (bp (bp (bp (bp (bp hs))))))))))) rfl) (en rfl (en rfl (en rfl (es (bp (bp (bp (bp (bp (bp (bp (bp hs)))))))) rfl)))) (en rfl (en rfl (es (bp (bp (bp (bp (bp (bp (bp (bp (bp hs))))))))) rfl)))) ?_
    refine wpAny_two (i := 4) (j := 14) (o1 := o3_4) (o2 := o3_14) (by kernel_rfl) rfl rfl (exec_loadG rfl (en rfl (en rfl (en rfl (en rfl (en rfl (en rfl (en rfl (en rfl (en rfl (es (bp (bp (bp hs))) rfl)))))))))) (l63 g 1028 _ q8)) rfl rfl (bs63 rfl (es (bp (bp (bp (bp (bp (bp (bp (bp (bp (bp (bp (bp hs)))))))))))) rfl)) ?_ ?_
    · refine wpAny_one (i := 14) (o := o3_14) (by kernel_rfl) rfl rfl (bs63 rfl (en rfl (es (bp (bp (bp (bp (bp (bp (bp (bp (bp (bp (bp (bp hs)))))))))))) rfl))) ?_
      exact wpAny_same htail (by decide) (by dsimp only [o3_0, o3_1, o3_2, o3_3, o3_4, o3_5, o3_6, o3_7, o3_8, o3_9, o3_10, o3_11, o3_12, o3_13, o3_14]; rw [put_comm (d := 241) (e := 232) (by decide), put_comm (d := 238) (e := 232) (by decide), put_comm (d := 237) (e := 232) (by decide)])
    · refine wpAny_one (i := 4) (o := o3_4) (by kernel_rfl) rfl rfl (exec_loadG rfl (en rfl (en rfl (en rfl (en rfl (en rfl (en rfl (en rfl (en rfl (en rfl (en rfl (es (bp (bp (bp hs))) rfl))))))))))) (l63 g 1028 _ q8a)) ?_
      exact wpAny_same htail (by decide) (by dsimp only [o3_0, o3_1, o3_2, o3_3, o3_4, o3_5, o3_6, o3_7, o3_8, o3_9, o3_10, o3_11, o3_12, o3_13, o3_14]; rw [put_comm (d := 242) (e := 232) (by decide), put_comm (d := 241) (e := 232) (by decide), put_comm (d := 238) (e := 232) (by decide), put_comm (d := 237) (e := 232) (by decide)])

end Go.Proofs.YtfgnapfodnhppaaGreatDoor
