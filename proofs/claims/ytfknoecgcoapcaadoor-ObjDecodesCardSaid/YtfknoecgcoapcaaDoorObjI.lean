/-
  What Check's OK says of an object, in plain words; its bytes are bytes. No condition.
-/
import Derived.Test.YtfknoecgcoapcaaDoorObjH
namespace Go.Proofs.YtfknoecgcoapcaaDoor
open Go Go.RowKit Go.WideShapes Go.ChangeShapes
set_option linter.unusedVariables false
set_option linter.unusedSimpArgs false

/-- What an object is of which nothing is wrong. -/
structure ObOk (o : Ob) : Prop where
  la : o.atoms.length ≤ 256
  lf : o.funs.length ≤ 256
  lp : o.preds.length ≤ 64
  lc : o.code.length ≤ 1024
  atoms : ∀ s ∈ o.atoms, nameOk s = true
  funs : ∀ f ∈ o.funs, nameOk f.1 = true ∧ 1 ≤ f.2 ∧ f.2 ≤ 8
  preds : ∀ p ∈ o.preds, nameOk p.1 = true ∧ 0 ≤ p.2.1 ∧ p.2.1 ≤ 8 ∧ (p.2.2 = 65535 ∨ (0 ≤ p.2.2 ∧ p.2.2 < o.code.length))
  code : ∀ i ∈ o.code, insErr o.atoms.length o.funs.length o.preds.length o.code.length i = 0

theorem name_size {s : ByteArray} (h : nameOk s = true) : 1 ≤ s.size ∧ s.size ≤ 32 := by
  unfold nameOk at h
  simp only [Bool.and_eq_true, decide_eq_true_eq] at h
  exact h.1.1
theorem insErr_ne {a f p c : Nat} {i : Ins} (h : insErr a f p c i = 0) : 0 ≤ i.1 ∧ i.1 ≤ 26 ∧ rightB i.1 (argOf i) = true ∧ (List.range (opsOf i.1).length).all (fun k => thereB a f p c ((opsOf i.1).getD k 0) ((argOf i).getD k 0)) = true := by
  unfold insErr at h
  split at h
  · cases h
  · rename_i h1
    split at h
    · cases h
    · rename_i h2
      split at h
      · rename_i h3
        refine ⟨by omega, by omega, ?_, h3⟩
        cases hh : rightB i.1 (argOf i)
        · exact absurd hh h2
        · rfl
      · cases h
theorem codeErr_zero {a f p c : Nat} : ∀ {l : List Ins}, codeErr a f p c l = 0 → ∀ i ∈ l, insErr a f p c i = 0
  | [], _ => by simp
  | x :: l, h => by
    unfold codeErr at h
    split at h
    · rename_i hx
      intro i hi
      rcases List.mem_cons.1 hi with rfl | hi
      · exact hx
      · exact codeErr_zero h i hi
    · rename_i hx
      exact absurd h hx
theorem ok_of {o : Ob} (h : checkOf o = 0) : ObOk o := by
  unfold checkOf at h
  split at h
  · cases h
  · rename_i h1
    split at h
    · cases h
    · rename_i h2
      split at h
      · cases h
      · split at h
        · cases h
        · rename_i h4
          have hb : ¬ (256 < o.atoms.length ∨ 256 < o.funs.length ∨ 64 < o.preds.length ∨ 1024 < o.code.length) := by
            intro hb
            apply h1
            unfold bigB
            exact decide_eq_true hb
          have hn : namesOk o = true := by
            cases hh : namesOk o
            · exact absurd hh h2
            · rfl
          have he : entsOk o.code.length (o.preds.map (·.2.2)) = true := by
            cases hh : entsOk o.code.length (o.preds.map (·.2.2))
            · exact absurd hh h4
            · rfl
          unfold namesOk at hn
          simp only [Bool.and_eq_true, List.all_eq_true] at hn
          unfold entsOk at he
          simp only [Bool.and_eq_true, List.all_eq_true] at he
          refine ⟨by omega, by omega, by omega, by omega, hn.1.1, fun f hf => ?_, fun p hp => ?_, codeErr_zero h⟩
          · have := hn.1.2 f hf
            unfold funOk at this
            simp only [Bool.and_eq_true, decide_eq_true_eq] at this
            exact ⟨this.1.1, this.1.2, this.2⟩
          · have h5 := hn.2 (called p) (List.mem_map_of_mem hp)
            unfold funOk called at h5
            simp only [Bool.and_eq_true, decide_eq_true_eq] at h5
            have h6 := he.1 p.2.2 (List.mem_map.2 ⟨p, hp, rfl⟩)
            unfold entryOk at h6
            exact ⟨h5.1.1, h5.1.2, h5.2, of_decide_eq_true h6⟩

theorem numL_lt (n m : Nat) : ∀ c ∈ numL n m, c < 256 := by
  induction n with
  | zero => simp [numL]
  | succ n ih =>
    intro c hc
    rcases List.mem_cons.1 hc with rfl | hc
    · omega
    · exact ih c hc
theorem strL_lt (s : ByteArray) : ∀ c ∈ strL s, c < 256 := by
  intro c hc
  obtain ⟨b, _, rfl⟩ := List.mem_map.1 hc
  exact b.toNat_lt
theorem strL_len (s : ByteArray) : (strL s).length = s.size := by unfold strL; rw [List.length_map, Array.length_toList]; rfl
theorem app_lt {l m : List Nat} (h : ∀ c ∈ l, c < 256) (k : ∀ c ∈ m, c < 256) : ∀ c ∈ l ++ m, c < 256 := fun c hc => (List.mem_append.1 hc).elim (h c) (k c)
theorem nameL_lt (s : ByteArray) : ∀ c ∈ nameL s, c < 256 := app_lt (numL_lt _ _) (strL_lt s)
theorem argsL_lt : ∀ ks l : List Int, ∀ c ∈ argsL ks l, c < 256
  | [], _ => by simp [argsL]
  | k :: ks, l => app_lt (numL_lt _ _) (argsL_lt ks l.tail)
theorem flat_lt2 {α : Type} {f : α → List Nat} (h : ∀ a, ∀ c ∈ f a, c < 256) (l : List α) : ∀ c ∈ l.flatMap f, c < 256 := by
  intro c hc
  obtain ⟨a, _, h2⟩ := List.mem_flatMap.1 hc
  exact h a c h2
theorem headL_lt (o : Ob) : ∀ c ∈ headL o, c < 256 := app_lt (app_lt (app_lt (app_lt (by intro c hc; simp at hc; omega) (numL_lt _ _)) (numL_lt _ _)) (numL_lt _ _)) (numL_lt _ _)
theorem bodyL_lt (o : Ob) : ∀ c ∈ bodyL o, c < 256 :=
  app_lt (app_lt (app_lt (app_lt (headL_lt o) (flat_lt2 nameL_lt _)) (flat_lt2 (fun f => app_lt (nameL_lt _) (numL_lt _ _)) _)) (flat_lt2 (fun f => app_lt (app_lt (nameL_lt _) (numL_lt _ _)) (numL_lt _ _)) _)) (flat_lt2 (fun i => app_lt (numL_lt _ _) (argsL_lt _ _)) _)

theorem flatN_take {α : Type} (f : α → List Nat) (l : List α) (k : Nat) (h : k < l.length) : (l.take (k + 1)).flatMap f = (l.take k).flatMap f ++ f l[k] := by
  rw [List.take_succ_eq_append_getElem h, List.flatMap_append]
  simp
theorem flat_len {α : Type} (f : α → List Nat) (m : Nat) : ∀ (l : List α) (h : ∀ a ∈ l, (f a).length ≤ m), (l.flatMap f).length ≤ m * l.length
  | [], _ => by simp
  | a :: l, h => by
    have h1 := flat_len f m l (fun x hx => h x (List.mem_cons_of_mem _ hx))
    have h2 := h a (List.mem_cons_self ..)
    rw [List.flatMap_cons, List.length_append, List.length_cons, Nat.mul_succ]
    omega
theorem flat_len_take {α : Type} (f : α → List Nat) (m k : Nat) (l : List α) (h : ∀ a ∈ l, (f a).length ≤ m) : ((l.take k).flatMap f).length ≤ m * l.length := by
  have h1 := flat_len f m (l.take k) (fun a ha => h a (List.mem_of_mem_take ha))
  have h2 : (l.take k).length ≤ l.length := by simp; omega
  exact Nat.le_trans h1 (Nat.mul_le_mul (Nat.le_refl m) h2)
theorem nameL_len {s : ByteArray} (h : nameOk s = true) : (nameL s).length ≤ 33 := by
  have := name_size h
  rw [nameL, List.length_append, numL_len, strL_len]
  omega
theorem headL_len (o : Ob) : (headL o).length = 13 := by simp [headL, numL_len]

/-- The counts. -/
def cntL (o : Ob) : List Nat := [o.atoms.length, o.funs.length, o.preds.length, o.code.length]
def magicL : List Nat := [82, 83, 76, 86, 1]
theorem headL_eq (o : Ob) : magicL ++ (cntL o).flatMap (numL 2) = headL o := by simp [magicL, cntL, headL]

end Go.Proofs.YtfknoecgcoapcaaDoor
