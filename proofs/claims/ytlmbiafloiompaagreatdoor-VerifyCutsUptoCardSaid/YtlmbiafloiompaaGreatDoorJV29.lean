/-
  verify's needs (layer 11): the Need of each place. Conditions: an object that may be, of which each instruction goes on to places behind it.
-/
import Derived.Test.YtlmbiafloiompaaGreatDoorJV28
namespace Go.Proofs.YtlmbiafloiompaaGreatDoor
open Go Go.RowKit
set_option linter.unusedVariables false
set_option linter.unusedSimpArgs false
set_option maxRecDepth 100000

theorem made_flat {α : Type} (f : α → List Value) (a : α) (m : Nat) (hm : 0 < m) (hf : (f a).length = m) (n : Nat) : madeCells (f a).toArray (n * m) = ((List.replicate n a).flatMap f).toArray := by
  have hl : ((List.replicate n a).flatMap f).length = n * m := by
    rw [flat_lenV f m _ (fun b hb => by rw [List.eq_of_mem_replicate hb]; exact hf), List.length_replicate]
  apply Array.ext
  · rw [size_madeCells, List.size_toArray, hl]
  · intro j h1 h2
    rw [size_madeCells] at h1
    have hk : j / m < n := Nat.div_lt_of_lt_mul (by rw [Nat.mul_comm]; exact h1)
    have hr : j % m < m := Nat.mod_lt _ hm
    have e := flat_someV f m (List.replicate n a) (fun b hb => by rw [List.eq_of_mem_replicate hb]; exact hf) (j / m) a (by rw [List.getElem?_replicate, if_pos hk]) (j % m) hr
    have hj : j / m * m + j % m = j := by rw [Nat.mul_comm]; exact Nat.div_add_mod j m
    rw [hj] at e
    have h2' : j < ((List.replicate n a).flatMap f).length := by rw [hl]; exact h1
    rw [List.getElem?_eq_getElem h2', List.getElem?_eq_getElem (by rw [hf]; exact hr)] at e
    have e2 := Option.some.inj e
    have e3 : ((List.replicate n a).flatMap f).toArray[j]'h2 = ((List.replicate n a).flatMap f)[j]'h2' := List.getElem_toArray _
    rw [e3, e2]
    have e4 : (madeCells (f a).toArray (n * m))[j] = (f a).toArray[j % (f a).toArray.size]! := by simp [madeCells]
    have e5 : (f a).toArray.size = m := by rw [List.size_toArray, hf]
    rw [e4, e5, getElem!_pos (f a).toArray (j % m) (by rw [e5]; exact hr), List.getElem_toArray]
theorem infoNeed : (Tryz.prog.info? 105).map (fun i => (i.zero, i.size, i.bytes)) = some (some (.agg (ndA ndZero)), 3, 24) := by kernel_rfl
theorem run_makeNeeds (n : Nat) (hn : n ≤ 1024) (w : World) : (Instr.makeSlice 47 (.int .i64 (n : Int)) (.int .i64 (n : Int))).run Tryz.prog w = .ok (.slice (some ⟨w.heap.size, 0, none⟩) n n) (w.alloc (.cells ((List.replicate n ndZero).flatMap ndC).toArray 105)) := by
  obtain ⟨i, hi1, hz0, hz1, hz2⟩ := info_parts infoNeed
  have h := run_makeSlice (P := Tryz.prog) w 47 105 i (.agg (ndA ndZero)) Tryz.underlying47 hi1 hz0 .i64 .i64 (n : Int) (n : Int) (by omega) (Int.le_refl _) (by rw [hz1]; simp; omega) (by rw [hz2]; omega) (by omega)
  rw [hz1] at h
  simp only [Int.toNat_natCast] at h
  rw [← made_flat ndC ndZero 3 (by decide) rfl n]
  exact h
theorem nd_put (R : List VNd) (m : Nat) (hm : m < R.length) (b : VNd) : putL (R.flatMap ndC).toArray (m * 3) (ndA b).toList = ((R.set m b).flatMap ndC).toArray := by
  have hl : (R.flatMap ndC).length = R.length * 3 := flat_lenV ndC 3 R (fun _ _ => rfl)
  have hl2 : ((R.set m b).flatMap ndC).length = R.length * 3 := by rw [flat_lenV ndC 3 _ (fun _ _ => rfl), List.length_set]
  apply Array.ext_getElem?
  intro j
  rw [putL_at _ _ _ _ (by rw [List.size_toArray, hl]; show m * 3 + 3 ≤ _; omega)]
  by_cases hj : j < R.length * 3
  · have hk : j / 3 < R.length := by omega
    have e : j = j / 3 * 3 + j % 3 := by omega
    have hr : j % 3 < 3 := Nat.mod_lt _ (by decide)
    have e1 := flat_someV ndC 3 (R.set m b) (fun _ _ => rfl) (j / 3) (if m = j / 3 then b else R[j / 3]) (by
      rw [List.getElem?_set]
      by_cases x : m = j / 3
      · rw [if_pos x, if_pos hm, if_pos x]
      · rw [if_neg x, if_neg x, List.getElem?_eq_getElem hk]) (j % 3) hr
    rw [← e] at e1
    rw [List.getElem?_toArray, List.getElem?_toArray, e1]
    by_cases hkm : m = j / 3
    · have h1 : m * 3 ≤ j ∧ j < m * 3 + (ndA b).toList.length := by show _ ∧ j < m * 3 + 3; omega
      have h2 : j - m * 3 = j % 3 := by omega
      rw [if_pos h1, h2, if_pos hkm]
      rfl
    · have h1 : ¬ (m * 3 ≤ j ∧ j < m * 3 + (ndA b).toList.length) := by show ¬ (_ ∧ j < m * 3 + 3); omega
      rw [if_neg h1, if_neg hkm]
      have e2 := flat_someV ndC 3 R (fun _ _ => rfl) (j / 3) R[j / 3] (List.getElem?_eq_getElem hk) (j % 3) hr
      rw [← e] at e2
      exact e2
  · have h1 : ¬ (m * 3 ≤ j ∧ j < m * 3 + (ndA b).toList.length) := by show ¬ (_ ∧ j < m * 3 + 3); omega
    rw [if_neg h1, Array.getElem?_eq_none (by rw [List.size_toArray, hl]; omega), Array.getElem?_eq_none (by rw [List.size_toArray, hl2]; omega)]
theorem there_nd {w : World} {g : Nat} {t : TypeId} {R : List VNd} {m : Nat} {b : VNd} (h : Box w g t (R.flatMap ndC).toArray) (hm : m < R.length) : w.there g (m * 3) (ndA b).size := fun j hj => by
  have hl : (R.flatMap ndC).length = R.length * 3 := flat_lenV ndC 3 R (fun _ _ => rfl)
  have hj2 : j < 3 := hj
  refine ⟨?_, h.frozen _⟩
  rw [h.cell, Array.getElem?_eq_getElem (by rw [List.size_toArray, hl]; omega)]
  rfl

/-! The row, place by place from its end. -/
def rowN (o : Ob) (k : Nat) : List VNd := List.replicate (o.code.length - k) ndZero ++ needsV o k
theorem rowN_len (o : Ob) (k : Nat) (h : k ≤ o.code.length) : (rowN o k).length = o.code.length := by
  unfold rowN
  rw [List.length_append, List.length_replicate, needsV_len]
  omega
theorem rowN_get (o : Ob) (k : Nat) (t : Int) (h0 : ((o.code.length - k : Nat) : Int) ≤ t) : (rowN o k).getD t.toNat ndZero = needAt o (needsV o k) t := by
  unfold rowN needAt
  rw [needsV_len, List.getD_eq_getElem?_getD, List.getD_eq_getElem?_getD, List.getElem?_append_right (by rw [List.length_replicate]; omega), List.length_replicate]
theorem most_same {f g : Int → VNd} : ∀ (L : List Int) (b : VNd), (∀ t ∈ L, f t = g t) → L.foldl (fun b t => ndMax b (f t)) b = L.foldl (fun b t => ndMax b (g t)) b
  | [], _, _ => rfl
  | t :: L, b, h => by
    rw [List.foldl_cons, List.foldl_cons, h t List.mem_cons_self]
    exact most_same L _ (fun u hu => h u (List.mem_cons_of_mem _ hu))
def headN (o : Ob) (k : Nat) : VNd := ndAnd (ndSelf o (o.code.getD (o.code.length - (k + 1)) (0, 0, 0, 0, 0))) (mostV (fun t => (rowN o k).getD t.toNat ndZero) (followV (o.code.length - (k + 1)) (o.code.getD (o.code.length - (k + 1)) (0, 0, 0, 0, 0))))
theorem rowN_step {o : Ob} (ho : ObK o) (k : Nat) (hk : k + 1 ≤ o.code.length) (hgo : ∀ t ∈ followV (o.code.length - (k + 1)) (o.code.getD (o.code.length - (k + 1)) (0, 0, 0, 0, 0)), ((o.code.length - (k + 1) : Nat) : Int) < t) :
    rowN o (k + 1) = (rowN o k).set (o.code.length - (k + 1)) (headN o k) := by
  have hs := needs_step (o := o) (fun f hf => by have := ho.fun_ f hf; omega) (fun i hi h => ((ho.ins i hi).ea h).1) k hk
  have hm : mostV (needAt o (needsV o k)) (followV (o.code.length - (k + 1)) (o.code.getD (o.code.length - (k + 1)) (0, 0, 0, 0, 0))) = mostV (fun t => (rowN o k).getD t.toNat ndZero) (followV (o.code.length - (k + 1)) (o.code.getD (o.code.length - (k + 1)) (0, 0, 0, 0, 0))) :=
    most_same _ _ (fun t ht => (rowN_get o k t (by have := hgo t ht; omega)).symm)
  rw [hm] at hs
  have hh : headN o k = ndAnd (ndSelf o (o.code.getD (o.code.length - (k + 1)) (0, 0, 0, 0, 0))) (mostV (fun t => (rowN o k).getD t.toNat ndZero) (followV (o.code.length - (k + 1)) (o.code.getD (o.code.length - (k + 1)) (0, 0, 0, 0, 0)))) := rfl
  rw [← hh] at hs
  have e : o.code.length - k = (o.code.length - (k + 1)) + 1 := by omega
  have r1 : rowN o (k + 1) = List.replicate (o.code.length - (k + 1)) ndZero ++ needsV o (k + 1) := rfl
  have r2 : rowN o k = List.replicate (o.code.length - (k + 1)) ndZero ++ (ndZero :: needsV o k) := by
    show List.replicate (o.code.length - k) ndZero ++ needsV o k = _
    rw [e, List.replicate_succ', List.append_assoc]
    rfl
  rw [r1, hs, r2]
  generalize headN o k = H
  rw [List.set_append_right _ _ (by rw [List.length_replicate]; exact Nat.le_refl _), List.length_replicate, Nat.sub_self]
  rfl
def NdB (m : Int) (b : VNd) : Prop := 0 ≤ b.cells ∧ b.cells ≤ 9 * m ∧ 0 ≤ b.words ∧ b.words ≤ 19 * m ∧ 0 ≤ b.choices ∧ b.choices ≤ m
theorem NdB.zero {m : Int} (h : 0 ≤ m) : NdB m ndZero := by unfold NdB ndZero; simp only; omega
theorem NdB.max {m : Int} {a b : VNd} (ha : NdB m a) (hb : NdB m b) : NdB m (ndMax a b) := by unfold NdB ndMax at *; simp only; omega
theorem NdB.most {m : Int} (f : Int → VNd) : ∀ (L : List Int) (b : VNd), NdB m b → (∀ t ∈ L, NdB m (f t)) → NdB m (L.foldl (fun b t => ndMax b (f t)) b)
  | [], _, h, _ => h
  | t :: L, b, h, hf => NdB.most f L _ (h.max (hf t List.mem_cons_self)) (fun u hu => hf u (List.mem_cons_of_mem _ hu))
theorem NdB.mono {m k : Int} {b : VNd} (h : NdB m b) (hk : m ≤ k) : NdB k b := by unfold NdB at *; omega
theorem self_b {o : Ob} (ho : ObK o) {i : Ins} (hi : InsK o i) : NdB 1 (ndSelf o i) := by
  have ha := arityF_small ho i.2.1
  unfold ndSelf
  split
  · unfold NdB; simp only; omega
  · split
    · unfold NdB; simp only; omega
    · split
      · unfold NdB; simp only; omega
      · split
        · rename_i h
          have := hi.ea h
          unfold NdB; simp only; omega
        · split
          · unfold NdB; simp only; omega
          · exact NdB.zero (by decide)
theorem and_b {m : Int} {a b : VNd} (ha : NdB 1 a) (hb : NdB m b) : NdB (m + 1) (ndAnd a b) := by unfold NdB ndAnd at *; simp only; omega
theorem head_b {o : Ob} (ho : ObK o) (k : Nat) (hk : k < o.code.length) (h : ∀ b ∈ rowN o k, NdB k b) : NdB k (mostV (fun t => (rowN o k).getD t.toNat ndZero) (followV (o.code.length - (k + 1)) (o.code.getD (o.code.length - (k + 1)) (0, 0, 0, 0, 0)))) ∧ NdB ((k : Int) + 1) (headN o k) := by
  have hm : NdB k (mostV (fun t => (rowN o k).getD t.toNat ndZero) (followV (o.code.length - (k + 1)) (o.code.getD (o.code.length - (k + 1)) (0, 0, 0, 0, 0)))) := NdB.most _ _ _ (NdB.zero (by omega)) (fun t _ => by
    rw [List.getD_eq_getElem?_getD]
    cases hx : (rowN o k)[t.toNat]? with
    | none => exact NdB.zero (by omega)
    | some b => exact h b (List.mem_of_getElem? hx))
  refine ⟨hm, and_b (self_b ho (ho.ins _ ?_)) hm⟩
  rw [List.getD_eq_getElem?_getD, List.getElem?_eq_getElem (by omega)]
  exact List.getElem_mem _

end Go.Proofs.YtlmbiafloiompaaGreatDoor
