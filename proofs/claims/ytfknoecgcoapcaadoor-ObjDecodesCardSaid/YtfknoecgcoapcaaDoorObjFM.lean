/-
  Plain words on the document's Fix of objects: what it makes may be. No condition.
-/
import Derived.Test.YtfknoecgcoapcaaDoorObjI
import Derived.Test.YtfknoecgcoapcaaDoorOCodeP
namespace Go.Proofs.YtfknoecgcoapcaaDoor
open Go
set_option linter.unusedVariables false
set_option linter.unusedSimpArgs false

/-- How many numbers an operand may have. -/
def mostOf (np n : Nat) (kind : Int) : Nat :=
  if kind = 1 then 32 else if kind = 2 then 16 else if kind = 3 then 3 else if kind = 4 then 2 else if kind = 5 then 8 else if kind = 6 then 17 else if kind = 7 then np else if kind = 8 then n else if kind = 9 then 16 else 1

def goodB (np n : Nat) (op kind x : Int) : Prop := mayB op kind x = true ∧ thereB 3 2 np n kind x = true

theorem ops_all (op : Int) : (opsOf op).all (fun x => decide (1 ≤ x ∧ x ≤ 9)) = true := by
  unfold opsOf
  repeat (first | (split <;> try decide) | decide)
theorem ops_kind8 (op : Int) (k : Nat) (hk : k < (opsOf op).length) : 1 ≤ (opsOf op).getD k 0 ∧ (opsOf op).getD k 0 ≤ 9 := by
  have h := ops_all op
  rw [List.all_eq_true] at h
  rw [List.getD_eq_getElem?_getD, List.getElem?_eq_getElem hk]
  exact of_decide_eq_true (h _ (List.getElem_mem hk))

theorem good_small {np n : Nat} {op kind : Int} {r : Nat} (hnp : np ≤ 4) (hn : n ≤ 30) (h1 : 1 ≤ kind) (h9 : kind ≤ 9) (h5 : kind ≠ 5) (hr : r < mostOf np n kind) : goodB np n op kind r := by
  have hk : kind = 1 ∨ kind = 2 ∨ kind = 3 ∨ kind = 4 ∨ kind = 6 ∨ kind = 7 ∨ kind = 8 ∨ kind = 9 := by omega
  unfold goodB mayB thereB
  rcases hk with rfl | rfl | rfl | rfl | rfl | rfl | rfl | rfl <;> simp [mostOf] at hr <;> simp [lowOf, highOf] <;> omega
theorem good_five {np n : Nat} {op : Int} {r : Nat} (hr : r < mostOf np n 5) : goodB np n op 5 (r + 1) := by
  simp [mostOf] at hr
  unfold goodB mayB thereB
  simp [lowOf, highOf]
  omega
theorem good_none {np n : Nat} : goodB np n 26 8 65535 := by
  unfold goodB mayB thereB
  simp
theorem ops_switch {op : Int} {k : Nat} (h : op = 26) (hk : k < (opsOf op).length) : (opsOf op).getD k 0 = 8 := by
  subst h
  have : opsOf 26 = [8, 8, 8, 8] := rfl
  rw [this] at hk ⊢
  match k, hk with
  | 0, _ => rfl
  | 1, _ => rfl
  | 2, _ => rfl
  | 3, _ => rfl
theorem ops_switch_iff {op : Int} {k : Nat} (h5 : (opsOf op).getD k 0 = 5) (hk : k < (opsOf op).length) : op ≠ 26 := by
  intro h
  rw [ops_switch h hk] at h5
  omega

/-- The operands so far are good, the others nought. -/
structure Args (np n : Nat) (op : Int) (k : Nat) (l : List Int) : Prop where
  good : ∀ j : Nat, j < k → goodB np n op ((opsOf op).getD j 0) (l.getD j 0)
  rest : ∀ j : Nat, k ≤ j → j < 4 → l.getD j 0 = 0
  len : l.length = 4
theorem Args.zero (np n : Nat) (op : Int) : Args np n op 0 [0, 0, 0, 0] := ⟨fun j h => absurd h (by omega), fun j _ h => by
  match j, h with
  | 0, _ => rfl
  | 1, _ => rfl
  | 2, _ => rfl
  | 3, _ => rfl, rfl⟩
theorem getD_set {l : List Int} {k j : Nat} {x : Int} (hk : k < l.length) : (l.set k x).getD j 0 = if j = k then x else l.getD j 0 := by
  simp only [List.getD_eq_getElem?_getD, List.getElem?_set]
  by_cases h : j = k
  · subst h
    simp [hk]
  · rw [if_neg h, if_neg (fun e => h e.symm)]
theorem Args.put {np n : Nat} {op : Int} {k : Nat} {l : List Int} (h : Args np n op k l) (hk : k < 4) {x : Int} (hx : goodB np n op ((opsOf op).getD k 0) x) : Args np n op (k + 1) (l.set k x) := by
  have hl := h.len
  refine ⟨fun j hj => ?_, fun j hj h4 => ?_, by rw [List.length_set]; exact hl⟩
  · rw [getD_set (by omega)]
    by_cases e : j = k
    · subst e
      rw [if_pos rfl]
      exact hx
    · rw [if_neg e]
      exact h.good j (by omega)
  · rw [getD_set (by omega), if_neg (by omega)]
    exact h.rest j (by omega) h4
theorem Args.done {np n : Nat} {op : Int} {l : List Int} (hop : 0 ≤ op ∧ op ≤ 26) (h : Args np n op (opsOf op).length l) : insErr 3 2 np n (op, l.getD 0 0, l.getD 1 0, l.getD 2 0, l.getD 3 0) = 0 := by
  have e : argOf (op, l.getD 0 0, l.getD 1 0, l.getD 2 0, l.getD 3 0) = l := by
    have := h.len
    match l, this with
    | [a, b, c, d], _ => rfl
  unfold insErr
  rw [e]
  show (if ¬ (0 ≤ op ∧ op ≤ 26) then (8 : Int) else if rightB op l = false then 9 else if (List.range (opsOf op).length).all (fun k => thereB 3 2 np n ((opsOf op).getD k 0) (l.getD k 0)) then 0 else 9) = 0
  have hr : rightB op l = true := by
    unfold rightB
    rw [Bool.and_eq_true, List.all_eq_true]
    refine ⟨decide_eq_true hop, fun k hk => ?_⟩
    have hk4 := List.mem_range.1 hk
    by_cases hkl : k < (opsOf op).length
    · exact (h.good k hkl).1
    · have e0 : (opsOf op).getD k 0 = 0 := by rw [List.getD_eq_getElem?_getD, List.getElem?_eq_none (by omega)]; rfl
      rw [e0, h.rest k (by omega) hk4]
      unfold mayB lowOf highOf
      simp
  rw [if_neg (by omega), hr, if_neg (by simp), if_pos]
  rw [List.all_eq_true]
  exact fun k hk => (h.good k (List.mem_range.1 hk)).2

/-- The names of the predicates. -/
def pname (j : Nat) : ByteArray := ⟨#[112, UInt8.ofNat (97 + j)]⟩
/-- The predicates so far. -/
structure Preds (n : Nat) (lp : List (ByteArray × Int × Int)) : Prop where
  len : lp.length ≤ 4
  names : ∀ (j : Nat) (h : j < lp.length), lp[j].1 = pname j
  ar : ∀ p ∈ lp, 0 ≤ p.2.1 ∧ p.2.1 ≤ 3
  ents : ∀ p ∈ lp, p.2.2 = 65535 ∨ (0 ≤ p.2.2 ∧ p.2.2 < n)
  nd : ((lp.map (·.2.2)).filter (fun e => decide (e ≠ 65535))).Nodup
theorem Preds.nil (n : Nat) : Preds n [] := ⟨by simp, fun j h => by simp at h, by simp, by simp, by simp⟩
/-- May this Entry come behind the first k? -/
def EntOk (n : Nat) (lp : List (ByteArray × Int × Int)) (k : Nat) (e : Int) : Prop := e = 65535 ∨ (0 ≤ e ∧ e < n ∧ ∀ (j : Nat) (h : j < lp.length), j < k → lp[j].2.2 ≠ e)
theorem EntOk.zero {n : Nat} {lp : List (ByteArray × Int × Int)} {e : Int} (h : e = 65535 ∨ (0 ≤ e ∧ e < n)) : EntOk n lp 0 e := h.imp id fun h => ⟨h.1, h.2, fun j _ hj => absurd hj (by omega)⟩
theorem EntOk.step {n : Nat} {lp : List (ByteArray × Int × Int)} {k : Nat} {e : Int} (h : EntOk n lp k e) (hk : k < lp.length) (hne : lp[k].2.2 ≠ e) : EntOk n lp (k + 1) e :=
  h.imp id fun h => ⟨h.1, h.2.1, fun j hj hjk => by
    by_cases e2 : j = k
    · subst e2
      exact hne
    · exact h.2.2 j hj (by omega)⟩
theorem EntOk.none (n : Nat) (lp : List (ByteArray × Int × Int)) (k : Nat) : EntOk n lp k 65535 := .inl rfl
theorem Preds.snoc {n : Nat} {lp : List (ByteArray × Int × Int)} (h : Preds n lp) (hl : lp.length < 4) {a e : Int} (ha : 0 ≤ a ∧ a ≤ 3) (he : EntOk n lp lp.length e) : Preds n (lp ++ [(pname lp.length, a, e)]) := by
  refine ⟨by simp; omega, fun j hj => ?_, fun p hp => ?_, fun p hp => ?_, ?_⟩
  · by_cases hjl : j < lp.length
    · rw [List.getElem_append_left hjl]
      exact h.names j hjl
    · have : j = lp.length := by simp at hj; omega
      subst this
      simp
  · rcases List.mem_append.1 hp with hp | hp
    · exact h.ar p hp
    · obtain rfl := List.mem_singleton.1 hp
      exact ha
  · rcases List.mem_append.1 hp with hp | hp
    · exact h.ents p hp
    · obtain rfl := List.mem_singleton.1 hp
      exact he.imp id fun h => ⟨h.1, h.2.1⟩
  · rw [List.map_append, List.filter_append, List.nodup_append]
    refine ⟨h.nd, ?_, ?_⟩
    · by_cases h6 : e = 65535 <;> simp [h6]
    · intro x hx y hy hxy
      subst hxy
      have hx2 := (List.mem_filter.1 hx).1
      have hy2 := List.mem_filter.1 hy
      have hxe : x = e := by simpa using hy2.1
      have hx6 : x ≠ 65535 := by simpa using hy2.2
      obtain ⟨p, hp, hpe⟩ := List.mem_map.1 hx2
      obtain ⟨j, hj, rfl⟩ := List.mem_iff_getElem.1 hp
      rcases he with he | he
      · exact hx6 (hxe.trans he)
      · exact he.2.2 j hj hj (hpe.trans hxe)

theorem codeErr_all {a f p c : Nat} : ∀ {l : List Ins}, (∀ i ∈ l, insErr a f p c i = 0) → codeErr a f p c l = 0
  | [], _ => rfl
  | i :: l, h => by
    rw [codeErr, if_pos (h i (by simp))]
    exact codeErr_all (fun j hj => h j (by simp [hj]))

def fixOb (lp : List (ByteArray × Int × Int)) (lc : List Ins) : Ob := ⟨[⟨#[97]⟩, ⟨#[98]⟩, ⟨#[110, 105, 108]⟩], [(⟨#[102]⟩, 1), (⟨#[103]⟩, 2)], lp, lc⟩
theorem pname_ok (j : Nat) (h : j < 4) : nameOk (pname j) = true := by
  match j, h with
  | 0, _ => decide +kernel
  | 1, _ => decide +kernel
  | 2, _ => decide +kernel
  | 3, _ => decide +kernel
theorem pname_inj {i j : Nat} (hi : i < 4) (hj : j < 4) (h : pname i = pname j) : i = j := by
  have h2 := congrArg (fun b : ByteArray => (b.data[1]?).map UInt8.toNat) h
  simp [pname] at h2
  omega
theorem fix_check {lp : List (ByteArray × Int × Int)} {lc : List Ins} (hp : Preds lc.length lp) (hn : lc.length ≤ 30) (hc : ∀ i ∈ lc, insErr 3 2 lp.length lc.length i = 0) : checkOf (fixOb lp lc) = 0 := by
  have hl := hp.len
  unfold checkOf fixOb
  have h1 : bigB 3 2 lp.length lc.length = false := by unfold bigB; simp; omega
  have h2 : namesOk ⟨[⟨#[97]⟩, ⟨#[98]⟩, ⟨#[110, 105, 108]⟩], [(⟨#[102]⟩, 1), (⟨#[103]⟩, 2)], lp, lc⟩ = true := by
    unfold namesOk
    have a1 : ([⟨#[97]⟩, ⟨#[98]⟩, ⟨#[110, 105, 108]⟩] : List ByteArray).all nameOk = true := by decide +kernel
    have a2 : ([(⟨#[102]⟩, 1), (⟨#[103]⟩, 2)] : List (ByteArray × Int)).all (funOk 1) = true := by decide +kernel
    have a3 : (lp.map called).all (funOk 0) = true := by
      rw [List.all_eq_true]
      intro x hx
      obtain ⟨p, hpm, rfl⟩ := List.mem_map.1 hx
      obtain ⟨j, hj, rfl⟩ := List.mem_iff_getElem.1 hpm
      have := hp.ar _ hpm
      unfold funOk called
      rw [hp.names j hj, pname_ok j (by omega)]
      simp
      omega
    rw [a1, a2, a3]
    rfl
  have h3 : dupB ⟨[⟨#[97]⟩, ⟨#[98]⟩, ⟨#[110, 105, 108]⟩], [(⟨#[102]⟩, 1), (⟨#[103]⟩, 2)], lp, lc⟩ = false := by
    unfold dupB
    have a1 : twiceB ([⟨#[97]⟩, ⟨#[98]⟩, ⟨#[110, 105, 108]⟩] : List ByteArray) = false := by decide +kernel
    have a2 : twiceB ([(⟨#[102]⟩, 1), (⟨#[103]⟩, 2)] : List (ByteArray × Int)) = false := by decide +kernel
    have a3 : twiceB (lp.map called) = false := by
      unfold twiceB
      rw [decide_eq_true, Bool.not_true]
      rw [List.nodup_iff_pairwise_ne, List.pairwise_iff_getElem]
      intro i j hi hj hij e
      rw [List.length_map] at hi hj
      rw [List.getElem_map, List.getElem_map] at e
      have e2 := congrArg Prod.fst e
      simp only [called] at e2
      rw [hp.names i hi, hp.names j hj] at e2
      have := pname_inj (by omega) (by omega) e2
      omega
    show (twiceB _ || twiceB _ || twiceB _) = false
    rw [a1, a2, a3]
    rfl
  have h4 : entsOk lc.length (lp.map (·.2.2)) = true := by
    unfold entsOk
    rw [Bool.and_eq_true]
    refine ⟨?_, decide_eq_true hp.nd⟩
    rw [List.all_eq_true]
    intro x hx
    obtain ⟨p, hpm, rfl⟩ := List.mem_map.1 hx
    unfold entryOk
    exact decide_eq_true (hp.ents p hpm)
  show (if bigB 3 2 lp.length lc.length = true then (2 : Int) else if namesOk _ = false then 7 else if dupB _ = true then 11 else if entsOk lc.length (lp.map (·.2.2)) = false then 7 else codeErr 3 2 lp.length lc.length lc) = 0
  rw [h1, if_neg (by simp), h2, if_neg (by simp), h3, if_neg (by simp), h4, if_neg (by simp)]
  exact codeErr_all hc

end Go.Proofs.YtfknoecgcoapcaaDoor
