/-
  2 texts in one (LinkM LinkN). Conditions: those of each theorem.
-/
import Derived.Test.YtclkdlegogjnbaaGreatDoorQ23
namespace Go.Proofs.YtclkdlegogjnbaaGreatDoor
open Go
set_option linter.unusedVariables false
set_option linter.unusedSimpArgs false

abbrev Pr := ByteArray × Int × Int
/-- A predicate's number, and the table with it. -/
def predIn (P : List Pr) (f : ByteArray × Int) : Int × List Pr :=
  if findFrom f.1 f.2 0 P < 0 then ((P.length : Int), P ++ [(f.1, f.2, 65535)]) else (findFrom f.1 f.2 0 P, P)
/-- A table with another Entry at one place. -/
def setE (P : List Pr) (i : Nat) (e : Int) : List Pr := P.modify i fun q => (q.1, q.2.1, e)
/-- The document: one more predicate. -/
def predJ (base : Int) (P : List Pr) (p : Pr) : Option (List Pr) :=
  if p.2.2 = 65535 then some (predIn P (called p)).2
  else if ((predIn P (called p)).2.getD (predIn P (called p)).1.toNat (⟨#[]⟩, 0, 0)).2.2 ≠ 65535 then none
  else some (setE (predIn P (called p)).2 (predIn P (called p)).1.toNat (base + p.2.2))
def predsJ (base : Int) : List Pr → List Pr → Option (List Pr)
  | P, [] => some P
  | P, p :: ps => match predJ base P p with
    | none => none
    | some P' => predsJ base P' ps
/-- An operand of x in the whole W, behind so many instructions. -/
def opdJ (W x : Ob) (base : Int) (kind n : Int) : Int :=
  if kind = 3 then (placeOf W.atoms (x.atoms.getD n.toNat ⟨#[]⟩) : Int)
  else if kind = 4 then (placeOf W.funs (x.funs.getD n.toNat (⟨#[]⟩, 0)) : Int)
  else if kind = 7 then findFrom (x.preds.getD n.toNat (⟨#[]⟩, 0, 0)).1 (x.preds.getD n.toNat (⟨#[]⟩, 0, 0)).2.1 0 W.preds
  else if kind = 8 then (if n ≠ 65535 then base + n else n)
  else n
def argsJ (f : Int → Int → Int) : List Int → List Int → List Int
  | [], xs => xs
  | k :: ks, xs => f k (xs.headD 0) :: argsJ f ks xs.tail
def insJ (W x : Ob) (base : Int) (i : Ins) : Ins := insOf i.1 (argsJ (opdJ W x base) (opsOf i.1) (argOf i))
/-- The document: a whole with one more object. -/
def joinJ (o x : Ob) : Option Ob :=
  match predsJ (o.code.length : Int) o.preds x.preds with
  | none => none
  | some P => some ⟨x.atoms.foldl addTo o.atoms, x.funs.foldl addTo o.funs, P, o.code ++ x.code.map (insJ ⟨x.atoms.foldl addTo o.atoms, x.funs.foldl addTo o.funs, P, []⟩ x (o.code.length : Int))⟩
def foldJ : Nat → Ob → List Ob → Except Nat Ob
  | _, o, [] => .ok o
  | n, o, x :: l => match joinJ o x with
    | none => .error n
    | some o' => foldJ (n + 1) o' l
/-- The first object that has a predicate in its table. -/
def homeOf (l : List Ob) (f : ByteArray × Int) : Int :=
  if (l.findIdx fun x => decide (0 ≤ findFrom f.1 f.2 0 x.preds)) < l.length then ((l.findIdx fun x => decide (0 ≤ findFrom f.1 f.2 0 x.preds) : Nat) : Int) else -1
def unknownJ (l : List Ob) : List Pr → Option Int
  | [] => none
  | p :: ps => if p.2.2 = 65535 ∧ 0 ≤ homeOf l (called p) then some (homeOf l (called p)) else unknownJ l ps
def firstErr : Nat → List Ob → Option (Int × Nat)
  | _, [] => none
  | n, x :: l => if checkOf x = 0 then firstErr (n + 1) l else some (checkOf x, n)
/-- The document's answer. -/
def linkOf (l : List Ob) : Ob × Int × Int :=
  match firstErr 0 l with
  | some (e, n) => (emptyOb, e, n)
  | none => match foldJ 0 emptyOb l with
    | .error n => (emptyOb, 11, n)
    | .ok o => match unknownJ l o.preds with
      | some k => (emptyOb, 12, k)
      | none => if bigO o = true then (emptyOb, 2, -1) else (o, 0, -1)

/-- The program: what is entered. -/
structure Lk where
  atoms : List ByteArray
  funs : List (ByteArray × Int)
  preds : List Pr
  homes : List Int
  begun : List Bool
  n : Int
def startLk : Lk := ⟨[], [], [], [], [], 0⟩
def predK (n : Int) (s : Lk) (p : Pr) : Option Lk :=
  let r := predIn s.preds (called p)
  let h := if s.homes.length < r.2.length then s.homes ++ [n] else s.homes
  let b := if s.homes.length < r.2.length then s.begun ++ [false] else s.begun
  if p.2.2 = 65535 then some { s with preds := r.2, homes := h, begun := b }
  else if b.getD r.1.toNat false = true then none
  else some { s with preds := r.2, homes := h, begun := b.set r.1.toNat true }
def predsK (n : Int) : Lk → List Pr → Option Lk
  | s, [] => some s
  | s, p :: ps => match predK n s p with
    | none => none
    | some s' => predsK n s' ps
def enterK (n : Int) (s : Lk) (x : Ob) : Option Lk :=
  predsK n { s with atoms := x.atoms.foldl addTo s.atoms, funs := x.funs.foldl addTo s.funs, n := s.n + x.code.length } x.preds
def foldK : Nat → Lk → List Ob → Except Nat Lk
  | _, s, [] => .ok s
  | n, s, x :: l => match enterK n s x with
    | none => .error n
    | some s' => foldK (n + 1) s' l
def unknownK (s : Lk) : Int := if s.begun.findIdx (fun b => !b) < s.begun.length then s.homes.getD (s.begun.findIdx fun b => !b) 0 else -1
def layP (base : Int) (P : List Pr) (p : Pr) : List Pr := if p.2.2 = 65535 then P else setE P (findFrom p.1 p.2.1 0 P).toNat (base + p.2.2)
def layK (o x : Ob) : Ob := { o with preds := x.preds.foldl (layP (o.code.length : Int)) o.preds, code := o.code ++ x.code.map (insJ ⟨o.atoms, o.funs, o.preds, []⟩ x (o.code.length : Int)) }
/-- The program's answer. -/
def linkP (l : List Ob) : Ob × Int × Int :=
  match firstErr 0 l with
  | some (e, n) => (emptyOb, e, n)
  | none => match foldK 0 startLk l with
    | .error n => (emptyOb, 11, n)
    | .ok s =>
      if 0 ≤ unknownK s then (emptyOb, 12, unknownK s)
      else if decide (256 < s.atoms.length ∨ 256 < s.funs.length ∨ 64 < s.preds.length ∨ 1024 < s.n) = true then (emptyOb, 2, -1)
      else (l.foldl layK ⟨s.atoms, s.funs, s.preds, []⟩, 0, -1)

/-! Tables. -/
theorem findFrom_called : ∀ (x : ByteArray) (n : Int) (k : Nat) (P Q : List Pr), P.map called = Q.map called → findFrom x n k P = findFrom x n k Q
  | x, n, k, [], [], _ => rfl
  | x, n, k, [], q :: Q, h => by simp at h
  | x, n, k, p :: P, [], h => by simp at h
  | x, n, k, p :: P, q :: Q, h => by
    simp only [List.map_cons, List.cons.injEq] at h
    have h1 := h.1
    unfold called at h1
    injection h1 with a b
    unfold findFrom
    rw [a, b, findFrom_called x n (k + 1) P Q h.2]
theorem findFrom_app : ∀ (x : ByteArray) (n : Int) (k : Nat) (P Q : List Pr), 0 ≤ findFrom x n k P → findFrom x n k (P ++ Q) = findFrom x n k P
  | x, n, k, [], Q, h => by simp [findFrom] at h
  | x, n, k, p :: P, Q, h => by
    rw [List.cons_append]
    unfold findFrom at h ⊢
    split
    · rfl
    · rename_i hc
      rw [if_neg hc] at h
      exact findFrom_app x n (k + 1) P Q h
theorem findFrom_mem : ∀ (x : ByteArray) (n : Int) (k : Nat) (P : List Pr), (x, n) ∈ P.map called → 0 ≤ findFrom x n k P
  | x, n, k, [], h => by simp at h
  | x, n, k, p :: P, h => by
    unfold findFrom
    split
    · omega
    · rename_i hc
      rw [List.map_cons, List.mem_cons] at h
      rcases h with h | h
      · unfold called at h
        injection h with a b
        exact absurd ⟨a.symm, b.symm⟩ hc
      · exact findFrom_mem x n (k + 1) P h
theorem findFrom_miss {x : ByteArray} {n : Int} {k : Nat} {P : List Pr} (h : (x, n) ∉ P.map called) : findFrom x n k P < 0 := by
  rcases Int.lt_or_le (findFrom x n k P) 0 with h1 | h1
  · exact h1
  · exfalso
    induction P generalizing k with
    | nil => simp [findFrom] at h1
    | cons p P ih =>
      rw [List.map_cons, List.mem_cons, not_or] at h
      unfold findFrom at h1
      split at h1
      · rename_i hc
        exact h.1 (by unfold called; rw [hc.1, hc.2])
      · exact ih h.2 h1
/-- Where a predicate is, and that the table has it. -/
theorem predIn_at (P : List Pr) (f : ByteArray × Int) :
    (f ∈ P.map called ∧ predIn P f = (findFrom f.1 f.2 0 P, P) ∧ 0 ≤ findFrom f.1 f.2 0 P ∧ (findFrom f.1 f.2 0 P).toNat < P.length) ∨
    (f ∉ P.map called ∧ predIn P f = ((P.length : Int), P ++ [(f.1, f.2, 65535)])) := by
  obtain ⟨a, b⟩ := f
  by_cases h : (a, b) ∈ P.map called
  · left
    have h0 := findFrom_mem a b 0 P h
    obtain ⟨i, hi, h1, _⟩ := findFrom_at a b 0 P h0
    refine ⟨h, ?_, h0, by simp only; omega⟩
    unfold predIn
    rw [if_neg (by simp only; omega)]
  · right
    refine ⟨h, ?_⟩
    unfold predIn
    rw [if_pos (findFrom_miss h)]
theorem setE_called (P : List Pr) (i : Nat) (e : Int) : (setE P i e).map called = P.map called := by
  unfold setE
  apply List.ext_getElem
  · simp
  · intro k h1 h2
    simp only [List.getElem_map, List.getElem_modify]
    split <;> rfl
theorem setE_len (P : List Pr) (i : Nat) (e : Int) : (setE P i e).length = P.length := by unfold setE; simp
theorem place_app {α : Type} [DecidableEq α] {l : List α} (m : List α) {x : α} (h : x ∈ l) : placeOf (l ++ m) x = placeOf l x := by
  unfold placeOf
  rw [List.findIdx_append, if_pos (List.findIdx_lt_length_of_exists ⟨x, h, by simp⟩)]
theorem addTo_grow {α : Type} [DecidableEq α] (l : List α) (x : α) : ∃ m, addTo l x = l ++ m ∧ x ∈ l ++ m := by
  unfold addTo
  by_cases h : x ∈ l
  · rw [if_pos h]
    exact ⟨[], by simp, by simpa using h⟩
  · rw [if_neg h]
    exact ⟨[x], rfl, by simp⟩
theorem addAll_grow {α : Type} [DecidableEq α] : ∀ (xs l : List α), ∃ m, xs.foldl addTo l = l ++ m ∧ ∀ x ∈ xs, x ∈ l ++ m
  | [], l => ⟨[], by simp, by simp⟩
  | x :: xs, l => by
    obtain ⟨m, h1, h2⟩ := addTo_grow l x
    obtain ⟨m', h3, h4⟩ := addAll_grow xs (l ++ m)
    rw [List.foldl_cons, h1, h3]
    refine ⟨m ++ m', by simp, fun y hy => ?_⟩
    rw [← List.append_assoc]
    rcases List.mem_cons.1 hy with rfl | hy
    · exact List.mem_append_left _ h2
    · exact h4 y hy

end Go.Proofs.YtclkdlegogjnbaaGreatDoor

namespace Go.Proofs.YtclkdlegogjnbaaGreatDoor
open Go
set_option linter.unusedVariables false
set_option linter.unusedSimpArgs false

/-- The first object that has it, or how many there are. -/
def firstOf (l : List Ob) (f : ByteArray × Int) : Nat := l.findIdx fun x => decide (0 ≤ findFrom f.1 f.2 0 x.preds)
theorem firstOf_lt {l : List Ob} {f : ByteArray × Int} (h : ∃ x ∈ l, f ∈ x.preds.map called) : firstOf l f < l.length := by
  obtain ⟨x, hx, hf⟩ := h
  exact List.findIdx_lt_length_of_exists ⟨x, hx, by simpa using findFrom_mem f.1 f.2 0 x.preds hf⟩
theorem firstOf_none {l : List Ob} {f : ByteArray × Int} (h : ∀ x ∈ l, f ∉ x.preds.map called) : firstOf l f = l.length := by
  unfold firstOf
  rw [List.findIdx_eq_length]
  intro x hx
  have := findFrom_miss (k := 0) (h x hx)
  simp only [decide_eq_false_iff_not]
  omega
theorem firstOf_snoc {l : List Ob} {x : Ob} {f : ByteArray × Int} (h : (∃ y ∈ l, f ∈ y.preds.map called) ∨ f ∈ x.preds.map called) : firstOf (l ++ [x]) f = firstOf l f := by
  unfold firstOf
  rw [List.findIdx_append]
  rcases h with h | h
  · exact if_pos (firstOf_lt h)
  · split
    · rfl
    · rename_i hn
      have h1 : 0 ≤ findFrom f.1 f.2 0 x.preds := findFrom_mem f.1 f.2 0 x.preds h
      rw [List.findIdx_cons]
      have h2 : (l.findIdx fun x => decide (0 ≤ findFrom f.1 f.2 0 x.preds)) ≤ l.length := List.findIdx_le_length
      simp only [h1, decide_true, cond_true]
      omega

/-- Amid an object's predicates, behind so many whole objects. -/
structure SimL (done : List Ob) (o : List Pr) (s : Lk) : Prop where
  preds : s.preds = o.map fun p => (p.1, p.2.1, 65535)
  begun : s.begun = o.map fun p => decide (p.2.2 ≠ 65535)
  homes : s.homes = o.map fun p => (firstOf done (called p) : Int)
  old : ∀ x ∈ done, ∀ f ∈ x.preds.map called, f ∈ o.map called
theorem SimL.called_eq {done : List Ob} {o : List Pr} {s : Lk} (h : SimL done o s) : s.preds.map called = o.map called := by
  rw [h.preds, List.map_map]
  rfl
theorem SimL.set {done : List Ob} {P : List Pr} {s : Lk} (h : SimL done P s) {k : Nat} (hk : k < P.length) {e : Int} (he : e ≠ 65535) : SimL done (setE P k e) { s with begun := s.begun.set k true } := by
  refine ⟨?_, ?_, ?_, fun x hx f hf => by rw [setE_called]; exact h.old x hx f hf⟩
  · show s.preds = _
    rw [h.preds]
    apply List.ext_getElem (by simp [setE])
    intro i h1 h2
    simp only [setE, List.getElem_map, List.getElem_modify]
    split <;> rfl
  · show s.begun.set k true = _
    rw [h.begun]
    apply List.ext_getElem (by simp [setE])
    intro i h1 h2
    simp only [setE, List.getElem_map, List.getElem_modify, List.getElem_set]
    by_cases hi : k = i
    · rw [if_pos hi, if_pos hi]
      simp [he]
    · rw [if_neg hi, if_neg hi]
  · show s.homes = _
    rw [h.homes]
    apply List.ext_getElem (by simp [setE])
    intro i h1 h2
    simp only [setE, List.getElem_map, List.getElem_modify]
    split <;> rfl
theorem SimL.begun_at {done : List Ob} {P : List Pr} {s : Lk} (h : SimL done P s) {k : Nat} (hk : k < P.length) : s.begun.getD k false = decide ((P.getD k (⟨#[]⟩, 0, 0)).2.2 ≠ 65535) := by
  rw [h.begun, List.getD_eq_getElem?_getD, List.getD_eq_getElem?_getD, List.getElem?_map, List.getElem?_eq_getElem hk]
  rfl
/-- The table with a predicate, on both sides. -/
theorem SimL.step {done : List Ob} {P : List Pr} {s : Lk} (h : SimL done P s) (f : ByteArray × Int) :
    (predIn s.preds f).1 = (predIn P f).1 ∧ 0 ≤ (predIn P f).1 ∧ (predIn P f).1.toNat < (predIn P f).2.length ∧
    SimL done (predIn P f).2 { s with preds := (predIn s.preds f).2, homes := (if s.homes.length < (predIn s.preds f).2.length then s.homes ++ [(done.length : Int)] else s.homes), begun := (if s.homes.length < (predIn s.preds f).2.length then s.begun ++ [false] else s.begun) } ∧
    f ∈ (predIn P f).2.map called ∧ (∀ g ∈ P.map called, g ∈ (predIn P f).2.map called) ∧ (∀ g ∈ (predIn P f).2.map called, g ∈ P.map called ∨ g = f) := by
  have hce := h.called_eq
  have hl : s.preds.length = P.length := by rw [h.preds, List.length_map]
  have hh : s.homes.length = P.length := by rw [h.homes, List.length_map]
  have hff := findFrom_called f.1 f.2 0 s.preds P hce
  rcases predIn_at P f with ⟨hm, he, h0, h1⟩ | ⟨hm, he⟩
  · have hm2 : predIn s.preds f = (findFrom f.1 f.2 0 P, s.preds) := by
      unfold predIn
      rw [hff, if_neg (by omega)]
    rw [he, hm2]
    refine ⟨rfl, h0, h1, ?_, hm, fun g hg => hg, fun g hg => .inl hg⟩
    simp only
    rw [if_neg (by omega), if_neg (by omega)]
    exact h
  · have hm2 : predIn s.preds f = ((s.preds.length : Int), s.preds ++ [(f.1, f.2, 65535)]) := by
      unfold predIn
      rw [hff, if_pos (findFrom_miss hm)]
    rw [he, hm2]
    refine ⟨by simp only; rw [hl], by simp only; omega, by simp, ?_, ?_, fun g hg => by simp only [List.map_append, List.mem_append]; exact .inl hg, fun g hg => ?_⟩
    · simp only
      have hlt : s.homes.length < (s.preds ++ [(f.1, f.2, (65535 : Int))]).length := by simp; omega
      rw [if_pos hlt, if_pos hlt]
      refine ⟨by simp only; rw [h.preds, List.map_append]; rfl, by simp only; rw [h.begun, List.map_append]; rfl, ?_, fun x hx g hg => by rw [List.map_append, List.mem_append]; exact .inl (h.old x hx g hg)⟩
      simp only
      rw [h.homes, List.map_append]
      congr 1
      rw [List.map_cons, List.map_nil]
      have : firstOf done (called (f.1, f.2, (65535 : Int))) = done.length := firstOf_none fun x hx hg => hm (h.old x hx _ hg)
      rw [this]
    · rw [List.map_append, List.mem_append]
      exact .inr (by simp [called])
    · rw [List.map_append, List.mem_append] at hg
      rcases hg with hg | hg
      · exact .inl hg
      · exact .inr (by simpa [called] using hg)
theorem pred_sim {done : List Ob} {P : List Pr} {s : Lk} (h : SimL done P s) (base : Int) (p : Pr) (hb : p.2.2 ≠ 65535 → base + p.2.2 ≠ 65535) :
    (predJ base P p = none ∧ predK (done.length : Int) s p = none) ∨
    ∃ P' s', predJ base P p = some P' ∧ predK (done.length : Int) s p = some s' ∧ SimL done P' s' ∧ (s'.atoms = s.atoms ∧ s'.funs = s.funs ∧ s'.n = s.n) ∧
      called p ∈ P'.map called ∧ (∀ g ∈ P.map called, g ∈ P'.map called) ∧ (∀ g ∈ P'.map called, g ∈ P.map called ∨ g = called p) := by
  obtain ⟨a1, a2, a3, a4, a5, a6, a7⟩ := h.step (called p)
  unfold predJ predK
  simp only
  rw [a1]
  by_cases hp : p.2.2 = 65535
  · right
    rw [if_pos hp, if_pos hp]
    exact ⟨_, _, rfl, rfl, a4, ⟨rfl, rfl, rfl⟩, a5, a6, a7⟩
  · rw [if_neg hp, if_neg hp]
    have hbg := a4.begun_at a3
    simp only at hbg
    rw [hbg]
    by_cases hE : ((predIn P (called p)).2.getD (predIn P (called p)).1.toNat (⟨#[]⟩, 0, 0)).2.2 ≠ 65535
    · left
      rw [if_pos hE, if_pos (decide_eq_true hE)]
      exact ⟨rfl, rfl⟩
    · right
      rw [if_neg hE, if_neg (by rw [decide_eq_false hE]; decide)]
      have a8 := a4.set a3 (hb hp)
      exact ⟨_, _, rfl, rfl, a8, ⟨rfl, rfl, rfl⟩, by rw [setE_called]; exact a5, fun g hg => by rw [setE_called]; exact a6 g hg, fun g hg => a7 g (by rw [setE_called] at hg; exact hg)⟩
theorem preds_sim {done : List Ob} (base : Int) : ∀ (ps : List Pr) (P : List Pr) (s : Lk), SimL done P s → (∀ p ∈ ps, p.2.2 ≠ 65535 → base + p.2.2 ≠ 65535) →
    (predsJ base P ps = none ∧ predsK (done.length : Int) s ps = none) ∨
    ∃ P' s', predsJ base P ps = some P' ∧ predsK (done.length : Int) s ps = some s' ∧ SimL done P' s' ∧ (s'.atoms = s.atoms ∧ s'.funs = s.funs ∧ s'.n = s.n) ∧
      (∀ f ∈ ps.map called, f ∈ P'.map called) ∧ (∀ g ∈ P.map called, g ∈ P'.map called) ∧ (∀ g ∈ P'.map called, g ∈ P.map called ∨ g ∈ ps.map called)
  | [], P, s, h, _ => .inr ⟨P, s, rfl, rfl, h, ⟨rfl, rfl, rfl⟩, by simp, fun g hg => hg, fun g hg => .inl hg⟩
  | p :: ps, P, s, h, hb => by
    unfold predsJ predsK
    rcases pred_sim h base p (hb p (by simp)) with ⟨e1, e2⟩ | ⟨P1, s1, e1, e2, h1, ⟨b1, b2, b3⟩, c1, c2, c3⟩
    · rw [e1, e2]
      exact .inl ⟨rfl, rfl⟩
    · rw [e1, e2]
      rcases preds_sim base ps P1 s1 h1 (fun q hq => hb q (by simp [hq])) with ⟨e3, e4⟩ | ⟨P2, s2, e3, e4, h2, ⟨d1, d2, d3⟩, f1, f2, f3⟩
      · exact .inl ⟨e3, e4⟩
      · refine .inr ⟨P2, s2, e3, e4, h2, ⟨d1.trans b1, d2.trans b2, d3.trans b3⟩, fun g hg => ?_, fun g hg => f2 g (c2 g hg), fun g hg => ?_⟩
        · rw [List.map_cons, List.mem_cons] at hg
          rcases hg with rfl | hg
          · exact f2 _ c1
          · exact f1 g hg
        · rw [List.map_cons, List.mem_cons]
          rcases f3 g hg with hg | hg
          · rcases c3 g hg with hg | hg
            · exact .inl hg
            · exact .inr (.inl hg)
          · exact .inr (.inr hg)

/-- Behind so many whole objects. -/
structure SimW (done : List Ob) (o : Ob) (s : Lk) : Prop where
  atoms : s.atoms = o.atoms
  funs : s.funs = o.funs
  n : s.n = o.code.length
  l : SimL done o.preds s
  all : ∀ f ∈ o.preds.map called, ∃ x ∈ done, f ∈ x.preds.map called
  few : o.code.length ≤ 1024 * done.length
theorem join_sim {done : List Ob} {o : Ob} {s : Lk} (h : SimW done o s) {x : Ob} (hx : checkOf x = 0) (hd : done.length ≤ 60) :
    (joinJ o x = none ∧ enterK (done.length : Int) s x = none) ∨ ∃ o' s', joinJ o x = some o' ∧ enterK (done.length : Int) s x = some s' ∧ SimW (done ++ [x]) o' s' := by
  have hk := ok_of hx
  have hf := h.few
  have hl : SimL done o.preds { s with atoms := x.atoms.foldl addTo s.atoms, funs := x.funs.foldl addTo s.funs, n := s.n + x.code.length } := ⟨h.l.preds, h.l.begun, h.l.homes, h.l.old⟩
  unfold joinJ enterK
  rcases preds_sim (o.code.length : Int) x.preds o.preds _ hl (fun p hp hne => by
    have h1 := (hk.preds p hp).2.2.2
    have h2 := hk.lc
    omega) with ⟨e1, e2⟩ | ⟨P, s', e1, e2, h1, ⟨b1, b2, b3⟩, c1, c2, c3⟩
  · rw [e1, e2]
    exact .inl ⟨rfl, rfl⟩
  · rw [e1, e2]
    right
    have hall : ∀ f ∈ P.map called, (∃ y ∈ done, f ∈ y.preds.map called) ∨ f ∈ x.preds.map called := fun f hf => by
      rcases c3 f hf with hf | hf
      · exact .inl (h.all f hf)
      · exact .inr hf
    refine ⟨_, _, rfl, rfl, ?_⟩
    refine ⟨by rw [b1, h.atoms], by rw [b2, h.funs], by rw [b3]; simp only [List.length_append, List.length_map]; rw [h.n]; omega, ⟨h1.preds, h1.begun, ?_, ?_⟩, ?_, ?_⟩
    · rw [h1.homes]
      apply List.map_congr_left
      intro p hp
      rw [firstOf_snoc (hall (called p) (List.mem_map_of_mem hp))]
    · intro y hy f hf
      rcases List.mem_append.1 hy with hy | hy
      · exact h1.old y hy f hf
      · rw [List.mem_singleton.1 hy] at hf
        exact c1 f hf
    · intro f hf
      rcases hall f hf with ⟨y, hy, h3⟩ | h3
      · exact ⟨y, List.mem_append_left _ hy, h3⟩
      · exact ⟨x, by simp, h3⟩
    · have := hk.lc
      simp only [List.length_append, List.length_map, List.length_cons, List.length_nil]
      omega
theorem fold_sim : ∀ (l done : List Ob) (o : Ob) (s : Lk), SimW done o s → (∀ x ∈ l, checkOf x = 0) → done.length + l.length ≤ 60 →
    (∃ n, foldJ done.length o l = .error n ∧ foldK done.length s l = .error n) ∨ ∃ o' s', foldJ done.length o l = .ok o' ∧ foldK done.length s l = .ok s' ∧ SimW (done ++ l) o' s'
  | [], done, o, s, h, _, _ => .inr ⟨o, s, rfl, rfl, by simpa using h⟩
  | x :: l, done, o, s, h, hc, hn => by
    unfold foldJ foldK
    rw [List.length_cons] at hn
    rcases join_sim h (hc x (by simp)) (by omega) with ⟨e1, e2⟩ | ⟨o1, s1, e1, e2, h1⟩
    · rw [e1, e2]
      exact .inl ⟨_, rfl, rfl⟩
    · rw [e1, e2]
      have := fold_sim l (done ++ [x]) o1 s1 h1 (fun y hy => hc y (by simp [hy])) (by rw [List.length_append]; simp only [List.length_cons, List.length_nil]; omega)
      rw [List.length_append, List.append_assoc] at this
      exact this
theorem start_sim : SimW [] emptyOb startLk := ⟨rfl, rfl, rfl, ⟨rfl, rfl, rfl, (fun x hx => nomatch hx)⟩, (fun f hf => nomatch hf), Nat.le_refl _⟩
theorem unknown_rows (l : List Ob) : ∀ (P : List Pr), (∀ p ∈ P, firstOf l (called p) < l.length) →
    (unknownJ l P = none ∧ ¬ (P.map fun p => decide (p.2.2 ≠ 65535)).findIdx (fun b => !b) < (P.map fun p => decide (p.2.2 ≠ 65535)).length) ∨
    (unknownJ l P = some ((P.map fun p => (firstOf l (called p) : Int)).getD ((P.map fun p => decide (p.2.2 ≠ 65535)).findIdx (fun b => !b)) 0) ∧ (P.map fun p => decide (p.2.2 ≠ 65535)).findIdx (fun b => !b) < (P.map fun p => decide (p.2.2 ≠ 65535)).length ∧
      0 ≤ (P.map fun p => (firstOf l (called p) : Int)).getD ((P.map fun p => decide (p.2.2 ≠ 65535)).findIdx (fun b => !b)) 0)
  | [], _ => .inl ⟨rfl, by simp⟩
  | p :: P, h => by
    have hp : homeOf l (called p) = (firstOf l (called p) : Int) := by
      unfold homeOf
      exact if_pos (h p (by simp))
    unfold unknownJ
    rw [hp, List.map_cons, List.map_cons, List.findIdx_cons]
    by_cases he : p.2.2 = 65535
    · right
      rw [if_pos ⟨he, by omega⟩]
      simp [he]
    · rw [if_neg (fun hh => he hh.1)]
      have hb : (!decide (p.2.2 ≠ 65535)) = false := by simp [he]
      rw [hb, cond_false]
      rcases unknown_rows l P (fun q hq => h q (by simp [hq])) with ⟨h1, h2⟩ | ⟨h1, h2, h3⟩
      · left
        refine ⟨h1, ?_⟩
        rw [List.length_cons]
        omega
      · right
        rw [List.length_cons, List.getD_cons_succ]
        exact ⟨h1, by omega, h3⟩
theorem unknown_sim {l : List Ob} {o : Ob} {s : Lk} (h : SimW l o s) : (unknownJ l o.preds = none ∧ unknownK s < 0) ∨ (unknownJ l o.preds = some (unknownK s) ∧ 0 ≤ unknownK s) := by
  unfold unknownK
  rw [h.l.begun, h.l.homes]
  rcases unknown_rows l o.preds (fun p hp => firstOf_lt (h.all _ (List.mem_map_of_mem hp))) with ⟨h1, h2⟩ | ⟨h1, h2, h3⟩
  · rw [if_neg h2]
    exact .inl ⟨h1, by omega⟩
  · rw [if_pos h2]
    exact .inr ⟨h1, h3⟩

end Go.Proofs.YtclkdlegogjnbaaGreatDoor
