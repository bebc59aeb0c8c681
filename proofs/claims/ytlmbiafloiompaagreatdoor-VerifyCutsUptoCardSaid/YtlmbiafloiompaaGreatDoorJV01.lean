/-
  6 texts in one (CodeM CrcM Mem OName ObjM OTName). Conditions: those of each theorem.
-/
import Derived.Lib.Hide
import Derived.WalkKit
import Derived.Laws.BitsAllLaws
import Derived.ProofKit
import Derived.Below
import Derived.Laws.OwnMore
import Derived.Laws.Rows
import Derived.Deep.Draws
import Derived.OwnWalk
import Derived.ChangeSame
import Derived.WalkSmall
import Derived.Test.YtlmbiafloiompaaGreatDoorProg
import Derived.LoopTactic
import Derived.OpenShut
import Derived.IntWalk
namespace Go.Proofs.YtlmbiafloiompaaGreatDoor
open Go

/-- What an Op's operands are. -/
def opsOf (op : Int) : List Int :=
  if op = 1 ∨ op = 2 ∨ op = 10 ∨ op = 11 then [1, 2]
  else if op = 3 ∨ op = 12 then [3, 2]
  else if op = 4 ∨ op = 13 then [4, 2]
  else if op = 5 ∨ op = 14 then [2]
  else if op = 6 ∨ op = 7 then [1]
  else if op = 8 then [3]
  else if op = 9 then [5]
  else if op = 15 then [6]
  else if op = 17 ∨ op = 18 then [7]
  else if op = 20 ∨ op = 21 then [8]
  else if op = 24 ∨ op = 25 then [9]
  else if op = 26 then [8, 8, 8, 8]
  else []

/-- From where to where an operand's numbers go. -/
def lowOf (kind : Int) : Int := if kind = 5 then 1 else 0
def highOf (kind : Int) : Int :=
  if kind = 1 then 31 else if kind = 2 then 15 else if kind = 3 then 255 else if kind = 4 then 255 else if kind = 5 then 8
  else if kind = 6 then 16 else if kind = 7 then 63 else if kind = 8 then 1023 else if kind = 9 then 15 else 0

/-- May a number stand there? -/
def mayB (op kind n : Int) : Bool := decide ((op = 26 ∧ n = 65535) ∨ (lowOf kind ≤ n ∧ n ≤ highOf kind))

/-- May it be an instruction? -/
def rightB (op : Int) (a : List Int) : Bool :=
  decide (0 ≤ op ∧ op ≤ 26) && (List.range 4).all fun k => mayB op ((opsOf op).getD k 0) (a.getD k 0)

/-- The names. -/
def nameList : List (List UInt8) := [
  [102, 97, 105, 108], [103, 101, 116, 118, 97, 114], [103, 101, 116, 118, 97, 108], [103, 101, 116, 99, 111, 110], [103, 101, 116, 115, 116, 114], [103, 101, 116, 108, 105, 115],
  [117, 110, 105, 118, 97, 114], [117, 110, 105, 118, 97, 108], [117, 110, 105, 99, 111, 110], [117, 110, 105, 118, 111, 105, 100], [112, 117, 116, 118, 97, 114], [112, 117, 116, 118, 97, 108],
  [112, 117, 116, 99, 111, 110], [112, 117, 116, 115, 116, 114], [112, 117, 116, 108, 105, 115], [97, 108, 108, 111, 99, 97, 116, 101], [100, 101, 97, 108, 108, 111, 99, 97, 116, 101],
  [99, 97, 108, 108], [101, 120, 101, 99, 117, 116, 101], [112, 114, 111, 99, 101, 101, 100], [116, 114, 121], [114, 101, 116, 114, 121], [116, 114, 117, 115, 116], [110, 101, 99, 107, 99, 117, 116],
  [103, 101, 116, 108, 101, 118, 101, 108], [99, 117, 116], [115, 119, 105, 116, 99, 104]]

def nameAt (k : Nat) : ByteArray := ⟨(nameList.getD k []).toArray⟩
def nameOf (op : Int) : ByteArray := if 0 ≤ op ∧ op ≤ 26 then nameAt op.toNat else ⟨#[]⟩

theorem span_list : ∀ op ∈ ([0, 1, 2, 3, 4, 5, 6, 7, 8, 9, 10, 11, 12, 13, 14, 15, 16, 17, 18, 19, 20, 21, 22, 23, 24, 25, 26] : List Int), ∀ k ∈ opsOf op, 1 ≤ k ∧ k ≤ 9 := by decide +kernel

end Go.Proofs.YtlmbiafloiompaaGreatDoor

namespace Go.Proofs.YtlmbiafloiompaaGreatDoor

/-- One bit goes out. -/
def shr1 (r : Nat) : Nat := if r % 2 = 1 then (r / 2) ^^^ 3988292384 else r / 2
/-- So many bits. -/
def shrN (r : Nat) : Nat → Nat
  | 0 => r
  | k + 1 => shr1 (shrN r k)
/-- A byte goes in. -/
def stepB (r c : Nat) : Nat := shrN (r ^^^ c) 8
/-- All bytes, one behind the other. -/
def regOf (r : Nat) (l : List Nat) : Nat := l.foldl stepB r
/-- The sum, from a sum on. -/
def crcOf (s : Nat) (l : List Nat) : Nat := 4294967295 ^^^ regOf (4294967295 ^^^ s) l

/-- All bytes as one number, the first one lowest. -/
def numOfC : List Nat → Nat
  | [] => 0
  | c :: l => c ^^^ 2 ^ 8 * numOfC l

/-- The bits of 'by' below i turned, from bit k on. -/
def turned (l : List Nat) (k y : Nat) : Nat → List Nat
  | 0 => l
  | i + 1 => if y / 2 ^ i % 2 = 1 then (turned l k y i).set ((k + i) / 8) ((turned l k y i).getD ((k + i) / 8) 0 ^^^ 2 ^ ((k + i) % 8)) else turned l k y i

end Go.Proofs.YtlmbiafloiompaaGreatDoor

namespace Go.Proofs.YtlmbiafloiompaaGreatDoor
open Go Go.RowKit Go.WideShapes Go.ChangeShapes

/-- From w to w' only blocks of S may have turned; new ones may be there. -/
structure Fr (S : Nat → Prop) (w w' : World) : Prop where
  os : w'.os = w.os
  tape : w'.tape = w.tape
  output : w'.output = w.output
  size : w.heap.size ≤ w'.heap.size
  block : ∀ k, k < w.heap.size → ¬ S k → w'.heap[k]? = w.heap[k]?

def Box (w : World) (g : Nat) (t : TypeId) (cs : Array Value) : Prop := w.heap[g]? = some (.cells cs t (0, 0))

section
variable {S T : Nat → Prop} {w w' w'' : World} {g : Nat} {t : TypeId} {cs : Array Value}

theorem Fr.refl (S : Nat → Prop) (w : World) : Fr S w w := ⟨rfl, rfl, rfl, Nat.le_refl _, fun _ _ _ => rfl⟩
theorem Fr.trans (h : Fr S w w') (k : Fr S w' w'') : Fr S w w'' :=
  ⟨k.os.trans h.os, k.tape.trans h.tape, k.output.trans h.output, Nat.le_trans h.size k.size, fun i hi hs => (k.block i (Nat.lt_of_lt_of_le hi h.size) hs).trans (h.block i hi hs)⟩
theorem Fr.mono (h : Fr S w w') (hST : ∀ k, k < w.heap.size → S k → T k) : Fr T w w' := ⟨h.os, h.tape, h.output, h.size, fun i hi hs => h.block i hi (fun x => hs (hST i hi x))⟩
theorem Fr.of_grown {row : Option Nat} (h : w.grownBy w' row) (hs : ∀ k, k < w.heap.size → row = some k → S k) : Fr S w w' := ⟨h.os, h.tape, h.output, h.size, fun i hi hn => h.block i hi (fun e => hn (hs i hi e.symm))⟩
theorem Fr.drew (h : Fr S w w') : Fr S w w'.drew := ⟨h.os, h.tape, h.output, h.size, h.block⟩
theorem Fr.drewN (h : Fr S w w') (n : Nat) : Fr S w (w'.drewN n) := ⟨h.os, h.tape, h.output, h.size, h.block⟩
theorem Fr.alloc (h : Fr S w w') (o : Obj) : Fr S w (w'.alloc o) :=
  ⟨h.os, h.tape, h.output, Nat.le_trans h.size (by simp), fun i hi hs => (Below.heap_alloc w' o i (Nat.lt_of_lt_of_le hi h.size)).trans (h.block i hi hs)⟩
theorem Fr.setCell (h : Fr S w w') {p : Addr} (hp : S p.block ∨ w.heap.size ≤ p.block) (u : Value) : Fr S w (w'.setCell p u) :=
  ⟨h.os, h.tape, h.output, by simpa [World.setCell] using h.size, fun i hi hs => (Below.heap_setCell w' p u i (by
    rintro rfl
    rcases hp with hp | hp
    · exact hs hp
    · omega)).trans (h.block i hi hs)⟩
theorem Fr.below {B : Nat} (h : Fr S w w') (hB : B ≤ w.heap.size) (hs : ∀ k, S k → B ≤ k) : Below B w w' :=
  ⟨h.os, h.tape, h.output, h.size, fun k hk => h.block k (by omega) (fun x => by have := hs k x; omega)⟩
theorem Fr.of_below (h : Below w.heap.size w w') : Fr S w w' := ⟨h.os, h.tape, h.output, h.size, fun k hk _ => h.block k hk⟩

theorem Box.lt (h : Box w g t cs) : g < w.heap.size := by
  unfold Box at h
  exact (Array.getElem?_eq_some_iff.1 h).1
theorem Box.cell (h : Box w g t cs) (i : Nat) : w.cell? ⟨g, i, none⟩ = cs[i]? := cell_of_row w g i cs t (0, 0) h
theorem Box.frozen (h : Box w g t cs) (i : Nat) : w.frozen? ⟨g, i, none⟩ = false := frozen_of_row w g i cs t h
theorem Box.new (w : World) (t : TypeId) (cs : Array Value) : Box (w.alloc (.cells cs t)) w.heap.size t cs := heap_alloc_new w _
theorem Box.drew (h : Box w g t cs) : Box w.drew g t cs := h
theorem Box.drewN (h : Box w g t cs) (n : Nat) : Box (w.drewN n) g t cs := h
theorem Box.fr (h : Box w g t cs) (hf : Fr S w w') (hg : ¬ S g) : Box w' g t cs := (hf.block g h.lt hg).trans h
theorem Box.alloc (h : Box w g t cs) (o : Obj) : Box (w.alloc o) g t cs := (Below.heap_alloc w o g h.lt).trans h
theorem Box.set_ (h : Box w g t cs) (i : Nat) (u : Value) : Box (w.setCell ⟨g, i, none⟩ u) g t (cs.setIfInBounds i u) := heap_setCell_same w g i cs t u h
theorem Box.far (h : Box w g t cs) {p : Addr} (hp : g ≠ p.block) (u : Value) : Box (w.setCell p u) g t cs := (Below.heap_setCell w p u g hp).trans h
theorem Box.ne_ {g' : Nat} {t' : TypeId} {cs' : Array Value} (h : Box w g t cs) (h' : Box w g' t' cs') (hne : t ≠ t') : g ≠ g' := by
  rintro rfl
  unfold Box at h h'
  rw [h] at h'
  injection h' with h'
  injection h' with _ ht
  exact hne ht
theorem Box.below {B : Nat} (h : Box w g t cs) (hb : Below B w w') (hg : g < B) : Box w' g t cs := (hb.block g hg).trans h

variable {base : Nat} {e : TypeId} {size n : Nat} {v : Value} {xs : List Value}

theorem own_fr (h : w.ownsRow base e size v n xs) (hf : Fr S w w') (hn : ∀ k, v.ownBlock = some k → ¬ S k) : w'.ownsRow base e size v n xs := by
  refine ⟨h.1, ?_⟩
  rcases h.2 with h0 | ⟨g, cap, cur, rfl, hb, hg, rest⟩
  · exact .inl h0
  · exact .inr ⟨g, cap, cur, rfl, hb, (hf.block g (Array.getElem?_eq_some_iff.1 hg).1 (hn g rfl)).trans hg, rest⟩

theorem cell_alloc_lt (w : World) (o : Obj) {p : Addr} (hp : p.block < w.heap.size) : (w.alloc o).cell? p = w.cell? p := World.cell?_of_block (w := w) (Below.heap_alloc w o p.block hp)

theorem below_from_drewN {B m : Nat} (h : Below B (w.drewN m) w') : Below B w w' := ⟨h.os, h.tape, h.output, h.size, h.block⟩

theorem own_ne_box (h : w.ownsRow base e size v n xs) (hg : Box w g t cs) (hne : e ≠ t) : ∀ k, v.ownBlock = some k → k ≠ g := by
  intro k hk
  rcases h.2 with ⟨rfl, _⟩ | ⟨g', cap, cur, rfl, _, hh, _⟩
  · simp [Value.ownBlock] at hk
  · have hk' : g' = k := by simpa [Value.ownBlock] using hk
    subst hk'
    exact Box.ne_ (t := e) hh hg hne

theorem own_form (h : w.ownsRow base e size v n xs) : ∃ A c, v = .slice A n c ∧ n ≤ c := by
  rcases h.2 with ⟨rfl, rfl⟩ | ⟨g, cap, cur, rfl, _, _, hc, _⟩
  · exact ⟨_, _, rfl, Nat.le_refl _⟩
  · exact ⟨_, _, rfl, hc⟩

theorem own_ne_own {base' : Nat} {e' : TypeId} {size' n' : Nat} {v' : Value} {xs' : List Value} (h : w.ownsRow base e size v n xs) (h' : w.ownsRow base' e' size' v' n' xs') (hne : e ≠ e') :
    ∀ k, v.ownBlock = some k → v'.ownBlock ≠ some k := by
  intro k hk hk'
  rcases h.2 with ⟨rfl, _⟩ | ⟨g, cap, cur, rfl, _, hh, _⟩
  · simp [Value.ownBlock] at hk
  · have e1 : g = k := by simpa [Value.ownBlock] using hk
    subst e1
    exact own_ne_box h' (t := e) hh (fun x => hne x.symm) g hk' rfl

theorem own_set_far (h : w.ownsRow base e size v n xs) {p : Addr} (hp : ∀ k, v.ownBlock = some k → k ≠ p.block) (u : Value) : (w.setCell p u).ownsRow base e size v n xs :=
  own_fr (S := fun k => k = p.block) h ((Fr.refl (fun k => k = p.block) w).setCell (p := p) (.inl rfl) u) hp

theorem own_more {base' : Nat} (h : w.ownsRow base e size v n xs) (hb : ∀ k, v.ownBlock = some k → base' ≤ k) : w.ownsRow base' e size v n xs := by
  refine ⟨h.1, ?_⟩
  rcases h.2 with h0 | ⟨g, cap, cur, rfl, _, rest⟩
  · exact .inl h0
  · exact .inr ⟨g, cap, cur, rfl, hb g rfl, rest⟩

/-- The row's last step, from 'below the heap's size nothing has turned'. -/
theorem post_below {H : Type} {enc : TypeId × Value → H} {P : Program} {f : Func} {s : ChangeSpec} {apart fresh handsOn again : Bool} {W W' : World} {args : Array Value} {v : Value} {ds gs : List (DataW H)} {before pa pv : List MemPlace}
    (hW : DataW.Whole enc P f.params.toList s.vars apart W args.toList ds gs before)
    (hres : ∀ (b : Nat) (sp : Nat → Bool) (hd : Bool), DataW.TrodAll enc P W' b sp hd f.resultTypes.toList (v.resultList f.resultTypes.size) (s.fn H (ds ++ gs)).results [])
    (hargs : ∀ sp : Nat → Bool, (∀ p ∈ before, sp p.block = true) → DataW.TrodAll enc P W' 0 sp true f.params.toList args.toList (s.fn H (ds ++ gs)).args pa)
    (hvars : ∀ sp : Nat → Bool, (∀ p ∈ before, sp p.block = true) → DataW.TrodVars enc P W' sp s.vars (s.fn H (ds ++ gs)).vars pv)
    (hps : before = pa ++ pv) (hb : Below W.heap.size W W')
    (hok : ∀ (j : Nat) (t : TypeId) (r : Value), f.resultTypes[j]? = some t → (v.resultList f.resultTypes.size)[j]? = some r → Value.okWide P W' .any 0 t r) :
    s.post enc P f apart fresh handsOn again W args v W' := by
  have hlt : ∀ p ∈ before, p.block < W.heap.size := fun p hp => hW.lt p hp
  have hold : ∀ p ∈ before, (fun b => decide (b < W.heap.size)) p.block = true := fun p hp => by simpa using hlt p hp
  refine ⟨ds, gs, before, [], pa, pv, hW, hres _ _ _, hargs _ hold, hvars _ hold, World.keptBut_mono (fun p hp => ⟨hp, ?_⟩) (hb.frame (· ∈ before)), fun _ => ?_⟩
  · rw [hps, List.mem_append] at hp
    exact Or.inr hp
  · obtain ⟨_, _, _, _, _, hz, hn⟩ := hW
    refine ⟨hok, _, _, ([] ++ pa) ++ pv, ⟨[] ++ pa, pv, trodAll_append (hargs _ (fun _ _ => rfl)) (hres _ _ _), hvars _ (fun _ _ => rfl), rfl, ?_, ?_⟩, ?_⟩
    · intro b off hp
      have hin : MemPlace.cell b off ∈ before := by rw [hps]; simpa using hp
      rw [hb.frozen (hlt _ hin)]
      exact hz b off hin
    · intro ha
      have := hn ha
      rw [hps] at this
      simpa using this
    · intro p hp _
      rw [hps]
      simpa using hp

theorem cell_one_new (w : World) (a : Value) (t : TypeId) : ∀ j u, [a][j]? = some u → (w.alloc (.cells #[a] t)).cell? ((⟨w.heap.size, 0, none⟩ : Addr).add j) = some u := by
  intro j u hu
  match j with
  | 0 =>
    obtain rfl : a = u := by simpa using hu
    simp [Addr.add]
  | j + 1 => simp at hu
theorem one_word (k : IntKind) (c : Int) : ∀ u ∈ [Value.int k c], u.oneCell' = true := by
  intro u hu
  obtain rfl : u = .int k c := by simpa using hu
  rfl

end
end Go.Proofs.YtlmbiafloiompaaGreatDoor

namespace Go.Proofs.YtlmbiafloiompaaGreatDoor
open Go Go.RowKit
set_option linter.unusedVariables false

def lowerB (c : UInt8) : Bool := decide (97 ≤ c.toNat) && decide (c.toNat ≤ 122)
def nameB (c : UInt8) : Bool := lowerB c || (decide (48 ≤ c.toNat) && decide (c.toNat ≤ 57))
def nameOk (s : ByteArray) : Bool := decide (1 ≤ s.size) && decide (s.size ≤ 32) && (s.data.toList.head?.any lowerB) && s.data.toList.all nameB

theorem take_snocB (s : ByteArray) (k : Nat) (h : k < s.size) : s.data.toList.take (k + 1) = s.data.toList.take k ++ [s[k]] := by
  rw [List.take_succ_eq_append_getElem (by simpa using h)]; rfl
theorem all_drop (s : ByteArray) (k : Nat) (h : k < s.size) (hb : nameB s[k] = false) : s.data.toList.all nameB = false := by
  have : ¬ s.data.toList.all nameB = true := fun e => by
    rw [List.all_eq_true] at e
    have := e s[k] (by
      have h' : k < s.data.toList.length := by simpa using h
      exact List.getElem_mem h')
    rw [hb] at this
    cases this
  simpa using this
theorem head_of (s : ByteArray) (h : 0 < s.size) : s.data.toList.head? = some s[0] := by
  have h' : 0 < s.data.toList.length := by simpa using h
  rw [List.head?_eq_getElem?, List.getElem?_eq_getElem h']
  rfl

end Go.Proofs.YtlmbiafloiompaaGreatDoor

namespace Go.Proofs.YtlmbiafloiompaaGreatDoor
open Go

/-- An instruction: its Op, its four operands. -/
abbrev Ins := Int × Int × Int × Int × Int
def argOf (i : Ins) : List Int := [i.2.1, i.2.2.1, i.2.2.2.1, i.2.2.2.2]

/-- An object: names, names with arities, predicates, instructions. -/
structure Ob where
  atoms : List ByteArray
  funs : List (ByteArray × Int)
  preds : List (ByteArray × Int × Int)
  code : List Ins
deriving DecidableEq

def bigB (a f p c : Nat) : Bool := decide (256 < a ∨ 256 < f ∨ 64 < p ∨ 1024 < c)
def funOk (least : Int) (f : ByteArray × Int) : Bool := nameOk f.1 && decide (least ≤ f.2) && decide (f.2 ≤ 8)
def called (p : ByteArray × Int × Int) : ByteArray × Int := (p.1, p.2.1)
def namesOk (o : Ob) : Bool := o.atoms.all nameOk && o.funs.all (funOk 1) && (o.preds.map called).all (funOk 0)
/-- Is one there twice? -/
def twiceB {α : Type} [DecidableEq α] (l : List α) : Bool := !decide l.Nodup
def dupB (o : Ob) : Bool := twiceB o.atoms || twiceB o.funs || twiceB (o.preds.map called)
/-- May the Entries be? -/
def entryOk (n : Nat) (e : Int) : Bool := decide (e = 65535 ∨ (0 ≤ e ∧ e < n))
def entsOk (n : Nat) (es : List Int) : Bool := es.all (entryOk n) && decide ((es.filter (fun e => decide (e ≠ 65535))).Nodup)
/-- Is there what an operand names? -/
def thereB (a f p c : Nat) (kind n : Int) : Bool :=
  if kind = 3 then decide (0 ≤ n ∧ n < a) else if kind = 4 then decide (0 ≤ n ∧ n < f) else if kind = 7 then decide (0 ≤ n ∧ n < p)
  else if kind = 8 then decide (n = 65535 ∨ (0 ≤ n ∧ n < c)) else true
def insErr (a f p c : Nat) (i : Ins) : Int :=
  if ¬ (0 ≤ i.1 ∧ i.1 ≤ 26) then 8
  else if rightB i.1 (argOf i) = false then 9
  else if (List.range (opsOf i.1).length).all (fun k => thereB a f p c ((opsOf i.1).getD k 0) ((argOf i).getD k 0)) then 0 else 9
def codeErr (a f p c : Nat) : List Ins → Int
  | [] => 0
  | i :: l => if insErr a f p c i = 0 then codeErr a f p c l else insErr a f p c i
def checkOf (o : Ob) : Int :=
  if bigB o.atoms.length o.funs.length o.preds.length o.code.length then 2
  else if namesOk o = false then 7
  else if dupB o then 11
  else if entsOk o.code.length (o.preds.map (·.2.2)) = false then 7
  else codeErr o.atoms.length o.funs.length o.preds.length o.code.length o.code

/-- A number in so many bytes, its highest byte first. -/
def numL : Nat → Nat → List Nat
  | 0, _ => []
  | k + 1, n => n / 256 ^ k % 256 :: numL k n
def strL (s : ByteArray) : List Nat := s.data.toList.map UInt8.toNat
def nameL (s : ByteArray) : List Nat := numL 1 s.size ++ strL s
def sizeK (kind : Int) : Nat := if kind = 8 then 2 else 1
def argsL : List Int → List Int → List Nat
  | [], _ => []
  | k :: ks, l => numL (sizeK k) (l.headD 0).toNat ++ argsL ks l.tail
def insL (i : Ins) : List Nat := numL 1 i.1.toNat ++ argsL (opsOf i.1) (argOf i)
def funL (f : ByteArray × Int) : List Nat := nameL f.1 ++ numL 1 f.2.toNat
def predL (p : ByteArray × Int × Int) : List Nat := nameL p.1 ++ numL 1 p.2.1.toNat ++ numL 2 p.2.2.toNat
def headL (o : Ob) : List Nat := [82, 83, 76, 86, 1] ++ numL 2 o.atoms.length ++ numL 2 o.funs.length ++ numL 2 o.preds.length ++ numL 2 o.code.length
def bodyL (o : Ob) : List Nat := headL o ++ o.atoms.flatMap nameL ++ o.funs.flatMap funL ++ o.preds.flatMap predL ++ o.code.flatMap insL
def bytesL (o : Ob) : List Nat := bodyL o ++ numL 4 (crcOf 0 (bodyL o))

/-- What is left of the bytes; whether some lacked. -/
structure Rd where
  rest : List Nat
  short : Bool
deriving DecidableEq

def takeR (n : Nat) (r : Rd) : List Nat × Rd := if r.short = true ∨ r.rest.length < n then ([], ⟨r.rest, true⟩) else (r.rest.take n, ⟨r.rest.drop n, false⟩)
def valL (l : List Nat) : Nat := l.foldl (fun n c => n * 256 + c) 0
def numR (n : Nat) (r : Rd) : Nat × Rd := (valL (takeR n r).1, (takeR n r).2)
def strOf (l : List Nat) : ByteArray := ⟨(l.map UInt8.ofNat).toArray⟩
def nameR (r : Rd) : ByteArray × Rd := (strOf (takeR (numR 1 r).1 (numR 1 r).2).1, (takeR (numR 1 r).1 (numR 1 r).2).2)
def funR (r : Rd) : (ByteArray × Int) × Rd := (((nameR r).1, ((numR 1 (nameR r).2).1 : Int)), (numR 1 (nameR r).2).2)
def predR (r : Rd) : (ByteArray × Int × Int) × Rd :=
  (((nameR r).1, ((numR 1 (nameR r).2).1 : Int), ((numR 2 (numR 1 (nameR r).2).2).1 : Int)), (numR 2 (numR 1 (nameR r).2).2).2)
def manyR {α : Type} (f : Rd → α × Rd) : Nat → Rd → List α × Rd
  | 0, r => ([], r)
  | n + 1, r => ((f r).1 :: (manyR f n (f r).2).1, (manyR f n (f r).2).2)
def argsR : List Int → Rd → List Int × Rd
  | [], r => ([], r)
  | k :: ks, r => (((numR (sizeK k) r).1 : Int) :: (argsR ks (numR (sizeK k) r).2).1, (argsR ks (numR (sizeK k) r).2).2)
def insOf (op : Int) (l : List Int) : Ins := (op, l.getD 0 0, l.getD 1 0, l.getD 2 0, l.getD 3 0)
def insR (r : Rd) : Option (Ins × Rd) :=
  if 26 < (numR 1 r).1 then none
  else some (insOf (numR 1 r).1 (argsR (opsOf (numR 1 r).1) (numR 1 r).2).1, (argsR (opsOf (numR 1 r).1) (numR 1 r).2).2)
def codeR : Nat → Rd → Option (List Ins × Rd)
  | 0, r => some ([], r)
  | n + 1, r => match insR r with
    | none => none
    | some (i, r') => match codeR n r' with
      | none => none
      | some (l, r'') => some (i :: l, r'')
/-- The first bytes, one by one. -/
def magicR : List Nat → Rd → Option Rd
  | [], r => some r
  | m :: ms, r => if (takeR 1 r).1 = [m] ∨ (takeR 1 r).1 = [] then magicR ms (takeR 1 r).2 else none
/-- All but the sum: the object, or what is wrong; what is left. -/
def objectR (r : Rd) : Except Int (Ob × Rd) :=
  match magicR [82, 83, 76, 86, 1] r with
  | none => .error 5
  | some r0 =>
    let a := numR 2 r0
    let f := numR 2 a.2
    let p := numR 2 f.2
    let c := numR 2 p.2
    if c.2.short = true then .error 3
    else if bigB a.1 f.1 p.1 c.1 then .error 2
    else
      let l1 := manyR nameR a.1 c.2
      let l2 := manyR funR f.1 l1.2
      let l3 := manyR predR p.1 l2.2
      match codeR c.1 l3.2 with
      | none => .error 8
      | some (l4, r4) => if r4.short = true then .error 3 else .ok (⟨l1.1, l2.1, l3.1, l4⟩, r4)
def emptyOb : Ob := ⟨[], [], [], []⟩
/-- What is left behind the last instruction. -/
def endErr (b : List Nat) (left : Nat) : Int :=
  if left < 4 then 3 else if 4 < left then 4 else if valL (b.drop (b.length - 4)) = crcOf 0 (b.take (b.length - 4)) then 0 else 6
def decodeOf (b : List Nat) : Ob × Int :=
  match objectR ⟨b, false⟩ with
  | .error e => (emptyOb, e)
  | .ok (o, r) => if checkOf o ≠ 0 then (emptyOb, checkOf o) else if endErr b r.rest.length ≠ 0 then (emptyOb, endErr b r.rest.length) else (o, 0)

def findFrom (name : ByteArray) (arity : Int) : Nat → List (ByteArray × Int × Int) → Int
  | _, [] => -1
  | k, p :: l => if p.1 = name ∧ p.2.1 = arity then (k : Int) else findFrom name arity (k + 1) l

end Go.Proofs.YtlmbiafloiompaaGreatDoor

namespace Go.Proofs.YtlmbiafloiompaaGreatDoor
open Go Go.RowKit
set_option linter.unusedVariables false

def digitB (c : UInt8) : Bool := decide (48 ≤ c.toNat) && decide (c.toNat ≤ 57)
theorem nameB_eq (c : UInt8) : nameB c = (lowerB c || digitB c) := rfl

theorem letter_is {b : Bool} (c : UInt8) (hb : lowerB c = b) (w : World) :
    Calls Tryz.prog 116 #[.int .u8 ((c.toNat : Nat) : Int)] w fun e w' => e = .returned (.bool b) ∧ w = w' := by
  have HB := Lib.hid hb
  clear hb
  by_cases h1 : (97 : Int) ≤ ((c.toNat : Nat) : Int)
  · by_cases h2 : ((c.toNat : Nat) : Int) ≤ 122
    · go_enter Tryz.func116, Tryz.ntmps116
      go_wp2_with fail
      go_ret
      refine ⟨?_, rfl⟩
      rw [← HB.out]
      show Ending.returned (.bool _) = _
      congr 2
      simp [lowerB]
      omega
    · go_enter Tryz.func116, Tryz.ntmps116
      go_wp2_with fail
      go_ret
      refine ⟨?_, rfl⟩
      rw [← HB.out]
      show Ending.returned (.bool _) = _
      congr 2
      simp [lowerB]
      omega
  · go_enter Tryz.func116, Tryz.ntmps116
    go_wp2_with fail
    go_ret
    refine ⟨?_, rfl⟩
    rw [← HB.out]
    show Ending.returned (.bool _) = _
    congr 2
    simp [lowerB]
    omega
theorem digit_is {b : Bool} (c : UInt8) (hb : digitB c = b) (w : World) :
    Calls Tryz.prog 117 #[.int .u8 ((c.toNat : Nat) : Int)] w fun e w' => e = .returned (.bool b) ∧ w = w' := by
  have HB := Lib.hid hb
  clear hb
  by_cases h1 : (48 : Int) ≤ ((c.toNat : Nat) : Int)
  · by_cases h2 : ((c.toNat : Nat) : Int) ≤ 57
    · go_enter Tryz.func117, Tryz.ntmps117
      go_wp2_with fail
      go_ret
      refine ⟨?_, rfl⟩
      rw [← HB.out]
      show Ending.returned (.bool _) = _
      congr 2
      simp [digitB]
      omega
    · go_enter Tryz.func117, Tryz.ntmps117
      go_wp2_with fail
      go_ret
      refine ⟨?_, rfl⟩
      rw [← HB.out]
      show Ending.returned (.bool _) = _
      congr 2
      simp [digitB]
      omega
  · go_enter Tryz.func117, Tryz.ntmps117
    go_wp2_with fail
    go_ret
    refine ⟨?_, rfl⟩
    rw [← HB.out]
    show Ending.returned (.bool _) = _
    congr 2
    simp [digitB]
    omega

theorem tName_any (s : ByteArray) (w : World) (hs : s.size ≤ maxLen) :
    Calls Tryz.prog 85 #[.string s] w fun e w' => e = .returned (.bool (nameOk s)) ∧ w = w' := by
  unfold maxLen at hs
  obtain ⟨zz, hzz⟩ : ∃ zz, nameOk s = zz := ⟨_, rfl⟩
  rw [hzz]
  have HV := Lib.hid hzz
  clear hzz
  by_cases c1 : s.size = 0
  · have HZ : Hid (zz = false) := by
      show _ = _
      rw [← HV.out]
      simp [nameOk, c1]
    have c1' : (s.size : Int) = 0 := by omega
    go_enter Tryz.func85, Tryz.ntmps85
    go_wp2_with fail
    go_ret
    exact ⟨by rw [HZ.out]; rfl, rfl⟩
  · have h1 : ((s.size : Int) == 0) = false := by simp only [beq_eq_false_iff_ne, ne_eq]; omega
    by_cases c2 : 32 < s.size
    · have HZ : Hid (zz = false) := by
        show _ = _
        rw [← HV.out]
        simp [nameOk]
        omega
      have h2 : 32 < (s.size : Int) := by omega
      go_enter Tryz.func85, Tryz.ntmps85
      go_wp2_with fail
      go_ret
      exact ⟨by rw [HZ.out]; rfl, rfl⟩
    · have h2 : ¬ 32 < (s.size : Int) := by omega
      have h0 : 0 < s.size := by omega
      have hd := head_of s h0
      have HD := Lib.hid hd
      clear hd c1 c2
      obtain ⟨b, hb⟩ : ∃ b, lowerB s[0] = b := ⟨_, rfl⟩
      have HL := Lib.hid hb
      clear hb
      cases b
      · have HZ : Hid (zz = false) := by
          show _ = _
          rw [← HV.out]
          simp [nameOk, HD.out, HL.out]
        go_enter Tryz.func85, Tryz.ntmps85
        go_wp2_with (go_at_call 116; refine (letter_is s[0] HL.out _).mono ?_; rintro e w' ⟨rfl, rfl⟩)
        go_ret
        exact ⟨by rw [HZ.out]; rfl, rfl⟩
      · have HZ : Hid (zz = s.data.toList.all nameB) := by
          show _ = _
          have e2 : decide (1 ≤ s.size) = true := by simp; omega
          have e3 : decide (s.size ≤ 32) = true := by simp; omega
          rw [← HV.out]
          simp only [nameOk, HD.out, HL.out, e2, e3, Option.any_some, Bool.true_and]
        go_enter Tryz.func85, Tryz.ntmps85
        go_wp2_with (go_at_call 116; refine (letter_is s[0] HL.out _).mono ?_; rintro e w' ⟨rfl, rfl⟩)
        go_loop [20] (fun i => ∃ j : Nat, j ≤ s.size ∧ i = .int .i64 j ∧ Hid ((s.data.toList.take j).all nameB = true)) (fun i => s.size - (intOf i).toNat)
        case atStart => exact ⟨0, Nat.zero_le _, rfl, by simp [Hid]⟩
        case round =>
          obtain ⟨j, hj, rfl, HA⟩ := hrel
          by_cases hlt : j < s.size
          · have HS := Lib.hid (take_snocB s j hlt)
            have HN := Lib.hid (fun hb => all_drop s j hlt hb)
            obtain ⟨b, hb⟩ : ∃ b, lowerB s[j] = b := ⟨_, rfl⟩
            have HL2 := Lib.hid hb
            clear hb
            cases b
            · obtain ⟨b, hb⟩ : ∃ b, digitB s[j] = b := ⟨_, rfl⟩
              have HL3 := Lib.hid hb
              clear hb
              cases b
              · have HZ2 : Hid (zz = false) := by
                  show _ = _
                  rw [HZ.out, HN.out (by rw [nameB_eq, HL2.out, HL3.out]; rfl)]
                go_wp2_with (first
                  | (go_at_call 116; refine (letter_is s[j] HL2.out _).mono ?_; rintro e w' ⟨rfl, rfl⟩)
                  | (go_at_call 117; refine (digit_is s[j] HL3.out _).mono ?_; rintro e w' ⟨rfl, rfl⟩))
                go_ret
                exact ⟨by rw [HZ2.out]; rfl, rfl⟩
              · have HA2 : Hid ((s.data.toList.take (j + 1)).all nameB = true) := by
                  show _ = _
                  rw [HS.out, List.all_append, HA.out]
                  simp [nameB_eq, HL3.out]
                go_wp2_with (first
                  | (go_at_call 116; refine (letter_is s[j] HL2.out _).mono ?_; rintro e w' ⟨rfl, rfl⟩)
                  | (go_at_call 117; refine (digit_is s[j] HL3.out _).mono ?_; rintro e w' ⟨rfl, rfl⟩))
                go_round
                case rel => exact ⟨j + 1, by omega, by go_num, HA2⟩
                case measure => simp [intOf]; omega
            · have HA2 : Hid ((s.data.toList.take (j + 1)).all nameB = true) := by
                show _ = _
                rw [HS.out, List.all_append, HA.out]
                simp [nameB_eq, HL2.out]
              go_wp2_with (go_at_call 116; refine (letter_is s[j] HL2.out _).mono ?_; rintro e w' ⟨rfl, rfl⟩)
              go_round
              case rel => exact ⟨j + 1, by omega, by go_num, HA2⟩
              case measure => simp [intOf]; omega
          · have hge : (s.size : Int) ≤ (j : Int) := by omega
            have HF : Hid (zz = true) := by
              have := HA.out
              rw [List.take_of_length_le (by simp; omega)] at this
              show _ = _
              rw [HZ.out, this]
            go_wp2_with fail
            go_ret
            exact ⟨by rw [HF.out]; rfl, rfl⟩
theorem tname_is {b : Bool} (s : ByteArray) (hb : nameOk s = b) (w : World) (hs : s.size ≤ maxLen) :
    Calls Tryz.prog 85 #[.string s] w fun e w' => e = .returned (.bool b) ∧ w = w' := by
  subst hb
  exact tName_any s w hs
end Go.Proofs.YtlmbiafloiompaaGreatDoor
