/-
  The plain words of objects: what may be wrong with one, its bytes, and an object read out of bytes. No condition.
-/
import Derived.Test.YtfknoecgcoapcaaDoorCodeM
import Derived.Test.YtfknoecgcoapcaaDoorCrcM
import Derived.Test.YtfknoecgcoapcaaDoorOName
namespace Go.Proofs.YtfknoecgcoapcaaDoor
open Go

/-- An instruction: its Op, its four operands. -/
abbrev Ins := Int × Int × Int × Int × Int
def argOf (i : Ins) : List Int := [i.2.1, i.2.2.1, i.2.2.2.1, i.2.2.2.2]

/-- An object: names, names with arities, predicates, instructions. -/
structure Ob where
  atoms : List ByteArray
  funs : List (ByteArray × Int)
  preds : List (ByteArray × Int × Int)
  code : List Ins
deriving DecidableEq

def bigB (a f p c : Nat) : Bool := decide (256 < a ∨ 256 < f ∨ 64 < p ∨ 1024 < c)
def funOk (least : Int) (f : ByteArray × Int) : Bool := nameOk f.1 && decide (least ≤ f.2) && decide (f.2 ≤ 8)
def called (p : ByteArray × Int × Int) : ByteArray × Int := (p.1, p.2.1)
def namesOk (o : Ob) : Bool := o.atoms.all nameOk && o.funs.all (funOk 1) && (o.preds.map called).all (funOk 0)
/-- Is one there twice? -/
def twiceB {α : Type} [DecidableEq α] (l : List α) : Bool := !decide l.Nodup
def dupB (o : Ob) : Bool := twiceB o.atoms || twiceB o.funs || twiceB (o.preds.map called)
/-- May the Entries be? -/
def entryOk (n : Nat) (e : Int) : Bool := decide (e = 65535 ∨ (0 ≤ e ∧ e < n))
def entsOk (n : Nat) (es : List Int) : Bool := es.all (entryOk n) && decide ((es.filter (fun e => decide (e ≠ 65535))).Nodup)
/-- Is there what an operand names? -/
def thereB (a f p c : Nat) (kind n : Int) : Bool :=
  if kind = 3 then decide (0 ≤ n ∧ n < a) else if kind = 4 then decide (0 ≤ n ∧ n < f) else if kind = 7 then decide (0 ≤ n ∧ n < p)
  else if kind = 8 then decide (n = 65535 ∨ (0 ≤ n ∧ n < c)) else true
def insErr (a f p c : Nat) (i : Ins) : Int :=
  if ¬ (0 ≤ i.1 ∧ i.1 ≤ 26) then 8
  else if rightB i.1 (argOf i) = false then 9
  else if (List.range (opsOf i.1).length).all (fun k => thereB a f p c ((opsOf i.1).getD k 0) ((argOf i).getD k 0)) then 0 else 9
def codeErr (a f p c : Nat) : List Ins → Int
  | [] => 0
  | i :: l => if insErr a f p c i = 0 then codeErr a f p c l else insErr a f p c i
def checkOf (o : Ob) : Int :=
  if bigB o.atoms.length o.funs.length o.preds.length o.code.length then 2
  else if namesOk o = false then 7
  else if dupB o then 11
  else if entsOk o.code.length (o.preds.map (·.2.2)) = false then 7
  else codeErr o.atoms.length o.funs.length o.preds.length o.code.length o.code

/-- A number in so many bytes, its highest byte first. -/
def numL : Nat → Nat → List Nat
  | 0, _ => []
  | k + 1, n => n / 256 ^ k % 256 :: numL k n
def strL (s : ByteArray) : List Nat := s.data.toList.map UInt8.toNat
def nameL (s : ByteArray) : List Nat := numL 1 s.size ++ strL s
def sizeK (kind : Int) : Nat := if kind = 8 then 2 else 1
def argsL : List Int → List Int → List Nat
  | [], _ => []
  | k :: ks, l => numL (sizeK k) (l.headD 0).toNat ++ argsL ks l.tail
def insL (i : Ins) : List Nat := numL 1 i.1.toNat ++ argsL (opsOf i.1) (argOf i)
def funL (f : ByteArray × Int) : List Nat := nameL f.1 ++ numL 1 f.2.toNat
def predL (p : ByteArray × Int × Int) : List Nat := nameL p.1 ++ numL 1 p.2.1.toNat ++ numL 2 p.2.2.toNat
def headL (o : Ob) : List Nat := [82, 83, 76, 86, 1] ++ numL 2 o.atoms.length ++ numL 2 o.funs.length ++ numL 2 o.preds.length ++ numL 2 o.code.length
def bodyL (o : Ob) : List Nat := headL o ++ o.atoms.flatMap nameL ++ o.funs.flatMap funL ++ o.preds.flatMap predL ++ o.code.flatMap insL
def bytesL (o : Ob) : List Nat := bodyL o ++ numL 4 (crcOf 0 (bodyL o))

/-- What is left of the bytes; whether some lacked. -/
structure Rd where
  rest : List Nat
  short : Bool
deriving DecidableEq

def takeR (n : Nat) (r : Rd) : List Nat × Rd := if r.short = true ∨ r.rest.length < n then ([], ⟨r.rest, true⟩) else (r.rest.take n, ⟨r.rest.drop n, false⟩)
def valL (l : List Nat) : Nat := l.foldl (fun n c => n * 256 + c) 0
def numR (n : Nat) (r : Rd) : Nat × Rd := (valL (takeR n r).1, (takeR n r).2)
def strOf (l : List Nat) : ByteArray := ⟨(l.map UInt8.ofNat).toArray⟩
def nameR (r : Rd) : ByteArray × Rd := (strOf (takeR (numR 1 r).1 (numR 1 r).2).1, (takeR (numR 1 r).1 (numR 1 r).2).2)
def funR (r : Rd) : (ByteArray × Int) × Rd := (((nameR r).1, ((numR 1 (nameR r).2).1 : Int)), (numR 1 (nameR r).2).2)
def predR (r : Rd) : (ByteArray × Int × Int) × Rd :=
  (((nameR r).1, ((numR 1 (nameR r).2).1 : Int), ((numR 2 (numR 1 (nameR r).2).2).1 : Int)), (numR 2 (numR 1 (nameR r).2).2).2)
def manyR {α : Type} (f : Rd → α × Rd) : Nat → Rd → List α × Rd
  | 0, r => ([], r)
  | n + 1, r => ((f r).1 :: (manyR f n (f r).2).1, (manyR f n (f r).2).2)
def argsR : List Int → Rd → List Int × Rd
  | [], r => ([], r)
  | k :: ks, r => (((numR (sizeK k) r).1 : Int) :: (argsR ks (numR (sizeK k) r).2).1, (argsR ks (numR (sizeK k) r).2).2)
def insOf (op : Int) (l : List Int) : Ins := (op, l.getD 0 0, l.getD 1 0, l.getD 2 0, l.getD 3 0)
def insR (r : Rd) : Option (Ins × Rd) :=
  if 26 < (numR 1 r).1 then none
  else some (insOf (numR 1 r).1 (argsR (opsOf (numR 1 r).1) (numR 1 r).2).1, (argsR (opsOf (numR 1 r).1) (numR 1 r).2).2)
def codeR : Nat → Rd → Option (List Ins × Rd)
  | 0, r => some ([], r)
  | n + 1, r => match insR r with
    | none => none
    | some (i, r') => match codeR n r' with
      | none => none
      | some (l, r'') => some (i :: l, r'')
/-- The first bytes, one by one. -/
def magicR : List Nat → Rd → Option Rd
  | [], r => some r
  | m :: ms, r => if (takeR 1 r).1 = [m] ∨ (takeR 1 r).1 = [] then magicR ms (takeR 1 r).2 else none
/-- All but the sum: the object, or what is wrong; what is left. -/
def objectR (r : Rd) : Except Int (Ob × Rd) :=
  match magicR [82, 83, 76, 86, 1] r with
  | none => .error 5
  | some r0 =>
    let a := numR 2 r0
    let f := numR 2 a.2
    let p := numR 2 f.2
    let c := numR 2 p.2
    if c.2.short = true then .error 3
    else if bigB a.1 f.1 p.1 c.1 then .error 2
    else
      let l1 := manyR nameR a.1 c.2
      let l2 := manyR funR f.1 l1.2
      let l3 := manyR predR p.1 l2.2
      match codeR c.1 l3.2 with
      | none => .error 8
      | some (l4, r4) => if r4.short = true then .error 3 else .ok (⟨l1.1, l2.1, l3.1, l4⟩, r4)
def emptyOb : Ob := ⟨[], [], [], []⟩
/-- What is left behind the last instruction. -/
def endErr (b : List Nat) (left : Nat) : Int :=
  if left < 4 then 3 else if 4 < left then 4 else if valL (b.drop (b.length - 4)) = crcOf 0 (b.take (b.length - 4)) then 0 else 6
def decodeOf (b : List Nat) : Ob × Int :=
  match objectR ⟨b, false⟩ with
  | .error e => (emptyOb, e)
  | .ok (o, r) => if checkOf o ≠ 0 then (emptyOb, checkOf o) else if endErr b r.rest.length ≠ 0 then (emptyOb, endErr b r.rest.length) else (o, 0)

def findFrom (name : ByteArray) (arity : Int) : Nat → List (ByteArray × Int × Int) → Int
  | _, [] => -1
  | k, p :: l => if p.1 = name ∧ p.2.1 = arity then (k : Int) else findFrom name arity (k + 1) l

end Go.Proofs.YtfknoecgcoapcaaDoor
