/-
  The plain words of instructions: names, operands, which numbers may be, texts. No condition.
-/
import Derived.Lib.Hide
import Derived.WalkKit
namespace Go.Proofs.YtfknoecgcoapcaaDoor
open Go

/-- What an Op's operands are. -/
def opsOf (op : Int) : List Int :=
  if op = 1 ∨ op = 2 ∨ op = 10 ∨ op = 11 then [1, 2]
  else if op = 3 ∨ op = 12 then [3, 2]
  else if op = 4 ∨ op = 13 then [4, 2]
  else if op = 5 ∨ op = 14 then [2]
  else if op = 6 ∨ op = 7 then [1]
  else if op = 8 then [3]
  else if op = 9 then [5]
  else if op = 15 then [6]
  else if op = 17 ∨ op = 18 then [7]
  else if op = 20 ∨ op = 21 then [8]
  else if op = 24 ∨ op = 25 then [9]
  else if op = 26 then [8, 8, 8, 8]
  else []

/-- From where to where an operand's numbers go. -/
def lowOf (kind : Int) : Int := if kind = 5 then 1 else 0
def highOf (kind : Int) : Int :=
  if kind = 1 then 31 else if kind = 2 then 15 else if kind = 3 then 255 else if kind = 4 then 255 else if kind = 5 then 8
  else if kind = 6 then 16 else if kind = 7 then 63 else if kind = 8 then 1023 else if kind = 9 then 15 else 0

/-- May a number stand there? -/
def mayB (op kind n : Int) : Bool := decide ((op = 26 ∧ n = 65535) ∨ (lowOf kind ≤ n ∧ n ≤ highOf kind))

/-- May it be an instruction? -/
def rightB (op : Int) (a : List Int) : Bool :=
  decide (0 ≤ op ∧ op ≤ 26) && (List.range 4).all fun k => mayB op ((opsOf op).getD k 0) (a.getD k 0)

/-- The names. -/
def nameList : List (List UInt8) := [
  [102, 97, 105, 108], [103, 101, 116, 118, 97, 114], [103, 101, 116, 118, 97, 108], [103, 101, 116, 99, 111, 110], [103, 101, 116, 115, 116, 114], [103, 101, 116, 108, 105, 115],
  [117, 110, 105, 118, 97, 114], [117, 110, 105, 118, 97, 108], [117, 110, 105, 99, 111, 110], [117, 110, 105, 118, 111, 105, 100], [112, 117, 116, 118, 97, 114], [112, 117, 116, 118, 97, 108],
  [112, 117, 116, 99, 111, 110], [112, 117, 116, 115, 116, 114], [112, 117, 116, 108, 105, 115], [97, 108, 108, 111, 99, 97, 116, 101], [100, 101, 97, 108, 108, 111, 99, 97, 116, 101],
  [99, 97, 108, 108], [101, 120, 101, 99, 117, 116, 101], [112, 114, 111, 99, 101, 101, 100], [116, 114, 121], [114, 101, 116, 114, 121], [116, 114, 117, 115, 116], [110, 101, 99, 107, 99, 117, 116],
  [103, 101, 116, 108, 101, 118, 101, 108], [99, 117, 116], [115, 119, 105, 116, 99, 104]]

def nameAt (k : Nat) : ByteArray := ⟨(nameList.getD k []).toArray⟩
def nameOf (op : Int) : ByteArray := if 0 ≤ op ∧ op ≤ 26 then nameAt op.toNat else ⟨#[]⟩

theorem span_list : ∀ op ∈ ([0, 1, 2, 3, 4, 5, 6, 7, 8, 9, 10, 11, 12, 13, 14, 15, 16, 17, 18, 19, 20, 21, 22, 23, 24, 25, 26] : List Int), ∀ k ∈ opsOf op, 1 ≤ k ∧ k ≤ 9 := by decide +kernel

end Go.Proofs.YtfknoecgcoapcaaDoor
