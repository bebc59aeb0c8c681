/-
  NARROWER THAN 'FOR EVERY INPUT', by the rows' own cells (each row's printed sentence says how): ObjChecks: laid · ObjDecodes: laid · ObjBack: laid · ObjTurns: laid.
  DERIVED. THE GIVEN ROWS OF THIS SEAT. 4 by the template 'for every input the law returns true; each argument reads behind the call as it read before'; 0 by the template 'total and deterministic' (their statements: YtfknoecgcoapcaaDoorTotals.lean).
  GIVEN WITH THE SEED: the statements are not yours to turn. If you find one false, say at which input.
  Laid BY PROGRAM, IN A SANDBOX (cutbox-rows.mjs): the forced cells as the released guide's own fill.sh prints them over the translation 692757030e56cc52… (all of the seat's roots in one cut). By AI agents, Wed Nov 11 2026. No macro, syntax, notation, axiom, sorry.
-/
import Derived.Test.YtfknoecgcoapcaaDoorChecked
import GoSem.Claim
import GoSem.ClaimJoined
import GoSem.ClaimMapViews
import Derived.JoinedTies
import Derived.KernelRfl
namespace Go.Proofs.YtfknoecgcoapcaaDoor
/- THE CELL 'sum', in the pinned program and in every row, IS THE sha256 OF THE DUMP (.gsa) THAT YtfknoecgcoapcaaDoorProg.lean LOADS. Nothing in Lean hashes anything: it is a label: what it is worth is what the hold of that sum in a sandbox is worth. -/
noncomputable def Tryd.pinned : Pinned := { name := "ytfknoecgcoapcaadoor", sum := "692757030e56cc52670b7b1cb9e8472b8236036ef6faf5bee8fd30add76f9bf5", checked := Tryd.checked }
namespace Rows
def none {H : Type} : Left H := { results := [], args := [] }

/- WHAT THE LISTED PACKAGE-LEVEL VARIABLES READ AS WHEN THE CALL BEGINS. Each datum BY PROGRAM (the guide's laid-datum.mjs) off the statement by which the dump's own 'gosem.cut.vars' lays the variable. In a bare row this is a premise. The card (YtfknoecgcoapcaaDoorCards.lean) ties it to the program's text. -/
def laid_resolvent_code_names {H : Type} : DataW H := .agg [.lit (.string [102, 97, 105, 108]), .lit (.string [103, 101, 116, 118, 97, 114]), .lit (.string [103, 101, 116, 118, 97, 108]), .lit (.string [103, 101, 116, 99, 111, 110]), .lit (.string [103, 101, 116, 115, 116, 114]), .lit (.string [103, 101, 116, 108, 105, 115]), .lit (.string [117, 110, 105, 118, 97, 114]), .lit (.string [117, 110, 105, 118, 97, 108]), .lit (.string [117, 110, 105, 99, 111, 110]), .lit (.string [117, 110, 105, 118, 111, 105, 100]), .lit (.string [112, 117, 116, 118, 97, 114]), .lit (.string [112, 117, 116, 118, 97, 108]), .lit (.string [112, 117, 116, 99, 111, 110]), .lit (.string [112, 117, 116, 115, 116, 114]), .lit (.string [112, 117, 116, 108, 105, 115]), .lit (.string [97, 108, 108, 111, 99, 97, 116, 101]), .lit (.string [100, 101, 97, 108, 108, 111, 99, 97, 116, 101]), .lit (.string [99, 97, 108, 108]), .lit (.string [101, 120, 101, 99, 117, 116, 101]), .lit (.string [112, 114, 111, 99, 101, 101, 100]), .lit (.string [116, 114, 121]), .lit (.string [114, 101, 116, 114, 121]), .lit (.string [116, 114, 117, 115, 116]), .lit (.string [110, 101, 99, 107, 99, 117, 116]), .lit (.string [103, 101, 116, 108, 101, 118, 101, 108]), .lit (.string [99, 117, 116]), .lit (.string [115, 119, 105, 116, 99, 104])]

/-- 'resolventlaw08.ObjChecks': WHATEVER THE INPUT: true; the input reads as it did. -/
def objChecksSpec : ChangeSpec := { name := "objChecks", fn := fun _ => fun
  | [d1, d2, d3] => { results := [.lit (.bool true)], args := [d1, d2, d3] }
  | _ => none }
def objChecksRow : OpenClaim := { program := "ytfknoecgcoapcaadoor", sum := "692757030e56cc52670b7b1cb9e8472b8236036ef6faf5bee8fd30add76f9bf5", func := "resolvent/resolventlaw08.ObjChecks", spec := "objChecks", unfollowed := true, recurses := true, named := ["resolvent/code.names"], plainKeys := false, apart := false, laid := [("resolvent/code.names", laid_resolvent_code_names)] }
def ObjChecksSaid : Prop := objChecksRow.holds Tryd.pinned (OpenSpec.ofChange objChecksSpec)

/-- ITS FALSE NEIGHBOUR: 'it returns false'. Refute it at one input. -/
def objChecksWrong : ChangeSpec := { name := "objChecks", fn := fun _ => fun
  | [d1, d2, d3] => { results := [.lit (.bool false)], args := [d1, d2, d3] }
  | _ => none }
def ObjChecksWrongFalsely : Prop := objChecksRow.holds Tryd.pinned (OpenSpec.ofChange objChecksWrong)

/-- 'resolventlaw08.ObjDecodes': WHATEVER THE INPUT: true; the input reads as it did. -/
def objDecodesSpec : ChangeSpec := { name := "objDecodes", fn := fun _ => fun
  | [d] => { results := [.lit (.bool true)], args := [d] }
  | _ => none }
def objDecodesRow : OpenClaim := { program := "ytfknoecgcoapcaadoor", sum := "692757030e56cc52670b7b1cb9e8472b8236036ef6faf5bee8fd30add76f9bf5", func := "resolvent/resolventlaw08.ObjDecodes", spec := "objDecodes", named := ["resolvent/code.names"], plainKeys := false, apart := false, laid := [("resolvent/code.names", laid_resolvent_code_names)] }
def ObjDecodesSaid : Prop := objDecodesRow.holds Tryd.pinned (OpenSpec.ofChange objDecodesSpec)

/-- ITS FALSE NEIGHBOUR: 'it returns false'. Refute it at one input. -/
def objDecodesWrong : ChangeSpec := { name := "objDecodes", fn := fun _ => fun
  | [d] => { results := [.lit (.bool false)], args := [d] }
  | _ => none }
def ObjDecodesWrongFalsely : Prop := objDecodesRow.holds Tryd.pinned (OpenSpec.ofChange objDecodesWrong)

/-- 'resolventlaw08.ObjBack': WHATEVER THE INPUT: true; the input reads as it did. -/
def objBackSpec : ChangeSpec := { name := "objBack", fn := fun _ => fun
  | [d1, d2] => { results := [.lit (.bool true)], args := [d1, d2] }
  | _ => none }
def objBackRow : OpenClaim := { program := "ytfknoecgcoapcaadoor", sum := "692757030e56cc52670b7b1cb9e8472b8236036ef6faf5bee8fd30add76f9bf5", func := "resolvent/resolventlaw08.ObjBack", spec := "objBack", recurses := true, named := ["resolvent/code.names"], plainKeys := false, apart := false, laid := [("resolvent/code.names", laid_resolvent_code_names)] }
def ObjBackSaid : Prop := objBackRow.holds Tryd.pinned (OpenSpec.ofChange objBackSpec)

/-- ITS FALSE NEIGHBOUR: 'it returns false'. Refute it at one input. -/
def objBackWrong : ChangeSpec := { name := "objBack", fn := fun _ => fun
  | [d1, d2] => { results := [.lit (.bool false)], args := [d1, d2] }
  | _ => none }
def ObjBackWrongFalsely : Prop := objBackRow.holds Tryd.pinned (OpenSpec.ofChange objBackWrong)

/-- 'resolventlaw08.ObjTurns': WHATEVER THE INPUT: true; the input reads as it did. -/
def objTurnsSpec : ChangeSpec := { name := "objTurns", fn := fun _ => fun
  | [d1, d2, d3] => { results := [.lit (.bool true)], args := [d1, d2, d3] }
  | _ => none }
def objTurnsRow : OpenClaim := { program := "ytfknoecgcoapcaadoor", sum := "692757030e56cc52670b7b1cb9e8472b8236036ef6faf5bee8fd30add76f9bf5", func := "resolvent/resolventlaw08.ObjTurns", spec := "objTurns", recurses := true, named := ["resolvent/code.names"], plainKeys := false, apart := false, laid := [("resolvent/code.names", laid_resolvent_code_names)] }
def ObjTurnsSaid : Prop := objTurnsRow.holds Tryd.pinned (OpenSpec.ofChange objTurnsSpec)

/-- ITS FALSE NEIGHBOUR: 'it returns false'. Refute it at one input. -/
def objTurnsWrong : ChangeSpec := { name := "objTurns", fn := fun _ => fun
  | [d1, d2, d3] => { results := [.lit (.bool false)], args := [d1, d2, d3] }
  | _ => none }
def ObjTurnsWrongFalsely : Prop := objTurnsRow.holds Tryd.pinned (OpenSpec.ofChange objTurnsWrong)

/- THE SECOND FORM. 'bulk': how many values and letters a reading holds, each counted each time it is reached (what is shared counts as often as it is met; a slice's spare places count too). A statement '..UptoSaid' is the law's where the arguments, and the package variables that the reading takes, are together of bulk at most 1048576: NARROWER than '..Said'. Prove '..Said' where nothing that the law and all that it calls make is longer than what came in: it says more and counts as full. Else prove '..UptoSaid'. A law counts once. -/
mutual
def uptoBulk {H : Type} : DataW H → Nat
  | .lit (.string bytes) => bytes.length + 1
  | .lit _ => 1
  | .nil => 1
  | .ptr d => uptoBulk d + 1
  | .slice elems spare => uptoBulkAll elems + uptoBulkAll spare + 1
  | .agg parts => uptoBulkAll parts + 1
  | .iface _ d => uptoBulk d + 1
  | .map entries => uptoBulkEntries entries + 1
  | .held _ => 1
def uptoBulkAll {H : Type} : List (DataW H) → Nat
  | [] => 0
  | d :: r => uptoBulk d + uptoBulkAll r
def uptoBulkEntries {H : Type} : List (Lit × DataW H) → Nat
  | [] => 0
  | x :: r => uptoBulkEntry x + uptoBulkEntries r
def uptoBulkEntry {H : Type} : Lit × DataW H → Nat
  | (.string bytes, d) => bytes.length + uptoBulk d + 1
  | (_, d) => uptoBulk d + 1
 end
def uptoSmall : (H : Type) → List (DataW H) → Bool := fun _ ds => decide (uptoBulkAll ds ≤ 1048576)
def OpenSpec.upto (s : _root_.Go.ChangeSpec) : _root_.Go.OpenSpec := { _root_.Go.OpenSpec.ofChange s with cond := some uptoSmall }

/-- 'resolventlaw08.ObjChecks', WHERE WHAT IT READS IS OF BULK AT MOST 1048576: true; the input reads as it did. -/
def objChecksUptoRow : OpenClaim := { program := "ytfknoecgcoapcaadoor", sum := "692757030e56cc52670b7b1cb9e8472b8236036ef6faf5bee8fd30add76f9bf5", func := "resolvent/resolventlaw08.ObjChecks", spec := "objChecks", unfollowed := true, recurses := true, named := ["resolvent/code.names"], plainKeys := false, apart := false, laid := [("resolvent/code.names", laid_resolvent_code_names)], narrowed := true }
def ObjChecksUptoSaid : Prop := objChecksUptoRow.holds Tryd.pinned (OpenSpec.upto objChecksSpec)

/-- 'resolventlaw08.ObjDecodes', WHERE WHAT IT READS IS OF BULK AT MOST 1048576: true; the input reads as it did. -/
def objDecodesUptoRow : OpenClaim := { program := "ytfknoecgcoapcaadoor", sum := "692757030e56cc52670b7b1cb9e8472b8236036ef6faf5bee8fd30add76f9bf5", func := "resolvent/resolventlaw08.ObjDecodes", spec := "objDecodes", named := ["resolvent/code.names"], plainKeys := false, apart := false, laid := [("resolvent/code.names", laid_resolvent_code_names)], narrowed := true }
def ObjDecodesUptoSaid : Prop := objDecodesUptoRow.holds Tryd.pinned (OpenSpec.upto objDecodesSpec)

/-- 'resolventlaw08.ObjBack', WHERE WHAT IT READS IS OF BULK AT MOST 1048576: true; the input reads as it did. -/
def objBackUptoRow : OpenClaim := { program := "ytfknoecgcoapcaadoor", sum := "692757030e56cc52670b7b1cb9e8472b8236036ef6faf5bee8fd30add76f9bf5", func := "resolvent/resolventlaw08.ObjBack", spec := "objBack", recurses := true, named := ["resolvent/code.names"], plainKeys := false, apart := false, laid := [("resolvent/code.names", laid_resolvent_code_names)], narrowed := true }
def ObjBackUptoSaid : Prop := objBackUptoRow.holds Tryd.pinned (OpenSpec.upto objBackSpec)

/-- 'resolventlaw08.ObjTurns', WHERE WHAT IT READS IS OF BULK AT MOST 1048576: true; the input reads as it did. -/
def objTurnsUptoRow : OpenClaim := { program := "ytfknoecgcoapcaadoor", sum := "692757030e56cc52670b7b1cb9e8472b8236036ef6faf5bee8fd30add76f9bf5", func := "resolvent/resolventlaw08.ObjTurns", spec := "objTurns", recurses := true, named := ["resolvent/code.names"], plainKeys := false, apart := false, laid := [("resolvent/code.names", laid_resolvent_code_names)], narrowed := true }
def ObjTurnsUptoSaid : Prop := objTurnsUptoRow.holds Tryd.pinned (OpenSpec.upto objTurnsSpec)

end Rows
end Go.Proofs.YtfknoecgcoapcaaDoor
