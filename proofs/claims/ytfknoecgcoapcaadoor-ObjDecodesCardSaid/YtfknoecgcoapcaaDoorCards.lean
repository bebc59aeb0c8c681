/-
  DERIVED. GIVEN WITH THE SEED: THE CARDS: each row of YtfknoecgcoapcaaDoorRows.lean that lists a variable, with what it lists TIED to the program's text (the seventh form; the later family's looks); each row that meets fmt, with fmt's text TOLD by the authors' own Lean function (tested against real Go, not proved from fmt's source: count such statements apart). THE CARD IS WHAT COUNTS. Prove the row's statement (the work); the ties are given (YtfknoecgcoapcaaDoorTie.lean); close each card by the builder's one call (the guide's Derived/Test/ToyasCard.lean, 'card_holds'). Laid BY PROGRAM, IN A SANDBOX (cutbox-door.mjs). By AI agents, Wed Nov 11 2026. No macro, syntax, notation, axiom, sorry.
-/
import Derived.Test.YtfknoecgcoapcaaDoorRows
import GoSem.ClaimSeven
namespace Go.Proofs.YtfknoecgcoapcaaDoor
namespace Rows

/-- THE TIED CARD OF 'resolventlaw08.ObjChecks'. -/
def objChecksCard : Claim7 := { stood := { row := objChecksRow, standIns := [], harness := (true, "3c247a14cd1567d78004bd2e1f87412e8d599c9770af294a6f961571b29b27f7"), looks := false }, kinds := [], alts := [], laidByText := true, laidKinds := [.data], laidTests := true, laidLooks := .later }
def ObjChecksCardSaid : Prop := Claim7.holds Tryd.pinned (.plain (OpenSpec.ofChange objChecksSpec)) objChecksCard

/-- THE TIED CARD OF 'resolventlaw08.ObjDecodes'. -/
def objDecodesCard : Claim7 := { stood := { row := objDecodesRow, standIns := [], harness := (true, "3c247a14cd1567d78004bd2e1f87412e8d599c9770af294a6f961571b29b27f7"), looks := false }, kinds := [], alts := [], laidByText := true, laidKinds := [.data], laidTests := true, laidLooks := .later }
def ObjDecodesCardSaid : Prop := Claim7.holds Tryd.pinned (.plain (OpenSpec.ofChange objDecodesSpec)) objDecodesCard

/-- THE TIED CARD OF 'resolventlaw08.ObjBack'. -/
def objBackCard : Claim7 := { stood := { row := objBackRow, standIns := [], harness := (true, "3c247a14cd1567d78004bd2e1f87412e8d599c9770af294a6f961571b29b27f7"), looks := false }, kinds := [], alts := [], laidByText := true, laidKinds := [.data], laidTests := true, laidLooks := .later }
def ObjBackCardSaid : Prop := Claim7.holds Tryd.pinned (.plain (OpenSpec.ofChange objBackSpec)) objBackCard

/-- THE TIED CARD OF 'resolventlaw08.ObjTurns'. -/
def objTurnsCard : Claim7 := { stood := { row := objTurnsRow, standIns := [], harness := (true, "3c247a14cd1567d78004bd2e1f87412e8d599c9770af294a6f961571b29b27f7"), looks := false }, kinds := [], alts := [], laidByText := true, laidKinds := [.data], laidTests := true, laidLooks := .later }
def ObjTurnsCardSaid : Prop := Claim7.holds Tryd.pinned (.plain (OpenSpec.ofChange objTurnsSpec)) objTurnsCard

/-- THE SECOND FORM's CARD OF 'resolventlaw08.ObjChecks'. -/
def objChecksUptoCard : Claim7 := { stood := { row := objChecksUptoRow, standIns := [], harness := (true, "3c247a14cd1567d78004bd2e1f87412e8d599c9770af294a6f961571b29b27f7"), looks := false }, kinds := [], alts := [], laidByText := true, laidKinds := [.data], laidTests := true, laidLooks := .later }
def ObjChecksUptoCardSaid : Prop := Claim7.holds Tryd.pinned (.plain (OpenSpec.upto objChecksSpec)) objChecksUptoCard

/-- THE SECOND FORM's CARD OF 'resolventlaw08.ObjDecodes'. -/
def objDecodesUptoCard : Claim7 := { stood := { row := objDecodesUptoRow, standIns := [], harness := (true, "3c247a14cd1567d78004bd2e1f87412e8d599c9770af294a6f961571b29b27f7"), looks := false }, kinds := [], alts := [], laidByText := true, laidKinds := [.data], laidTests := true, laidLooks := .later }
def ObjDecodesUptoCardSaid : Prop := Claim7.holds Tryd.pinned (.plain (OpenSpec.upto objDecodesSpec)) objDecodesUptoCard

/-- THE SECOND FORM's CARD OF 'resolventlaw08.ObjBack'. -/
def objBackUptoCard : Claim7 := { stood := { row := objBackUptoRow, standIns := [], harness := (true, "3c247a14cd1567d78004bd2e1f87412e8d599c9770af294a6f961571b29b27f7"), looks := false }, kinds := [], alts := [], laidByText := true, laidKinds := [.data], laidTests := true, laidLooks := .later }
def ObjBackUptoCardSaid : Prop := Claim7.holds Tryd.pinned (.plain (OpenSpec.upto objBackSpec)) objBackUptoCard

/-- THE SECOND FORM's CARD OF 'resolventlaw08.ObjTurns'. -/
def objTurnsUptoCard : Claim7 := { stood := { row := objTurnsUptoRow, standIns := [], harness := (true, "3c247a14cd1567d78004bd2e1f87412e8d599c9770af294a6f961571b29b27f7"), looks := false }, kinds := [], alts := [], laidByText := true, laidKinds := [.data], laidTests := true, laidLooks := .later }
def ObjTurnsUptoCardSaid : Prop := Claim7.holds Tryd.pinned (.plain (OpenSpec.upto objTurnsSpec)) objTurnsUptoCard
end Rows
end Go.Proofs.YtfknoecgcoapcaaDoor
