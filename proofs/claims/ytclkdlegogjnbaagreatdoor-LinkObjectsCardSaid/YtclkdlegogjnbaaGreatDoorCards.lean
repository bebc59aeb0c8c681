/-
  DERIVED. GIVEN WITH THE SEED: THE CARDS: each row of YtclkdlegogjnbaaGreatDoorRows.lean that lists a variable, with what it lists TIED to the program's text (the seventh form; the later family's looks); each row that meets fmt, with fmt's text TOLD by the authors' own Lean function (tested against real Go, not proved from fmt's source: count such statements apart). THE CARD IS WHAT COUNTS. Prove the row's statement (the work); the ties are given (YtclkdlegogjnbaaGreatDoorTie.lean); close each card by the builder's one call (the guide's Derived/Test/ToyasCard.lean, 'card_holds'). Laid BY PROGRAM, IN A SANDBOX (cutbox-door.mjs). By AI agents, Wed Nov 11 2026. No macro, syntax, notation, axiom, sorry.
-/
import Derived.Test.YtclkdlegogjnbaaGreatDoorRows
import GoSem.ClaimSeven
namespace Go.Proofs.YtclkdlegogjnbaaGreatDoor
namespace Rows

/-- THE TIED CARD OF 'resolventlaw10.LinkObjects'. -/
def linkObjectsCard : Claim7 := { stood := { row := linkObjectsRow, standIns := [], harness := (true, "d694df68b48c7303bb72ec6d44bdb65b8e92d94133fd1778da14683a1b5d4348"), looks := true }, kinds := [], alts := [], laidByText := true, laidKinds := [.data, .data, .data, .data, .sentinel, .sentinel, .data, .pinned], laidTests := true, laidLooks := .later }
def LinkObjectsCardSaid : Prop := Claim7.holds Tryz.pinned (.plain (OpenSpec.ofChange linkObjectsSpec)) linkObjectsCard

/-- THE TIED CARD OF 'resolventlaw10.LinkRenames'. -/
def linkRenamesCard : Claim7 := { stood := { row := linkRenamesRow, standIns := [], harness := (true, "d694df68b48c7303bb72ec6d44bdb65b8e92d94133fd1778da14683a1b5d4348"), looks := true }, kinds := [], alts := [], laidByText := true, laidKinds := [.data, .data, .data, .data, .sentinel, .sentinel, .data, .pinned], laidTests := true, laidLooks := .later }
def LinkRenamesCardSaid : Prop := Claim7.holds Tryz.pinned (.plain (OpenSpec.ofChange linkRenamesSpec)) linkRenamesCard

/-- THE TIED CARD OF 'resolventlaw10.LinkParts'. -/
def linkPartsCard : Claim7 := { stood := { row := linkPartsRow, standIns := [], harness := (true, "d694df68b48c7303bb72ec6d44bdb65b8e92d94133fd1778da14683a1b5d4348"), looks := true }, kinds := [], alts := [], laidByText := true, laidKinds := [.data, .data, .data, .data, .sentinel, .sentinel, .data, .pinned], laidTests := true, laidLooks := .later }
def LinkPartsCardSaid : Prop := Claim7.holds Tryz.pinned (.plain (OpenSpec.ofChange linkPartsSpec)) linkPartsCard

/-- THE SECOND FORM's CARD OF 'resolventlaw10.LinkObjects'. -/
def linkObjectsUptoCard : Claim7 := { stood := { row := linkObjectsUptoRow, standIns := [], harness := (true, "d694df68b48c7303bb72ec6d44bdb65b8e92d94133fd1778da14683a1b5d4348"), looks := true }, kinds := [], alts := [], laidByText := true, laidKinds := [.data, .data, .data, .data, .sentinel, .sentinel, .data, .pinned], laidTests := true, laidLooks := .later }
def LinkObjectsUptoCardSaid : Prop := Claim7.holds Tryz.pinned (.plain (OpenSpec.upto linkObjectsSpec)) linkObjectsUptoCard

/-- THE SECOND FORM's CARD OF 'resolventlaw10.LinkRenames'. -/
def linkRenamesUptoCard : Claim7 := { stood := { row := linkRenamesUptoRow, standIns := [], harness := (true, "d694df68b48c7303bb72ec6d44bdb65b8e92d94133fd1778da14683a1b5d4348"), looks := true }, kinds := [], alts := [], laidByText := true, laidKinds := [.data, .data, .data, .data, .sentinel, .sentinel, .data, .pinned], laidTests := true, laidLooks := .later }
def LinkRenamesUptoCardSaid : Prop := Claim7.holds Tryz.pinned (.plain (OpenSpec.upto linkRenamesSpec)) linkRenamesUptoCard

/-- THE SECOND FORM's CARD OF 'resolventlaw10.LinkParts'. -/
def linkPartsUptoCard : Claim7 := { stood := { row := linkPartsUptoRow, standIns := [], harness := (true, "d694df68b48c7303bb72ec6d44bdb65b8e92d94133fd1778da14683a1b5d4348"), looks := true }, kinds := [], alts := [], laidByText := true, laidKinds := [.data, .data, .data, .data, .sentinel, .sentinel, .data, .pinned], laidTests := true, laidLooks := .later }
def LinkPartsUptoCardSaid : Prop := Claim7.holds Tryz.pinned (.plain (OpenSpec.upto linkPartsSpec)) linkPartsUptoCard
end Rows
end Go.Proofs.YtclkdlegogjnbaaGreatDoor
