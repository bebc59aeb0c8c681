/-
  DERIVED. GIVEN WITH THE SEED: THE CARDS: each row of YtlmbiafloiompaaGreatDoorRows.lean that lists a variable, with what it lists TIED to the program's text (the seventh form; the later family's looks); each row that meets fmt, with fmt's text TOLD by the authors' own Lean function (tested against real Go, not proved from fmt's source: count such statements apart). THE CARD IS WHAT COUNTS. Prove the row's statement (the work); the ties are given (YtlmbiafloiompaaGreatDoorTie.lean); close each card by the builder's one call (the guide's Derived/Test/ToyasCard.lean, 'card_holds'). Laid BY PROGRAM, IN A SANDBOX (cutbox-door.mjs). By AI agents, Wed Nov 11 2026. No macro, syntax, notation, axiom, sorry.
-/
import Derived.Test.YtlmbiafloiompaaGreatDoorRows
import GoSem.ClaimSeven
namespace Go.Proofs.YtlmbiafloiompaaGreatDoor
namespace Rows

/-- THE TIED CARD OF 'resolventlaw11.VerifyObjects'. -/
def verifyObjectsCard : Claim7 := { stood := { row := verifyObjectsRow, standIns := [], harness := (true, "9c7f07a74e9c0ed11be083f7f61a6a2e9a3b51026457154effcee8aa34788950"), looks := true }, kinds := [], alts := [], laidByText := true, laidKinds := [.data, .data, .data, .data, .sentinel, .sentinel, .data, .pinned], laidTests := true, laidLooks := .later }
def VerifyObjectsCardSaid : Prop := Claim7.holds Tryz.pinned (.plain (OpenSpec.ofChange verifyObjectsSpec)) verifyObjectsCard

/-- THE TIED CARD OF 'resolventlaw11.VerifyLines'. -/
def verifyLinesCard : Claim7 := { stood := { row := verifyLinesRow, standIns := [], harness := (true, "9c7f07a74e9c0ed11be083f7f61a6a2e9a3b51026457154effcee8aa34788950"), looks := true }, kinds := [], alts := [], laidByText := true, laidKinds := [.data, .data, .data, .data, .sentinel, .sentinel, .data, .pinned], laidTests := true, laidLooks := .later }
def VerifyLinesCardSaid : Prop := Claim7.holds Tryz.pinned (.plain (OpenSpec.ofChange verifyLinesSpec)) verifyLinesCard

/-- THE TIED CARD OF 'resolventlaw11.VerifyCuts'. -/
def verifyCutsCard : Claim7 := { stood := { row := verifyCutsRow, standIns := [], harness := (true, "9c7f07a74e9c0ed11be083f7f61a6a2e9a3b51026457154effcee8aa34788950"), looks := true }, kinds := [], alts := [], laidByText := true, laidKinds := [.data, .data, .data, .data, .sentinel, .sentinel, .data, .pinned], laidTests := true, laidLooks := .later }
def VerifyCutsCardSaid : Prop := Claim7.holds Tryz.pinned (.plain (OpenSpec.ofChange verifyCutsSpec)) verifyCutsCard

/-- THE SECOND FORM's CARD OF 'resolventlaw11.VerifyObjects'. -/
def verifyObjectsUptoCard : Claim7 := { stood := { row := verifyObjectsUptoRow, standIns := [], harness := (true, "9c7f07a74e9c0ed11be083f7f61a6a2e9a3b51026457154effcee8aa34788950"), looks := true }, kinds := [], alts := [], laidByText := true, laidKinds := [.data, .data, .data, .data, .sentinel, .sentinel, .data, .pinned], laidTests := true, laidLooks := .later }
def VerifyObjectsUptoCardSaid : Prop := Claim7.holds Tryz.pinned (.plain (OpenSpec.upto verifyObjectsSpec)) verifyObjectsUptoCard

/-- THE SECOND FORM's CARD OF 'resolventlaw11.VerifyLines'. -/
def verifyLinesUptoCard : Claim7 := { stood := { row := verifyLinesUptoRow, standIns := [], harness := (true, "9c7f07a74e9c0ed11be083f7f61a6a2e9a3b51026457154effcee8aa34788950"), looks := true }, kinds := [], alts := [], laidByText := true, laidKinds := [.data, .data, .data, .data, .sentinel, .sentinel, .data, .pinned], laidTests := true, laidLooks := .later }
def VerifyLinesUptoCardSaid : Prop := Claim7.holds Tryz.pinned (.plain (OpenSpec.upto verifyLinesSpec)) verifyLinesUptoCard

/-- THE SECOND FORM's CARD OF 'resolventlaw11.VerifyCuts'. -/
def verifyCutsUptoCard : Claim7 := { stood := { row := verifyCutsUptoRow, standIns := [], harness := (true, "9c7f07a74e9c0ed11be083f7f61a6a2e9a3b51026457154effcee8aa34788950"), looks := true }, kinds := [], alts := [], laidByText := true, laidKinds := [.data, .data, .data, .data, .sentinel, .sentinel, .data, .pinned], laidTests := true, laidLooks := .later }
def VerifyCutsUptoCardSaid : Prop := Claim7.holds Tryz.pinned (.plain (OpenSpec.upto verifyCutsSpec)) verifyCutsUptoCard
end Rows
end Go.Proofs.YtlmbiafloiompaaGreatDoor
