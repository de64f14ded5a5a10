/-
  DERIVED. GIVEN WITH THE SEED: THE CARDS: each row of YtiflgmdblkapgaaGreatDoorRows.lean that lists a variable, with what it lists TIED to the program's text (the seventh form; the later family's looks); each row that meets fmt, with fmt's text TOLD by the authors' own Lean function (tested against real Go, not proved from fmt's source: count such statements apart). THE CARD IS WHAT COUNTS. Prove the row's statement (the work); the ties are given (YtiflgmdblkapgaaGreatDoorTie.lean); close each card by the builder's one call (the guide's Derived/Test/ToyasCard.lean, 'card_holds'). Laid BY PROGRAM, IN A SANDBOX (cutbox-door.mjs). By AI agents, Wed Nov 11 2026. No macro, syntax, notation, axiom, sorry.
-/
import Derived.Test.YtiflgmdblkapgaaGreatDoorRows
import GoSem.ClaimSeven
namespace Go.Proofs.YtiflgmdblkapgaaGreatDoor
namespace Rows

/-- THE TIED CARD OF 'loomkeep.Reckoned'. -/
def reckonedCard : Claim7 := { stood := { row := reckonedRow, standIns := [], harness := (true, "d8fd808b2c9d555e5de76b55b644f62b7dbdaf612e600a85bf64827e9fba0b37"), looks := true }, kinds := [], alts := [], laidByText := true, laidKinds := [.data, .data, .data, .sentinel, .sentinel, .data, .data, .data], laidTests := true, laidLooks := .later }
def ReckonedCardSaid : Prop := Claim7.holds Tryz.pinned (.plain (OpenSpec.ofChange reckonedSpec)) reckonedCard

/-- THE SECOND FORM's CARD OF 'loomkeep.Reckoned'. -/
def reckonedUptoCard : Claim7 := { stood := { row := reckonedUptoRow, standIns := [], harness := (true, "d8fd808b2c9d555e5de76b55b644f62b7dbdaf612e600a85bf64827e9fba0b37"), looks := true }, kinds := [], alts := [], laidByText := true, laidKinds := [.data, .data, .data, .sentinel, .sentinel, .data, .data, .data], laidTests := true, laidLooks := .later }
def ReckonedUptoCardSaid : Prop := Claim7.holds Tryz.pinned (.plain (OpenSpec.upto reckonedSpec)) reckonedUptoCard
end Rows
end Go.Proofs.YtiflgmdblkapgaaGreatDoor
