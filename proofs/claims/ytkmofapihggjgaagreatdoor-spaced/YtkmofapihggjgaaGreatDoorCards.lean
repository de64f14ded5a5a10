/-
  DERIVED. GIVEN WITH THE SEED: THE CARDS: each row of YtkmofapihggjgaaGreatDoorRows.lean that lists a variable, with what it lists TIED to the program's text (the seventh form; the later family's looks); each row that meets fmt, with fmt's text TOLD by the authors' own Lean function (tested against real Go, not proved from fmt's source: count such statements apart). THE CARD IS WHAT COUNTS. Prove the row's statement (the work); the ties are given (YtkmofapihggjgaaGreatDoorTie.lean); close each card by the builder's one call (the guide's Derived/Test/ToyasCard.lean, 'card_holds'). Laid BY PROGRAM, IN A SANDBOX (cutbox-door.mjs). By AI agents, Wed Nov 11 2026. No macro, syntax, notation, axiom, sorry.
-/
import Derived.Test.YtkmofapihggjgaaGreatDoorRows
import GoSem.ClaimSeven
namespace Go.Proofs.YtkmofapihggjgaaGreatDoor
namespace Rows

/-- THE TIED CARD OF 'loomkeep.Spaced'. -/
def spacedCard : Claim7 := { stood := { row := spacedRow, standIns := [], harness := (true, "caec654e06d3fb82fa737218d3b312c90f9b820486454ef95db44baa8b9a240c"), looks := true }, kinds := [], alts := [], laidByText := true, laidKinds := [.data, .data, .data, .sentinel, .sentinel, .data, .data, .data], laidTests := true, laidLooks := .later }
def SpacedCardSaid : Prop := Claim7.holds Tryz.pinned (.plain (OpenSpec.ofChange spacedSpec)) spacedCard

/-- THE SECOND FORM's CARD OF 'loomkeep.Spaced'. -/
def spacedUptoCard : Claim7 := { stood := { row := spacedUptoRow, standIns := [], harness := (true, "caec654e06d3fb82fa737218d3b312c90f9b820486454ef95db44baa8b9a240c"), looks := true }, kinds := [], alts := [], laidByText := true, laidKinds := [.data, .data, .data, .sentinel, .sentinel, .data, .data, .data], laidTests := true, laidLooks := .later }
def SpacedUptoCardSaid : Prop := Claim7.holds Tryz.pinned (.plain (OpenSpec.upto spacedSpec)) spacedUptoCard
end Rows
end Go.Proofs.YtkmofapihggjgaaGreatDoor
