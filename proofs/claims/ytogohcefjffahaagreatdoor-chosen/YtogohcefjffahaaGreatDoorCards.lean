/-
  DERIVED. GIVEN WITH THE SEED: THE CARDS: each row of YtogohcefjffahaaGreatDoorRows.lean that lists a variable, with what it lists TIED to the program's text (the seventh form; the later family's looks); each row that meets fmt, with fmt's text TOLD by the authors' own Lean function (tested against real Go, not proved from fmt's source: count such statements apart). THE CARD IS WHAT COUNTS. Prove the row's statement (the work); the ties are given (YtogohcefjffahaaGreatDoorTie.lean); close each card by the builder's one call (the guide's Derived/Test/ToyasCard.lean, 'card_holds'). Laid BY PROGRAM, IN A SANDBOX (cutbox-door.mjs). By AI agents, Wed Nov 11 2026. No macro, syntax, notation, axiom, sorry.
-/
import Derived.Test.YtogohcefjffahaaGreatDoorRows
import GoSem.ClaimSeven
namespace Go.Proofs.YtogohcefjffahaaGreatDoor
namespace Rows

/-- THE TIED CARD OF 'loomkeep.Chosen'. -/
def chosenCard : Claim7 := { stood := { row := chosenRow, standIns := [], harness := (true, "aecb281b65d24c224ae01b4167aa076dc2807e2b3784a2bd9eb29be139ac8314"), looks := true }, kinds := [], alts := [], laidByText := true, laidKinds := [.data, .data, .data, .sentinel, .sentinel, .data, .data, .data], laidTests := true, laidLooks := .later }
def ChosenCardSaid : Prop := Claim7.holds Tryz.pinned (.plain (OpenSpec.ofChange chosenSpec)) chosenCard

/-- THE SECOND FORM's CARD OF 'loomkeep.Chosen'. -/
def chosenUptoCard : Claim7 := { stood := { row := chosenUptoRow, standIns := [], harness := (true, "aecb281b65d24c224ae01b4167aa076dc2807e2b3784a2bd9eb29be139ac8314"), looks := true }, kinds := [], alts := [], laidByText := true, laidKinds := [.data, .data, .data, .sentinel, .sentinel, .data, .data, .data], laidTests := true, laidLooks := .later }
def ChosenUptoCardSaid : Prop := Claim7.holds Tryz.pinned (.plain (OpenSpec.upto chosenSpec)) chosenUptoCard
end Rows
end Go.Proofs.YtogohcefjffahaaGreatDoor
