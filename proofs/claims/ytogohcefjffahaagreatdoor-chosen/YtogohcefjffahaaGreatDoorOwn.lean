/-
Chosen holds: for any two numbers, loomkeep.Chosen returns true and leaves its arguments, and all memory that lay there before, as they were. No condition beyond the card's own: the listed variables hold what the program's text gives them.
-/
import Derived.Test.YtogohcefjffahaaGreatDoorO2
import Derived.Test.YtogohcefjffahaaGreatDoorCards
import Derived.Test.YtogohcefjffahaaGreatDoorTie
import Derived.SevenTiedAt
namespace Go.Proofs.YtogohcefjffahaaGreatDoor
open Go.Deep Go.Lib Go.Proofs Go.Proofs.YtogohcefjffahaaGreatDoor
open Go.ChangeShapes Go.WideShapes Go.ChangeAt Go.RowKit

theorem card_wf : Rows.chosenRow.wfByText (OpenSpec.ofChange Rows.chosenSpec) = true := by kernel_rfl
theorem card_main : Tryz.pinned.checked.prog.mainIs = some (true, "aecb281b65d24c224ae01b4167aa076dc2807e2b3784a2bd9eb29be139ac8314".toList) := by kernel_rfl
theorem card_looks : true = Tryz.pinned.checked.prog.looks [] := by kernel_rfl
theorem card_named : Tryz.prog.funcNamed "loom/loomkeep.Chosen" = some 3 := by kernel_rfl
theorem card_goes : false = Rows.chosenRow.goesBy Tryz.pinned.checked.prog := by kernel_rfl
theorem card_stand : ([2, 3].all fun u => !Tryz.prog.wantsStandIn u) = true := by kernel_rfl

theorem chosen_card : Rows.ChosenCardSaid :=
  Claim7.holds_tied_plain_at .later [] [.data, .data, .data, .sentinel, .sentinel, .data, .data, .data] true (true, "aecb281b65d24c224ae01b4167aa076dc2807e2b3784a2bd9eb29be139ac8314") true
    chosen_holds (fun _ h => by cases h) card_wf (fun _ h => by cases h) chosen_row_tie rfl ⟨rfl, rfl⟩ card_main rfl
    (fun f fn hf hfn => by
      obtain rfl : f = 3 := Option.some.inj (card_named.symm.trans hf) |>.symm
      obtain rfl : fn = Tryz.f3 := (Option.some.inj (Tryz.func3.symm.trans hfn)).symm
      exact ⟨card_looks, fun j t ht => by
        rw [Tryz.params3] at ht
        have hm : t ∈ [2, 3] := by simpa using Array.mem_of_getElem? ht
        exact (show Tryz.prog.wantsStandIn t = false by simpa using List.all_eq_true.1 card_stand t hm)⟩)
    card_goes
end Go.Proofs.YtogohcefjffahaaGreatDoor
