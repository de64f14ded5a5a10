/-
Looped holds: for any two numbers, loomkeep.Looped returns true and leaves its arguments, and all memory that lay there before, as they were. No condition beyond the card's own: the listed variables hold what the program's text gives them.
-/
import Derived.Test.YtkpfafehcmammaaGreatDoorOB
import Derived.Test.YtkpfafehcmammaaGreatDoorCards
import Derived.Test.YtkpfafehcmammaaGreatDoorTie
import Derived.SevenTiedAt
namespace Go.Proofs.YtkpfafehcmammaaGreatDoor
open Go.Deep Go.Lib Go.Proofs Go.Proofs.YtkpfafehcmammaaGreatDoor
open Go.ChangeShapes Go.WideShapes Go.ChangeAt Go.RowKit

theorem card_wf : Rows.loopedRow.wfByText (OpenSpec.ofChange Rows.loopedSpec) = true := by kernel_rfl
theorem card_main : Tryz.pinned.checked.prog.mainIs = some (true, "53e5b2bb9d521b33e3c36b7b18f35b151c6421ba52cc065f234f9e5c40e64b56".toList) := by kernel_rfl
theorem card_looks : true = Tryz.pinned.checked.prog.looks [] := by kernel_rfl
theorem card_named : Tryz.prog.funcNamed "loom/loomkeep.Looped" = some 3 := by kernel_rfl
theorem card_goes : false = Rows.loopedRow.goesBy Tryz.pinned.checked.prog := by kernel_rfl
theorem card_stand : ([3, 3].all fun u => !Tryz.prog.wantsStandIn u) = true := by kernel_rfl

theorem looped_card : Rows.LoopedCardSaid :=
  Claim7.holds_tied_plain_at .later [] [.data, .data, .data, .sentinel, .sentinel, .data, .data, .data] true (true, "53e5b2bb9d521b33e3c36b7b18f35b151c6421ba52cc065f234f9e5c40e64b56") true
    looped_holds (fun _ h => by cases h) card_wf (fun _ h => by cases h) looped_row_tie rfl ⟨rfl, rfl⟩ card_main rfl
    (fun f fn hf hfn => by
      obtain rfl : f = 3 := Option.some.inj (card_named.symm.trans hf) |>.symm
      obtain rfl : fn = Tryz.f3 := (Option.some.inj (Tryz.func3.symm.trans hfn)).symm
      exact ⟨card_looks, fun j t ht => by
        rw [Tryz.params3] at ht
        have hm : t ∈ [3, 3] := by simpa using Array.mem_of_getElem? ht
        exact (show Tryz.prog.wantsStandIn t = false by simpa using List.all_eq_true.1 card_stand t hm)⟩)
    card_goes
end Go.Proofs.YtkpfafehcmammaaGreatDoor
