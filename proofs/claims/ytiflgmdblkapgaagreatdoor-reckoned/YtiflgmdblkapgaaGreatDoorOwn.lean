/-
Reckoned holds: for any two numbers of 64 bits, loomkeep.Reckoned returns true and leaves its arguments, and all memory that lay there before, as they were. No condition beyond the card's own: the listed variables hold what the program's text gives them.
-/
import Derived.Test.YtiflgmdblkapgaaGreatDoorOB
import Derived.Test.YtiflgmdblkapgaaGreatDoorCards
import Derived.Test.YtiflgmdblkapgaaGreatDoorTie
import Derived.SevenTiedAt
namespace Go.Proofs.YtiflgmdblkapgaaGreatDoor
open Go.Deep Go.Lib Go.Proofs Go.Proofs.YtiflgmdblkapgaaGreatDoor
open Go.ChangeShapes Go.WideShapes Go.ChangeAt Go.RowKit

theorem card_wf : Rows.reckonedRow.wfByText (OpenSpec.ofChange Rows.reckonedSpec) = true := by kernel_rfl
theorem card_main : Tryz.pinned.checked.prog.mainIs = some (true, "d8fd808b2c9d555e5de76b55b644f62b7dbdaf612e600a85bf64827e9fba0b37".toList) := by kernel_rfl
theorem card_looks : true = Tryz.pinned.checked.prog.looks [] := by kernel_rfl
theorem card_named : Tryz.prog.funcNamed "loom/loomkeep.Reckoned" = some 3 := by kernel_rfl
theorem card_goes : false = Rows.reckonedRow.goesBy Tryz.pinned.checked.prog := by kernel_rfl
theorem card_stand : ([2, 2].all fun u => !Tryz.prog.wantsStandIn u) = true := by kernel_rfl

theorem reckoned_card : Rows.ReckonedCardSaid :=
  Claim7.holds_tied_plain_at .later [] [.data, .data, .data, .sentinel, .sentinel, .data, .data, .data] true (true, "d8fd808b2c9d555e5de76b55b644f62b7dbdaf612e600a85bf64827e9fba0b37") true
    reckoned_holds (fun _ h => by cases h) card_wf (fun _ h => by cases h) reckoned_row_tie rfl ⟨rfl, rfl⟩ card_main rfl
    (fun f fn hf hfn => by
      obtain rfl : f = 3 := Option.some.inj (card_named.symm.trans hf) |>.symm
      obtain rfl : fn = Tryz.f3 := (Option.some.inj (Tryz.func3.symm.trans hfn)).symm
      exact ⟨card_looks, fun j t ht => by
        rw [Tryz.params3] at ht
        have hm : t ∈ [2, 2] := by simpa using Array.mem_of_getElem? ht
        exact (show Tryz.prog.wantsStandIn t = false by simpa using List.all_eq_true.1 card_stand t hm)⟩)
    card_goes
end Go.Proofs.YtiflgmdblkapgaaGreatDoor
