/-
Stored holds: for any three numbers, loomkeep.Stored returns true and leaves its arguments, and all memory that lay there before, as they were. No condition beyond the card's own: the listed variables hold what the program's text gives them.
-/
import Derived.Test.YtdebefkekkjilaaGreatDoorO2
import Derived.Test.YtdebefkekkjilaaGreatDoorCards
import Derived.Test.YtdebefkekkjilaaGreatDoorTie
import Derived.SevenTiedAt
namespace Go.Proofs.YtdebefkekkjilaaGreatDoor
open Go.Deep Go.Lib Go.Proofs Go.Proofs.YtdebefkekkjilaaGreatDoor
open Go.ChangeShapes Go.WideShapes Go.ChangeAt Go.RowKit

theorem card_wf : Rows.storedRow.wfByText (OpenSpec.ofChange Rows.storedSpec) = true := by kernel_rfl
theorem card_main : Tryz.pinned.checked.prog.mainIs = some (true, "c30a0f00c4a9a3511d42bb8c3c6f3fc099c44daa3a8eb27387259630db9ab720".toList) := by kernel_rfl
theorem card_looks : true = Tryz.pinned.checked.prog.looks [] := by kernel_rfl
theorem card_named : Tryz.prog.funcNamed "loom/loomkeep.Stored" = some 3 := by kernel_rfl
theorem card_goes : false = Rows.storedRow.goesBy Tryz.pinned.checked.prog := by kernel_rfl
theorem card_stand : ([2, 3, 3].all fun u => !Tryz.prog.wantsStandIn u) = true := by kernel_rfl

theorem stored_card : Rows.StoredCardSaid :=
  Claim7.holds_tied_plain_at .later [] [.data, .data, .data, .sentinel, .sentinel, .data, .data, .data] true (true, "c30a0f00c4a9a3511d42bb8c3c6f3fc099c44daa3a8eb27387259630db9ab720") true
    stored_holds (fun _ h => by cases h) card_wf (fun _ h => by cases h) stored_row_tie rfl ⟨rfl, rfl⟩ card_main rfl
    (fun f fn hf hfn => by
      obtain rfl : f = 3 := Option.some.inj (card_named.symm.trans hf) |>.symm
      obtain rfl : fn = Tryz.f3 := (Option.some.inj (Tryz.func3.symm.trans hfn)).symm
      exact ⟨card_looks, fun j t ht => by
        rw [Tryz.params3] at ht
        have hm : t ∈ [2, 3, 3] := by simpa using Array.mem_of_getElem? ht
        exact (show Tryz.prog.wantsStandIn t = false by simpa using List.all_eq_true.1 card_stand t hm)⟩)
    card_goes
end Go.Proofs.YtdebefkekkjilaaGreatDoor
