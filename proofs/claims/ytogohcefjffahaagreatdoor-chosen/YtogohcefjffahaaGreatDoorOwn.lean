/-
Chosen holds: for any two numbers, loomkeep.Chosen returns true and leaves its arguments, and all memory that lay there before, as they were. No condition beyond the card's own: the listed variables hold what the program's text gives them.
-/
import Derived.Test.YtogohcefjffahaaGreatDoorO2
namespace Go.Proofs.YtogohcefjffahaaGreatDoor
open Go.Deep Go.Lib Go.Proofs Go.Proofs.YtogohcefjffahaaGreatDoor
open Go.ChangeShapes Go.WideShapes Go.ChangeAt Go.RowKit


theorem chosen_card : Rows.ChosenCardSaid :=
  Claim7.holds_tied_plain_at .later [] [.data, .data, .data, .sentinel, .sentinel, .data, .data, .data] true (true, "aecb281b65d24c224ae01b4167aa076dc2807e2b3784a2bd9eb29be139ac8314") true
    chosen_holds (fun _ h => by cases h) (by kernel_rfl) (fun _ h => by cases h) chosen_row_tie rfl ⟨rfl, rfl⟩ (by kernel_rfl) rfl
    (fun f fn hf hfn => by
      obtain rfl : f = 3 := Option.some.inj ((show Tryz.prog.funcNamed "loom/loomkeep.Chosen" = some 3 by kernel_rfl).symm.trans hf) |>.symm
      obtain rfl : fn = Tryz.f3 := (Option.some.inj (Tryz.func3.symm.trans hfn)).symm
      exact ⟨by kernel_rfl, fun j t ht => by
        rw [Tryz.params3] at ht
        have hm : t ∈ [2, 3] := by simpa using Array.mem_of_getElem? ht
        have hall : ([2, 3].all fun u => !Tryz.prog.wantsStandIn u) = true := by kernel_rfl
        exact (show Tryz.prog.wantsStandIn t = false by simpa using List.all_eq_true.1 hall t hm)⟩)
    (by kernel_rfl)
end Go.Proofs.YtogohcefjffahaaGreatDoor
