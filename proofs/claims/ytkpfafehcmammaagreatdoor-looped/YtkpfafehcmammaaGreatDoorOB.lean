import Derived.Test.YtkpfafehcmammaaGreatDoorOA
namespace Go.Proofs.YtkpfafehcmammaaGreatDoor
open Go.Deep Go.Lib Go.Proofs Go.Proofs.YtkpfafehcmammaaGreatDoor
open Go.ChangeShapes Go.WideShapes Go.ChangeAt Go.RowKit

set_option maxRecDepth 100000 in
set_option maxHeartbeats 4000000 in
theorem looped_facts : joinedFacts Tryz.prog 3 Tryz.f3 Rows.loopedSpec Rows.loopedRow = true := by
  unfold joinedFacts
  simp only [Bool.and_eq_true]
  repeat' apply And.intro
  all_goals decide +kernel

theorem looped_holds : Rows.LoopedSaid :=
  OpenClaim.holds_of_wide 3 Tryz.f3 rfl rfl rfl rfl rfl rfl rfl ⟨rfl, rfl, rfl, rfl, rfl⟩ rfl rfl rfl rfl rfl (by kernel_rfl) Tryz.func3 looped_facts
    (of_decide_eq_true (by kernel_rfl)) (by unfold Func.isWrapper; first | (rw [if_pos (by decide +kernel)]; kernel_rfl) | (rw [if_neg (by decide +kernel)]; exact ⟨rfl, rfl⟩))
    (fun os started H enc _ => looped_lifted os started H enc)
end Go.Proofs.YtkpfafehcmammaaGreatDoor
