import Derived.Test.YtiflgmdblkapgaaGreatDoorSE
import Derived.Test.YtiflgmdblkapgaaGreatDoorSR
import Derived.KernelRfl
namespace Go.Proofs.YtiflgmdblkapgaaGreatDoor
open Go.Proofs
set_option maxHeartbeats 400000000 in
theorem k2 (ty : Nat → TypeId) : ok Tryz.f3.body (fun c => evCode (preC 1 (postC 3 c)) Tryz.prog rT (envR rT) ⟨rtR1, 279, []⟩ ⟨hR1 ty, nxR1⟩ (atSeg 279 nxR2 rgR2 blR2) (fun _ _ _ => False)) = True := by kernel_rfl
end Go.Proofs.YtiflgmdblkapgaaGreatDoor
