import Derived.Test.YtiflgmdblkapgaaGreatDoorSE
import Derived.Test.YtiflgmdblkapgaaGreatDoorSR
import Derived.KernelRfl
namespace Go.Proofs.YtiflgmdblkapgaaGreatDoor
open Go.Proofs
set_option maxHeartbeats 400000000 in
theorem k3 (ty : Nat → TypeId) : ok Tryz.f3.body (fun c => evCode (preC 2 (postC 1 (postC 3 c))) Tryz.prog rT (envR rT) ⟨rtR2, 279, []⟩ ⟨hR2 ty, nxR2⟩ (atSeg 279 nxR3 rgR3 blR3) (fun _ _ _ => False)) = True := by kernel_rfl
end Go.Proofs.YtiflgmdblkapgaaGreatDoor
