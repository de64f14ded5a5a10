import Derived.Test.YtiflgmdblkapgaaGreatDoorSE
import Derived.Test.YtiflgmdblkapgaaGreatDoorSR
import Derived.KernelRfl
namespace Go.Proofs.YtiflgmdblkapgaaGreatDoor
open Go.Proofs
set_option maxHeartbeats 400000000 in
theorem k4 (ty : Nat → TypeId) : ok Tryz.f3.body (fun c => evCode (preC 5 (postC 2 (postC 1 (postC 3 c)))) Tryz.prog rT (envR rT) ⟨rtR3, 279, []⟩ ⟨hR3 ty, nxR3⟩ (atSeg 279 nxR4 rgR4 blR4) (fun _ _ _ => False)) = True := by kernel_rfl
end Go.Proofs.YtiflgmdblkapgaaGreatDoor
