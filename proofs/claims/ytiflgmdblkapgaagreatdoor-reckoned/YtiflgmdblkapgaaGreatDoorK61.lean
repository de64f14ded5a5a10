import Derived.Test.YtiflgmdblkapgaaGreatDoorSE
import Derived.Test.YtiflgmdblkapgaaGreatDoorSR
import Derived.KernelRfl
namespace Go.Proofs.YtiflgmdblkapgaaGreatDoor
open Go.Proofs
set_option maxHeartbeats 400000000 in
theorem k61 (ty : Nat → TypeId) : ok Tryz.f3.body (fun c => evCode (preC 4 (postC 7 (postC 5 (postC 2 (postC 1 (postC 3 c)))))) Tryz.prog rT61 (envR rT61) ⟨rtR5, 279, []⟩ ⟨hR5 ty, nxR5⟩ (atSeg 279 nxR6 rgR6 blR6) (fun _ _ _ => False)) = True := by kernel_rfl
end Go.Proofs.YtiflgmdblkapgaaGreatDoor
