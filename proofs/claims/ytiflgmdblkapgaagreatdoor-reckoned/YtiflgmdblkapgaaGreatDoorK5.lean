import Derived.Test.YtiflgmdblkapgaaGreatDoorSE
import Derived.Test.YtiflgmdblkapgaaGreatDoorSR
import Derived.KernelRfl
namespace Go.Proofs.YtiflgmdblkapgaaGreatDoor
open Go.Proofs
set_option maxHeartbeats 400000000 in
theorem k5 (ty : Nat → TypeId) : ok Tryz.f3.body (fun c => evCode (preC 7 (postC 5 (postC 2 (postC 1 (postC 3 c))))) Tryz.prog rT (envR rT) ⟨rtR4, 279, []⟩ ⟨hR4 ty, nxR4⟩ (atSeg 279 nxR5 rgR5 blR5) (fun _ _ _ => False)) = True := by kernel_rfl
end Go.Proofs.YtiflgmdblkapgaaGreatDoor
