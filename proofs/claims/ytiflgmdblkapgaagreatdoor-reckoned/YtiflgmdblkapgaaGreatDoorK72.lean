import Derived.Test.YtiflgmdblkapgaaGreatDoorSE
import Derived.Test.YtiflgmdblkapgaaGreatDoorSR
import Derived.KernelRfl
namespace Go.Proofs.YtiflgmdblkapgaaGreatDoor
open Go.Proofs
set_option maxHeartbeats 400000000 in
theorem k72 (ty : Nat → TypeId) : ok Tryz.f3.body (fun c => cases [[]] (postC 4 (postC 7 (postC 5 (postC 2 (postC 1 (postC 3 c)))))) Tryz.f3 Tryz.prog rT72 (envR rT72) rtR6 279 ⟨hR6 ty, nxR6⟩) = True := by kernel_rfl
end Go.Proofs.YtiflgmdblkapgaaGreatDoor
