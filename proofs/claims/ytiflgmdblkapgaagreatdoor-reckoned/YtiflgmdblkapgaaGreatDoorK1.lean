import Derived.Test.YtiflgmdblkapgaaGreatDoorSE
import Derived.Test.YtiflgmdblkapgaaGreatDoorSR
import Derived.KernelRfl
namespace Go.Proofs.YtiflgmdblkapgaaGreatDoor
open Go.Proofs
set_option maxHeartbeats 400000000 in
theorem k1 (ty : Nat → TypeId) : ok Tryz.f3.body (fun c => setArgs [L3 0, L3 1] 0 .nil (fun t => evCode (preC 3 c) Tryz.prog rT (envR rT) ⟨t, 279, []⟩ ⟨h0 ty, 11⟩ (atSeg 279 nxR1 rgR1 blR1) (fun _ _ _ => False))) = True := by kernel_rfl
end Go.Proofs.YtiflgmdblkapgaaGreatDoor
