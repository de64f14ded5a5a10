import Derived.Test.YtdebefkekkjilaaGreatDoorB4
import Derived.KernelRfl
namespace Go.Proofs.YtdebefkekkjilaaGreatDoor
open Go.Proofs
set_option maxHeartbeats 40000000 in
theorem kA (ty : Nat → TypeId) : ok Tryz.f3.body (fun c => setArgs [L3 0, L3 1, L3 2] 0 .nil (fun t => evCode (preC 6 c) Tryz.prog dT envS ⟨t, 188, []⟩ ⟨h0 ty, 11⟩ (atSeg 188 nxA rgA blA) (fun _ _ _ => False))) = True := by kernel_rfl
end Go.Proofs.YtdebefkekkjilaaGreatDoor
