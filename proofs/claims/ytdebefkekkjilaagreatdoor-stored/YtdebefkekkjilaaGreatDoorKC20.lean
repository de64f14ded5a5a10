import Derived.Test.YtdebefkekkjilaaGreatDoorB4
import Derived.KernelRfl
namespace Go.Proofs.YtdebefkekkjilaaGreatDoor
open Go.Proofs
set_option maxHeartbeats 400000000 in
theorem kC20 (ty : Nat → TypeId) : ok Tryz.f3.body (fun c => cases (csOf 120 18) (postC 3 (postC 6 c)) Tryz.f3 Tryz.prog dT envS rtB3 188 ⟨hB3 ty, nxB3⟩) = True := by kernel_rfl
end Go.Proofs.YtdebefkekkjilaaGreatDoor
