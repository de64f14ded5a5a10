import Derived.Test.YtdebefkekkjilaaGreatDoorB4
import Derived.KernelRfl
namespace Go.Proofs.YtdebefkekkjilaaGreatDoor
open Go.Proofs
set_option maxHeartbeats 400000000 in
theorem kC6 (ty : Nat → TypeId) : ok Tryz.f3.body (fun c => cases (csOf 80 40) (postC 3 (postC 6 c)) Tryz.f3 Tryz.prog dT envS rtB1 188 ⟨hB1 ty, nxB1⟩) = True := by kernel_rfl
end Go.Proofs.YtdebefkekkjilaaGreatDoor
