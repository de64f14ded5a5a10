import Derived.Test.YtdebefkekkjilaaGreatDoorB4
import Derived.KernelRfl
namespace Go.Proofs.YtdebefkekkjilaaGreatDoor
open Go.Proofs
set_option maxHeartbeats 400000000 in
theorem kC10 (ty : Nat → TypeId) : ok Tryz.f3.body (fun c => cases (csOf 0 40) (postC 3 (postC 6 c)) Tryz.f3 Tryz.prog dT envS rtB2 188 ⟨hB2 ty, nxB2⟩) = True := by kernel_rfl
end Go.Proofs.YtdebefkekkjilaaGreatDoor
