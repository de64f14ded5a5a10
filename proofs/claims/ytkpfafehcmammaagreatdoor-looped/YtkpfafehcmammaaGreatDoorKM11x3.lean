import Derived.Test.YtkpfafehcmammaaGreatDoorC2
import Derived.KernelRfl
namespace Go.Proofs.YtkpfafehcmammaaGreatDoor
open Go.Proofs
set_option maxHeartbeats 400000000
theorem kM11x3 : ok Tryz.f60.body (fun c => ok (loopOf c) (fun q => evTo 800 (evCode q.1 Tryz.prog fT (envR fT)) ⟨rtM, 66, []⟩ ⟨hM11x2, nxM11x2⟩ (atRen 66 nxM11x3 piM11x3 [] rgM blM11x3))) = True := by kernel_rfl
end Go.Proofs.YtkpfafehcmammaaGreatDoor
