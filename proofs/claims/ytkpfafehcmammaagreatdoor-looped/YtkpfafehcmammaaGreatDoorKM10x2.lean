import Derived.Test.YtkpfafehcmammaaGreatDoorC2
import Derived.KernelRfl
namespace Go.Proofs.YtkpfafehcmammaaGreatDoor
open Go.Proofs
set_option maxHeartbeats 400000000
theorem kM10x2 : ok Tryz.f60.body (fun c => ok (loopOf c) (fun q => evTo 800 (evCode q.1 Tryz.prog fT (envR fT)) ⟨rtM, 66, []⟩ ⟨hM10x1, nxM10x1⟩ (atRen 66 nxM10x2 piM10x2 [] rgM blM10x2))) = True := by kernel_rfl
end Go.Proofs.YtkpfafehcmammaaGreatDoor
