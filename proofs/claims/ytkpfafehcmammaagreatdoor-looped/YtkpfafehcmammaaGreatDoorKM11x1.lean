import Derived.Test.YtkpfafehcmammaaGreatDoorC2
import Derived.KernelRfl
namespace Go.Proofs.YtkpfafehcmammaaGreatDoor
open Go.Proofs
set_option maxHeartbeats 400000000
theorem kM11x1 : ok Tryz.f60.body (fun c => ok (loopOf c) (fun q => setArgs [pR 33] 0 .nil (fun t => evCode (preC 1 c) Tryz.prog fT (envR fT) ⟨t, 66, []⟩ ⟨hN11, 41⟩ (fun a s => evTo 800 (evCode q.1 Tryz.prog fT (envR fT)) a s (atRen 66 nxM11x1 piM11x1 [] rgM blM11x1)) (fun _ _ _ => False)))) = True := by kernel_rfl
end Go.Proofs.YtkpfafehcmammaaGreatDoor
