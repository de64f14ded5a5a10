import Derived.Test.YtkpfafehcmammaaGreatDoorC2
import Derived.KernelRfl
namespace Go.Proofs.YtkpfafehcmammaaGreatDoor
open Go.Proofs
set_option maxHeartbeats 400000000
theorem kM10x1 : ok Tryz.f60.body (fun c => ok (loopOf c) (fun q => setArgs [pR 33] 0 .nil (fun t => evCode (preC 1 c) Tryz.prog fT (envR fT) ⟨t, 66, []⟩ ⟨hN10, 41⟩ (fun a s => evTo 800 (evCode q.1 Tryz.prog fT (envR fT)) a s (atRen 66 nxM10x1 piM10x1 [] rgM blM10x1)) (fun _ _ _ => False)))) = True := by kernel_rfl
end Go.Proofs.YtkpfafehcmammaaGreatDoor
