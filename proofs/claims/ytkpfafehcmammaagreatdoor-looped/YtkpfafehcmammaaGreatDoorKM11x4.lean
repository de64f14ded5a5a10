import Derived.Test.YtkpfafehcmammaaGreatDoorC2
import Derived.KernelRfl
namespace Go.Proofs.YtkpfafehcmammaaGreatDoor
open Go.Proofs
set_option maxHeartbeats 400000000
theorem kM11x4 : ok Tryz.f60.body (fun c => ok (loopOf c) (fun q => evLoop 800 (evCode q.1 Tryz.prog fT (envR fT)) ⟨rtM, 66, []⟩ ⟨hM11x3, nxM11x3⟩ (loopEnd Tryz.f60 Tryz.prog fT (envR fT) q.2.1 q.2.2 42 piO11 [] (.int .i64 0) blNO11))) = True := by kernel_rfl
theorem kR11 : ok Tryz.f3.body (fun c => setRs [(10, .int .i64 (.ofNat 11))] rt2 (fun t => evCode (preC 4 (postC 3 (postC 4 c))) Tryz.prog fT (envO ON11 fT) ⟨t, 126, []⟩ ⟨h1, nx1⟩ (atRen 126 nx1 [] (sub3 89) rg3 bl1) (fun _ _ _ => False))) = True := by kernel_rfl
end Go.Proofs.YtkpfafehcmammaaGreatDoor
