import Derived.Test.YtkpfafehcmammaaGreatDoorC2
import Derived.KernelRfl
namespace Go.Proofs.YtkpfafehcmammaaGreatDoor
open Go.Proofs
set_option maxHeartbeats 400000000
theorem kM10x3 : ok Tryz.f60.body (fun c => ok (loopOf c) (fun q => evLoop 400 (evCode q.1 Tryz.prog fT (envR fT)) ⟨rtM, 66, []⟩ ⟨hM10x2, nxM10x2⟩ (loopEnd Tryz.f60 Tryz.prog fT (envR fT) q.2.1 q.2.2 42 piO10 [] (.int .i64 0) blNO10))) = True := by kernel_rfl
theorem kR10 : ok Tryz.f3.body (fun c => setRs [(10, .int .i64 (.ofNat 10))] rt2 (fun t => evCode (preC 4 (postC 3 (postC 4 c))) Tryz.prog fT (envO ON10 fT) ⟨t, 126, []⟩ ⟨h1, nx1⟩ (atRen 126 nx1 [] (sub3 55) rg3 bl1) (fun _ _ _ => False))) = True := by kernel_rfl
end Go.Proofs.YtkpfafehcmammaaGreatDoor
