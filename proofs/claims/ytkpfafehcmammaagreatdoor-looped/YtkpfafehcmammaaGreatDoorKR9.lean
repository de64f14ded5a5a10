import Derived.Test.YtkpfafehcmammaaGreatDoorSE
import Derived.KernelRfl
namespace Go.Proofs.YtkpfafehcmammaaGreatDoor
open Go.Proofs
set_option maxHeartbeats 400000000
theorem kR9 : ok Tryz.f3.body (fun c => setRs [(10, .int .i64 (.ofNat 9))] rt2 (fun t => evCode (preC 4 (postC 3 (postC 4 c))) Tryz.prog fT (envG fT) ⟨t, 126, []⟩ ⟨h1, nx1⟩ (atRen 126 nx1 [] (sub3 34) rg3 bl1) (fun _ _ _ => False))) = True := by kernel_rfl
end Go.Proofs.YtkpfafehcmammaaGreatDoor
