import Derived.Test.YtkpfafehcmammaaGreatDoorSE
import Derived.KernelRfl
namespace Go.Proofs.YtkpfafehcmammaaGreatDoor
open Go.Proofs
set_option maxHeartbeats 400000000
theorem kR0 : ok Tryz.f3.body (fun c => setRs [(10, .int .i64 (.ofNat 0))] rt2 (fun t => evCode (preC 4 (postC 3 (postC 4 c))) Tryz.prog fT (envG fT) ⟨t, 126, []⟩ ⟨h1, nx1⟩ (atRen 126 nx1 [] (sub3 0) rg3 bl1) (fun _ _ _ => False))) = True := by kernel_rfl
theorem kR1 : ok Tryz.f3.body (fun c => setRs [(10, .int .i64 (.ofNat 1))] rt2 (fun t => evCode (preC 4 (postC 3 (postC 4 c))) Tryz.prog fT (envG fT) ⟨t, 126, []⟩ ⟨h1, nx1⟩ (atRen 126 nx1 [] (sub3 1) rg3 bl1) (fun _ _ _ => False))) = True := by kernel_rfl
theorem kR2 : ok Tryz.f3.body (fun c => setRs [(10, .int .i64 (.ofNat 2))] rt2 (fun t => evCode (preC 4 (postC 3 (postC 4 c))) Tryz.prog fT (envG fT) ⟨t, 126, []⟩ ⟨h1, nx1⟩ (atRen 126 nx1 [] (sub3 1) rg3 bl1) (fun _ _ _ => False))) = True := by kernel_rfl
theorem kR3 : ok Tryz.f3.body (fun c => setRs [(10, .int .i64 (.ofNat 3))] rt2 (fun t => evCode (preC 4 (postC 3 (postC 4 c))) Tryz.prog fT (envG fT) ⟨t, 126, []⟩ ⟨h1, nx1⟩ (atRen 126 nx1 [] (sub3 2) rg3 bl1) (fun _ _ _ => False))) = True := by kernel_rfl
theorem kR4 : ok Tryz.f3.body (fun c => setRs [(10, .int .i64 (.ofNat 4))] rt2 (fun t => evCode (preC 4 (postC 3 (postC 4 c))) Tryz.prog fT (envG fT) ⟨t, 126, []⟩ ⟨h1, nx1⟩ (atRen 126 nx1 [] (sub3 3) rg3 bl1) (fun _ _ _ => False))) = True := by kernel_rfl
theorem kR5 : ok Tryz.f3.body (fun c => setRs [(10, .int .i64 (.ofNat 5))] rt2 (fun t => evCode (preC 4 (postC 3 (postC 4 c))) Tryz.prog fT (envG fT) ⟨t, 126, []⟩ ⟨h1, nx1⟩ (atRen 126 nx1 [] (sub3 5) rg3 bl1) (fun _ _ _ => False))) = True := by kernel_rfl
theorem kR6 : ok Tryz.f3.body (fun c => setRs [(10, .int .i64 (.ofNat 6))] rt2 (fun t => evCode (preC 4 (postC 3 (postC 4 c))) Tryz.prog fT (envG fT) ⟨t, 126, []⟩ ⟨h1, nx1⟩ (atRen 126 nx1 [] (sub3 8) rg3 bl1) (fun _ _ _ => False))) = True := by kernel_rfl
theorem kR7 : ok Tryz.f3.body (fun c => setRs [(10, .int .i64 (.ofNat 7))] rt2 (fun t => evCode (preC 4 (postC 3 (postC 4 c))) Tryz.prog fT (envG fT) ⟨t, 126, []⟩ ⟨h1, nx1⟩ (atRen 126 nx1 [] (sub3 13) rg3 bl1) (fun _ _ _ => False))) = True := by kernel_rfl
end Go.Proofs.YtkpfafehcmammaaGreatDoor
