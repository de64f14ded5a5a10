import Derived.Test.YtkpfafehcmammaaGreatDoorSE
import Derived.Test.YtkpfafehcmammaaGreatDoorC1
import Derived.KernelRfl
namespace Go.Proofs.YtkpfafehcmammaaGreatDoor
open Go.Proofs
set_option maxHeartbeats 400000000
theorem kSL : ok Tryz.f3.body (fun c => setRs [(17, L3 200)] rt4 (fun t => evCode (preC 1 (postC 1 (postC 4 (postC 3 (postC 4 c))))) Tryz.prog sT (envG sT) ⟨t, 126, []⟩ ⟨h1, nx1⟩ (atRen 126 28 [(27, 235)] (sub5 (L3 200) (.int .i64 (.ofNat 7)) (L3 250)) rg5 bl5) (fun _ _ _ => False))) = True := by kernel_rfl
theorem kQ0 : ok Tryz.f60.body (fun c => ok (loopOf c) (fun q => setArgs [pR 35] 0 .nil (fun t => evCode (preC 1 c) Tryz.prog qT0 (envR qT0) ⟨t, 66, []⟩ ⟨hF, 40⟩ (fun a s => evTo 1 (evCode q.1 Tryz.prog qT0 (envR qT0)) a s (atRen 66 41 piQ0 subQ3 rgQ blQ)) (fun _ _ _ => False)))) = True := by kernel_rfl
theorem k6a : ok Tryz.f3.body (fun c => cases [[]] (postC 1 (postC 1 (postC 4 (postC 3 (postC 4 c))))) Tryz.f3 Tryz.prog zTa (envO O2 zTa) rt5 126 ⟨h5, 28⟩) = True := by kernel_rfl
theorem k6b : ok Tryz.f3.body (fun c => cases [[]] (postC 1 (postC 1 (postC 4 (postC 3 (postC 4 c))))) Tryz.f3 Tryz.prog zTb (envO O2 zTb) rt5 126 ⟨h5, 28⟩) = True := by kernel_rfl
theorem k6c : ok Tryz.f3.body (fun c => cases [[(17, .int .i64 (.ofNat 0))]] (postC 1 (postC 1 (postC 4 (postC 3 (postC 4 c))))) Tryz.f3 Tryz.prog zTc (envG zTc) rt5 126 ⟨h5, 28⟩) = True := by kernel_rfl
end Go.Proofs.YtkpfafehcmammaaGreatDoor
