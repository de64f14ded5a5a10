import Derived.Test.YtkpfafehcmammaaGreatDoorSE
import Derived.KernelRfl
namespace Go.Proofs.YtkpfafehcmammaaGreatDoor
open Go.Proofs
set_option maxHeartbeats 400000000
theorem kB : ok Tryz.f3.body (fun c => evCode (preC 3 (postC 4 c)) Tryz.prog fT (envO O1 fT) ⟨rt1, 126, []⟩ ⟨h1, nx1⟩ (atRen 126 nx1 [] sub2 rg2 bl1) (fun _ _ _ => False)) = True := by kernel_rfl
theorem kE0 : ok Tryz.f60.body (fun c => ok (loopOf c) (fun q => setArgs [pR 32] 0 .nil (fun t => evCode (preC 1 c) Tryz.prog fT (envR fT) ⟨t, 66, []⟩ ⟨hE, nxE⟩ (fun a s => evTo 2 (evCode q.1 Tryz.prog fT (envR fT)) a s (atRen 66 nxL piL0 subL0 rgL blL)) (fun _ _ _ => False)))) = True := by kernel_rfl
theorem kE1 : ok Tryz.f60.body (fun c => ok (loopOf c) (fun q => evTo 12 (evCode q.1 Tryz.prog uT1 (envR uT1)) ⟨rtL, 66, []⟩ ⟨hL, nxL⟩ (atRen 66 nxL piL1 subL1 rgL blL))) = True := by kernel_rfl
theorem kE2 : ok Tryz.f60.body (fun c => ok (loopOf c) (fun q => evLoop 20 (evCode q.1 Tryz.prog uT2 (envR uT2)) ⟨rtL, 66, []⟩ ⟨hL, nxL⟩ (loopEnd Tryz.f60 Tryz.prog uT2 (envR uT2) q.2.1 q.2.2 41 piL2 subL2 (.int .i64 0) blO))) = True := by kernel_rfl
theorem k4 : ok Tryz.f3.body (fun c => evCode (preC 1 (postC 4 (postC 3 (postC 4 c)))) Tryz.prog fT (envG fT) ⟨rt3, 126, []⟩ ⟨h1, nx1⟩ (atRen 126 nx1 [] sub4 rg4 bl1) (fun _ _ _ => False)) = True := by kernel_rfl
theorem kQ1 : ok Tryz.f60.body (fun c => ok (loopOf c) (fun q => evTo 1 (evCode q.1 Tryz.prog qT1 (envR qT1)) ⟨rtQ, 66, []⟩ ⟨hQ, 41⟩ (atRen 66 41 piQ1 subQ1 rgQ blQ))) = True := by kernel_rfl
theorem kQ2 : ok Tryz.f60.body (fun c => ok (loopOf c) (fun q => evLoop 3 (evCode q.1 Tryz.prog qT2 (envR qT2)) ⟨rtQ, 66, []⟩ ⟨hQ, 41⟩ (loopEnd Tryz.f60 Tryz.prog qT2 (envR qT2) q.2.1 q.2.2 40 [] subQ2 (.int .i64 8) blG))) = True := by kernel_rfl
end Go.Proofs.YtkpfafehcmammaaGreatDoor
