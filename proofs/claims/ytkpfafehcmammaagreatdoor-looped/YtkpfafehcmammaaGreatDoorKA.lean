import Derived.Test.YtkpfafehcmammaaGreatDoorSE
import Derived.KernelRfl
namespace Go.Proofs.YtkpfafehcmammaaGreatDoor
open Go.Proofs
set_option maxHeartbeats 400000000 in
theorem kA (ty : Nat → TypeId) : ok Tryz.f3.body (fun c => setArgs [L3 0, L3 1] 0 .nil (fun t => evCode (preC 4 c) Tryz.prog fT (envG fT) ⟨t, 126, []⟩ ⟨h0 ty, 11⟩ (atRen 126 nx1 pi1 sub1 rg1 bl1) (fun _ _ _ => False))) = True := by kernel_rfl
end Go.Proofs.YtkpfafehcmammaaGreatDoor
