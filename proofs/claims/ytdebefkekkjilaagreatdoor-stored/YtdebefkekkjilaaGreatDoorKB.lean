import Derived.Test.YtdebefkekkjilaaGreatDoorB4
import Derived.KernelRfl
namespace Go.Proofs.YtdebefkekkjilaaGreatDoor
open Go.Proofs
set_option maxHeartbeats 40000000 in
theorem kB0 (ty : Nat → TypeId) : ok Tryz.f3.body (fun c => evCode (preC 3 (postC 6 c)) Tryz.prog dT envS ⟨rtA0, 188, []⟩ ⟨hA ty, nxA⟩ (atSeg 188 nxB0 rgB0 blB0) (fun _ _ _ => False)) = True := by kernel_rfl
set_option maxHeartbeats 40000000 in
theorem kB1 (ty : Nat → TypeId) : ok Tryz.f3.body (fun c => evCode (preC 3 (postC 6 c)) Tryz.prog dT envS ⟨rtA1, 188, []⟩ ⟨hA ty, nxA⟩ (atSeg 188 nxB1 rgB1 blB1) (fun _ _ _ => False)) = True := by kernel_rfl
set_option maxHeartbeats 40000000 in
theorem kB2 (ty : Nat → TypeId) : ok Tryz.f3.body (fun c => evCode (preC 3 (postC 6 c)) Tryz.prog dT envS ⟨rtA2, 188, []⟩ ⟨hA ty, nxA⟩ (atSeg 188 nxB2 rgB2 blB2) (fun _ _ _ => False)) = True := by kernel_rfl
set_option maxHeartbeats 40000000 in
theorem kB3 (ty : Nat → TypeId) : ok Tryz.f3.body (fun c => evCode (preC 3 (postC 6 c)) Tryz.prog dT envS ⟨rtA3, 188, []⟩ ⟨hA ty, nxA⟩ (atSeg 188 nxB3 rgB3 blB3) (fun _ _ _ => False)) = True := by kernel_rfl
end Go.Proofs.YtdebefkekkjilaaGreatDoor
