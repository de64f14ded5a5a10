import Derived.Test.YtogohcefjffahaaGreatDoorB2
import Derived.Test.YtogohcefjffahaaGreatDoorB1
import Derived.Test.YtogohcefjffahaaGreatDoorProg
import Derived.KernelRfl
namespace Go.Proofs.YtogohcefjffahaaGreatDoor
open Go.Proofs

set_option maxHeartbeats 40000000 in
theorem kc (ty : Nat → TypeId) : law 3 60 cArgs cCases Tryz.prog cT np ⟨h0 ty, 11⟩ Tryz.f3 = True := by kernel_rfl
end Go.Proofs.YtogohcefjffahaaGreatDoor
