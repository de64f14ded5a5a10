import Derived.Test.YtiflgmdblkapgaaGreatDoorB1
import Derived.Test.YtiflgmdblkapgaaGreatDoorB2
import Derived.Test.YtiflgmdblkapgaaGreatDoorRT
import Derived.Test.YtiflgmdblkapgaaGreatDoorProg
namespace Go.Proofs.YtiflgmdblkapgaaGreatDoor
open Go.Proofs
def envR (T : Tab) : Env := ⟨np, go 60 Tryz.prog T np false, go 60 Tryz.prog T np true, false⟩
end Go.Proofs.YtiflgmdblkapgaaGreatDoor
