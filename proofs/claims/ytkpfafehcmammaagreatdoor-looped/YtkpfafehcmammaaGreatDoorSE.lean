import Derived.Test.YtkpfafehcmammaaGreatDoorB1
import Derived.Test.YtkpfafehcmammaaGreatDoorB2
import Derived.Test.YtkpfafehcmammaaGreatDoorC1
import Derived.Test.YtkpfafehcmammaaGreatDoorProg
namespace Go.Proofs.YtkpfafehcmammaaGreatDoor
open Go.Proofs
def fT : Tab := tabOf [] [] [] []
def lPicks : List (Value × Int × Value) := [(L3 0, 300, L3 4), (L3 0, 12, L3 5), (L3 1, 1000, L3 6)]
def envG (T : Tab) : Env := ⟨np, orc 6 lPicks (go 60 Tryz.prog T np false), go 60 Tryz.prog T np true, false⟩
def envO (O : FuncId → Nat → Option OE) (T : Tab) : Env := ⟨np, orc 6 lPicks (goO O 60 Tryz.prog T np false), goO O 60 Tryz.prog T np true, false⟩
def envR (T : Tab) : Env := ⟨np, go 50 Tryz.prog T np false, go 50 Tryz.prog T np true, false⟩
def pR (i : Nat) : Value := .pointer (some ⟨i, 0, none⟩)
end Go.Proofs.YtkpfafehcmammaaGreatDoor
