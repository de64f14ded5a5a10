import Derived.Test.YtfkcodlceoghpaaGreatDoorX1
namespace Go.Proofs.YtfkcodlceoghpaaGreatDoor
open Go.RowKit
def numCells(x:Int×Nat):List Value:=[qI x.1,qJ x.2]
structure tZ where
 at_:Nat
 least:Int
 most:Int
 has:Bool
def tZ.cells(x:tZ):List Value:=[qJ x.at_,qI x.least,qI x.most,.bool x.has]
def Q6(x:tZ)(_:World)(v:Value):Prop:=v=.agg #[qJ x.at_,qI x.least,qI x.most,.bool x.has]
def r9(s:qS)(n i:Nat):Except Err (tZ×Nat):=
 match iO [0,1] s n i with
 | .error e=>.error e
 | .ok (x,j)=>
  match uM s n j with
  | .error e=>.error e
  | .ok ((v,_),j2)=>
   if x=1 then
    match uM s n j2 with
    | .error e=>.error e
    | .ok ((m,_),j3)=>.ok (⟨i,v,m,true⟩,j3)
   else .ok (⟨i,v,0,false⟩,j2)
def nM(s:qS)(n i:Nat):Except Err (tZ×Nat):=
 match iO [112] s n i with
 | .error e=>.error e
 | .ok (_,j)=>r9 s n j
structure Cn where
 kind:Nat
 sO:Bool
 first:Cst
def Cn.cells(x:Cn):List Value:=[qB x.kind,.bool x.sO,qJ x.first.at_,qB x.first.kind,qJ x.first.val]
def Uu(x:Cn)(_:World)(v:Value):Prop:=v=.agg #[qB x.kind,.bool x.sO,qJ x.first.at_,qB x.first.kind,qJ x.first.val]
def jR(s:qS)(n i:Nat):Except Err (Cn×Nat):=
 match jM s n i with
 | .error e=>.error e
 | .ok (k,j)=>
  match iO [0,1] s n j with
  | .error e=>.error e
  | .ok (x,j2)=>
   match ja s n j2 with
   | .error e=>.error e
   | .ok (c,j3)=>.ok (⟨k,x==1,c⟩,j3)
structure CB where
 nameAt:Nat
 name:qS
 AX:Nat
 idx:Int×Nat
def CB.cells(x:CB):List Value:=[qJ x.nameAt,.string x.name,qB x.AX,qI x.idx.1,qJ x.idx.2]
def Uw(x:CB)(_:World)(v:Value):Prop:=v=.agg #[qJ x.nameAt,.string x.name,qB x.AX,qI x.idx.1,qJ x.idx.2]
def BG(x:Nat):Bool:=decide (32<=x)&&decide (x<=126)&&x !=34&&x !=92
def ni(t:qS)(k:Nat):Bool:=(tl t k).all BG
def jy(s:qS)(n i:Nat):Except Err (CB×Nat):=
 match fD 20 s n i with
 | .error e=>.error e
 | .ok (k,j)=>
  match jL k s n j with
  | .error e=>.error e
  | .ok (t,j2)=>
   if ni t 0=false then .error (2,i) else
   match iO [0,1,2,3] s n j2 with
   | .error e=>.error e
   | .ok (x,j3)=>
    match uM s n j3 with
    | .error e=>.error e
    | .ok (u,j4)=>.ok (⟨i,t,x,u⟩,j4)
structure Dat where
 at_:Nat
 place:Cst
 bytes:qS
def Dat.cells(x:Dat):List Value:=[qJ x.at_,qJ x.place.at_,qB x.place.kind,qJ x.place.val,.string x.bytes]
def Uy(x:Dat)(_:World)(v:Value):Prop:=v=.agg #[qJ x.at_,qJ x.place.at_,qB x.place.kind,qJ x.place.val,.string x.bytes]
def pz(s:qS)(n i:Nat):Except Err (Dat×Nat):=
 match iO [0] s n i with
 | .error e=>.error e
 | .ok (_,j)=>
  match ja s n j with
  | .error e=>.error e
  | .ok (c,j2)=>
   match fD 100 s n j2 with
   | .error e=>.error e
   | .ok (k,j3)=>
    match jL k s n j3 with
    | .error e=>.error e
    | .ok (t,j4)=>.ok (⟨i,c,t⟩,j4)
structure Ty where
 ins:List Nat
 outs:List Nat
def rA(s:qS)(n i:Nat):Except Err (Ty×Nat):=
 match iO [96] s n i with
 | .error e=>.error e
 | .ok (_,j)=>
  match eB 8 jM s n j with
  | .error e=>.error e
  | .ok (a,j2)=>
   match eB 4 jM s n j2 with
   | .error e=>.error e
   | .ok (c,j3)=>.ok (⟨a,c⟩,j3)
structure Cm where
 at_:Nat
 place:Cst
 funcs:List (Int×Nat)
def tQ(s:qS)(n i:Nat):Except Err (Cm×Nat):=
 match iO [0] s n i with
 | .error e=>.error e
 | .ok (_,j)=>
  match ja s n j with
  | .error e=>.error e
  | .ok (c,j2)=>
   match eB 20 uM s n j2 with
   | .error e=>.error e
   | .ok (l,j3)=>.ok (⟨i,c,l⟩,j3)
end Go.Proofs.YtfkcodlceoghpaaGreatDoor
