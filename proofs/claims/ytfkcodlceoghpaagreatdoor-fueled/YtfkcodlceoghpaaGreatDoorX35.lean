import Derived.Control
import Derived.Deep.Trees
import Derived.KernelRfl
import Derived.Test.YtfkcodlceoghpaaGreatDoorProg
namespace Go.Proofs.YtfkcodlceoghpaaGreatDoor.Zev
set_option maxHeartbeats 40000000
set_option linter.unusedSimpArgs false
set_option linter.unusedVariables false
open Go.Deep Go.Proofs
theorem qaa:type_of% @Nat.eq_of_beq_eq_true:=@Nat.eq_of_beq_eq_true
theorem qab:type_of% @Bool.and_eq_true:=@Bool.and_eq_true
theorem qac:type_of% @List.mem_cons_of_mem:=@List.mem_cons_of_mem
theorem qad:type_of% @Sem.run_bind:=@Sem.run_bind
theorem qae:type_of% @if_neg:=@if_neg
theorem qaf:type_of% @Array.getElem?_eq_some_iff:=@Array.getElem?_eq_some_iff
theorem qag:type_of% @List.mem_cons_self:=@List.mem_cons_self
theorem qah:type_of% @List.mem_append_left:=@List.mem_append_left
theorem qai:type_of% @Bool.false_eq_true:=@Bool.false_eq_true
theorem qaj:type_of% @if_pos:=@if_pos
theorem qak:type_of% @List.getElem?_eq_getElem:=@List.getElem?_eq_getElem
theorem qal:type_of% @Bool.or_eq_true:=@Bool.or_eq_true
theorem qam:type_of% @Array.getElem?_setIfInBounds_ne:=@Array.getElem?_setIfInBounds_ne
theorem qan:type_of% @List.mem_cons:=@List.mem_cons
theorem qao:type_of% @Nat.lt_of_lt_of_le:=@Nat.lt_of_lt_of_le
theorem qap:type_of% @List.mem_append_right:=@List.mem_append_right
theorem qaq:type_of% @List.mem_singleton:=@List.mem_singleton
theorem qar:type_of% @Array.ext':=@Array.ext'
theorem qas:type_of% @Array.getElem?_setIfInBounds_self_of_lt:=@Array.getElem?_setIfInBounds_self_of_lt
theorem qat:type_of% @Iff.rfl:=@Iff.rfl
theorem qau:type_of% @Bool.not_eq_true':=@Bool.not_eq_true'
theorem qav:type_of% @Array.getElem?_eq_getElem:=@Array.getElem?_eq_getElem
theorem qaw:type_of% @List.mem_append:=@List.mem_append
theorem qax:type_of% @List.getElem?_eq_some_iff:=@List.getElem?_eq_some_iff
theorem qay:type_of% @Nat.le_of_ble_eq_true:=@Nat.le_of_ble_eq_true
theorem qaz:type_of% @Sem.run_pure:=@Sem.run_pure
theorem qba:type_of% @List.getElem?_append_left:=@List.getElem?_append_left
theorem qbb:type_of% @List.getElem_mem:=@List.getElem_mem
theorem qbc:type_of% @List.length_cons:=@List.length_cons
theorem qbd:type_of% @Nat.le_refl:=@Nat.le_refl
theorem qbe:type_of% @List.getElem?_eq_none:=@List.getElem?_eq_none
theorem qbf:type_of% @Array.getElem?_modify:=@Array.getElem?_modify
theorem qbg:type_of% @UInt8.lt_iff_toNat_lt:=@UInt8.lt_iff_toNat_lt
theorem qbh:type_of% @Array.getElem?_append_left:=@Array.getElem?_append_left
theorem qbi:type_of% @Nat.add_assoc:=@Nat.add_assoc
theorem qbj:type_of% @Nat.zero_add:=@Nat.zero_add
abbrev qW:=World
abbrev qv:=Value
abbrev qV:=List Value
abbrev qT:=TypeId
abbrev qp:=Program
abbrev qg:=Operand
abbrev TV:=BT (Option Value)
def gv(t:TV):Nat->(Value->Prop)->Prop:=
 @BT.rec _ (λ_=>Nat->(Value->Prop)->Prop) (λ_ _=>False)
  (λ_ _ v _ _ ihl ihr n K=> @Nat.rec (λ_=>Prop) (@Option.rec _ (λ_=>Prop) False K v)
   (λm _=> @Bool.rec (λ_=>Prop) (ihr (Nat.div m 2) K) (ihl (Nat.div m 2) K) (Nat.beq (Nat.mod m 2) 0)) n) t
def sv(f:Nat):TV->Nat->Value->(TV->Prop)->Prop:=
 @Nat.rec (λ_=>TV->Nat->Value->(TV->Prop)->Prop) (λ_ _ _ _=>False)
  (λ_ ih t n v K=> @BT.rec _ (λ_=>Prop)
   (@Nat.rec (λ_=>Prop) (K (.node 0 0 (some v) .nil .nil)) (λm _=> @Bool.rec (λ_=>Prop) (ih .nil (Nat.div m 2) v (λr=>K (.node 0 0 none .nil r))) (ih .nil (Nat.div m 2) v (λl=>K (.node 0 0 none l .nil))) (Nat.beq (Nat.mod m 2) 0)) n)
   (λ_ _ u l r _ _=> @Nat.rec (λ_=>Prop) (K (.node 0 0 (some v) l r)) (λm _=> @Bool.rec (λ_=>Prop) (ih r (Nat.div m 2) v (λr=>K (.node 0 0 u l r))) (ih l (Nat.div m 2) v (λl=>K (.node 0 0 u l r))) (Nat.beq (Nat.mod m 2) 0)) n) t) f
def iq(t:TV)(n:Nat)(v:Value)(K:TV->Prop):Prop:=sv (Nat.succ n) t n v K
structure CB where
 vs:TV
 d:Option Value
 n:Nat
 ty:TypeId
 ro:Bool
structure LB where
 st:LoopState
 pend:Option Code
 regs:TV
 n:Nat
 params:List Tmp
 assign:Code
 body:Code
abbrev AB:=Sum CB (Sum (List (Value×Value)) (Sum LB Bool))
abbrev TB:=BT (Option AB)
def gb(t:TB):Nat->(AB->Prop)->Prop:=
 @BT.rec _ (λ_=>Nat->(AB->Prop)->Prop) (λ_ _=>False)
  (λ_ _ v _ _ ihl ihr n K=> @Nat.rec (λ_=>Prop) (@Option.rec _ (λ_=>Prop) False K v)
   (λm _=> @Bool.rec (λ_=>Prop) (ihr (Nat.div m 2) K) (ihl (Nat.div m 2) K) (Nat.beq (Nat.mod m 2) 0)) n) t
def sb(f:Nat):TB->Nat->Option AB->(TB->Prop)->Prop:=
 @Nat.rec (λ_=>TB->Nat->Option AB->(TB->Prop)->Prop) (λ_ _ _ _=>False)
  (λ_ ih t n v K=> @BT.rec _ (λ_=>Prop)
   (@Nat.rec (λ_=>Prop) (K (.node 0 0 v .nil .nil)) (λm _=> @Bool.rec (λ_=>Prop) (ih .nil (Nat.div m 2) v (λr=>K (.node 0 0 none .nil r))) (ih .nil (Nat.div m 2) v (λl=>K (.node 0 0 none l .nil))) (Nat.beq (Nat.mod m 2) 0)) n)
   (λ_ _ u l r _ _=> @Nat.rec (λ_=>Prop) (K (.node 0 0 v l r)) (λm _=> @Bool.rec (λ_=>Prop) (ih r (Nat.div m 2) v (λr=>K (.node 0 0 u l r))) (ih l (Nat.div m 2) v (λl=>K (.node 0 0 u l r))) (Nat.beq (Nat.mod m 2) 0)) n) t) f
def setB(t:TB)(n:Nat)(b:AB)(K:TB->Prop):Prop:=sb (Nat.succ n) t n (some b) K
def yQ(t:TB)(n:Nat)(K:TB->Prop):Prop:=sb (Nat.succ n) t n none K
structure AS where
 h:TB
 nx:Nat
def ok{α:Type}(x:Option α)(K:α->Prop):Prop:= @Option.rec α (λ_=>Prop) False K x
def yes(b:Bool)(K:Prop):Prop:= @Bool.rec (λ_=>Prop) False K b
def bF(b:Bool)(x y:Prop):Prop:= @Bool.rec (λ_=>Prop) y x b
def nat(n:Nat)(K:Nat->Prop):Prop:= @Nat.rec (λ_=>Prop) (K 0) (λm _=>K (Nat.succ m)) n
def int(n:Int)(K:Int->Prop):Prop:= @Int.rec (λ_=>Prop) (λm=>nat m (λm=>K (.ofNat m))) (λm=>nat m (λm=>K (.negSucc m))) n
def zW(b:Bool)(K:Bool->Prop):Prop:= @Bool.rec (λ_=>Prop) (K false) (K true) b
def jW(v:Value)(K:Bool->Prop):Prop:=
 @Value.casesOn (λ_=>Prop) v (K) (λ_ _=>False) (λ_ _=>False) (λ_ _ _=>False) (λ_=>False) (λ_=>False) (λ_ _ _=>False) (λ_=>False) (λ_=>False) (λ_ _ _=>False) False (λ_ _=>False) False (λ_=>False) (λ_=>False)
def jV(v:Value)(K:IntKind->Int->Prop):Prop:=
 @Value.casesOn (λ_=>Prop) v (λ_=>False) (K) (λ_ _=>False) (λ_ _ _=>False) (λ_=>False) (λ_=>False) (λ_ _ _=>False) (λ_=>False) (λ_=>False) (λ_ _ _=>False) False (λ_ _=>False) False (λ_=>False) (λ_=>False)
def lF(v:Value)(K:Nat->Prop):Prop:=
 @Value.casesOn (λ_=>Prop) v (λ_=>False) (λ_ n=> @Int.rec (λ_=>Prop) K (λ_=>False) n) (λ_ _=>False) (λ_ _ _=>False) (λ_=>False) (λ_=>False) (λ_ _ _=>False) (λ_=>False) (λ_=>False) (λ_ _ _=>False) False (λ_ _=>False) False (λ_=>False) (λ_=>False)
def nQ(v:Value)(K:Nat->Nat->Prop):Prop:=
 @Value.casesOn (λ_=>Prop) v (λ_=>False) (λ_ _=>False) (λ_ _=>False) (λ_ _ _=>False) (λ_=>False) (λa=> @Option.rec _ (λ_=>Prop) False (λd=> @Addr.rec (λ_=>Prop) (λi o p=> @Option.rec _ (λ_=>Prop) (K i o) (λ_=>False) p) d) a) (λ_ _ _=>False) (λ_=>False) (λ_=>False) (λ_ _ _=>False) False (λ_ _=>False) False (λ_=>False) (λ_=>False)
def wC(v:Value)(K:List UInt8->Prop):Prop:=
 @Value.casesOn (λ_=>Prop) v (λ_=>False) (λ_ _=>False) (λ_ _=>False) (λ_ _ _=>False) (λs=> @ByteArray.rec (λ_=>Prop) (λd=> @Array.rec _ (λ_=>Prop) K d) s) (λ_=>False) (λ_ _ _=>False) (λ_=>False) (λ_=>False) (λ_ _ _=>False) False (λ_ _=>False) False (λ_=>False) (λ_=>False)
def yl(v:Value)(K:List Value->Prop):Prop:=
 @Value.casesOn (λ_=>Prop) v (λ_=>False) (λ_ _=>False) (λ_ _=>False) (λ_ _ _=>False) (λ_=>False) (λ_=>False) (λ_ _ _=>False) (λ_=>False) (λ_=>False) (λ_ _ _=>False) False (λ_ _=>False) False (λd=> @Array.rec _ (λ_=>Prop) K d) (λ_=>False)
def yj(v:Value)(K:List Value->Prop):Prop:=
 @Value.casesOn (λ_=>Prop) v (λ_=>False) (λ_ _=>False) (λ_ _=>False) (λ_ _ _=>False) (λ_=>False) (λ_=>False) (λ_ _ _=>False) (λ_=>False) (λ_=>False) (λ_ _ _=>False) False (λ_ _=>False) False (λ_=>False) (λd=> @Array.rec _ (λ_=>Prop) K d)
def wE(v:Value)(K:Nat->Prop):Prop:=
 @Value.casesOn (λ_=>Prop) v (λ_=>False) (λ_ _=>False) (λ_ _=>False) (λ_ _ _=>False) (λ_=>False) (λ_=>False) (λ_ _ _=>False) (λr=> @Option.rec _ (λ_=>Prop) False K r) (λ_=>False) (λ_ _ _=>False) False (λ_ _=>False) False (λ_=>False) (λ_=>False)
def je(v:Value)(Ks:Nat->Nat->Nat->Nat->Nat->Prop)(Kn:Prop)(Kp:Nat->Nat->Prop)(Kt:List UInt8->Prop)(Ka:List Value->Prop)(Kl:Prop):Prop:=
 @Value.casesOn (λ_=>Prop) v (λ_=>False) (λ_ _=>False) (λ_ _=>False) (λ_ _ _=>False) (λs=> @ByteArray.rec (λ_=>Prop) (λd=> @Array.rec _ (λ_=>Prop) Kt d) s) (λa=> @Option.rec _ (λ_=>Prop) False (λd=> @Addr.rec (λ_=>Prop) (λi o p=> @Option.rec _ (λ_=>Prop) (Kp i o) (λ_=>False) p) d) a) (λa len cap=> @Option.rec _ (λ_=>Prop) Kn (λd=> @Addr.rec (λ_=>Prop) (λi o p=> @Option.rec _ (λ_=>Prop) False (λsz=>Ks i o sz len cap) p) d) a) (λ_=>False) (λ_=>False) (λf _ _=> @Fn.casesOn (λ_=>Prop) f (λ_=>False) (λ_=>False) (λ_ _=>False) (λ_ _ _ q=> @Bool.rec (λ_=>Prop) False Kl q) (λ_=>False)) False (λ_ _=>False) False (λd=> @Array.rec _ (λ_=>Prop) Ka d) (λ_=>False)
def wB(v:Value)(Kt:List Value->Prop)(Ko:Prop):Prop:=
 @Value.casesOn (λ_=>Prop) v (λ_=>Ko) (λ_ _=>Ko) (λ_ _=>Ko) (λ_ _ _=>Ko) (λ_=>Ko) (λ_=>Ko) (λ_ _ _=>Ko) (λ_=>Ko) (λ_=>Ko)
  (λf a _=> @Fn.casesOn (λ_=>Prop) f (λ_=>Ko) (λ_=>Ko) (λ_ _=>Ko) (λ_ _ _ q=> @Bool.rec (λ_=>Prop) (@Array.rec _ (λ_=>Prop) Kt a) Ko q) (λ_=>Ko)) Ko (λ_ _=>Ko) Ko (λ_=>Ko) (λ_=>Ko)
def zm(v:Value)(Kf:FuncId->List Value->List Value->Prop)(Ky:Nat->Prop):Prop:=
 @Value.casesOn (λ_=>Prop) v (λ_=>False) (λ_ _=>False) (λ_ _=>False) (λ_ _ _=>False) (λ_=>False) (λ_=>False) (λ_ _ _=>False) (λ_=>False) (λ_=>False) (λf a c=> @Fn.casesOn (λ_=>Prop) f (λf=> @Array.rec _ (λ_=>Prop) (λa=> @Array.rec _ (λ_=>Prop) (λc=>Kf f a c) c) a) (λ_=>False) (λ_ _=>False) (λ_ _ _ _=>False) Ky) False (λ_ _=>False) False (λ_=>False) (λ_=>False)
def oP(v:Value)(K:Bool->Prop)(Kn:Prop):Prop:=
 @Value.casesOn (λ_=>Prop) v (K) (λ_ _=>False) (λ_ _=>False) (λ_ _ _=>False) (λ_=>False) (λ_=>False) (λ_ _ _=>False) (λ_=>False) (λ_=>False) (λ_ _ _=>False) False (λ_ _=>False) False (λ_=>False) (λ_=>Kn)
def one:Value->Bool
 | .agg _=>false
 | .tuple _=>false
 | _=>true
def cellsOf:Value->List Value
 | .agg ⟨l⟩=>l
 | v=>[v]
def dw:Value->Bool
 | .bool _=>true
 | .int _ _=>true
 | .string _=>true
 | .pointer none=>true
 | .slice none 0 0=>true
 | .map none=>true
 | .nilFunc=>true
 | .nilIface=>true
 | _=>false
def plain:Value->Bool
 | .agg ⟨l⟩=>l.all dw
 | .tuple ⟨l⟩=>l.all dw
 | v=>dw v
def cst(v:Value)(K:Value->Prop):Prop:=yes (plain v) (K v)
def uQ(x y:Int):Bool:=Int.casesOn x (λa=>Int.casesOn y (λb=>Nat.blt a b) (λ_=>false)) (λa=>Int.casesOn y (λ_=>true) (λb=>Nat.blt b a))
def rX(x y:Int):Bool:=Int.casesOn x (λa=>Int.casesOn y (λb=>Nat.beq a b) (λ_=>false)) (λa=>Int.casesOn y (λ_=>false) (λb=>Nat.beq a b))
def jX:IntKind->Nat
 | .i8=>128
 | .i16=>32768
 | .i32=>2147483648
 | .i64=>9223372036854775808
 | .u8=>256
 | .u16=>65536
 | .u32=>4294967296
 | .u64=>18446744073709551616
def zk(k:IntKind)(n:Int):Int:=Int.casesOn n (λm=>bif Nat.blt m (jX k) then .ofNat m else k.wrap (.ofNat m)) (λm=>k.wrap (.negSucc m))
def zL:IntKind->Nat
 | .i8=>0
 | .i16=>1
 | .i32=>2
 | .i64=>3
 | .u8=>4
 | .u16=>5
 | .u32=>6
 | .u64=>7
def tO(a b:IntKind):Bool:=Nat.beq (zL a) (zL b)
def yL(x y:Int):Int:=Int.casesOn x (λa=>Int.casesOn y (λb=>.ofNat (Nat.add a b)) (λb=>Int.add (.ofNat a) (.negSucc b))) (λa=>Int.add (.negSucc a) y)
abbrev KV:=Value->Prop
def iO(k:IntKind)(n:Int)(K:KV):Prop:=int (zk k n) (λn=>K (.int k n))
def bS(b:Bool)(K:KV):Prop:=zW b (λb=>K (.bool b))
def xu(op:BinOp):IntKind->Int->Int->KV->Prop:=
 @BinOp.rec (λ_=>IntKind->Int->Int->KV->Prop) (λk x y=>iO k (yL x y)) (λk x y=>iO k (Int.sub x y)) (λ_ _ _ _=>False) (λ_ _ _ _=>False) (λ_ _ _ _=>False) (λ_ _ _ _=>False) (λ_ _ _ _=>False) (λ_ _ _ _=>False) (λ_ _ _ _=>False) (λ_ _ _ _=>False) (λ_ _ _ _=>False)
  (λ_ x y=>bS (rX x y)) (λ_ x y=>bS (!rX x y)) (λ_ x y=>bS (uQ x y)) (λ_ x y=>bS (!uQ y x)) (λ_ x y=>bS (uQ y x)) (λ_ x y=>bS (!uQ x y)) op
def vW(op:BinOp)(k:IntKind)(x:Int)(k':IntKind)(y:Int)(K:KV):Prop:=
 yes (tO k k') (xu op k x y K)
def leq(x:List UInt8):List UInt8->(Bool->Prop)->Prop:=
 @List.rec _ (λ_=>List UInt8->(Bool->Prop)->Prop) (λy K=> @List.rec _ (λ_=>Prop) (K true) (λ_ _ _=>K false) y)
  (λa _ ih y K=> @List.rec _ (λ_=>Prop) (K false) (λb y _=>bF (Nat.beq a.toNat b.toNat) (ih y K) (K false)) y) x
def xW(x:List UInt8):List UInt8->(Bool->Prop)->Prop:=
 @List.rec _ (λ_=>List UInt8->(Bool->Prop)->Prop) (λy K=> @List.rec _ (λ_=>Prop) (K false) (λ_ _ _=>K true) y)
  (λa _ ih y K=> @List.rec _ (λ_=>Prop) (K false) (λb y _=>bF (Nat.blt a.toNat b.toNat) (K true) (bF (Nat.beq a.toNat b.toNat) (ih y K) (K false))) y) x
def app(x:List UInt8):List UInt8->(List UInt8->Prop)->Prop:=
 @List.rec _ (λ_=>List UInt8->(List UInt8->Prop)->Prop) (λy K=>K y) (λa _ ih y K=>ih y (λl=>K (a::l))) x
def take(x:List UInt8):Nat->(List UInt8->Prop)->Prop:=
 @List.rec _ (λ_=>Nat->(List UInt8->Prop)->Prop) (λn K=> @Nat.rec (λ_=>Prop) (K []) (λ_ _=>False) n) (λa _ ih n K=> @Nat.rec (λ_=>Prop) (K []) (λm _=>ih m (λl=>K (a::l))) n) x
def drop(x:List UInt8):Nat->(List UInt8->Prop)->Prop:=
 @List.rec _ (λ_=>Nat->(List UInt8->Prop)->Prop) (λn K=> @Nat.rec (λ_=>Prop) (K []) (λ_ _=>False) n) (λa x ih n K=> @Nat.rec (λ_=>Prop) (K (a::x)) (λm _=>ih m K) n) x
def yB(x:List UInt8):Nat->(UInt8->Prop)->Prop:=
 @List.rec _ (λ_=>Nat->(UInt8->Prop)->Prop) (λ_ _=>False) (λa _ ih n K=> @Nat.rec (λ_=>Prop) (K a) (λm _=>ih m K) n) x
def uF(x:List Value):Nat->(Value->Prop)->Prop:=
 @List.rec _ (λ_=>Nat->(Value->Prop)->Prop) (λ_ _=>False) (λa _ ih n K=> @Nat.rec (λ_=>Prop) (K a) (λm _=>ih m K) n) x
def yA(x:List Oper):Nat->(Oper->Prop)->Prop:=
 @List.rec _ (λ_=>Nat->(Oper->Prop)->Prop) (λ_ _=>False) (λa _ ih n K=> @Nat.rec (λ_=>Prop) (K a) (λm _=>ih m K) n) x
def iR(x:List Value):List Value->(List Value->Prop)->Prop:=
 @List.rec _ (λ_=>List Value->(List Value->Prop)->Prop) (λy K=>K y) (λa _ ih y K=>ih y (λl=>K (a::l))) x
def oU(x:List Value):Nat->(List Value->Prop)->Prop:=
 @List.rec _ (λ_=>Nat->(List Value->Prop)->Prop) (λn K=> @Nat.rec (λ_=>Prop) (K []) (λ_ _=>False) n) (λa _ ih n K=> @Nat.rec (λ_=>Prop) (K []) (λm _=>ih m (λl=>K (a::l))) n) x
def sM(x:List Value):Nat->(List Value->Prop)->Prop:=
 @List.rec _ (λ_=>Nat->(List Value->Prop)->Prop) (λn K=> @Nat.rec (λ_=>Prop) (K []) (λ_ _=>False) n) (λa x ih n K=> @Nat.rec (λ_=>Prop) (K (a::x)) (λm _=>ih m K) n) x
def yx(op:BinOp):List UInt8->List UInt8->KV->Prop:=
 @BinOp.rec (λ_=>List UInt8->List UInt8->KV->Prop) (λx y K=>yes (Nat.blt (Nat.add x.length y.length) 1000000000) (app x y (λl=>K (.string ⟨⟨l⟩⟩)))) (λ_ _ _=>False) (λ_ _ _=>False) (λ_ _ _=>False) (λ_ _ _=>False) (λ_ _ _=>False) (λ_ _ _=>False) (λ_ _ _=>False) (λ_ _ _=>False) (λ_ _ _=>False) (λ_ _ _=>False)
  (λx y K=>leq x y (λb=>K (.bool b))) (λx y K=>leq x y (λb=>bS (!b) K)) (λx y K=>xW x y (λb=>K (.bool b))) (λx y K=>xW y x (λb=>bS (!b) K)) (λx y K=>xW y x (λb=>K (.bool b))) (λx y K=>xW x y (λb=>bS (!b) K)) op
def xH(op:BinOp)(b:Bool)(K:KV):Prop:=match op with | .eql=>bS b K | .neq=>bS (!b) K | _=>False
def uP:Operand->Bool
 | .const _=>true
 | _=>false
structure Tab where
 bin:BinOp->Value->Value->Option Value
 conv:IntKind->Value->Option Value
 un:UnOp->Value->Option Value
 byte:Nat->Bool
abbrev bR:=Value->AS->Prop
structure Env where
 bZ:FuncId->Bool
 iK:AS->FuncId->List Value->bR->Prop
 fP:AS->Nat->List Value->bR->Prop
 wL:Bool
def vN(P:Program)(t:TypeId):Bool:=match P.underlying t with | some .bool=>true | _=>false
def ug(P:Program)(t:TypeId):Bool:=match P.underlying t with | some (.pointer _)=>true | _=>false
def fM(P:Program)(t:TypeId):Bool:=match P.underlying t with | some (.slice _)=>true | _=>false
def jh(P:Program)(t:TypeId):Bool:=match P.underlying t with | some .string=>true | _=>false
def jk(P:Program)(t:TypeId):Option IntKind:=match P.underlying t with | some (.int k)=>some k | _=>none
def iV(P:Program)(t:TypeId):Bool:=match P.underlying t with | some _=>true | _=>false
def elemOf(P:Program)(t:TypeId):Option TypeId:=match P.underlying t with | some (.slice e)=>some e | _=>none
def oV(P:Program)(t:TypeId):Option (TypeId×TypeId):=match P.underlying t with | some (.map k e)=>some (k,e) | _=>none
def kZ(P:Program)(t:TypeId):Option (Nat×TypeId):=match P.underlying t with | some (.array n e)=>some (n,e) | _=>none
def structOf(P:Program)(t:TypeId):Option (List Field):=match P.underlying t with | some (.struct fs)=>some fs.toList | _=>none
def isAgg(P:Program)(t:TypeId):Option Bool:=
 match P.underlying t with
 | some (.struct _)=>some true
 | some (.array _ _)=>some true
 | some _=>some false
 | none=>none
def sizeOf(P:Program)(t:TypeId):Option Nat:=match P.info? t with | some i=>some i.size | none=>none
def bytesOf(P:Program)(t:TypeId):Option Nat:=match P.info? t with | some i=>some i.bytes | none=>none
def zeroV(P:Program)(t:TypeId):Option Value:=match P.info? t with | some i=>(match i.zero with | some v=>bif plain v then some v else none | none=>none) | none=>none
def fG(P:Program)(t:TypeId):Option Nat:=match elemOf P t with | some e=>sizeOf P e | none=>none
def fieldAt(P:Program)(t:TypeId)(i:Nat):Option Field:=match structOf P t with | some l=>l[i]? | none=>none
def iG(P:Program)(t:TypeId)(i:Nat):Option Nat:=
 match fieldAt P t i with
 | some f=>(match sizeOf P f.type with | some (_+1)=>some f.offset | _=>none)
 | none=>none
def eT(P:Program)(t:TypeId):Bool:=match elemOf P t with | some e=>(match P.underlying e with | some (.int .u8)=>true | _=>false) | none=>false
def vB(P:Program)(T:Tab)(op:BinOp)(t:TypeId)(cc:Bool)(x y:Value)(K:KV):Prop:=
 match x,y with
 | .pointer none,.pointer none=>yes (ug P t) (xH op true K)
 | .pointer (some _),.pointer none=>yes (ug P t) (xH op false K)
 | _,_=>False
def tY(v:Value)(Ki:IntKind->Int->Prop)(Ks:List UInt8->Prop)(Ko:Prop):Prop:=
 @Value.casesOn (λ_=>Prop) v (λ_=>Ko) Ki (λ_ _=>Ko) (λ_ _ _=>Ko) (λs=> @ByteArray.rec (λ_=>Prop) (λd=> @Array.rec _ (λ_=>Prop) Ks d) s) (λ_=>Ko) (λ_ _ _=>Ko) (λ_=>Ko) (λ_=>Ko) (λ_ _ _=>Ko) Ko (λ_ _=>Ko) Ko (λ_=>Ko) (λ_=>Ko)
def yS(P:Program)(T:Tab)(op:BinOp)(t:TypeId)(cc:Bool)(x y:Value)(K:KV):Prop:=
 tY x (λk a=>tY y (λk' b=>vW op k a k' b K) (λ_=>False) (vB P T op t cc x y K))
  (λa=>wC y (λb=>yx op a b K)) (vB P T op t cc x y K)
def zn(T:Tab)(op:UnOp)(x:Value)(K:KV):Prop:=
 match op,x with
 | .not,.bool b=>bS (!b) K
 | _,_=>False
def NG:Nat:=9
abbrev G:=Nat->KV->Prop
def bL(x:Operand):G->KV->Prop:=
 @Operand.rec (λ_=>G->KV->Prop) (λt g K=>g t K) (λv _ K=>cst v K) (λi _ K=>yes (Nat.blt i NG) (K (.pointer (some ⟨i,0,none⟩)))) (λf _ K=>K (.func (.func f) #[] #[])) x
def lT(l:List Operand):G->(List Value->Prop)->Prop:=
 @List.rec _ (λ_=>G->(List Value->Prop)->Prop) (λ_ K=>K []) (λx _ ih g K=>bL x g (λv=>ih g (λvs=>K (v::vs)))) l
def parts(l:List (Nat×Operand)):G->(List (Nat×Value)->Prop)->Prop:=
 @List.rec _ (λ_=>G->(List (Nat×Value)->Prop)->Prop) (λ_ K=>K []) (λx _ ih g K=>bL x.2 g (λv=>ih g (λvs=>K ((x.1,v)::vs)))) l
def xX(t:TV)(n:Nat)(d:Option Value):KV->Prop:=
 @BT.rec _ (λ_=>Nat->KV->Prop) (λ_ K=>ok d K)
  (λ_ _ v _ _ ihl ihr n K=> @Nat.rec (λ_=>Prop) (@Option.rec _ (λ_=>Prop) (ok d K) K v)
   (λm _=> @Bool.rec (λ_=>Prop) (ihr (Nat.div m 2) K) (ihl (Nat.div m 2) K) (Nat.beq (Nat.mod m 2) 0)) n) t n
def cell(c:CB)(i:Nat)(K:KV):Prop:=yes (Nat.blt i c.n) (xX c.vs i c.d K)
def Ar(b:AB)(K:CB->Prop):Prop:= @Sum.rec _ _ (λ_=>Prop) K (λ_=>False) b
def zY(b:AB)(K:List (Value×Value)->Prop):Prop:= @Sum.rec _ _ (λ_=>Prop) (λ_=>False) (λx=> @Sum.rec _ _ (λ_=>Prop) K (λ_=>False) x) b
def yT(b:AB)(K:LB->Prop):Prop:= @Sum.rec _ _ (λ_=>Prop) (λ_=>False) (λx=> @Sum.rec _ _ (λ_=>Prop) (λ_=>False) (λx=> @Sum.rec _ _ (λ_=>Prop) K (λ_=>False) x) x) b
def zZ(b:AB)(K:Bool->Prop):Prop:= @Sum.rec _ _ (λ_=>Prop) (λ_=>False) (λx=> @Sum.rec _ _ (λ_=>Prop) (λ_=>False) (λx=> @Sum.rec _ _ (λ_=>Prop) (λ_=>False) K x) x) b
def kS(h:TB)(id:Nat)(K:CB->Prop):Prop:=gb h id (λb=>Ar b K)
def cells(k:Nat):CB->Nat->(List Value->Prop)->Prop:=
 @Nat.rec (λ_=>CB->Nat->(List Value->Prop)->Prop) (λ_ _ K=>K []) (λ_ ih c i K=>cell c i (λv=>ih c (Nat.succ i) (λl=>K (v::l)))) k
def ku(l:List Value):TV->Nat->(TV->Prop)->Prop:=
 @List.rec _ (λ_=>TV->Nat->(TV->Prop)->Prop) (λt _ K=>K t) (λv _ ih t i K=>yes (one v) (iq t i v (λt=>ih t (Nat.succ i) K))) l
def rD(P:Program)(h:TB)(t:TypeId)(id off:Nat)(K:KV):Prop:=
 kS h id (λc=>ok (isAgg P t) (λa=>bF a (ok (sizeOf P t) (λn=>cells n c off (λl=>K (.agg ⟨l⟩)))) (cell c off K)))
abbrev KS:=AS->Prop
def wr(s:AS)(id:Nat)(c:CB)(off:Nat)(l:List Value)(K:KS):Prop:=
 yes (!c.ro&&Nat.ble (Nat.add off l.length) c.n) (ku l c.vs off (λvs=>setB s.h id (.inl ⟨vs,c.d,c.n,c.ty,false⟩) (λh=>K ⟨h,s.nx⟩)))
def oZ(P:Program)(s:AS)(t:TypeId)(id off:Nat)(v:Value)(K:KS):Prop:=
 kS s.h id (λc=>ok (sizeOf P t) (λk=>yes (Nat.beq (cellsOf v).length k) (wr s id c off (cellsOf v) K)))
def iP(s:AS)(b:AB)(K:KS):Prop:=setB s.h s.nx b (λh=>nat (Nat.succ s.nx) (λn=>K ⟨h,n⟩))
def oh(s:AS)(ty:TypeId)(l:List Value)(K:KS):Prop:=ku l .nil 0 (λvs=>nat l.length (λn=>iP s (.inl ⟨vs,none,n,ty,false⟩) K))
def fill(l:List (Nat×Value)):(Nat->Option (Nat×Nat))->List Value->(List Value->Prop)->Prop:=
 @List.rec _ (λ_=>(Nat->Option (Nat×Nat))->List Value->(List Value->Prop)->Prop) (λ_ cs K=>K cs)
  (λp _ ih place cs K=>ok (place p.1) (λq=>yes (Nat.beq (cellsOf p.2).length q.2) (oU cs q.1 (λa=>sM cs (Nat.add q.1 q.2) (λb=>iR (cellsOf p.2) b (λb=>iR a b (λcs=>ih place cs K))))))) l
def places(P:Program):List Field->Option (List (Nat×Nat))
 | []=>some []
 | f::rest=>match sizeOf P f.type with
  | some n=>(match places P rest with | some l=>some ((f.offset,n)::l) | none=>none)
  | none=>none
def placesOf(P:Program)(t:TypeId):Option (List (Nat×Nat)):=match structOf P t with | some fs=>places P fs | none=>none
def wV(l:List (Nat×Nat))(i:Nat):Option (Nat×Nat):=l[i]?
def rep(n:Nat):List Value->(List Value->Prop)->Prop:=
 @Nat.rec (λ_=>List Value->(List Value->Prop)->Prop) (λ_ K=>K []) (λ_ ih l K=>ih l (λr=>iR l r K)) n
def xL(P:Program)(t:TypeId)(ps:List (Nat×Value))(K:KV):Prop:=
 ok (zeroV P t) (λz=> @Option.rec _ (λ_=>Prop) (ok (kZ P t) (λa=>ok (sizeOf P a.2) (λsz=>fill ps (λi=>some (Nat.mul i sz,sz)) (cellsOf z) (λl=>K (.agg ⟨l⟩)))))
  (λpl=>fill ps (wV pl) (cellsOf z) (λl=>K (.agg ⟨l⟩))) (placesOf P t))
def part(P:Program)(t:TypeId)(cs:List Value)(off:Nat)(K:KV):Prop:=
 ok (isAgg P t) (λa=>bF a (ok (sizeOf P t) (λn=>sM cs off (λl=>oU l n (λl=>K (.agg ⟨l⟩))))) (uF cs off K))
def wm(v:Value)(K:UInt8->Prop):Prop:=jV v (λk n=>yes (tO k .u8) (@Int.rec (λ_=>Prop) (λn=>yes (Nat.blt n 256) (K (UInt8.ofNat n))) (λ_=>False) n))
def bytes(l:List Value):(List UInt8->Prop)->Prop:=
 @List.rec _ (λ_=>(List UInt8->Prop)->Prop) (λK=>K []) (λv _ ih K=>wm v (λb=>ih (λbs=>K (b::bs)))) l
def uE(l:List UInt8):(List Value->Prop)->Prop:=
 @List.rec _ (λ_=>(List Value->Prop)->Prop) (λK=>K []) (λb _ ih K=>nat b.toNat (λn=>ih (λvs=>K (.int .u8 (.ofNat n)::vs)))) l
abbrev LK:=Program->Tab->Env->AS->G->bR->Prop
def rQ(t:TypeId)(a:Operand):LK:=λP _ _ s g K=>bL a g (λv=>nQ v (λid off=>rD P s.h t id off (λv=>K v s)))
def rJ(c a b:Operand):LK:=λ_ _ _ s g K=>bL c g (λv=>jW v (λt=>bF t (bL a g (λv=>K v s)) (bL b g (λv=>K v s))))
def isSet(v:Value):Bool:=match v with | .pointer (some _)=>true | .func (.func _) _ _=>true | _=>false
def wZ(x:Operand):LK:=λ_ _ _ s g K=>bL x g (λv=>yes (isSet v) (K v s))
def xm(op:BinOp)(t:TypeId)(x y:Operand)(_:TypeId):LK:=λP T _ s g K=>bL x g (λa=>bL y g (λb=>yS P T op t (uP x||uP y) a b (λv=>K v s)))
def zJ(op:UnOp)(_:TypeId)(x:Operand):LK:=λ_ T _ s g K=>bL x g (λv=>zn T op v (λv=>K v s))
def isNum(v:Value):Bool:=match v with | .int _ _=>true | _=>false
def mO(T:Tab)(h:TB)(id off len:Nat)(K:KV):Prop:=kS h id (λc=>cells len c off (λl=>bF (l.all isNum) (bytes l (λbs=>K (.string ⟨⟨bs⟩⟩))) False))
def nJ(P:Program)(T:Tab)(h:TB)(src dst:TypeId)(v:Value)(K:KV):Prop:=
 match v with
 | .int _ n=>ok (jk P dst) (λk=>yes (iV P src) (iO k n K))
 | .slice (some ⟨id,off,_⟩) len _=>yes (eT P src&&jh P dst) (mO T h id off len K)
 | _=>False
def mkS(id off sz len cap:Nat):Value:=.slice (some ⟨id,off,some sz⟩) len cap
def vU(src dst:TypeId)(x:Operand):LK:=λP T _ s g K=>bL x g (λv=>bF (eT P dst) False (nJ P T s.h src dst v (λv=>K v s)))
def rR(fn:Fn)(a c:Array Operand):LK:=λ_ _ _ s g K=>match fn with
 | .func f=>lT a.toList g (λx=>lT c.toList g (λy=>K (.func (.func f) ⟨x⟩ ⟨y⟩) s))
 | _=>False
def wW(x:Option Operand)(d:Nat)(g:G)(K:Nat->Prop):Prop:= @Option.rec _ (λ_=>Prop) (nat d K) (λo=>bL o g (λv=>lF v K)) x
def wK(s:List UInt8)(l h:Nat)(K:KV):Prop:=yes (Nat.ble l h) (drop s l (λs=>take s (Nat.sub h l) (λs=>K (.string ⟨⟨s⟩⟩))))
def lW(t:TypeId)(x:Operand)(lo hi mx:Option Operand):LK:=λP _ _ s g K=>
 yes mx.isNone (bL x g (λv=>wW lo 0 g (λa=>je v
  (λ_ _ _ _ _=>False) False (λ_ _=>False)
  (λq=>yes (jh P t) (wW hi q.length g (λb=>wK q a b (λv=>K v s))))
  (λ_=>False) False)))
def jD(t:TypeId)(x:Operand)(f:Nat):LK:=λP _ _ s g K=>bL x g (λv=>nQ v (λid off=>ok (iG P t f) (λk=>nat (Nat.add off k) (λo=>K (.pointer (some ⟨id,o,none⟩)) s))))
def lY(t:TypeId)(x:Operand)(f:Nat):LK:=λP _ _ s g K=>bL x g (λv=>yl v (λcs=>ok (fieldAt P t f) (λfd=>part P fd.type cs fd.offset (λv=>K v s))))
def jC(t:TypeId)(x ix:Operand):LK:=λP _ _ s g K=>
 bL ix g (λw=>lF w (λi=>bL x g (λv=>je v
  (λid off sz len _=>ok (fG P t) (λn=>yes (Nat.beq n sz&&Nat.blt i len) (nat (Nat.add off (Nat.mul i sz)) (λo=>K (.pointer (some ⟨id,o,none⟩)) s))))
  False
  (λid off=>ok (kZ P t) (λar=>ok (sizeOf P ar.2) (λsz=>yes (Nat.blt i ar.1) (nat (Nat.add off (Nat.mul i sz)) (λo=>K (.pointer (some ⟨id,o,none⟩)) s)))))
  (λ_=>False) (λ_=>False) False)))
def lX(t:TypeId)(x ix:Operand):LK:=λP _ _ s g K=>
 bL ix g (λw=>lF w (λi=>bL x g (λv=>wB v (λl=>yes (jh P t) (uF l i (λb=>K b s))) <| je v (λ_ _ _ _ _=>False) False (λ_ _=>False)
  (λq=>yes (jh P t) (yB q i (λb=>nat b.toNat (λn=>K (.int .u8 (.ofNat n)) s))))
  (λcs=>ok (kZ P t) (λar=>ok (sizeOf P ar.2) (λsz=>yes (Nat.blt i ar.1) (part P ar.2 cs (Nat.mul i sz) (λv=>K v s))))) False)))
def rW(k a:Value)(K:Bool->Prop):Prop:=
 tY k (λkx x=>jV a (λky y=>yes (tO kx ky) (zW (rX x y) K))) (λx=>wC a (λy=>leq x y K)) False
def eP(P:Program)(t:TypeId)(k:Value):Bool:=
 match k with
 | .string _=>jh P t
 | .int _ _=>(jk P t).isSome
 | _=>false
def sH(l:List (Value×Value)):Value->(Value->Prop)->Prop->Prop:=
 @List.rec _ (λ_=>Value->(Value->Prop)->Prop->Prop) (λ_ _ Kn=>Kn) (λp _ ih k K Kn=>rW k p.1 (λb=>bF b (K p.2) (ih k K Kn))) l
def rP(t:TypeId)(x ix:Operand)(c:Bool):LK:=λP _ _ s g K=>
 bL x g (λv=>wE v (λid=>bL ix g (λk=>ok (oV P t) (λke=>yes (eP P ke.1 k) (gb s.h id (λb=>zY b (λes=>
  sH es k (λv=>bF c (K (.tuple #[v,.bool true]) s) (K v s)) (ok (zeroV P ke.2) (λz=>bF c (K (.tuple #[z,.bool false]) s) (K z s))))))))))
def iD(t:Operand)(i:Nat):LK:=λ_ _ _ s g K=>bL t g (λv=>yj v (λvs=>uF vs i (λv=>K v s)))
def jE(t:TypeId)(ps:Array (Nat×Operand)):LK:=λP _ _ s g K=>parts ps.toList g (λps=>xL P t ps (λv=>K v s))
def lenV(P:Program)(t:TypeId)(v:Value)(K:Nat->Prop):Prop:=
 wB v (λl=>yes (jh P t) (nat l.length K)) <| je v (λ_ _ _ n _=>yes (fM P t) (K n)) (yes (fM P t) (K 0)) (λ_ _=>False) (λs=>yes (jh P t) (nat s.length K)) (λ_=>False) False
def min2(a b:Value)(K:KV):Prop:=jV a (λk x=>jV b (λk' y=>yes (tO k k') (bF (uQ y x) (K (.int k y)) (K (.int k x)))))
def og{α:Type}(l:List α)(K:α->Prop):Prop:=match l with | [x]=>K x | _=>False
def two{α:Type}(l:List α)(K:α->α->Prop):Prop:=match l with | [a,b]=>K a b | _=>False
def sD{α:Type}(l:List α)(K:α->α->Prop):Prop:=match l with | a::b::_=>K a b | _=>False
def xg(args:Array Operand)(ts:Array TypeId):LK:=λP _ _ s g K=>og args.toList (λx=>og ts.toList (λt=>bL x g (λv=>lenV P t v (λn=>K (.int .i64 (.ofNat n)) s))))
def w9(args:Array Operand):LK:=λ_ _ _ s g K=>two args.toList (λa b=>bL a g (λx=>bL b g (λy=>min2 x y (λv=>K v s))))
def wX(s:AS)(ty:TypeId)(l:List Value)(K:bR):Prop:=oh s ty l (λs'=>K (.pointer (some ⟨s.nx,0,none⟩)) s')
def l5(t:TypeId):LK:=λP _ _ s _ K=>ok (zeroV P t) (λz=>wX s t (cellsOf z) K)
def yJ(t:TypeId)(x:Operand):LK:=λ_ _ _ s g K=>bL x g (λv=>wX s t (cellsOf v) K)
def uM(s:AS)(e:TypeId)(len sz:Nat)(ps:List (Nat×Value))(z:List Value)(K:bR):Prop:=
 yes (Nat.beq z.length sz&&Nat.ble (Nat.mul len sz) 16777216&&Nat.blt 0 (Nat.mul len sz)) (rep len z (λzs=>fill ps (λi=>some (Nat.mul i sz,sz)) zs (λcs=>oh s e cs (λs'=>K (mkS s.nx 0 sz len (Nat.succ len)) s'))))
def rV(t:TypeId)(len:Nat)(ps:Array (Nat×Operand)):LK:=λP _ _ s g K=>
 ok (elemOf P t) (λe=>parts ps.toList g (λps=>ok (sizeOf P e) (λsz=>ok (zeroV P e) (λz=>uM s e len sz ps (cellsOf z) K))))
def rO(s:AS)(K:bR):Prop:=iP s (.inr (.inl [])) (λs'=>K (.map (some s.nx)) s')
def yG(t:TypeId)(r:Option Operand):LK:=λP _ _ s g K=> @Option.rec _ (λ_=>Prop) (rO s K) (λx=>ok (oV P t) (λ_=>bL x g (λv=>jV v (λ_ _=>rO s K)))) r
def rH(t:TypeId)(a x:Operand):LK:=λP _ _ s g K=>bL a g (λp=>nQ p (λid off=>bL x g (λv=>oZ P s t id off v (λs=>K (.tuple #[]) s))))
def wG(l:List (Value×Value)):Value->Value->(List (Value×Value)->Prop)->Prop:=
 @List.rec _ (λ_=>Value->Value->(List (Value×Value)->Prop)->Prop) (λk v K=>K [(k,v)]) (λp l ih k v K=>rW k p.1 (λb=>bF b (K ((k,v)::l)) (ih k v (λl=>K (p::l))))) l
def yE(t:TypeId)(m k x:Operand):LK:=λP _ _ s g K=>
 bL m g (λmv=>wE mv (λid=>bL k g (λkv=>bL x g (λv=>ok (oV P t) (λke=>yes (eP P ke.1 kv) (gb s.h id (λb=>zY b (λes=>wG es kv v (λes=>setB s.h id (.inr (.inl es)) (λh=>K (.tuple #[]) ⟨h,s.nx⟩))))))))))
def most(len:Nat)(m:Option Nat)(K:Nat->Prop):Prop:= @Option.rec _ (λ_=>Prop) (K len) (λn=>bF (Nat.ble len n) (K len) (K n)) m
def o7(s:AS)(sz:Nat)(m:Option Nat)(v:Value)(K:Nat->List Value->Prop):Prop:=
 je v (λid off sz' len _=>most len m (λn=>yes (Nat.beq sz sz') (kS s.h id (λc=>cells (Nat.mul n sz) c off (λl=>K n l)))))
  (K 0 []) (λ_ _=>False) (λbs=>most bs.length m (λn=>yes (Nat.beq sz 1) (take bs n (λbs=>uE bs (λl=>nat n (λn=>K n l)))))) (λ_=>False) (K 0 [])
def grow(s:AS)(ty:TypeId)(mo id:Nat)(c:CB)(off sz len m:Nat)(new:List Value)(dead:Bool)(K:bR):Prop:=
 yes (Nat.ble (Nat.add off (Nat.mul len sz)) c.n&&!c.ro&&Nat.beq c.ty ty&&Nat.blt (Nat.mul (Nat.add len m) mo) 1000000000&&Nat.blt (Nat.add len m) 1000000000) (nat (Nat.mul (Nat.add len m) sz) (λn=>nat (Nat.add len m) (λlen'=>
  (λ(K':TV->Prop)=>bF (Nat.beq off 0) (ku new c.vs (Nat.mul len sz) K') (cells (Nat.mul len sz) c off (λold=>iR old new (λl=>ku l .nil 0 K'))))
   (λvs=>(λ(K':TB->Prop)=>bF dead (yQ s.h id K') (K' s.h)) (λh=>iP ⟨h,s.nx⟩ (.inl ⟨vs,c.d,n,ty,false⟩) (λs'=>K (mkS s.nx 0 sz len' 0) s'))))))
def Aa(s:AS)(ty:TypeId)(mo sz id off len cap m:Nat)(new:List Value)(K:bR):Prop:=
 kS s.h id (λc=> @Nat.rec (λ_=>Prop) (grow s ty mo id c off sz len m new true K)
  (λk _=>bF (Nat.ble (Nat.add len m) k) (wr s id c (Nat.add off (Nat.mul len sz)) new (λs'=>nat (Nat.add len m) (λn=>K (mkS id off sz n (Nat.succ k)) s'))) (grow s ty mo id c off sz len m new false K)) cap)
def Ac(s:AS)(ty:TypeId)(mo sz m:Nat)(new:List Value)(K:bR):Prop:=
 bF (Nat.beq m 0) (K (.slice none 0 0) s) (yes (Nat.blt (Nat.mul m mo) 1000000000&&Nat.blt m 1000000000) (oh s ty new (λs'=>K (mkS s.nx 0 sz m 0) s')))
def yU(s:AS)(ty:TypeId)(mo sz:Nat)(x:Value)(m:Nat)(new:List Value)(K:bR):Prop:=
 yes (Nat.beq new.length (Nat.mul m sz)&&Nat.blt 0 sz) (je x (λid off sz' len cap=>yes (Nat.beq sz sz') (Aa s ty mo sz id off len cap m new K)) (Ac s ty mo sz m new K) (λ_ _=>False) (λ_=>False) (λ_=>False) False)
def nC(args:Array Operand)(ts:Array TypeId):LK:=λP _ _ s g K=>
 two args.toList (λa b=>sD ts.toList (λt t'=>bL a g (λx=>bL b g (λy=>ok (elemOf P t) (λel=>ok (sizeOf P el) (λsz=>ok (bytesOf P el) (λmo=>ok (zeroV P el) (λz=>yes (Nat.beq (cellsOf z).length sz)
  (bF (jk P t').isSome False (yes (iV P t') (o7 s sz none y (λm new=>yU s el mo sz x m new K))))))))))))
def aY:LK:=λ_ _ _ _ _ _=>False
def kJ(b:Builtin)(args:Array Operand)(ts:Array TypeId):LK:=
 match b with
 | .append=>nC args ts
 | .len=>xg args ts
 | .min=>w9 args
 | _=>aY
def rU(f:Operand)(args:Array Operand):LK:=λ_ _ e s g K=>
 bL f g (λv=>lT args.toList g (λa9=>zm v (λf a c=>iR a9 c (λr=>iR a r (λr=>e.iK s f r K))) (λr=>e.fP s r a9 K)))
def vV(c:Call):LK:= @Callee.rec (λ_=>LK) (λf=>rU f c.args) (λ_ _=>aY) (λb=>kJ b c.args c.argTypes) c.callee
def nA(o:Op):LK:=
 @Op.rec (λ_=>LK) (λx _ _ _ s g K=>bL x g (λv=>K v s)) (λx _ _ _ s g K=>bL x g (λv=>K v s)) rJ l5 yJ jE rV (λ_ _ _ _=>aY) rQ rH (λ_=>aY) (λ_=>aY) wZ xm zJ vU (λ_ _=>aY) (λ_ _=>aY) rR yG (λ_ _=>aY) (λ_ _ _=>aY) lW jD lY jC lX rP yE (λ_ _ _=>aY) (λ_ _ _ _=>aY) (λ_ _=>aY) (λ_ _=>aY) (λ_=>aY) (λ_ _ _ _=>aY) iD vV (λ_=>aY) (λ_=>aY) (λ_=>aY) (λ_ _=>aY) (λ_ _ _=>aY) (λ_ _=>aY) o
structure AA where
 regs:TV
 n:Nat
 defers:List Deferred
abbrev KA:=AA->AS->Prop
def cZ(all:List Oper)(g:G)(o:Oper)(Kt Kf:Prop):Prop:=
 @Option.rec _ (λ_=>Prop) Kt (λjw=>yA all jw.1 (λp=>ok p.dst (λt=>g t (λv=>oP v (λb=>bF b (bF jw.2 Kt Kf) (bF jw.2 Kf Kt)) Kf)))) o.guard
def y8(l:List Deferred)(K:List Deferred->Prop):Prop:= @List.rec _ (λ_=>Prop) (K []) (λx l _=>K (x::l)) l
def dB(a:AA)(dst:Option Tmp)(v:Value)(K:AA->Prop):Prop:= @Option.rec _ (λ_=>Prop) (K a) (λd=>nat a.n (λn=>yes (Nat.blt d n) (y8 a.defers (λdf=>iq a.regs d v (λt=>K ⟨t,n,df⟩))))) dst
def gW(o:Op):Option Call:=match o with | .defer c=>some c | _=>none
def lZ(c:Call)(e:Env)(a:AA)(K:AA->Prop):Prop:=
 yes (!e.wL) (match c.callee with
  | .value f=>bL f (gv a.regs) (λv=>lT c.args.toList (gv a.regs) (λa9=>match v with
   | .func (.func f) ⟨x⟩ c=>K ⟨a.regs,a.n,{target:=.fn (.func f) c,args:=⟨x++a9⟩}::a.defers⟩
   | _=>False))
  | _=>False)
def yN(o:Oper)(P:Program)(T:Tab)(e:Env)(a:AA)(s:AS)(K:KA):Prop:=
 @Option.rec _ (λ_=>Prop) (nA o.op P T e s (gv a.regs) (λv s=>dB a o.dst v (λa=>K a s))) (λc=>lZ c e a (λa=>dB a o.dst (.tuple #[]) (λa=>K a s))) (gW o.op)
def gz(l:List Oper):Program->Tab->Env->List Oper->AA->AS->KA->Prop:=
 @List.rec _ (λ_=>Program->Tab->Env->List Oper->AA->AS->KA->Prop) (λ_ _ _ _ a s K=>K a s)
  (λo _ ih P T e all a s K=>cZ all (gv a.regs) o (yN o P T e a s (λa s=>ih P T e all a s K)) (dB a o.dst (.tuple #[]) (λa=>ih P T e all a s K))) l
abbrev KX:=Exit->AA->AS->Prop
abbrev CK:=Program->Tab->Env->AA->AS->KA->KX->Prop
def jJ(n:Nat):(AA->AS->KA->KX->Prop)->AA->AS->KX->Prop:=
 @Nat.rec (λ_=>(AA->AS->KA->KX->Prop)->AA->AS->KX->Prop) (λ_ _ _ _=>False) (λ_ ih f a s Kx=>f a s (λa s=>ih f a s Kx) Kx) n
def tq(id:Nat)(Kn:KA)(Kx:KX):KX:=λx a s=>match x with
 | .exit i=>bF (Nat.beq i id) (Kn a s) (Kx (.exit i) a s)
 | _=>Kx x a s
def zX(c:Option Code)(a:AA)(s:AS)(Kn:KA)(Kx:KX):Prop:=
 match c with
 | none=>Kn a s
 | some .ret=>Kx .ret a s
 | some (.exit id)=>Kx (.exit id) a s
 | _=>False
def kG(r:LB):Bool:=match r.st with | .busy=>false | _=>true
def endLoop(s:AS)(l:Nat)(K:Option Code->AS->Prop):Prop:=
 gb s.h l (λb=>yT b (λr=>yes (kG r) (setB s.h l (.inr (.inr (.inl ⟨.exhausted,r.pend,r.regs,r.n,r.params,r.assign,r.body⟩))) (λh=>K r.pend ⟨h,s.nx⟩))))
def mP(e:Env)(a:AA)(s:AS)(v:Value)(params:List Tmp)(assign body:Code)(Kn:KA)(Kx:KX):Prop:=
 zm v (λf x c=>iP s (.inr (.inr (.inl ⟨.ready,none,a.regs,a.n,params,assign,body⟩))) (λs'=>iR x (.func (.yield s.nx) #[] #[]::c) (λr=>e.iK s' f r (λ_ s'=>endLoop s' s.nx (λp s'=>zX p a s' Kn Kx))))) (λ_=>False)
def uZ(f:Operand)(params:Array Tmp)(assign body:Code):CK:=λ_ _ e a s Kn Kx=>
 bL f (gv a.regs) (λv=>bF e.wL False
  (iP s (.inr (.inr (.inr false))) (λs'=>mP e ⟨a.regs,a.n,{target:=.collected s.nx,args:= #[]}::a.defers⟩ s' v params.toList assign body Kn Kx)))
def pI:Builtin->Bool
 | .len=>true
 | .cap=>true
 | .min=>true
 | _=>false
def bA(P:Program):Op->Bool
 | .move _=>true
 | .assign _=>true
 | .pick _ _ _=>true
 | .build _ _=>true
 | .load _ _=>true
 | .nilCheck _=>true
 | .binOp _ _ _ _ _=>true
 | .unOp _ _ _=>true
 | .convert _ d _=>!eT P d
 | .makeInterface _ _=>true
 | .makeFunc _ _ _=>true
 | .slice _ _ _ _ _=>true
 | .fieldAddr _ _ _=>true
 | .field _ _ _=>true
 | .indexAddr _ _ _=>true
 | .index _ _ _=>true
 | .lookup _ _ _ _=>true
 | .typeAssert _ _ _ _=>true
 | .extract _ _=>true
 | .call c=>match c.callee with | .builtin b=>pI b | _=>false
 | _=>false
def tH(P:Program)(o:Oper):Bool:=o.guard.isNone&&(match o.op with | .alloc t=>(zeroV P t).isSome | _=>false)
structure Step where
 o:Oper
 i:Nat
 q:Bool
 al:Bool
 mask:Nat
 reads:List Tmp
def q9:List Nat->Nat->Nat
 | [],_=>0
 | a::_,0=>a
 | _::l,n+1=>q9 l n
def bQ(g:Ground):Bool:=match g with
 | .textOnly _=>false
 | .gcOnly _=>false
 | _=>true
def bM(acc:List Nat):List Edge->Nat
 | []=>0
 | e::l=>bif bQ e.ground then Nat.lor (Nat.lor (Nat.pow 2 e.on) (q9 acc e.on)) (bM acc l) else bM acc l
def tmpsOf:List Operand->List Tmp
 | []=>[]
 | .tmp t::l=>t::tmpsOf l
 | _::l=>tmpsOf l
def vZ:List Oper->Nat->List Tmp
 | [],_=>[]
 | o::_,0=>o.dst.toList
 | _::l,n+1=>vZ l n
def readsOf(all:List Oper)(o:Oper):List Tmp:=(match o.guard with | some (j,_)=>vZ all j | none=>[])++tmpsOf o.op.operands.toList
def cK(P:Program)(all:List Oper):List Oper->Nat->List Nat->List Step
 | [],_,_=>[]
 | o::l,i,acc=>⟨o,i,bA P o.op,tH P o,bM acc o.after.toList,readsOf all o⟩::cK P all l (Nat.succ i) (acc++[bM acc o.after.toList])
def sub(m d:Nat):Bool:=Nat.beq (Nat.land m d) m
def has(d i:Nat):Bool:=Nat.beq (Nat.land (Nat.shiftRight d i) 1) 1
def iZ(want:Step->Bool)(d:Nat):List Step->Option Step
 | []=>none
 | s::l=>bif !has d s.i&&sub s.mask d&&want s then some s else iZ want d l
def p9(d:Nat)(l:List Step):Option Step:=match iZ (λs=>s.q) d l with
 | some s=>some s
 | none=>match iZ (λs=>!s.al) d l with
  | some s=>some s
  | none=>iZ (λ_=>true) d l
def jq(l:List Step):Nat->Nat->List Step
 | 0,_=>[]
 | n+1,d=>match p9 d l with
  | none=>[]
  | some s=>s::jq l n (Nat.lor d (Nat.pow 2 s.i))
def chk(n:Nat):List Step->Nat->Nat->Bool
 | [],d,_=>Nat.beq d (Nat.sub (Nat.pow 2 n) 1)
 | s::l,d,lm=>!has d s.i&&sub s.mask d&&(sub lm s.mask||s.al)&&chk n l (Nat.lor d (Nat.pow 2 s.i)) (bif s.q then lm else Nat.lor lm (Nat.pow 2 s.i))
def lg{α:Type}(p:α->Bool):List α->Bool
 | []=>true
 | a::l=>p a&&lg p l
def memT(t:Nat):List Nat->Bool
 | []=>false
 | a::l=>Nat.beq a t||memT t l
def dR(a b:Step):Bool:=Nat.beq a.i b.i||(lg (λt=>!memT t b.o.dst.toList) a.o.dst.toList&&(has b.mask a.i||has a.mask b.i||(lg (λt=>!memT t b.reads) a.o.dst.toList&&lg (λt=>!memT t a.reads) b.o.dst.toList)))
def p8(n:Nat)(l:List Step):Bool:=chk n l 0 0&&lg (λa=>lg (dR a) l) l
def iB(P:Program)(ops:List Oper):List Step:=jq (cK P ops ops 0 []) ops.length 0
def xy(t:TV):Nat->Prop->(Value->Prop)->Prop:=
 @BT.rec _ (λ_=>Nat->Prop->(Value->Prop)->Prop) (λ_ K0 _=>K0)
  (λ_ _ v _ _ ihl ihr n K0 K=> @Nat.rec (λ_=>Prop) (@Option.rec _ (λ_=>Prop) K0 K v)
   (λm _=> @Bool.rec (λ_=>Prop) (ihr (Nat.div m 2) K0 K) (ihl (Nat.div m 2) K0 K) (Nat.beq (Nat.mod m 2) 0)) n) t
def small(l:List Tmp):TV->TV->(TV->Prop)->Prop:=
 @List.rec _ (λ_=>TV->TV->(TV->Prop)->Prop) (λ_ t K=>K t) (λx _ ih r t K=>xy r x (ih r t K) (λv=>iq t x v (λt=>ih r t K))) l
def vQ(a b:Option Nat):Bool:=match a with
 | none=>b.isNone
 | some i=>match b with | none=>false | some j=>Nat.beq i j
def xV(a b:Option Addr):Bool:=match a with
 | none=>b.isNone
 | some x=>match b with | none=>false | some y=>Nat.beq x.1 y.1&&Nat.beq x.2 y.2&&vQ x.3 y.3
def oq:List UInt8->List UInt8->Bool
 | [],[]=>true
 | a::l,b::m=>Nat.beq a.toNat b.toNat&&oq l m
 | _,_=>false
def pU(x:Bool):Value->Bool
 | .bool y=>bif x then y else !y
 | _=>false
def wU(k:IntKind)(n:Int):Value->Bool
 | .int k' n'=>tO k k'&&rX n n'
 | _=>false
def wR(x:List UInt8):Value->Bool
 | .string y=>oq x y.data.toList
 | _=>false
def wS(a:Option Addr):Value->Bool
 | .pointer b=>xV a b
 | _=>false
def lQ(a:Option Addr)(l c:Nat):Value->Bool
 | .slice a' l' c'=>xV a a'&&Nat.beq l l'&&Nat.beq c c'
 | _=>false
def uC(a b:Option Nat):Bool:=match a with
 | none=>b.isNone
 | some i=>match b with | none=>false | some j=>Nat.beq i j
def wT(a:Option Nat):Value->Bool
 | .map b=>uC a b
 | _=>false
def pO:Value->Bool
 | .nilFunc=>true
 | _=>false
def pK:Value->Bool
 | .nilIface=>true
 | _=>false
def wQ(x:List Value):Value->Bool
 | .tuple a=>x.isEmpty&&a.toList.isEmpty
 | _=>false
def Aq:FloatKind->Nat
 | .f32=>0
 | .f64=>1
def iA(k:FloatKind)(re im:Nat):Value->Bool
 | .complex k' re' im'=>Nat.beq (Aq k) (Aq k')&&Nat.beq re re'&&Nat.beq im im'
 | _=>false
def tV(a b:Value):Bool:=match a with
 | .complex k re im=>iA k re im b
 | .bool x=>pU x b
 | .int k n=>wU k n b
 | .string x=>wR x.data.toList b
 | .pointer x=>wS x b
 | .slice x l c=>lQ x l c b
 | .map x=>wT x b
 | .nilFunc=>pO b
 | .nilIface=>pK b
 | .tuple x=>wQ x.toList b
 | _=>false
def all2(p:Value->Value->Bool):List Value->List Value->Bool
 | [],[]=>true
 | a::l,b::m=>p a b&&all2 p l m
 | _,_=>false
def vD(x y:Bool):Bool:=bif x then y else !y
def fQ:List FieldStep->List FieldStep->Bool
 | [],[]=>true
 | a::l,b::m=>Nat.beq a.1 b.1&&Nat.beq a.2 b.2&&vD a.3 b.3&&fQ l m
 | _,_=>false
def xE(f g:Fn):Bool:=match f with
 | .via i p n b=>(match g with | .via j q m c=>Nat.beq i j&&fQ p.toList q.toList&&Nat.beq n m&&vD b c | _=>false)
 | .func i=>(match g with | .func j=>Nat.beq i j | _=>false)
 | .yield i=>(match g with | .yield j=>Nat.beq i j | _=>false)
 | _=>false
def Ak(p:Value->Value->Bool)(f:Fn)(x y:List Value):Value->Bool
 | .func g a b=>xE f g&&all2 p x a.toList&&all2 p y b.toList
 | _=>false
def pQ(p:Value->Value->Bool)(t:TypeId)(x:Value):Value->Bool
 | .iface u y=>Nat.beq t u&&p x y
 | _=>false
def yz(p:Value->Value->Bool)(x:List Value):Value->Bool
 | .agg a=>all2 p x a.toList
 | _=>false
def vP(p:Value->Value->Bool)(x:List Value):Value->Bool
 | .tuple a=>all2 p x a.toList
 | _=>false
def nP(p:Value->Value->Bool)(a b:Value):Bool:=match a with
 | .agg x=>yz p x.toList b
 | .tuple x=>vP p x.toList b
 | .iface t x=>pQ p t x b
 | .func f x y=>Ak p f x.toList y.toList b
 | _=>tV a b
def oL(a b:Value):Bool:=nP (nP (nP (nP tV))) a b
def gG(o:Oper)(all:List Oper)(P:Program)(T:Tab)(e:Env)(s:AS)(t:TV)(K:bR):Prop:=
 cZ all (gv t) o (nA o.op P T e s (gv t) K) (K (.tuple #[]) s)
abbrev fK:=Oper×Nat×TV×Value
def again(l:List fK):List Oper->Program->Tab->Env->AS->Nat->(List fK->Prop)->Prop:=
 @List.rec _ (λ_=>List Oper->Program->Tab->Env->AS->Nat->(List fK->Prop)->Prop) (λ_ _ _ _ _ _ K=>K [])
  (λx _ ih all P T e s m K=>bF (has m x.2.1) (ih all P T e s m K) (gG x.1 all P T e s x.2.2.1 (λv _=>yes (oL x.2.2.2 v) (ih all P T e s m (λl=>K (x::l)))))) l
def bu(l:List Step):List Oper->Program->Tab->Env->AA->AS->List fK->KA->Prop:=
 @List.rec _ (λ_=>List Oper->Program->Tab->Env->AA->AS->List fK->KA->Prop) (λ_ _ _ _ a s _ K=>K a s)
  (λst _ ih all P T e a s pend K=>small st.reads a.regs .nil (λt=>bF st.q
   (gG st.o all P T e s t (λv _=>gG st.o all P T e s t (λv' _=>yes (oL v v') (dB a st.o.dst v (λa=>ih all P T e a s ((st.o,st.i,t,v)::pend) K)))))
   (gG st.o all P T e s t (λv s=>again pend all P T e s st.mask (λpend=>dB a st.o.dst v (λa=>ih all P T e a s pend K)))))) l
def jK(ops:Array Oper)(P:Program)(T:Tab)(e:Env)(a:AA)(s:AS)(K:KA):Prop:=
 yes (p8 ops.toList.length (iB P ops.toList)) (bu (iB P ops.toList) ops.toList P T e a s [] K)
def aZ(c:Code):CK:=
 @Code.rec (λ_=>CK) (λ_ _ _ a s Kn _=>Kn a s) (λ_ ops d P T e a s Kn _=>bF d (jK ops P T e a s Kn) (gz ops.toList P T e ops.toList a s Kn)) (λ_ _ zO zN P T e a s Kn Kx=>zO P T e a s (λa s=>zN P T e a s Kn Kx) Kx)
  (λc _ _ zO zN P T e a s Kn Kx=>bL c (gv a.regs) (λv=>jW v (λb=>bF b (zO P T e a s Kn Kx) (zN P T e a s Kn Kx)))) (λid _ ih P T e a s Kn Kx=>ih P T e a s Kn (tq id Kn Kx))
  (λ_ ih P T e a s _ Kx=>jJ 100000 (ih P T e) a s Kx) (λf ps a9 bd _ _=>uZ f ps a9 bd) (λid _ _ _ a s _ Kx=>Kx (.exit id) a s) (λ_ _ _ _ _ _ _ _ _=>False) (λ_ _ _ _ a s Kn _=>Kn a s) (λ_ _ _ _ _ _ _ _=>False) (λ_ _ _ a s _ Kx=>Kx .ret a s) (λ_ _ _ _ _ _ _ _=>False) c
def resV(P:Program)(h:TB)(g:G)(r:ResultVar)(K:KV):Prop:=
 match r with
 | .tmp t=>g t K
 | .cell a t=>g a (λv=>nQ v (λid off=>rD P h t id off K))
def results(l:List ResultVar):Program->TB->G->(List Value->Prop)->Prop:=
 @List.rec _ (λ_=>Program->TB->G->(List Value->Prop)->Prop) (λ_ _ _ K=>K []) (λr _ ih P h g K=>resV P h g r (λv=>ih P h g (λvs=>K (v::vs)))) l
def setArgs(l:List Value):Nat->TV->(TV->Prop)->Prop:=
 @List.rec _ (λ_=>Nat->TV->(TV->Prop)->Prop) (λ_ t K=>K t) (λv _ ih i t K=>iq t i v (λt=>ih (Nat.succ i) t K)) l
def lI(l:List Tmp):List Value->TV->Nat->(TV->Prop)->Prop:=
 @List.rec _ (λ_=>List Value->TV->Nat->(TV->Prop)->Prop) (λvs t _ K=> @List.rec _ (λ_=>Prop) (K t) (λ_ _ _=>False) vs) (λp _ ih vs t n K=> @List.rec _ (λ_=>Prop) False (λv vs _=>yes (Nat.blt p n) (iq t p v (λt=>ih vs t n K))) vs) l
def fF(l:List Deferred):(FuncId->Bool)->AS->KS->Prop:=
 @List.rec _ (λ_=>(FuncId->Bool)->AS->KS->Prop) (λ_ s K=>K s) (λd _ ih bZ s K=>match d.target with
  | .collected id=>gb s.h id (λb=>zZ b (λt=>bF t False (setB s.h id (.inr (.inr (.inr true))) (λh=>ih bZ ⟨h,s.nx⟩ K))))
  | .fn (.func f) _=>yes (bZ f) (ih bZ s K)
  | _=>False) l
def ym(l:List Value):Value:=match l with | [v]=>v | _=>.tuple ⟨l⟩
def lV(x:Exit)(K:Prop):Prop:=match x with | .ret=>K | _=>False
def leave(P:Program)(e:Env)(fn:Func)(a:AA)(s:AS)(K:bR):Prop:=
 fF a.defers e.bZ s (λs=>results fn.results.toList P s.h (gv a.regs) (λl=>K (ym l) s))
def mg(P:Program)(T:Tab)(e:Env)(s:AS)(f:FuncId)(args:List Value)(K:bR):Prop:=
 ok (P.funcs[f]?) (λfn=>ok fn.body (λc=>setArgs args 0 .nil (λt=>aZ c P T e ⟨t,fn.ntmps,[]⟩ s (λa s=>leave P e fn a s K) (λx a s=>lV x (leave P e fn a s K)))))
def pV(s:AS)(l:Nat)(st:LoopState)(p:Option Code)(K:KS):Prop:=
 gb s.h l (λb=>yT b (λr=>setB s.h l (.inr (.inr (.inl ⟨st,p,r.regs,r.n,r.params,r.assign,r.body⟩))) (λh=>K ⟨h,s.nx⟩)))
def endRound(s:AS)(l:Nat)(x:Exit)(K:bR):Prop:=
 match x with
 | .ret=>pV s l .done (some .ret) (λs=>K (.bool false) s)
 | .exit id=>pV s l .done (some (.exit id)) (λs=>K (.bool false) s)
 | _=>False
def isReady(r:LB):Bool:=match r.st with | .ready=>true | _=>false
def beginRound(s:AS)(l:Nat)(K:KS):Prop:=
 gb s.h l (λb=>yT b (λr=>yes (isReady r) (setB s.h l (.inr (.inr (.inl ⟨.busy,r.pend,r.regs,r.n,r.params,r.assign,r.body⟩))) (λh=>K ⟨h,s.nx⟩))))
def jm(P:Program)(T:Tab)(e:Env)(s:AS)(l:Nat)(args:List Value)(K:bR):Prop:=
 gb s.h l (λb=>yT b (λr=>lI r.params args r.regs r.n (λt=>aZ r.assign P T e ⟨t,r.n,[]⟩ s (λa s=>beginRound s l (λs=>
  aZ r.body P T e a s (λa s=>yes a.defers.isEmpty (pV s l .ready none (λs=>K (.bool true) s))) (λx a s=>yes a.defers.isEmpty (endRound s l x K)))) (λ_ _ _=>False))))
def go(n:Nat):Program->Tab->(FuncId->Bool)->Bool->AS->Nat->List Value->bR->Prop:=
 @Nat.rec (λ_=>Program->Tab->(FuncId->Bool)->Bool->AS->Nat->List Value->bR->Prop) (λ_ _ _ _ _ _ _ _=>False)
  (λ_ ih P T bZ r s f args K=>bF r (jm P T ⟨bZ,ih P T bZ false,ih P T bZ true,true⟩ s f args K) (mg P T ⟨bZ,ih P T bZ false,ih P T bZ true,false⟩ s f args K)) n
def uA:Nat->Code->Code
 | n+1,.seq x y=>.seq x (uA n y)
 | _,_=>.skip
def postC:Nat->Code->Code
 | n+1,.seq _ y=>postC n y
 | _,c=>c
def o9(l:List Value):Nat->TV->Prop->Prop:=
 @List.rec _ (λ_=>Nat->TV->Prop->Prop) (λ_ _ K=>K) (λv _ ih i t K=>gv t i (λu=>yes (oL v u) (ih (Nat.succ i) t K))) l
def fin(fn:Func)(P:Program)(Z:Prop):KA:=λa s=>yes a.defers.isEmpty (results fn.results.toList P s.h (gv a.regs) (λl=>jW (ym l) (λb=>yes b Z)))
def yM(fn:Func)(P:Program)(Z:Prop):KX:=λx a s=>lV x (fin fn P Z a s)
def chain(l:List (List Value)):Code->Func->Program->Tab->Env->AA->AS->Prop:=
 @List.rec _ (λ_=>Code->Func->Program->Tab->Env->AA->AS->Prop) (λ_ _ _ _ _ _ _=>True)
  (λp _ ih c fn P T e a s=>setArgs p 0 a.regs (λt=>aZ c P T e ⟨t,a.n,a.defers⟩ s (fin fn P (ih c fn P T e a s)) (yM fn P (ih c fn P T e a s)))) l
def law(k n:Nat)(args:List Value)(l:List (List Value))(P:Program)(T:Tab)(bZ:FuncId->Bool)(s:AS)(fn:Func):Prop:=
 ok fn.body (λc=>setArgs args 0 .nil (λt=>aZ (uA k c) P T ⟨bZ,go n P T bZ false,go n P T bZ true,false⟩ ⟨t,fn.ntmps,[]⟩ s
  (λa s=>o9 args 0 a.regs (chain l (postC k c) fn P T ⟨bZ,go n P T bZ false,go n P T bZ true,false⟩ a s)) (λ_ _ _=>False)))
def hx(n:Nat):List UInt8:=Nat.rec (motive:=λ_=>Nat->List UInt8->List UInt8) (λ_ a=>a) (λ_ r n a=>cond (Nat.beq n 0) a (r (Nat.div n 256) (UInt8.ofNat (Nat.mod n 256)::a))) 40 n []
def hn(n:Nat)(a b:TV):TV:=.node 0 0 (some (.string ⟨⟨hx n⟩⟩)) a b
def hl(n:Nat):TV:=hn n .nil .nil
def hd(n:Nat)(a b:TV):TV:=.node 0 0 (some (.int .u8 (.ofNat n))) a b
def hc(n:Nat):TV:=hd n .nil .nil
def hg(n:Nat)(a b:TV):TV:=.node 0 0 (some (.int .u64 (.ofNat n))) a b
def hf(n:Nat):TV:=hg n .nil .nil
def hb0(ty:Nat->TypeId):AB:=.inl ⟨(hn 141965891442081047836257381 (hn 7237488 (hn 1819242352 (hn 0 (hn 125780071117422 (hn 0 (hl 132251892078482774517447269) .nil) (hl 0)) (hn 0 (hl 0) (hl 1940813925589749559909))) (hn 6647396 (hn 0 (hl 488404022180137279120756) (hl 0)) (hn 126879447475060 (hl 0) (hl 0)))) (hn 1701606245 (hn 0 (hn 7873739210628976230327587791732 (hn 2000274726038799607156 (hl 1940597189788878926708) .nil) (hl 0)) (hn 0 (hl 7581304396717187428) (hl 0))) (hn 422825650534 (hn 0 (hl 0) (hl 0)) (hn 0 (hl 127178977432537188040990581) (hl 0))))) (hn 422726034283 (hn 26982 (hn 0 (hn 1667329132 (hn 2000274726038798820724 (hl 132251892078482774316707703) .nil) (hl 0)) (hn 0 (hl 7580457772763799908) (hl 0))) (hn 25202 (hn 0 (hl 488404022180137279907188) (hl 0)) (hn 0 (hl 127178977432537188040990579) (hl 0)))) (hn 0 (hn 0 (hn 0 (hn 2000274726038799672677 (hl 1940813925520946131828) .nil) (hl 0)) (hn 1685221232 (hl 0) (hl 496792880603566682826040))) (hn 7093837316516637797 (hn 0 (hl 0) (hl 1940597189857682354789)) (hn 0 (hl 0) (hl 0)))))),none,67,ty 0,true⟩
def hb1(ty:Nat->TypeId):AB:=.inl ⟨(hn 6648186 (hn 25969 (hn 1819565939 (hl 1818582899) .nil) (hn 1735679859 (hl 1734696819) .nil)) (hn 28261 (hn 1819565941 (hl 1818582901) .nil) (hn 1735679861 (hl 1734696821) .nil))),none,11,ty 1,true⟩
def hb2(ty:Nat->TypeId):AB:=.inl ⟨(hn 6515834 (hn 6517882 (hn 6382692 (hn 431266094965 (hl 495673565045) .nil) (hl 28530)) (hn 7173484 (hn 491327938421 (hl 1919906930) .nil) (hl 7563372))) (hn 123623929245300 (hn 7566690 (hn 491327938419 (hl 1919906924) .nil) (hl 7892850)) (hn 431266094963 (hl 6385252) (hl 495673565043)))),none,18,ty 2,true⟩
def hb4(ty:Nat->TypeId):AB:=.inl ⟨(hd 0 (hd 1 (hd 2 (hd 3 (hd 4 (hd 5 (hc 6) .nil) (hc 11)) (hd 22 (hc 16) (hc 10))) (hd 50 (hd 36 (hc 27) (hc 15)) (hd 30 (hc 21) (hc 9)))) (hd 49 (hd 58 (hd 47 (hc 55) (hc 26)) (hd 39 (hc 35) (hc 14))) (hd 29 (hd 43 (hc 41) (hc 20)) (hd 18 (hc 32) (hc 8))))) (hd 56 (hd 57 (hd 61 (hd 62 (hc 63) (hc 54)) (hd 53 (hc 46) (hc 25))) (hd 38 (hd 45 (hc 60) (hc 34)) (hd 24 (hc 52) (hc 13)))) (hd 28 (hd 42 (hd 59 (hc 48) (hc 40)) (hd 33 (hc 44) (hc 19))) (hd 17 (hd 51 (hc 37) (hc 31)) (hd 12 (hc 23) (hc 7)))))),none,64,ty 4,true⟩
def hb5(ty:Nat->TypeId):AB:=.inl ⟨(hd 0 (hd 1 (hd 2 (hd 3 (hd 8 (hc 9) .nil) (hc 7)) (hd 15 (hc 23) (hc 6))) (hd 14 (hd 22 (hc 27) (hc 12)) (hd 17 (hc 19) (hc 5)))) (hd 28 (hd 29 (hd 30 (hc 31) (hc 26)) (hd 25 (hc 21) (hc 11))) (hd 24 (hd 20 (hc 13) (hc 18)) (hd 4 (hc 16) (hc 10))))),none,32,ty 5,true⟩
def hb6(ty:Nat->TypeId):AB:=.inl ⟨(.node 0 0 (some (.iface 409 (.pointer (some ⟨9,0,none⟩)))) .nil .nil),none,1,ty 6,true⟩
def hb7(ty:Nat->TypeId):AB:=.inl ⟨(.node 0 0 (some (.iface 409 (.pointer (some ⟨10,0,none⟩)))) .nil .nil),none,1,ty 7,true⟩
def y7(ty:Nat->TypeId):AB:=.inl ⟨(hg 1 (hg 10 (hg 1000 (hg 10000000 (hf 1000000000000000) .nil) (hg 100000000000 (hf 10000000000000000000) .nil)) (hg 100000 (hg 1000000000 (hf 100000000000000000) .nil) (hf 10000000000000))) (hg 100 (hg 10000 (hg 100000000 (hf 10000000000000000) .nil) (hf 1000000000000)) (hg 1000000 (hg 10000000000 (hf 1000000000000000000) .nil) (hf 100000000000000)))),none,20,ty 8,true⟩
def h0(ty:Nat->TypeId):TB:=(.node 0 0 (some (hb0 ty)) (.node 0 0 (some (hb1 ty)) (.node 0 0 none (.node 0 0 (some (hb7 ty)) .nil .nil) .nil) (.node 0 0 (some (hb5 ty)) .nil .nil)) (.node 0 0 (some (hb2 ty)) (.node 0 0 (some (hb4 ty)) (.node 0 0 (some (y7 ty)) .nil .nil) .nil) (.node 0 0 (some (hb6 ty)) .nil .nil)))
def T0:Tab:=⟨λ_ _ _=>none,λ_ _=>none,λ_ _=>none,λ_=>false⟩
def np(f:FuncId):Bool:=Nat.beq f 24
theorem ka(ty:Nat->qT):law 0 60 [] [[]] Tryz.prog T0 np ⟨h0 ty,11⟩ Tryz.f4=True:=by kernel_rfl
end Go.Proofs.YtfkcodlceoghpaaGreatDoor.Zev
