import Derived.Deep.Trees
import Derived.Control
import Derived.CallsIn
import Derived.Wp
import Derived.Laws.Sem
import Derived.Laws.World
import Derived.Laws.Cells
import Derived.Laws.Rows
import Derived.Laws.Strings
namespace Go.Proofs.YtkpfafehcmammaaGreatDoor
open Go.Deep

/-! Trees by number: of values, of blocks. -/
abbrev TV := BT (Option Value)

def gv (t : TV) : Nat → (Value → Prop) → Prop :=
  @BT.rec _ (fun _ => Nat → (Value → Prop) → Prop) (fun _ _ => False)
    (fun _ _ v _ _ ihl ihr n K => @Nat.rec (fun _ => Prop) (@Option.rec _ (fun _ => Prop) False K v)
      (fun m _ => @Bool.rec (fun _ => Prop) (ihr (Nat.div m 2) K) (ihl (Nat.div m 2) K) (Nat.beq (Nat.mod m 2) 0)) n) t

def sv (f : Nat) : TV → Nat → Value → (TV → Prop) → Prop :=
  @Nat.rec (fun _ => TV → Nat → Value → (TV → Prop) → Prop) (fun _ _ _ _ => False)
    (fun _ ih t n v K => @BT.rec _ (fun _ => Prop)
      (@Nat.rec (fun _ => Prop) (K (.node 0 0 (some v) .nil .nil)) (fun m _ => @Bool.rec (fun _ => Prop) (ih .nil (Nat.div m 2) v (fun r => K (.node 0 0 none .nil r))) (ih .nil (Nat.div m 2) v (fun l => K (.node 0 0 none l .nil))) (Nat.beq (Nat.mod m 2) 0)) n)
      (fun _ _ u l r _ _ => @Nat.rec (fun _ => Prop) (K (.node 0 0 (some v) l r)) (fun m _ => @Bool.rec (fun _ => Prop) (ih r (Nat.div m 2) v (fun r => K (.node 0 0 u l r))) (ih l (Nat.div m 2) v (fun l => K (.node 0 0 u l r))) (Nat.beq (Nat.mod m 2) 0)) n) t) f

def setV (t : TV) (n : Nat) (v : Value) (K : TV → Prop) : Prop := sv (Nat.succ n) t n v K

/-- A block of cells: its cells by number (the rest is d), how many, of what type; may it be written? -/
structure CB where
  vs : TV
  d : Option Value
  n : Nat
  ty : TypeId
  ro : Bool

/-- A range over a function: its record. -/
structure LB where
  st : LoopState
  pend : Option Code
  regs : TV
  n : Nat
  params : List Tmp
  assign : Code
  body : Code

abbrev AB := Sum CB (Sum (List (Value × Value)) (Sum LB Bool))
abbrev TB := BT (Option AB)

def gb (t : TB) : Nat → (AB → Prop) → Prop :=
  @BT.rec _ (fun _ => Nat → (AB → Prop) → Prop) (fun _ _ => False)
    (fun _ _ v _ _ ihl ihr n K => @Nat.rec (fun _ => Prop) (@Option.rec _ (fun _ => Prop) False K v)
      (fun m _ => @Bool.rec (fun _ => Prop) (ihr (Nat.div m 2) K) (ihl (Nat.div m 2) K) (Nat.beq (Nat.mod m 2) 0)) n) t

def sb (f : Nat) : TB → Nat → Option AB → (TB → Prop) → Prop :=
  @Nat.rec (fun _ => TB → Nat → Option AB → (TB → Prop) → Prop) (fun _ _ _ _ => False)
    (fun _ ih t n v K => @BT.rec _ (fun _ => Prop)
      (@Nat.rec (fun _ => Prop) (K (.node 0 0 v .nil .nil)) (fun m _ => @Bool.rec (fun _ => Prop) (ih .nil (Nat.div m 2) v (fun r => K (.node 0 0 none .nil r))) (ih .nil (Nat.div m 2) v (fun l => K (.node 0 0 none l .nil))) (Nat.beq (Nat.mod m 2) 0)) n)
      (fun _ _ u l r _ _ => @Nat.rec (fun _ => Prop) (K (.node 0 0 v l r)) (fun m _ => @Bool.rec (fun _ => Prop) (ih r (Nat.div m 2) v (fun r => K (.node 0 0 u l r))) (ih l (Nat.div m 2) v (fun l => K (.node 0 0 u l r))) (Nat.beq (Nat.mod m 2) 0)) n) t) f

def setB (t : TB) (n : Nat) (b : AB) (K : TB → Prop) : Prop := sb (Nat.succ n) t n (some b) K
def delB (t : TB) (n : Nat) (K : TB → Prop) : Prop := sb (Nat.succ n) t n none K

structure AS where
  h : TB
  nx : Nat

/-! Small ways on. -/
def ok {α : Type} (x : Option α) (K : α → Prop) : Prop := @Option.rec α (fun _ => Prop) False K x
def yes (b : Bool) (K : Prop) : Prop := @Bool.rec (fun _ => Prop) False K b
def ife (b : Bool) (x y : Prop) : Prop := @Bool.rec (fun _ => Prop) y x b
def nat (n : Nat) (K : Nat → Prop) : Prop := @Nat.rec (fun _ => Prop) (K 0) (fun m _ => K (Nat.succ m)) n
def int (n : Int) (K : Int → Prop) : Prop := @Int.rec (fun _ => Prop) (fun m => nat m (fun m => K (.ofNat m))) (fun m => nat m (fun m => K (.negSucc m))) n
def boo (b : Bool) (K : Bool → Prop) : Prop := @Bool.rec (fun _ => Prop) (K false) (K true) b

/-! What a value is. -/
def vBool (v : Value) (K : Bool → Prop) : Prop :=
  @Value.casesOn (fun _ => Prop) v (K) (fun _ _ => False) (fun _ _ => False) (fun _ _ _ => False) (fun _ => False) (fun _ => False) (fun _ _ _ => False) (fun _ => False) (fun _ => False) (fun _ _ _ => False) False (fun _ _ => False) False (fun _ => False) (fun _ => False)

def vInt (v : Value) (K : IntKind → Int → Prop) : Prop :=
  @Value.casesOn (fun _ => Prop) v (fun _ => False) (K) (fun _ _ => False) (fun _ _ _ => False) (fun _ => False) (fun _ => False) (fun _ _ _ => False) (fun _ => False) (fun _ => False) (fun _ _ _ => False) False (fun _ _ => False) False (fun _ => False) (fun _ => False)

def vNat (v : Value) (K : Nat → Prop) : Prop :=
  @Value.casesOn (fun _ => Prop) v (fun _ => False) (fun _ n => @Int.rec (fun _ => Prop) K (fun _ => False) n) (fun _ _ => False) (fun _ _ _ => False) (fun _ => False) (fun _ => False) (fun _ _ _ => False) (fun _ => False) (fun _ => False) (fun _ _ _ => False) False (fun _ _ => False) False (fun _ => False) (fun _ => False)

def vPtr (v : Value) (K : Nat → Nat → Prop) : Prop :=
  @Value.casesOn (fun _ => Prop) v (fun _ => False) (fun _ _ => False) (fun _ _ => False) (fun _ _ _ => False) (fun _ => False) (fun a => @Option.rec _ (fun _ => Prop) False (fun d => @Addr.rec (fun _ => Prop) (fun i o p => @Option.rec _ (fun _ => Prop) (K i o) (fun _ => False) p) d) a) (fun _ _ _ => False) (fun _ => False) (fun _ => False) (fun _ _ _ => False) False (fun _ _ => False) False (fun _ => False) (fun _ => False)

def vStr (v : Value) (K : List UInt8 → Prop) : Prop :=
  @Value.casesOn (fun _ => Prop) v (fun _ => False) (fun _ _ => False) (fun _ _ => False) (fun _ _ _ => False) (fun s => @ByteArray.rec (fun _ => Prop) (fun d => @Array.rec _ (fun _ => Prop) K d) s) (fun _ => False) (fun _ _ _ => False) (fun _ => False) (fun _ => False) (fun _ _ _ => False) False (fun _ _ => False) False (fun _ => False) (fun _ => False)

def vAgg (v : Value) (K : List Value → Prop) : Prop :=
  @Value.casesOn (fun _ => Prop) v (fun _ => False) (fun _ _ => False) (fun _ _ => False) (fun _ _ _ => False) (fun _ => False) (fun _ => False) (fun _ _ _ => False) (fun _ => False) (fun _ => False) (fun _ _ _ => False) False (fun _ _ => False) False (fun d => @Array.rec _ (fun _ => Prop) K d) (fun _ => False)

def vTup (v : Value) (K : List Value → Prop) : Prop :=
  @Value.casesOn (fun _ => Prop) v (fun _ => False) (fun _ _ => False) (fun _ _ => False) (fun _ _ _ => False) (fun _ => False) (fun _ => False) (fun _ _ _ => False) (fun _ => False) (fun _ => False) (fun _ _ _ => False) False (fun _ _ => False) False (fun _ => False) (fun d => @Array.rec _ (fun _ => Prop) K d)

def vMap (v : Value) (K : Nat → Prop) : Prop :=
  @Value.casesOn (fun _ => Prop) v (fun _ => False) (fun _ _ => False) (fun _ _ => False) (fun _ _ _ => False) (fun _ => False) (fun _ => False) (fun _ _ _ => False) (fun r => @Option.rec _ (fun _ => Prop) False K r) (fun _ => False) (fun _ _ _ => False) False (fun _ _ => False) False (fun _ => False) (fun _ => False)

def vIface (v : Value) (K : TypeId → Value → Prop) : Prop :=
  @Value.casesOn (fun _ => Prop) v (fun _ => False) (fun _ _ => False) (fun _ _ => False) (fun _ _ _ => False) (fun _ => False) (fun _ => False) (fun _ _ _ => False) (fun _ => False) (fun _ => False) (fun _ _ _ => False) False (K) False (fun _ => False) (fun _ => False)

def vSeq (v : Value) (Ks : Nat → Nat → Nat → Nat → Nat → Prop) (Kn : Prop) (Kp : Nat → Nat → Prop) (Kt : List UInt8 → Prop) (Ka : List Value → Prop) (Kl : Prop) : Prop :=
  @Value.casesOn (fun _ => Prop) v (fun _ => False) (fun _ _ => False) (fun _ _ => False) (fun _ _ _ => False) (fun s => @ByteArray.rec (fun _ => Prop) (fun d => @Array.rec _ (fun _ => Prop) Kt d) s) (fun a => @Option.rec _ (fun _ => Prop) False (fun d => @Addr.rec (fun _ => Prop) (fun i o p => @Option.rec _ (fun _ => Prop) (Kp i o) (fun _ => False) p) d) a) (fun a len cap => @Option.rec _ (fun _ => Prop) Kn (fun d => @Addr.rec (fun _ => Prop) (fun i o p => @Option.rec _ (fun _ => Prop) False (fun sz => Ks i o sz len cap) p) d) a) (fun _ => False) (fun _ => False) (fun f _ _ => @Fn.casesOn (fun _ => Prop) f (fun _ => False) (fun _ => False) (fun _ _ => False) (fun _ _ _ q => @Bool.rec (fun _ => Prop) False Kl q) (fun _ => False)) False (fun _ _ => False) False (fun d => @Array.rec _ (fun _ => Prop) Ka d) (fun _ => False)

/-- A text of which some bytes are letters. -/
def vTxt (v : Value) (Kt : List Value → Prop) (Ko : Prop) : Prop :=
  @Value.casesOn (fun _ => Prop) v (fun _ => Ko) (fun _ _ => Ko) (fun _ _ => Ko) (fun _ _ _ => Ko) (fun _ => Ko) (fun _ => Ko) (fun _ _ _ => Ko) (fun _ => Ko) (fun _ => Ko)
    (fun f a _ => @Fn.casesOn (fun _ => Prop) f (fun _ => Ko) (fun _ => Ko) (fun _ _ => Ko) (fun _ _ _ q => @Bool.rec (fun _ => Prop) (@Array.rec _ (fun _ => Prop) Kt a) Ko q) (fun _ => Ko)) Ko (fun _ _ => Ko) Ko (fun _ => Ko) (fun _ => Ko)

def vFn (v : Value) (Kf : FuncId → List Value → List Value → Prop) (Ky : Nat → Prop) : Prop :=
  @Value.casesOn (fun _ => Prop) v (fun _ => False) (fun _ _ => False) (fun _ _ => False) (fun _ _ _ => False) (fun _ => False) (fun _ => False) (fun _ _ _ => False) (fun _ => False) (fun _ => False) (fun f a c => @Fn.casesOn (fun _ => Prop) f (fun f => @Array.rec _ (fun _ => Prop) (fun a => @Array.rec _ (fun _ => Prop) (fun c => Kf f a c) c) a) (fun _ => False) (fun _ _ => False) (fun _ _ _ _ => False) Ky) False (fun _ _ => False) False (fun _ => False) (fun _ => False)

def vGuard (v : Value) (K : Bool → Prop) (Kn : Prop) : Prop :=
  @Value.casesOn (fun _ => Prop) v (K) (fun _ _ => False) (fun _ _ => False) (fun _ _ _ => False) (fun _ => False) (fun _ => False) (fun _ _ _ => False) (fun _ => False) (fun _ => False) (fun _ _ _ => False) False (fun _ _ => False) False (fun _ => False) (fun _ => Kn)


/-- One cell's value. -/
def one : Value → Bool
  | .agg _ => false
  | .tuple _ => false
  | _ => true

def cellsOf : Value → List Value
  | .agg ⟨l⟩ => l
  | v => [v]

/-- A value with no address in it. -/
def plain1 : Value → Bool
  | .bool _ => true
  | .int _ _ => true
  | .string _ => true
  | .pointer none => true
  | .slice none 0 0 => true
  | .map none => true
  | .nilFunc => true
  | .nilIface => true
  | _ => false

def plain : Value → Bool
  | .agg ⟨l⟩ => l.all plain1
  | .tuple ⟨l⟩ => l.all plain1
  | v => plain1 v

def cst (v : Value) (K : Value → Prop) : Prop := yes (plain v) (K v)

/-! Numbers. -/
def ilt (x y : Int) : Bool := Int.casesOn x (fun a => Int.casesOn y (fun b => Nat.blt a b) (fun _ => false)) (fun a => Int.casesOn y (fun _ => true) (fun b => Nat.blt b a))
def ieq (x y : Int) : Bool := Int.casesOn x (fun a => Int.casesOn y (fun b => Nat.beq a b) (fun _ => false)) (fun a => Int.casesOn y (fun _ => false) (fun b => Nat.beq a b))

def topOf : IntKind → Nat
  | .i8 => 128
  | .i16 => 32768
  | .i32 => 2147483648
  | .i64 => 9223372036854775808
  | .u8 => 256
  | .u16 => 65536
  | .u32 => 4294967296
  | .u64 => 18446744073709551616

def wrp (k : IntKind) (n : Int) : Int := Int.casesOn n (fun m => bif Nat.blt m (topOf k) then .ofNat m else k.wrap (.ofNat m)) (fun m => k.wrap (.negSucc m))

def kno : IntKind → Nat
  | .i8 => 0
  | .i16 => 1
  | .i32 => 2
  | .i64 => 3
  | .u8 => 4
  | .u16 => 5
  | .u32 => 6
  | .u64 => 7

def keq (a b : IntKind) : Bool := Nat.beq (kno a) (kno b)

def iadd (x y : Int) : Int := Int.casesOn x (fun a => Int.casesOn y (fun b => .ofNat (Nat.add a b)) (fun b => Int.add (.ofNat a) (.negSucc b))) (fun a => Int.add (.negSucc a) y)

abbrev KV := Value → Prop
def nint (k : IntKind) (n : Int) (K : KV) : Prop := int (wrp k n) (fun n => K (.int k n))
def nbool (b : Bool) (K : KV) : Prop := boo b (fun b => K (.bool b))

def bShl (k : IntKind) (x y : Int) (K : KV) : Prop := ife (ilt y 0) False (nint k (x * 2 ^ (min y.toNat k.bits)) K)
def bShr (k : IntKind) (x y : Int) (K : KV) : Prop := ife (ilt y 0) False (int (x.fdiv (2 ^ (min y.toNat k.bits))) (fun n => K (.int k n)))
def bQuo (k : IntKind) (x y : Int) (K : KV) : Prop := ife (ieq y 0) False (nint k (x.tdiv y) K)
def bRem (k : IntKind) (x y : Int) (K : KV) : Prop := ife (ieq y 0) False (int (x.tmod y) (fun n => K (.int k n)))
def bAnd (k : IntKind) (x y : Int) (K : KV) : Prop := nint k (BitVec.ofInt k.bits x &&& BitVec.ofInt k.bits y).toNat K
def bOr (k : IntKind) (x y : Int) (K : KV) : Prop := nint k (BitVec.ofInt k.bits x ||| BitVec.ofInt k.bits y).toNat K
def bXor (k : IntKind) (x y : Int) (K : KV) : Prop := nint k (BitVec.ofInt k.bits x ^^^ BitVec.ofInt k.bits y).toNat K
def bAndNot (k : IntKind) (x y : Int) (K : KV) : Prop := nint k (BitVec.ofInt k.bits x &&& ~~~ BitVec.ofInt k.bits y).toNat K

def iBin (op : BinOp) : IntKind → Int → Int → KV → Prop :=
  @BinOp.rec (fun _ => IntKind → Int → Int → KV → Prop) (fun k x y => nint k (iadd x y)) (fun k x y => nint k (Int.sub x y)) (fun k x y => nint k (Int.mul x y)) bQuo bRem bAnd bOr bXor (fun _ _ _ _ => False) (fun _ _ _ _ => False) bAndNot
    (fun _ x y => nbool (ieq x y)) (fun _ x y => nbool (!ieq x y)) (fun _ x y => nbool (ilt x y)) (fun _ x y => nbool (!ilt y x)) (fun _ x y => nbool (ilt y x)) (fun _ x y => nbool (!ilt x y)) op

def isShl : BinOp → Bool
  | .shl => true
  | _ => false
def isShr : BinOp → Bool
  | .shr => true
  | _ => false

def iBin2 (op : BinOp) (k : IntKind) (x : Int) (k' : IntKind) (y : Int) (K : KV) : Prop :=
  ife (isShl op) (bShl k x y K) (ife (isShr op) (bShr k x y K) (yes (keq k k') (iBin op k x y K)))

def leq (x : List UInt8) : List UInt8 → (Bool → Prop) → Prop :=
  @List.rec _ (fun _ => List UInt8 → (Bool → Prop) → Prop) (fun y K => @List.rec _ (fun _ => Prop) (K true) (fun _ _ _ => K false) y)
    (fun a _ ih y K => @List.rec _ (fun _ => Prop) (K false) (fun b y _ => ife (Nat.beq a.toNat b.toNat) (ih y K) (K false)) y) x

def llt (x : List UInt8) : List UInt8 → (Bool → Prop) → Prop :=
  @List.rec _ (fun _ => List UInt8 → (Bool → Prop) → Prop) (fun y K => @List.rec _ (fun _ => Prop) (K false) (fun _ _ _ => K true) y)
    (fun a _ ih y K => @List.rec _ (fun _ => Prop) (K false) (fun b y _ => ife (Nat.blt a.toNat b.toNat) (K true) (ife (Nat.beq a.toNat b.toNat) (ih y K) (K false))) y) x

/-- Lists, made as they are met. -/
def app (x : List UInt8) : List UInt8 → (List UInt8 → Prop) → Prop :=
  @List.rec _ (fun _ => List UInt8 → (List UInt8 → Prop) → Prop) (fun y K => K y) (fun a _ ih y K => ih y (fun l => K (a :: l))) x
def take (x : List UInt8) : Nat → (List UInt8 → Prop) → Prop :=
  @List.rec _ (fun _ => Nat → (List UInt8 → Prop) → Prop) (fun n K => @Nat.rec (fun _ => Prop) (K []) (fun _ _ => False) n) (fun a _ ih n K => @Nat.rec (fun _ => Prop) (K []) (fun m _ => ih m (fun l => K (a :: l))) n) x
def drop (x : List UInt8) : Nat → (List UInt8 → Prop) → Prop :=
  @List.rec _ (fun _ => Nat → (List UInt8 → Prop) → Prop) (fun n K => @Nat.rec (fun _ => Prop) (K []) (fun _ _ => False) n) (fun a x ih n K => @Nat.rec (fun _ => Prop) (K (a :: x)) (fun m _ => ih m K) n) x
def nthB (x : List UInt8) : Nat → (UInt8 → Prop) → Prop :=
  @List.rec _ (fun _ => Nat → (UInt8 → Prop) → Prop) (fun _ _ => False) (fun a _ ih n K => @Nat.rec (fun _ => Prop) (K a) (fun m _ => ih m K) n) x
def nthV (x : List Value) : Nat → (Value → Prop) → Prop :=
  @List.rec _ (fun _ => Nat → (Value → Prop) → Prop) (fun _ _ => False) (fun a _ ih n K => @Nat.rec (fun _ => Prop) (K a) (fun m _ => ih m K) n) x
def nthO (x : List Oper) : Nat → (Oper → Prop) → Prop :=
  @List.rec _ (fun _ => Nat → (Oper → Prop) → Prop) (fun _ _ => False) (fun a _ ih n K => @Nat.rec (fun _ => Prop) (K a) (fun m _ => ih m K) n) x
def appV (x : List Value) : List Value → (List Value → Prop) → Prop :=
  @List.rec _ (fun _ => List Value → (List Value → Prop) → Prop) (fun y K => K y) (fun a _ ih y K => ih y (fun l => K (a :: l))) x
def takeV (x : List Value) : Nat → (List Value → Prop) → Prop :=
  @List.rec _ (fun _ => Nat → (List Value → Prop) → Prop) (fun n K => @Nat.rec (fun _ => Prop) (K []) (fun _ _ => False) n) (fun a _ ih n K => @Nat.rec (fun _ => Prop) (K []) (fun m _ => ih m (fun l => K (a :: l))) n) x
def dropV (x : List Value) : Nat → (List Value → Prop) → Prop :=
  @List.rec _ (fun _ => Nat → (List Value → Prop) → Prop) (fun n K => @Nat.rec (fun _ => Prop) (K []) (fun _ _ => False) n) (fun a x ih n K => @Nat.rec (fun _ => Prop) (K (a :: x)) (fun m _ => ih m K) n) x

def sBin (op : BinOp) : List UInt8 → List UInt8 → KV → Prop :=
  @BinOp.rec (fun _ => List UInt8 → List UInt8 → KV → Prop) (fun x y K => yes (Nat.blt (Nat.add x.length y.length) 1000000000) (app x y (fun l => K (.string ⟨⟨l⟩⟩)))) (fun _ _ _ => False) (fun _ _ _ => False) (fun _ _ _ => False) (fun _ _ _ => False) (fun _ _ _ => False) (fun _ _ _ => False) (fun _ _ _ => False) (fun _ _ _ => False) (fun _ _ _ => False) (fun _ _ _ => False)
    (fun x y K => leq x y (fun b => K (.bool b))) (fun x y K => leq x y (fun b => nbool (!b) K)) (fun x y K => llt x y (fun b => K (.bool b))) (fun x y K => llt y x (fun b => nbool (!b) K)) (fun x y K => llt y x (fun b => K (.bool b))) (fun x y K => llt x y (fun b => nbool (!b) K)) op

def eqn (op : BinOp) (b : Bool) (K : KV) : Prop := match op with | .eql => nbool b K | .neq => nbool (!b) K | _ => False

def isC : Operand → Bool
  | .const _ => true
  | _ => false

/-- What is known of numbers that are not. -/
structure Tab where
  bin : BinOp → Value → Value → Option Value
  conv : IntKind → Value → Option Value
  un : UnOp → Value → Option Value
  byte : Nat → Bool

abbrev KVS := Value → AS → Prop
structure Env where
  noop : FuncId → Bool
  callF : AS → FuncId → List Value → KVS → Prop
  roundF : AS → Nat → List Value → KVS → Prop
  rnd : Bool

def tBool (P : Program) (t : TypeId) : Bool := match P.underlying t with | some .bool => true | _ => false
def tPtr (P : Program) (t : TypeId) : Bool := match P.underlying t with | some (.pointer _) => true | _ => false
def tSlice (P : Program) (t : TypeId) : Bool := match P.underlying t with | some (.slice _) => true | _ => false
def tFunc (P : Program) (t : TypeId) : Bool := match P.underlying t with | some (.func ..) => true | _ => false
def tIface (P : Program) (t : TypeId) : Bool := match P.underlying t with | some (.interface _) => true | _ => false
def tStr (P : Program) (t : TypeId) : Bool := match P.underlying t with | some .string => true | _ => false
def tInt (P : Program) (t : TypeId) : Option IntKind := match P.underlying t with | some (.int k) => some k | _ => none
def tSome (P : Program) (t : TypeId) : Bool := match P.underlying t with | some _ => true | _ => false
def tCmp (P : Program) (t : TypeId) : Bool := match P.info? t with | some i => i.comparable | _ => false
def elemOf (P : Program) (t : TypeId) : Option TypeId := match P.underlying t with | some (.slice e) => some e | _ => none
def tMap (P : Program) (t : TypeId) : Option (TypeId × TypeId) := match P.underlying t with | some (.map k e) => some (k, e) | _ => none
def arrOf (P : Program) (t : TypeId) : Option (Nat × TypeId) := match P.underlying t with | some (.array n e) => some (n, e) | _ => none
def structOf (P : Program) (t : TypeId) : Option (List Field) := match P.underlying t with | some (.struct fs) => some fs.toList | _ => none
def isAgg (P : Program) (t : TypeId) : Option Bool :=
  match P.underlying t with
  | some (.struct _) => some true
  | some (.array _ _) => some true
  | some _ => some false
  | none => none
def sizeOf (P : Program) (t : TypeId) : Option Nat := match P.info? t with | some i => some i.size | none => none
def bytesOf (P : Program) (t : TypeId) : Option Nat := match P.info? t with | some i => some i.bytes | none => none
def zeroV (P : Program) (t : TypeId) : Option Value := match P.info? t with | some i => (match i.zero with | some v => bif plain v then some v else none | none => none) | none => none
def elemSize (P : Program) (t : TypeId) : Option Nat := match elemOf P t with | some e => sizeOf P e | none => none
def fieldAt (P : Program) (t : TypeId) (i : Nat) : Option Field := match structOf P t with | some l => l[i]? | none => none
def fieldOff (P : Program) (t : TypeId) (i : Nat) : Option Nat :=
  match fieldAt P t i with
  | some f => (match sizeOf P f.type with | some (_ + 1) => some f.offset | _ => none)
  | none => none
def tBytes (P : Program) (t : TypeId) : Bool := match elemOf P t with | some e => (match P.underlying e with | some (.int .u8) => true | _ => false) | none => false

def ifEq (P : Program) (op : BinOp) (tx : TypeId) (vx : Value) (ty : TypeId) (vy : Value) (K : KV) : Prop :=
  vInt vx (fun k a => vInt vy (fun k' b => ife (Nat.beq tx ty) (yes (tCmp P tx && keq k k') (ok (tInt P tx) (fun _ => eqn op (ieq a b) K))) (eqn op false K)))

def bin3 (P : Program) (T : Tab) (op : BinOp) (t : TypeId) (cc : Bool) (x y : Value) (K : KV) : Prop :=
  match x, y with
  | .bool a, .bool b => yes (tBool P t) (eqn op (bif a then b else !b) K)
  | .pointer none, .pointer none => yes (tPtr P t) (eqn op true K)
  | .pointer none, .pointer (some _) => yes (tPtr P t) (eqn op false K)
  | .pointer (some _), .pointer none => yes (tPtr P t) (eqn op false K)
  | .slice none _ _, .slice none _ _ => yes (tSlice P t) (eqn op true K)
  | .slice none _ _, .slice (some _) _ _ => yes (tSlice P t) (eqn op false K)
  | .slice (some _) _ _, .slice none _ _ => yes (tSlice P t) (eqn op false K)
  | .nilFunc, .nilFunc => yes (tFunc P t) (eqn op true K)
  | .func (.func _) _ _, .nilFunc => yes (tFunc P t) (eqn op false K)
  | .nilIface, .nilIface => yes (tIface P t && cc) (eqn op true K)
  | .iface .., .nilIface => yes (tIface P t) (eqn op false K)
  | .nilIface, .iface .. => yes (tIface P t) (eqn op false K)
  | .iface tx vx, .iface ty vy => yes (tIface P t) (ifEq P op tx vx ty vy K)
  | .complex .., _ => ok (T.bin op x y) K
  | _, .complex .. => ok (T.bin op x y) K
  | _, _ => False

def vBin (v : Value) (Ki : IntKind → Int → Prop) (Ks : List UInt8 → Prop) (Ko : Prop) : Prop :=
  @Value.casesOn (fun _ => Prop) v (fun _ => Ko) Ki (fun _ _ => Ko) (fun _ _ _ => Ko) (fun s => @ByteArray.rec (fun _ => Prop) (fun d => @Array.rec _ (fun _ => Prop) Ks d) s) (fun _ => Ko) (fun _ _ _ => Ko) (fun _ => Ko) (fun _ => Ko) (fun _ _ _ => Ko) Ko (fun _ _ => Ko) Ko (fun _ => Ko) (fun _ => Ko)

def bin2 (P : Program) (T : Tab) (op : BinOp) (t : TypeId) (cc : Bool) (x y : Value) (K : KV) : Prop :=
  vBin x (fun k a => vBin y (fun k' b => iBin2 op k a k' b K) (fun _ => False) (bin3 P T op t cc x y K))
    (fun a => vStr y (fun b => sBin op a b K)) (bin3 P T op t cc x y K)

def un1 (T : Tab) (op : UnOp) (x : Value) (K : KV) : Prop :=
  match op, x with
  | .not, .bool b => nbool (!b) K
  | .neg, .int k n => nint k (Int.sub 0 n) K
  | .xor, .int k n => nint k (BitVec.ofInt k.bits (if k.signed then -1 else k.max) ^^^ BitVec.ofInt k.bits n).toNat K
  | op, .complex .. => ok (T.un op x) K
  | _, _ => False

/-! Operands. -/
/-- So many blocks lie at the numbers that they have. -/
def NG : Nat := 9
abbrev G := Nat → KV → Prop
def opd (x : Operand) : G → KV → Prop :=
  @Operand.rec (fun _ => G → KV → Prop) (fun t g K => g t K) (fun v _ K => cst v K) (fun i _ K => yes (Nat.blt i NG) (K (.pointer (some ⟨i, 0, none⟩)))) (fun f _ K => K (.func (.func f) #[] #[])) x

def opds (l : List Operand) : G → (List Value → Prop) → Prop :=
  @List.rec _ (fun _ => G → (List Value → Prop) → Prop) (fun _ K => K []) (fun x _ ih g K => opd x g (fun v => ih g (fun vs => K (v :: vs)))) l

def parts (l : List (Nat × Operand)) : G → (List (Nat × Value) → Prop) → Prop :=
  @List.rec _ (fun _ => G → (List (Nat × Value) → Prop) → Prop) (fun _ K => K []) (fun x _ ih g K => opd x.2 g (fun v => ih g (fun vs => K ((x.1, v) :: vs)))) l

/-! Cells. -/
def gvd (t : TV) (n : Nat) (d : Option Value) : KV → Prop :=
  @BT.rec _ (fun _ => Nat → KV → Prop) (fun _ K => ok d K)
    (fun _ _ v _ _ ihl ihr n K => @Nat.rec (fun _ => Prop) (@Option.rec _ (fun _ => Prop) (ok d K) K v)
      (fun m _ => @Bool.rec (fun _ => Prop) (ihr (Nat.div m 2) K) (ihl (Nat.div m 2) K) (Nat.beq (Nat.mod m 2) 0)) n) t n
def cell (c : CB) (i : Nat) (K : KV) : Prop := yes (Nat.blt i c.n) (gvd c.vs i c.d K)
def asC (b : AB) (K : CB → Prop) : Prop := @Sum.rec _ _ (fun _ => Prop) K (fun _ => False) b
def asM (b : AB) (K : List (Value × Value) → Prop) : Prop := @Sum.rec _ _ (fun _ => Prop) (fun _ => False) (fun x => @Sum.rec _ _ (fun _ => Prop) K (fun _ => False) x) b
def asL (b : AB) (K : LB → Prop) : Prop := @Sum.rec _ _ (fun _ => Prop) (fun _ => False) (fun x => @Sum.rec _ _ (fun _ => Prop) (fun _ => False) (fun x => @Sum.rec _ _ (fun _ => Prop) K (fun _ => False) x) x) b
def asD (b : AB) (K : Bool → Prop) : Prop := @Sum.rec _ _ (fun _ => Prop) (fun _ => False) (fun x => @Sum.rec _ _ (fun _ => Prop) (fun _ => False) (fun x => @Sum.rec _ _ (fun _ => Prop) (fun _ => False) K x) x) b
def getC (h : TB) (id : Nat) (K : CB → Prop) : Prop := gb h id (fun b => asC b K)

def cells (k : Nat) : CB → Nat → (List Value → Prop) → Prop :=
  @Nat.rec (fun _ => CB → Nat → (List Value → Prop) → Prop) (fun _ _ K => K []) (fun _ ih c i K => cell c i (fun v => ih c (Nat.succ i) (fun l => K (v :: l)))) k

def setL (l : List Value) : TV → Nat → (TV → Prop) → Prop :=
  @List.rec _ (fun _ => TV → Nat → (TV → Prop) → Prop) (fun t _ K => K t) (fun v _ ih t i K => yes (one v) (setV t i v (fun t => ih t (Nat.succ i) K))) l

def loadV (P : Program) (h : TB) (t : TypeId) (id off : Nat) (K : KV) : Prop :=
  getC h id (fun c => ok (isAgg P t) (fun a => ife a (ok (sizeOf P t) (fun n => cells n c off (fun l => K (.agg ⟨l⟩)))) (cell c off K)))

abbrev KS := AS → Prop
def wr (s : AS) (id : Nat) (c : CB) (off : Nat) (l : List Value) (K : KS) : Prop :=
  yes (!c.ro && Nat.ble (Nat.add off l.length) c.n) (setL l c.vs off (fun vs => setB s.h id (.inl ⟨vs, c.d, c.n, c.ty, false⟩) (fun h => K ⟨h, s.nx⟩)))
def storeV (P : Program) (s : AS) (t : TypeId) (id off : Nat) (v : Value) (K : KS) : Prop :=
  getC s.h id (fun c => ok (sizeOf P t) (fun k => yes (Nat.beq (cellsOf v).length k) (wr s id c off (cellsOf v) K)))
def newB (s : AS) (b : AB) (K : KS) : Prop := setB s.h s.nx b (fun h => nat (Nat.succ s.nx) (fun n => K ⟨h, n⟩))
def newC (s : AS) (ty : TypeId) (l : List Value) (K : KS) : Prop := setL l .nil 0 (fun vs => nat l.length (fun n => newB s (.inl ⟨vs, none, n, ty, false⟩) K))

/-- Parts laid into cells. -/
def fill (l : List (Nat × Value)) : (Nat → Option (Nat × Nat)) → List Value → (List Value → Prop) → Prop :=
  @List.rec _ (fun _ => (Nat → Option (Nat × Nat)) → List Value → (List Value → Prop) → Prop) (fun _ cs K => K cs)
    (fun p _ ih place cs K => ok (place p.1) (fun q => yes (Nat.beq (cellsOf p.2).length q.2) (takeV cs q.1 (fun a => dropV cs (Nat.add q.1 q.2) (fun b => appV (cellsOf p.2) b (fun b => appV a b (fun cs => ih place cs K))))))) l

def places (P : Program) : List Field → Option (List (Nat × Nat))
  | [] => some []
  | f :: rest => match sizeOf P f.type with
    | some n => (match places P rest with | some l => some ((f.offset, n) :: l) | none => none)
    | none => none
def placesOf (P : Program) (t : TypeId) : Option (List (Nat × Nat)) := match structOf P t with | some fs => places P fs | none => none
def plAt (l : List (Nat × Nat)) (i : Nat) : Option (Nat × Nat) := l[i]?

def rep (n : Nat) : List Value → (List Value → Prop) → Prop :=
  @Nat.rec (fun _ => List Value → (List Value → Prop) → Prop) (fun _ K => K []) (fun _ ih l K => ih l (fun r => appV l r K)) n

def buildV (P : Program) (t : TypeId) (ps : List (Nat × Value)) (K : KV) : Prop :=
  ok (zeroV P t) (fun z => @Option.rec _ (fun _ => Prop) (ok (arrOf P t) (fun a => ok (sizeOf P a.2) (fun sz => fill ps (fun i => some (Nat.mul i sz, sz)) (cellsOf z) (fun l => K (.agg ⟨l⟩)))))
    (fun pl => fill ps (plAt pl) (cellsOf z) (fun l => K (.agg ⟨l⟩))) (placesOf P t))

def part (P : Program) (t : TypeId) (cs : List Value) (off : Nat) (K : KV) : Prop :=
  ok (isAgg P t) (fun a => ife a (ok (sizeOf P t) (fun n => dropV cs off (fun l => takeV l n (fun l => K (.agg ⟨l⟩))))) (nthV cs off K))

def byte1 (v : Value) (K : UInt8 → Prop) : Prop := vInt v (fun k n => yes (keq k .u8) (@Int.rec (fun _ => Prop) (fun n => yes (Nat.blt n 256) (K (UInt8.ofNat n))) (fun _ => False) n))
def bytes (l : List Value) : (List UInt8 → Prop) → Prop :=
  @List.rec _ (fun _ => (List UInt8 → Prop) → Prop) (fun K => K []) (fun v _ ih K => byte1 v (fun b => ih (fun bs => K (b :: bs)))) l
def ofB (b : UInt8) : Value := .int .u8 (.ofNat b.toNat)
def ofBs (l : List UInt8) : (List Value → Prop) → Prop :=
  @List.rec _ (fun _ => (List Value → Prop) → Prop) (fun K => K []) (fun b _ ih K => nat b.toNat (fun n => ih (fun vs => K (.int .u8 (.ofNat n) :: vs)))) l

/-! Operations. -/
abbrev LK := Program → Tab → Env → AS → G → KVS → Prop

def lLoad (t : TypeId) (a : Operand) : LK := fun P _ _ s g K => opd a g (fun v => vPtr v (fun id off => loadV P s.h t id off (fun v => K v s)))
def lPick (c a b : Operand) : LK := fun _ _ _ s g K => opd c g (fun v => vBool v (fun t => ife t (opd a g (fun v => K v s)) (opd b g (fun v => K v s))))
def isSet (v : Value) : Bool := match v with | .pointer (some _) => true | .func (.func _) _ _ => true | _ => false
def lNil (x : Operand) : LK := fun _ _ _ s g K => opd x g (fun v => yes (isSet v) (K v s))
def lBin (op : BinOp) (t : TypeId) (x y : Operand) (_ : TypeId) : LK := fun P T _ s g K => opd x g (fun a => opd y g (fun b => bin2 P T op t (isC x || isC y) a b (fun v => K v s)))
def lUn (op : UnOp) (_ : TypeId) (x : Operand) : LK := fun _ T _ s g K => opd x g (fun v => un1 T op v (fun v => K v s))

def isNum (v : Value) : Bool := match v with | .int _ _ => true | _ => false
def byteV (T : Tab) (v : Value) : Bool := match v with
  | .int k n => keq k .u8 && (match n with | .ofNat m => Nat.blt m 256 | _ => false)
  | .complex _ re i => Nat.beq re 4 && T.byte i
  | _ => false
def mkTxt (l : List Value) : Value := .func (.via 0 #[] 0 false) ⟨l⟩ #[]
def strFrom (T : Tab) (h : TB) (id off len : Nat) (K : KV) : Prop := getC h id (fun c => cells len c off (fun l => ife (l.all isNum) (bytes l (fun bs => K (.string ⟨⟨bs⟩⟩))) (yes (l.all (byteV T)) (K (mkTxt l)))))
def convQ (P : Program) (T : Tab) (h : TB) (src dst : TypeId) (v : Value) (K : KV) : Prop :=
  match v with
  | .int _ n => ok (tInt P dst) (fun k => yes (tSome P src) (nint k n K))
  | .complex .. => ok (tInt P dst) (fun k => yes (tSome P src) (ok (T.conv k v) K))
  | .string _ => yes (tStr P dst && tSome P src) (K v)
  | .slice none _ _ => yes (tBytes P src && tStr P dst) (K (.string ⟨⟨[]⟩⟩))
  | .slice (some ⟨id, off, _⟩) len _ => yes (tBytes P src && tStr P dst) (strFrom T h id off len K)
  | _ => False
/-- A slice: where, from which cell on, the elements' size; how many; 0: how many there is room for is not known, c + 1: for c. -/
def mkS (id off sz len cap : Nat) : Value := .slice (some ⟨id, off, some sz⟩) len cap
/-- What is left behind the last element of a slice whose room is not known. -/
def mkT (id off sz len : Nat) : Value := .func (.via id #[⟨off, len, true⟩] sz true) #[] #[]
def lBytes (s : AS) (e : TypeId) (bs : List UInt8) (K : KVS) : Prop := ofBs bs (fun l => newC s e l (fun s' => K (mkS s.nx 0 1 bs.length 0) s'))
def lConv (src dst : TypeId) (x : Operand) : LK := fun P T _ s g K => opd x g (fun v => ife (tBytes P dst) (vStr v (fun bs => ok (elemOf P dst) (fun e => yes (tSome P src) (lBytes s e bs K)))) (convQ P T s.h src dst v (fun v => K v s)))
def lIface (t : TypeId) (x : Operand) : LK := fun P _ _ s g K => opd x g (fun v => yes (!tIface P t && tSome P t) (K (.iface t v) s))
def lFunc (fn : Fn) (a c : Array Operand) : LK := fun _ _ _ s g K => match fn with
  | .func f => opds a.toList g (fun x => opds c.toList g (fun y => K (.func (.func f) ⟨x⟩ ⟨y⟩) s))
  | _ => False

def optd (x : Option Operand) (d : Nat) (g : G) (K : Nat → Prop) : Prop := @Option.rec _ (fun _ => Prop) (nat d K) (fun o => opd o g (fun v => vNat v K)) x

def subS (id off sz len cap l h : Nat) (K : KV) : Prop :=
  yes (Nat.ble l h && Nat.ble h len) (@Nat.rec (fun _ => Prop)
    (ife (Nat.beq l 0) (K (mkS id off sz h 0)) (ife (Nat.blt l len) (nat (Nat.add off (Nat.mul l sz)) (fun o => nat (Nat.sub h l) (fun n => K (mkS id o sz n 0)))) (K (mkT id off sz len))))
    (fun c _ => ife (Nat.beq c l) False (nat (Nat.add off (Nat.mul l sz)) (fun o => nat (Nat.sub h l) (fun n => nat (Nat.sub c l) (fun c => K (mkS id o sz n (Nat.succ c))))))) cap)
def subStr (s : List UInt8) (l h : Nat) (K : KV) : Prop := yes (Nat.ble l h) (drop s l (fun s => take s (Nat.sub h l) (fun s => K (.string ⟨⟨s⟩⟩))))
def subA (id off sz n l h : Nat) (K : KV) : Prop := yes (Nat.ble l h && Nat.ble h n && Nat.blt l n) (nat (Nat.add off (Nat.mul l sz)) (fun o => nat (Nat.sub h l) (fun m => nat (Nat.sub n l) (fun c => K (mkS id o sz m (Nat.succ c))))))

def lSlice (t : TypeId) (x : Operand) (lo hi mx : Option Operand) : LK := fun P _ _ s g K =>
  yes mx.isNone (opd x g (fun v => optd lo 0 g (fun a => vSeq v
    (fun id off sz len cap => ok (elemSize P t) (fun n => yes (Nat.beq n sz) (optd hi len g (fun b => subS id off sz len cap a b (fun v => K v s)))))
    (ok (elemSize P t) (fun _ => optd hi 0 g (fun b => yes (Nat.beq a 0 && Nat.beq b 0) (K (.slice none 0 0) s))))
    (fun id off => ok (arrOf P t) (fun ar => ok (sizeOf P ar.2) (fun sz => optd hi ar.1 g (fun b => getC s.h id (fun c => yes (Nat.ble (Nat.add off (Nat.mul ar.1 sz)) c.n && Nat.blt 0 sz) (subA id off sz ar.1 a b (fun v => K v s)))))))
    (fun q => yes (tStr P t) (optd hi q.length g (fun b => subStr q a b (fun v => K v s))))
    (fun _ => False) False)))

def lFieldA (t : TypeId) (x : Operand) (f : Nat) : LK := fun P _ _ s g K => opd x g (fun v => vPtr v (fun id off => ok (fieldOff P t f) (fun k => nat (Nat.add off k) (fun o => K (.pointer (some ⟨id, o, none⟩)) s))))
def lField (t : TypeId) (x : Operand) (f : Nat) : LK := fun P _ _ s g K => opd x g (fun v => vAgg v (fun cs => ok (fieldAt P t f) (fun fd => part P fd.type cs fd.offset (fun v => K v s))))
def lIndexA (t : TypeId) (x ix : Operand) : LK := fun P _ _ s g K =>
  opd ix g (fun w => vNat w (fun i => opd x g (fun v => vSeq v
    (fun id off sz len _ => ok (elemSize P t) (fun n => yes (Nat.beq n sz && Nat.blt i len) (nat (Nat.add off (Nat.mul i sz)) (fun o => K (.pointer (some ⟨id, o, none⟩)) s))))
    False
    (fun id off => ok (arrOf P t) (fun ar => ok (sizeOf P ar.2) (fun sz => yes (Nat.blt i ar.1) (nat (Nat.add off (Nat.mul i sz)) (fun o => K (.pointer (some ⟨id, o, none⟩)) s)))))
    (fun _ => False) (fun _ => False) False)))
def lIndex (t : TypeId) (x ix : Operand) : LK := fun P _ _ s g K =>
  opd ix g (fun w => vNat w (fun i => opd x g (fun v => vTxt v (fun l => yes (tStr P t) (nthV l i (fun b => K b s))) <| vSeq v (fun _ _ _ _ _ => False) False (fun _ _ => False)
    (fun q => yes (tStr P t) (nthB q i (fun b => nat b.toNat (fun n => K (.int .u8 (.ofNat n)) s))))
    (fun cs => ok (arrOf P t) (fun ar => ok (sizeOf P ar.2) (fun sz => yes (Nat.blt i ar.1) (part P ar.2 cs (Nat.mul i sz) (fun v => K v s))))) False)))

def keyIs (k a : Value) (K : Bool → Prop) : Prop :=
  vBin k (fun kx x => vInt a (fun ky y => yes (keq kx ky) (boo (ieq x y) K))) (fun x => vStr a (fun y => leq x y K)) False
def keyOk (P : Program) (t : TypeId) (k : Value) : Bool :=
  match k with
  | .string _ => tStr P t
  | .int _ _ => (tInt P t).isSome
  | _ => false
def findE (l : List (Value × Value)) : Value → (Value → Prop) → Prop → Prop :=
  @List.rec _ (fun _ => Value → (Value → Prop) → Prop → Prop) (fun _ _ Kn => Kn) (fun p _ ih k K Kn => keyIs k p.1 (fun b => ife b (K p.2) (ih k K Kn))) l
def lLook (t : TypeId) (x ix : Operand) (c : Bool) : LK := fun P _ _ s g K =>
  opd x g (fun v => vMap v (fun id => opd ix g (fun k => ok (tMap P t) (fun ke => yes (keyOk P ke.1 k) (gb s.h id (fun b => asM b (fun es =>
    findE es k (fun v => ife c (K (.tuple #[v, .bool true]) s) (K v s)) (ok (zeroV P ke.2) (fun z => ife c (K (.tuple #[z, .bool false]) s) (K z s)))))))))) 
def lExtract (t : Operand) (i : Nat) : LK := fun _ _ _ s g K => opd t g (fun v => vTup v (fun vs => nthV vs i (fun v => K v s)))
def lBuildV (t : TypeId) (ps : Array (Nat × Operand)) : LK := fun P _ _ s g K => parts ps.toList g (fun ps => buildV P t ps (fun v => K v s))
def lAssert (x : Operand) (_ : TypeId) (a : TypeId) (c : Bool) : LK := fun P _ _ s g K =>
  opd x g (fun v => vIface v (fun t u => yes (!tIface P a && tSome P a && Nat.beq t a) (ife c (K (.tuple #[u, .bool true]) s) (K u s))))
def lenV (P : Program) (t : TypeId) (v : Value) (K : Nat → Prop) : Prop :=
  vTxt v (fun l => yes (tStr P t) (nat l.length K)) <| vSeq v (fun _ _ _ n _ => yes (tSlice P t) (K n)) (yes (tSlice P t) (K 0)) (fun _ _ => False) (fun s => yes (tStr P t) (nat s.length K)) (fun _ => False) False
def capV (P : Program) (t : TypeId) (v : Value) (K : Nat → Prop) : Prop :=
  vSeq v (fun _ _ _ _ c => yes (tSlice P t) (@Nat.rec (fun _ => Prop) False (fun c _ => K c) c)) (yes (tSlice P t) (K 0)) (fun _ _ => False) (fun _ => False) (fun _ => False) False
def min2 (a b : Value) (K : KV) : Prop := vInt a (fun k x => vInt b (fun k' y => yes (keq k k') (ife (ilt y x) (K (.int k y)) (K (.int k x)))))
def one1 {α : Type} (l : List α) (K : α → Prop) : Prop := match l with | [x] => K x | _ => False
def two {α : Type} (l : List α) (K : α → α → Prop) : Prop := match l with | [a, b] => K a b | _ => False
def fst2 {α : Type} (l : List α) (K : α → α → Prop) : Prop := match l with | a :: b :: _ => K a b | _ => False
def lLen (args : Array Operand) (ts : Array TypeId) : LK := fun P _ _ s g K => one1 args.toList (fun x => one1 ts.toList (fun t => opd x g (fun v => lenV P t v (fun n => K (.int .i64 (.ofNat n)) s))))
def lCap (args : Array Operand) (ts : Array TypeId) : LK := fun P _ _ s g K => one1 args.toList (fun x => one1 ts.toList (fun t => opd x g (fun v => capV P t v (fun n => K (.int .i64 (.ofNat n)) s))))
def lMin (args : Array Operand) : LK := fun _ _ _ s g K => two args.toList (fun a b => opd a g (fun x => opd b g (fun y => min2 x y (fun v => K v s))))

def newP (s : AS) (ty : TypeId) (l : List Value) (K : KVS) : Prop := newC s ty l (fun s' => K (.pointer (some ⟨s.nx, 0, none⟩)) s')
def lAlloc (t : TypeId) : LK := fun P _ _ s _ K => ok (zeroV P t) (fun z => newP s t (cellsOf z) K)
def lBox (t : TypeId) (x : Operand) : LK := fun _ _ _ s g K => opd x g (fun v => newP s t (cellsOf v) K)
def lBuild2 (s : AS) (e : TypeId) (len sz : Nat) (ps : List (Nat × Value)) (z : List Value) (K : KVS) : Prop :=
  yes (Nat.beq z.length sz && Nat.ble (Nat.mul len sz) 16777216 && Nat.blt 0 (Nat.mul len sz)) (rep len z (fun zs => fill ps (fun i => some (Nat.mul i sz, sz)) zs (fun cs => newC s e cs (fun s' => K (mkS s.nx 0 sz len (Nat.succ len)) s'))))
def lBuild (t : TypeId) (len : Nat) (ps : Array (Nat × Operand)) : LK := fun P _ _ s g K =>
  ok (elemOf P t) (fun e => parts ps.toList g (fun ps => ok (sizeOf P e) (fun sz => ok (zeroV P e) (fun z => lBuild2 s e len sz ps (cellsOf z) K))))
def lMap2 (s : AS) (K : KVS) : Prop := newB s (.inr (.inl [])) (fun s' => K (.map (some s.nx)) s')
def lMap (t : TypeId) (r : Option Operand) : LK := fun P _ _ s g K => @Option.rec _ (fun _ => Prop) (lMap2 s K) (fun x => ok (tMap P t) (fun _ => opd x g (fun v => vInt v (fun _ _ => lMap2 s K)))) r
def lMake2 (s : AS) (e : TypeId) (by_ sz n c : Nat) (z : Value) (K : KVS) : Prop :=
  yes (Nat.ble n c && Nat.blt (Nat.mul c by_) 1000000000 && Nat.beq sz 1 && one z && Nat.blt c 1000000000) (newB s (.inl ⟨.nil, some z, c, e, false⟩) (fun s' => K (mkS s.nx 0 1 n (Nat.succ c)) s'))
def lMake (t : TypeId) (n c : Operand) : LK := fun P _ _ s g K =>
  ok (elemOf P t) (fun e => opd n g (fun v => vNat v (fun n => opd c g (fun w => vNat w (fun c => ok (bytesOf P e) (fun b => ok (sizeOf P e) (fun sz => ok (zeroV P e) (fun z => lMake2 s e b sz n c z K))))))))
def lStore (t : TypeId) (a x : Operand) : LK := fun P _ _ s g K => opd a g (fun p => vPtr p (fun id off => opd x g (fun v => storeV P s t id off v (fun s => K (.tuple #[]) s))))

def updE (l : List (Value × Value)) : Value → Value → (List (Value × Value) → Prop) → Prop :=
  @List.rec _ (fun _ => Value → Value → (List (Value × Value) → Prop) → Prop) (fun k v K => K [(k, v)]) (fun p l ih k v K => keyIs k p.1 (fun b => ife b (K ((k, v) :: l)) (ih k v (fun l => K (p :: l))))) l
def lUpd (t : TypeId) (m k x : Operand) : LK := fun P _ _ s g K =>
  opd m g (fun mv => vMap mv (fun id => opd k g (fun kv => opd x g (fun v => ok (tMap P t) (fun ke => yes (keyOk P ke.1 kv) (gb s.h id (fun b => asM b (fun es => updE es kv v (fun es => setB s.h id (.inr (.inl es)) (fun h => K (.tuple #[]) ⟨h, s.nx⟩))))))))))

/-- What is appended, or copied: how many, and the cells. -/
def most (len : Nat) (m : Option Nat) (K : Nat → Prop) : Prop := @Option.rec _ (fun _ => Prop) (K len) (fun n => ife (Nat.ble len n) (K len) (K n)) m
def srcV (s : AS) (sz : Nat) (m : Option Nat) (v : Value) (K : Nat → List Value → Prop) : Prop :=
  vSeq v (fun id off sz' len _ => most len m (fun n => yes (Nat.beq sz sz') (getC s.h id (fun c => cells (Nat.mul n sz) c off (fun l => K n l)))))
    (K 0 []) (fun _ _ => False) (fun bs => most bs.length m (fun n => yes (Nat.beq sz 1) (take bs n (fun bs => ofBs bs (fun l => nat n (fun n => K n l)))))) (fun _ => False) (K 0 [])

def grow (s : AS) (ty : TypeId) (by_ id : Nat) (c : CB) (off sz len m : Nat) (new : List Value) (dead : Bool) (K : KVS) : Prop :=
  yes (Nat.ble (Nat.add off (Nat.mul len sz)) c.n && !c.ro && Nat.beq c.ty ty && Nat.blt (Nat.mul (Nat.add len m) by_) 1000000000 && Nat.blt (Nat.add len m) 1000000000) (nat (Nat.mul (Nat.add len m) sz) (fun n => nat (Nat.add len m) (fun len' =>
    (fun (K' : TV → Prop) => ife (Nat.beq off 0) (setL new c.vs (Nat.mul len sz) K') (cells (Nat.mul len sz) c off (fun old => appV old new (fun l => setL l .nil 0 K'))))
      (fun vs => (fun (K' : TB → Prop) => ife dead (delB s.h id K') (K' s.h)) (fun h => newB ⟨h, s.nx⟩ (.inl ⟨vs, c.d, n, ty, false⟩) (fun s' => K (mkS s.nx 0 sz len' 0) s'))))))
def appS (s : AS) (ty : TypeId) (by_ sz id off len cap m : Nat) (new : List Value) (K : KVS) : Prop :=
  getC s.h id (fun c => @Nat.rec (fun _ => Prop) (grow s ty by_ id c off sz len m new true K)
    (fun k _ => ife (Nat.ble (Nat.add len m) k) (wr s id c (Nat.add off (Nat.mul len sz)) new (fun s' => nat (Nat.add len m) (fun n => K (mkS id off sz n (Nat.succ k)) s'))) (grow s ty by_ id c off sz len m new false K)) cap)
def appN (s : AS) (ty : TypeId) (by_ sz m : Nat) (new : List Value) (K : KVS) : Prop :=
  ife (Nat.beq m 0) (K (.slice none 0 0) s) (yes (Nat.blt (Nat.mul m by_) 1000000000 && Nat.blt m 1000000000) (newC s ty new (fun s' => K (mkS s.nx 0 sz m 0) s')))
def appE (s : AS) (ty : TypeId) (by_ sz : Nat) (x : Value) (m : Nat) (new : List Value) (K : KVS) : Prop :=
  yes (Nat.beq new.length (Nat.mul m sz) && Nat.blt 0 sz) (vSeq x (fun id off sz' len cap => yes (Nat.beq sz sz') (appS s ty by_ sz id off len cap m new K)) (appN s ty by_ sz m new K) (fun _ _ => False) (fun _ => False) (fun _ => False) False)
def zeros (z : Value) (by_ m : Nat) (K : Nat → List Value → Prop) : Prop := yes (one z && Nat.blt m 1000000 && Nat.blt (Nat.mul m by_) 1000000000) (rep m [z] (fun l => K m l))
def lAppend (args : Array Operand) (ts : Array TypeId) : LK := fun P _ _ s g K =>
  two args.toList (fun a b => fst2 ts.toList (fun t t' => opd a g (fun x => opd b g (fun y => ok (elemOf P t) (fun el => ok (sizeOf P el) (fun sz => ok (bytesOf P el) (fun by_ => ok (zeroV P el) (fun z => yes (Nat.beq (cellsOf z).length sz)
    (ife (tInt P t').isSome (vNat y (fun m => zeros z by_ m (fun m new => appE s el by_ sz x m new K))) (yes (tSome P t') (srcV s sz none y (fun m new => appE s el by_ sz x m new K)))))))))))) 
def copyTo (s : AS) (id off m : Nat) (l : List Value) (K : KVS) : Prop := getC s.h id (fun c => wr s id c off l (fun s' => K (.int .i64 (.ofNat m)) s'))
def lCopy (args : Array Operand) (ts : Array TypeId) : LK := fun P _ _ s g K =>
  two args.toList (fun a b => fst2 ts.toList (fun t _ => opd a g (fun x => opd b g (fun y => ok (elemSize P t) (fun sz => vSeq x
    (fun id off sz' dl _ => yes (Nat.beq sz sz') (srcV s sz (some dl) y (fun m new => copyTo s id off m new K)))
    (srcV s sz (some 0) y (fun _ _ => K (.int .i64 (.ofNat 0)) s)) (fun _ _ => False) (fun _ => False) (fun _ => False) (srcV s sz (some 0) y (fun _ _ => K (.int .i64 (.ofNat 0)) s)))))))
def ptrOf (P : Program) (t : TypeId) : Option TypeId := match P.underlying t with | some (.pointer e) => some e | _ => none
def uStr (s : AS) (el : TypeId) (id off n : Nat) (K : KVS) : Prop :=
  getC s.h id (fun c => yes (Nat.beq c.ty el && !c.ro && Nat.blt 0 n && Nat.blt n 1000000000) (cells n c off (fun l => bytes l (fun bs => setB s.h id (.inl ⟨c.vs, c.d, c.n, c.ty, true⟩) (fun h => K (.string ⟨⟨bs⟩⟩) ⟨h, s.nx⟩)))))
def lUStr (args : Array Operand) (ts : Array TypeId) : LK := fun P _ _ s g K => two args.toList (fun a b => fst2 ts.toList (fun t _ => ok (ptrOf P t) (fun el => ok (sizeOf P el) (fun sz => yes (Nat.beq sz 1) (opd a g (fun p => vPtr p (fun id off => opd b g (fun v => vNat v (fun n => uStr s el id off n K)))))))))

def lNone : LK := fun _ _ _ _ _ _ => False
def lBuiltin (b : Builtin) (args : Array Operand) (ts : Array TypeId) : LK :=
  match b with
  | .append => lAppend args ts
  | .copy => lCopy args ts
  | .unsafeString => lUStr args ts
  | .len => lLen args ts
  | .cap => lCap args ts
  | .min => lMin args
  | _ => lNone
def lCallO (f : Operand) (args : Array Operand) : LK := fun _ _ e s g K =>
  opd f g (fun v => opds args.toList g (fun as => vFn v (fun f a c => appV as c (fun r => appV a r (fun r => e.callF s f r K))) (fun r => e.roundF s r as K)))
def lCall (c : Call) : LK := @Callee.rec (fun _ => LK) (fun f => lCallO f c.args) (fun _ _ => lNone) (fun b => lBuiltin b c.args c.argTypes) c.callee

def lOp (o : Op) : LK :=
  @Op.rec (fun _ => LK) (fun x _ _ _ s g K => opd x g (fun v => K v s)) (fun x _ _ _ s g K => opd x g (fun v => K v s)) lPick lAlloc lBox lBuildV lBuild (fun _ _ _ _ => lNone) lLoad lStore (fun _ => lNone) (fun _ => lNone) lNil lBin lUn lConv (fun _ _ => lNone) lIface lFunc lMap (fun _ _ => lNone) lMake lSlice lFieldA lField lIndexA lIndex lLook lUpd (fun _ _ _ => lNone) (fun _ _ _ _ => lNone) (fun _ _ => lNone) (fun _ _ => lNone) (fun _ => lNone) lAssert lExtract lCall (fun _ => lNone) (fun _ => lNone) (fun _ => lNone) (fun _ _ => lNone) (fun _ _ _ => lNone) (fun _ _ => lNone) o

/-! Code. -/
structure AA where
  regs : TV
  n : Nat
  defers : List Deferred
abbrev KA := AA → AS → Prop

def guardOk (all : List Oper) (g : G) (o : Oper) (Kt Kf : Prop) : Prop :=
  @Option.rec _ (fun _ => Prop) Kt (fun jw => nthO all jw.1 (fun p => ok p.dst (fun t => g t (fun v => vGuard v (fun b => ife b (ife jw.2 Kt Kf) (ife jw.2 Kf Kt)) Kf)))) o.guard

def frs (l : List Deferred) (K : List Deferred → Prop) : Prop := @List.rec _ (fun _ => Prop) (K []) (fun x l _ => K (x :: l)) l
def putR (a : AA) (dst : Option Tmp) (v : Value) (K : AA → Prop) : Prop := @Option.rec _ (fun _ => Prop) (K a) (fun d => nat a.n (fun n => yes (Nat.blt d n) (frs a.defers (fun df => setV a.regs d v (fun t => K ⟨t, n, df⟩))))) dst

def isDefer (o : Op) : Option Call := match o with | .defer c => some c | _ => none
def lDefer (c : Call) (e : Env) (a : AA) (K : AA → Prop) : Prop :=
  yes (!e.rnd) (match c.callee with
    | .value f => opd f (gv a.regs) (fun v => opds c.args.toList (gv a.regs) (fun as => match v with
      | .func (.func f) ⟨x⟩ c => K ⟨a.regs, a.n, { target := .fn (.func f) c, args := ⟨x ++ as⟩ } :: a.defers⟩
      | _ => False))
    | _ => False)

def evOp (o : Oper) (P : Program) (T : Tab) (e : Env) (a : AA) (s : AS) (K : KA) : Prop :=
  @Option.rec _ (fun _ => Prop) (lOp o.op P T e s (gv a.regs) (fun v s => putR a o.dst v (fun a => K a s))) (fun c => lDefer c e a (fun a => putR a o.dst (.tuple #[]) (fun a => K a s))) (isDefer o.op)

def evOps (l : List Oper) : Program → Tab → Env → List Oper → AA → AS → KA → Prop :=
  @List.rec _ (fun _ => Program → Tab → Env → List Oper → AA → AS → KA → Prop) (fun _ _ _ _ a s K => K a s)
    (fun o _ ih P T e all a s K => guardOk all (gv a.regs) o (evOp o P T e a s (fun a s => ih P T e all a s K)) (putR a o.dst (.tuple #[]) (fun a => ih P T e all a s K))) l

abbrev KX := Exit → AA → AS → Prop
abbrev CK := Program → Tab → Env → AA → AS → KA → KX → Prop

def evLoop (n : Nat) : (AA → AS → KA → KX → Prop) → AA → AS → KX → Prop :=
  @Nat.rec (fun _ => (AA → AS → KA → KX → Prop) → AA → AS → KX → Prop) (fun _ _ _ _ => False) (fun _ ih f a s Kx => f a s (fun a s => ih f a s Kx) Kx) n

def blockX (id : Nat) (Kn : KA) (Kx : KX) : KX := fun x a s => match x with
  | .exit i => ife (Nat.beq i id) (Kn a s) (Kx (.exit i) a s)
  | _ => Kx x a s

def axOf (c : Option Code) (a : AA) (s : AS) (Kn : KA) (Kx : KX) : Prop :=
  match c with
  | none => Kn a s
  | some .ret => Kx .ret a s
  | some (.exit id) => Kx (.exit id) a s
  | _ => False

def loopDone (r : LB) : Bool := match r.st with | .busy => false | _ => true
def endLoop (s : AS) (l : Nat) (K : Option Code → AS → Prop) : Prop :=
  gb s.h l (fun b => asL b (fun r => yes (loopDone r) (setB s.h l (.inr (.inr (.inl ⟨.exhausted, r.pend, r.regs, r.n, r.params, r.assign, r.body⟩))) (fun h => K r.pend ⟨h, s.nx⟩))))

def rangeIn (e : Env) (a : AA) (s : AS) (v : Value) (params : List Tmp) (assign body : Code) (Kn : KA) (Kx : KX) : Prop :=
  vFn v (fun f x c => newB s (.inr (.inr (.inl ⟨.ready, none, a.regs, a.n, params, assign, body⟩))) (fun s' => appV x (.func (.yield s.nx) #[] #[] :: c) (fun r => e.callF s' f r (fun _ s' => endLoop s' s.nx (fun p s' => axOf p a s' Kn Kx))))) (fun _ => False)

def evRange (f : Operand) (params : Array Tmp) (assign body : Code) : CK := fun _ _ e a s Kn Kx =>
  opd f (gv a.regs) (fun v => ife e.rnd False
    (newB s (.inr (.inr (.inr false))) (fun s' => rangeIn e ⟨a.regs, a.n, { target := .collected s.nx, args := #[] } :: a.defers⟩ s' v params.toList assign body Kn Kx)))

/-! A region whose order is drawn: a plan of it, and the walk. -/
def quietB : Builtin → Bool
  | .len => true
  | .cap => true
  | .min => true
  | _ => false
def quietO (P : Program) : Op → Bool
  | .move _ => true
  | .assign _ => true
  | .pick _ _ _ => true
  | .build _ _ => true
  | .load _ _ => true
  | .nilCheck _ => true
  | .binOp _ _ _ _ _ => true
  | .unOp _ _ _ => true
  | .convert _ d _ => !tBytes P d
  | .makeInterface _ _ => true
  | .makeFunc _ _ _ => true
  | .slice _ _ _ _ _ => true
  | .fieldAddr _ _ _ => true
  | .field _ _ _ => true
  | .indexAddr _ _ _ => true
  | .index _ _ _ => true
  | .lookup _ _ _ _ => true
  | .typeAssert _ _ _ _ => true
  | .extract _ _ => true
  | .call c => match c.callee with | .builtin b => quietB b | _ => false
  | _ => false
/-- A new block that may be made early. -/
def alOk (P : Program) (o : Oper) : Bool := o.guard.isNone && (match o.op with | .alloc t => (zeroV P t).isSome | _ => false)

structure Step where
  o : Oper
  i : Nat
  q : Bool
  al : Bool
  mask : Nat
  reads : List Tmp

def nthN : List Nat → Nat → Nat
  | [], _ => 0
  | a :: _, 0 => a
  | _ :: l, n + 1 => nthN l n
def bindsA (g : Ground) : Bool := match g with
  | .textOnly _ => false
  | .gcOnly _ => false
  | _ => true
def maskOf (acc : List Nat) : List Edge → Nat
  | [] => 0
  | e :: l => bif bindsA e.ground then Nat.lor (Nat.lor (Nat.pow 2 e.on) (nthN acc e.on)) (maskOf acc l) else maskOf acc l
def tmpsOf : List Operand → List Tmp
  | [] => []
  | .tmp t :: l => t :: tmpsOf l
  | _ :: l => tmpsOf l
def dstOf : List Oper → Nat → List Tmp
  | [], _ => []
  | o :: _, 0 => o.dst.toList
  | _ :: l, n + 1 => dstOf l n
def readsOf (all : List Oper) (o : Oper) : List Tmp := (match o.guard with | some (j, _) => dstOf all j | none => []) ++ tmpsOf o.op.operands.toList
def stepsOf (P : Program) (all : List Oper) : List Oper → Nat → List Nat → List Step
  | [], _, _ => []
  | o :: l, i, acc => ⟨o, i, quietO P o.op, alOk P o, maskOf acc o.after.toList, readsOf all o⟩ :: stepsOf P all l (Nat.succ i) (acc ++ [maskOf acc o.after.toList])
def sub (m d : Nat) : Bool := Nat.beq (Nat.land m d) m
def has (d i : Nat) : Bool := Nat.beq (Nat.land (Nat.shiftRight d i) 1) 1
def nextS (want : Step → Bool) (d : Nat) : List Step → Option Step
  | [] => none
  | s :: l => bif !has d s.i && sub s.mask d && want s then some s else nextS want d l
def pickS (d : Nat) (l : List Step) : Option Step := match nextS (fun s => s.q) d l with
  | some s => some s
  | none => match nextS (fun s => !s.al) d l with
    | some s => some s
    | none => nextS (fun _ => true) d l
def orderS (l : List Step) : Nat → Nat → List Step
  | 0, _ => []
  | n + 1, d => match pickS d l with
    | none => []
    | some s => s :: orderS l n (Nat.lor d (Nat.pow 2 s.i))
/-- Each comes behind what it waits for, and waits for all before it that are not quiet, but for a new block that may be made early; n in all. -/
def chk (n : Nat) : List Step → Nat → Nat → Bool
  | [], d, _ => Nat.beq d (Nat.sub (Nat.pow 2 n) 1)
  | s :: l, d, lm => !has d s.i && sub s.mask d && (sub lm s.mask || s.al) && chk n l (Nat.lor d (Nat.pow 2 s.i)) (bif s.q then lm else Nat.lor lm (Nat.pow 2 s.i))
def allB {α : Type} (p : α → Bool) : List α → Bool
  | [] => true
  | a :: l => p a && allB p l
def memT (t : Nat) : List Nat → Bool
  | [] => false
  | a :: l => Nat.beq a t || memT t l
def pairS (a b : Step) : Bool := Nat.beq a.i b.i || (allB (fun t => !memT t b.o.dst.toList) a.o.dst.toList && (has b.mask a.i || has a.mask b.i || (allB (fun t => !memT t b.reads) a.o.dst.toList && allB (fun t => !memT t a.reads) b.o.dst.toList)))
def planOk (n : Nat) (l : List Step) : Bool := chk n l 0 0 && allB (fun a => allB (pairS a) l) l
def planOf (P : Program) (ops : List Oper) : List Step := orderS (stepsOf P ops ops 0 []) ops.length 0

def gvD (t : TV) : Nat → Prop → (Value → Prop) → Prop :=
  @BT.rec _ (fun _ => Nat → Prop → (Value → Prop) → Prop) (fun _ K0 _ => K0)
    (fun _ _ v _ _ ihl ihr n K0 K => @Nat.rec (fun _ => Prop) (@Option.rec _ (fun _ => Prop) K0 K v)
      (fun m _ => @Bool.rec (fun _ => Prop) (ihr (Nat.div m 2) K0 K) (ihl (Nat.div m 2) K0 K) (Nat.beq (Nat.mod m 2) 0)) n) t
def small (l : List Tmp) : TV → TV → (TV → Prop) → Prop :=
  @List.rec _ (fun _ => TV → TV → (TV → Prop) → Prop) (fun _ t K => K t) (fun x _ ih r t K => gvD r x (ih r t K) (fun v => setV t x v (fun t => ih r t K))) l

def onatS (a b : Option Nat) : Bool := match a with
  | none => b.isNone
  | some i => match b with | none => false | some j => Nat.beq i j
def oeq (a b : Option Addr) : Bool := match a with
  | none => b.isNone
  | some x => match b with | none => false | some y => Nat.beq x.1 y.1 && Nat.beq x.2 y.2 && onatS x.3 y.3
def leqB : List UInt8 → List UInt8 → Bool
  | [], [] => true
  | a :: l, b :: m => Nat.beq a.toNat b.toNat && leqB l m
  | _, _ => false
def qBool (x : Bool) : Value → Bool
  | .bool y => bif x then y else !y
  | _ => false
def qInt (k : IntKind) (n : Int) : Value → Bool
  | .int k' n' => keq k k' && ieq n n'
  | _ => false
def qStr (x : List UInt8) : Value → Bool
  | .string y => leqB x y.data.toList
  | _ => false
def qPtr (a : Option Addr) : Value → Bool
  | .pointer b => oeq a b
  | _ => false
def qSlice (a : Option Addr) (l c : Nat) : Value → Bool
  | .slice a' l' c' => oeq a a' && Nat.beq l l' && Nat.beq c c'
  | _ => false
def onat (a b : Option Nat) : Bool := match a with
  | none => b.isNone
  | some i => match b with | none => false | some j => Nat.beq i j
def qMap (a : Option Nat) : Value → Bool
  | .map b => onat a b
  | _ => false
def qNilF : Value → Bool
  | .nilFunc => true
  | _ => false
def qNilI : Value → Bool
  | .nilIface => true
  | _ => false
def qTup (x : List Value) : Value → Bool
  | .tuple a => x.isEmpty && a.toList.isEmpty
  | _ => false
def fno : FloatKind → Nat
  | .f32 => 0
  | .f64 => 1
def qComplex (k : FloatKind) (re im : Nat) : Value → Bool
  | .complex k' re' im' => Nat.beq (fno k) (fno k') && Nat.beq re re' && Nat.beq im im'
  | _ => false
def veq1 (a b : Value) : Bool := match a with
  | .complex k re im => qComplex k re im b
  | .bool x => qBool x b
  | .int k n => qInt k n b
  | .string x => qStr x.data.toList b
  | .pointer x => qPtr x b
  | .slice x l c => qSlice x l c b
  | .map x => qMap x b
  | .nilFunc => qNilF b
  | .nilIface => qNilI b
  | .tuple x => qTup x.toList b
  | _ => false
def all2 (p : Value → Value → Bool) : List Value → List Value → Bool
  | [], [] => true
  | a :: l, b :: m => p a b && all2 p l m
  | _, _ => false
def beqB (x y : Bool) : Bool := bif x then y else !y
def pathEq : List FieldStep → List FieldStep → Bool
  | [], [] => true
  | a :: l, b :: m => Nat.beq a.1 b.1 && Nat.beq a.2 b.2 && beqB a.3 b.3 && pathEq l m
  | _, _ => false
def fnEq (f g : Fn) : Bool := match f with
  | .via i p n b => (match g with | .via j q m c => Nat.beq i j && pathEq p.toList q.toList && Nat.beq n m && beqB b c | _ => false)
  | .func i => (match g with | .func j => Nat.beq i j | _ => false)
  | .yield i => (match g with | .yield j => Nat.beq i j | _ => false)
  | _ => false
def qFn (p : Value → Value → Bool) (f : Fn) (x y : List Value) : Value → Bool
  | .func g a b => fnEq f g && all2 p x a.toList && all2 p y b.toList
  | _ => false
def qIface (p : Value → Value → Bool) (t : TypeId) (x : Value) : Value → Bool
  | .iface u y => Nat.beq t u && p x y
  | _ => false
def qAgg (p : Value → Value → Bool) (x : List Value) : Value → Bool
  | .agg a => all2 p x a.toList
  | _ => false
def qTups (p : Value → Value → Bool) (x : List Value) : Value → Bool
  | .tuple a => all2 p x a.toList
  | _ => false
def veqS (p : Value → Value → Bool) (a b : Value) : Bool := match a with
  | .agg x => qAgg p x.toList b
  | .tuple x => qTups p x.toList b
  | .iface t x => qIface p t x b
  | .func f x y => qFn p f x.toList y.toList b
  | _ => veq1 a b
def veq (a b : Value) : Bool := veqS (veqS (veqS (veqS veq1))) a b

def evG (o : Oper) (all : List Oper) (P : Program) (T : Tab) (e : Env) (s : AS) (t : TV) (K : KVS) : Prop :=
  guardOk all (gv t) o (lOp o.op P T e s (gv t) K) (K (.tuple #[]) s)
abbrev Pend := Oper × Nat × TV × Value
def again (l : List Pend) : List Oper → Program → Tab → Env → AS → Nat → (List Pend → Prop) → Prop :=
  @List.rec _ (fun _ => List Oper → Program → Tab → Env → AS → Nat → (List Pend → Prop) → Prop) (fun _ _ _ _ _ _ K => K [])
    (fun x _ ih all P T e s m K => ife (has m x.2.1) (ih all P T e s m K) (evG x.1 all P T e s x.2.2.1 (fun v _ => yes (veq x.2.2.2 v) (ih all P T e s m (fun l => K (x :: l)))))) l
def evSteps (l : List Step) : List Oper → Program → Tab → Env → AA → AS → List Pend → KA → Prop :=
  @List.rec _ (fun _ => List Oper → Program → Tab → Env → AA → AS → List Pend → KA → Prop) (fun _ _ _ _ a s _ K => K a s)
    (fun st _ ih all P T e a s pend K => small st.reads a.regs .nil (fun t => ife st.q
      (evG st.o all P T e s t (fun v _ => evG st.o all P T e s t (fun v' _ => yes (veq v v') (putR a st.o.dst v (fun a => ih all P T e a s ((st.o, st.i, t, v) :: pend) K)))))
      (evG st.o all P T e s t (fun v s => again pend all P T e s st.mask (fun pend => putR a st.o.dst v (fun a => ih all P T e a s pend K)))))) l
def evDrawn (ops : Array Oper) (P : Program) (T : Tab) (e : Env) (a : AA) (s : AS) (K : KA) : Prop :=
  yes (planOk ops.toList.length (planOf P ops.toList)) (evSteps (planOf P ops.toList) ops.toList P T e a s [] K)

def evCode (c : Code) : CK :=
  @Code.rec (fun _ => CK) (fun _ _ _ a s Kn _ => Kn a s) (fun _ ops d P T e a s Kn _ => ife d (evDrawn ops P T e a s Kn) (evOps ops.toList P T e ops.toList a s Kn)) (fun _ _ ihx ihy P T e a s Kn Kx => ihx P T e a s (fun a s => ihy P T e a s Kn Kx) Kx)
    (fun c _ _ ihx ihy P T e a s Kn Kx => opd c (gv a.regs) (fun v => vBool v (fun b => ife b (ihx P T e a s Kn Kx) (ihy P T e a s Kn Kx)))) (fun id _ ih P T e a s Kn Kx => ih P T e a s Kn (blockX id Kn Kx))
    (fun _ ih P T e a s _ Kx => evLoop 100000 (ih P T e) a s Kx) (fun f ps as bd _ _ => evRange f ps as bd) (fun id _ _ _ a s _ Kx => Kx (.exit id) a s) (fun _ _ _ _ _ _ _ _ _ => False) (fun _ _ _ _ a s Kn _ => Kn a s) (fun _ _ _ _ _ _ _ _ => False) (fun _ _ _ a s _ Kx => Kx .ret a s) (fun _ _ _ _ _ _ _ _ => False) c

def resV (P : Program) (h : TB) (g : G) (r : ResultVar) (K : KV) : Prop :=
  match r with
  | .tmp t => g t K
  | .cell a t => g a (fun v => vPtr v (fun id off => loadV P h t id off K))
def results (l : List ResultVar) : Program → TB → G → (List Value → Prop) → Prop :=
  @List.rec _ (fun _ => Program → TB → G → (List Value → Prop) → Prop) (fun _ _ _ K => K []) (fun r _ ih P h g K => resV P h g r (fun v => ih P h g (fun vs => K (v :: vs)))) l

def setArgs (l : List Value) : Nat → TV → (TV → Prop) → Prop :=
  @List.rec _ (fun _ => Nat → TV → (TV → Prop) → Prop) (fun _ t K => K t) (fun v _ ih i t K => setV t i v (fun t => ih (Nat.succ i) t K)) l
def setPar (l : List Tmp) : List Value → TV → Nat → (TV → Prop) → Prop :=
  @List.rec _ (fun _ => List Value → TV → Nat → (TV → Prop) → Prop) (fun vs t _ K => @List.rec _ (fun _ => Prop) (K t) (fun _ _ _ => False) vs) (fun p _ ih vs t n K => @List.rec _ (fun _ => Prop) False (fun v vs _ => yes (Nat.blt p n) (setV t p v (fun t => ih vs t n K))) vs) l

def evDefers (l : List Deferred) : (FuncId → Bool) → AS → KS → Prop :=
  @List.rec _ (fun _ => (FuncId → Bool) → AS → KS → Prop) (fun _ s K => K s) (fun d _ ih noop s K => match d.target with
    | .collected id => gb s.h id (fun b => asD b (fun t => ife t False (setB s.h id (.inr (.inr (.inr true))) (fun h => ih noop ⟨h, s.nx⟩ K))))
    | .fn (.func f) _ => yes (noop f) (ih noop s K)
    | _ => False) l

def tup (l : List Value) : Value := match l with | [v] => v | _ => .tuple ⟨l⟩
def leaveX (x : Exit) (K : Prop) : Prop := match x with | .ret => K | _ => False
def leave (P : Program) (e : Env) (fn : Func) (a : AA) (s : AS) (K : KVS) : Prop :=
  evDefers a.defers e.noop s (fun s => results fn.results.toList P s.h (gv a.regs) (fun l => K (tup l) s))
def callIn (P : Program) (T : Tab) (e : Env) (s : AS) (f : FuncId) (args : List Value) (K : KVS) : Prop :=
  ok (P.funcs[f]?) (fun fn => ok fn.body (fun c => setArgs args 0 .nil (fun t => evCode c P T e ⟨t, fn.ntmps, []⟩ s (fun a s => leave P e fn a s K) (fun x a s => leaveX x (leave P e fn a s K)))))

def putL (s : AS) (l : Nat) (st : LoopState) (p : Option Code) (K : KS) : Prop :=
  gb s.h l (fun b => asL b (fun r => setB s.h l (.inr (.inr (.inl ⟨st, p, r.regs, r.n, r.params, r.assign, r.body⟩))) (fun h => K ⟨h, s.nx⟩)))
def endRound (s : AS) (l : Nat) (x : Exit) (K : KVS) : Prop :=
  match x with
  | .ret => putL s l .done (some .ret) (fun s => K (.bool false) s)
  | .exit id => putL s l .done (some (.exit id)) (fun s => K (.bool false) s)
  | _ => False
def isReady (r : LB) : Bool := match r.st with | .ready => true | _ => false
def beginRound (s : AS) (l : Nat) (K : KS) : Prop :=
  gb s.h l (fun b => asL b (fun r => yes (isReady r) (setB s.h l (.inr (.inr (.inl ⟨.busy, r.pend, r.regs, r.n, r.params, r.assign, r.body⟩))) (fun h => K ⟨h, s.nx⟩))))
def roundIn (P : Program) (T : Tab) (e : Env) (s : AS) (l : Nat) (args : List Value) (K : KVS) : Prop :=
  gb s.h l (fun b => asL b (fun r => setPar r.params args r.regs r.n (fun t => evCode r.assign P T e ⟨t, r.n, []⟩ s (fun a s => beginRound s l (fun s =>
    evCode r.body P T e a s (fun a s => yes a.defers.isEmpty (putL s l .ready none (fun s => K (.bool true) s))) (fun x a s => yes a.defers.isEmpty (endRound s l x K)))) (fun _ _ _ => False))))

/-- To so many calls' depth: r: a round of a range over a function; else a call. -/
def go (n : Nat) : Program → Tab → (FuncId → Bool) → Bool → AS → Nat → List Value → KVS → Prop :=
  @Nat.rec (fun _ => Program → Tab → (FuncId → Bool) → Bool → AS → Nat → List Value → KVS → Prop) (fun _ _ _ _ _ _ _ _ => False)
    (fun _ ih P T noop r s f args K => ife r (roundIn P T ⟨noop, ih P T noop false, ih P T noop true, true⟩ s f args K) (callIn P T ⟨noop, ih P T noop false, ih P T noop true, false⟩ s f args K)) n

/-! The first parts of a code, and the rest. -/
def preC : Nat → Code → Code
  | n + 1, .seq x y => .seq x (preC n y)
  | _, _ => .skip
def postC : Nat → Code → Code
  | n + 1, .seq _ y => postC n y
  | _, c => c

/-- The first registers hold these. -/
def sameR (l : List Value) : Nat → TV → Prop → Prop :=
  @List.rec _ (fun _ => Nat → TV → Prop → Prop) (fun _ _ K => K) (fun v _ ih i t K => gv t i (fun u => yes (veq v u) (ih (Nat.succ i) t K))) l
/-- At the end: the answer true, and what comes behind. -/
def fin (fn : Func) (P : Program) (Z : Prop) : KA := fun a s => yes a.defers.isEmpty (results fn.results.toList P s.h (gv a.regs) (fun l => vBool (tup l) (fun b => yes b Z)))
def finX (fn : Func) (P : Program) (Z : Prop) : KX := fun x a s => leaveX x (fin fn P Z a s)
/-- The rest, one case behind the other; in each the first registers hold what it says. -/
def chain (l : List (List Value)) : Code → Func → Program → Tab → Env → AA → AS → Prop :=
  @List.rec _ (fun _ => Code → Func → Program → Tab → Env → AA → AS → Prop) (fun _ _ _ _ _ _ _ => True)
    (fun p _ ih c fn P T e a s => setArgs p 0 a.regs (fun t => evCode c P T e ⟨t, a.n, a.defers⟩ s (fin fn P (ih c fn P T e a s)) (finX fn P (ih c fn P T e a s)))) l
/-- A law's call: its first k parts, then the rest, case by case. -/
def law (k n : Nat) (args : List Value) (l : List (List Value)) (P : Program) (T : Tab) (noop : FuncId → Bool) (s : AS) (fn : Func) : Prop :=
  ok fn.body (fun c => setArgs args 0 .nil (fun t => evCode (preC k c) P T ⟨noop, go n P T noop false, go n P T noop true, false⟩ ⟨t, fn.ntmps, []⟩ s
    (fun a s => sameR args 0 a.regs (chain l (postC k c) fn P T ⟨noop, go n P T noop false, go n P T noop true, false⟩ a s)) (fun _ _ _ => False)))

end Go.Proofs.YtkpfafehcmammaaGreatDoor
namespace Go.Proofs.YtkpfafehcmammaaGreatDoor

theorem oeq_eq : ∀ {a b : Option Addr}, oeq a b = true → a = b
  | none, none, _ => rfl
  | none, some _, h => by simp [oeq] at h
  | some _, none, h => by simp [oeq] at h
  | some ⟨i, o, p⟩, some ⟨i', o', p'⟩, h => by
    simp only [oeq, Bool.and_eq_true] at h
    obtain ⟨⟨h1, h2⟩, h3⟩ := h
    have := Nat.eq_of_beq_eq_true h1
    have := Nat.eq_of_beq_eq_true h2
    subst_vars
    cases p <;> cases p' <;> simp [onatS] at h3 ⊢
    exact h3

theorem onat_eq : ∀ {a b : Option Nat}, onat a b = true → a = b
  | none, none, _ => rfl
  | none, some _, h => by simp [onat] at h
  | some _, none, h => by simp [onat] at h
  | some i, some j, h => by rw [Nat.eq_of_beq_eq_true (show Nat.beq i j = true from h)]

theorem leqB_eq : ∀ {x y : List UInt8}, leqB x y = true → x = y
  | [], [], _ => rfl
  | [], _ :: _, h => by simp [leqB] at h
  | _ :: _, [], h => by simp [leqB] at h
  | a :: l, b :: m, h => by
    simp only [leqB, Bool.and_eq_true] at h
    rw [leqB_eq h.2, UInt8.toNat_inj.1 (Nat.eq_of_beq_eq_true h.1)]

theorem ieqB_eq {x y : Int} (h : ieq x y = true) : x = y := by
  cases x <;> cases y <;> simp only [ieq] at h
  · rw [Nat.eq_of_beq_eq_true h]
  · cases h
  · cases h
  · rw [Nat.eq_of_beq_eq_true h]

theorem keqB_eq {a b : IntKind} (h : keq a b = true) : a = b := by
  cases a <;> cases b <;> first | rfl | (exact absurd h (by decide))

theorem qBool_eq {x : Bool} {b : Value} (h : qBool x b = true) : .bool x = b := by
  cases b <;> simp [qBool] at h
  cases x <;> simp_all
theorem qInt_eq {k : IntKind} {n : Int} {b : Value} (h : qInt k n b = true) : .int k n = b := by
  cases b <;> simp only [qInt, Bool.and_eq_true, Bool.false_eq_true] at h
  rw [keqB_eq h.1, ieqB_eq h.2]
theorem qStr_eq {x : ByteArray} {b : Value} (h : qStr x.data.toList b = true) : .string x = b := by
  cases b <;> simp only [qStr, Bool.false_eq_true] at h
  have := leqB_eq h
  rcases x with ⟨⟨x⟩⟩
  rename_i y
  rcases y with ⟨⟨y⟩⟩
  simp at this
  subst this
  rfl
theorem qPtr_eq {a : Option Addr} {b : Value} (h : qPtr a b = true) : .pointer a = b := by
  cases b <;> simp only [qPtr, Bool.false_eq_true] at h
  rw [oeq_eq h]
theorem qSlice_eq {a : Option Addr} {l c : Nat} {b : Value} (h : qSlice a l c b = true) : .slice a l c = b := by
  cases b <;> simp only [qSlice, Bool.and_eq_true, Bool.false_eq_true] at h
  rw [oeq_eq h.1.1, Nat.eq_of_beq_eq_true h.1.2, Nat.eq_of_beq_eq_true h.2]
theorem qMap_eq {a : Option Nat} {b : Value} (h : qMap a b = true) : .map a = b := by
  cases b <;> simp only [qMap, Bool.false_eq_true] at h
  rw [onat_eq h]
theorem qNilF_eq {b : Value} (h : qNilF b = true) : .nilFunc = b := by cases b <;> simp [qNilF] at h; rfl
theorem qNilI_eq {b : Value} (h : qNilI b = true) : .nilIface = b := by cases b <;> simp [qNilI] at h; rfl
theorem qTup_eq {x : Array Value} {b : Value} (h : qTup x.toList b = true) : .tuple x = b := by
  cases b <;> simp only [qTup, Bool.and_eq_true, Bool.false_eq_true] at h
  rename_i y
  rcases x with ⟨x⟩
  rcases y with ⟨y⟩
  cases x <;> cases y <;> simp at h ⊢

theorem qComplex_eq {k : FloatKind} {re im : Nat} {b : Value} (h : qComplex k re im b = true) : .complex k re im = b := by
  cases b <;> simp only [qComplex, Bool.and_eq_true, Bool.false_eq_true] at h
  rename_i k' _ _
  have h1 := Nat.eq_of_beq_eq_true h.1.1
  have : k = k' := by cases k <;> cases k' <;> first | rfl | (cases h1)
  rw [this, Nat.eq_of_beq_eq_true h.1.2, Nat.eq_of_beq_eq_true h.2]
theorem veq1_eq {a b : Value} (h : veq1 a b = true) : a = b := by
  cases a <;> simp only [veq1, Bool.false_eq_true] at h
  · exact qBool_eq h
  · exact qInt_eq h
  · exact qComplex_eq h
  · exact qStr_eq h
  · exact qPtr_eq h
  · exact qSlice_eq h
  · exact qMap_eq h
  · exact qNilF_eq h
  · exact qNilI_eq h
  · exact qTup_eq h

theorem all2_eq {p : Value → Value → Bool} (hp : ∀ a b, p a b = true → a = b) : ∀ {x y : List Value}, all2 p x y = true → x = y
  | [], [], _ => rfl
  | [], _ :: _, h => by simp [all2] at h
  | _ :: _, [], h => by simp [all2] at h
  | a :: l, b :: m, h => by
    simp only [all2, Bool.and_eq_true] at h
    rw [hp _ _ h.1, all2_eq hp h.2]

theorem beqB_eq {x y : Bool} (h : beqB x y = true) : x = y := by cases x <;> cases y <;> simp [beqB] at h ⊢

theorem pathEq_eq : ∀ {x y : List FieldStep}, pathEq x y = true → x = y
  | [], [], _ => rfl
  | [], _ :: _, h => by simp [pathEq] at h
  | _ :: _, [], h => by simp [pathEq] at h
  | ⟨a, b, c⟩ :: l, ⟨a', b', c'⟩ :: m, h => by
    simp only [pathEq, Bool.and_eq_true] at h
    obtain ⟨⟨⟨h1, h2⟩, h3⟩, h4⟩ := h
    rw [pathEq_eq h4, Nat.eq_of_beq_eq_true h1, Nat.eq_of_beq_eq_true h2, beqB_eq h3]

theorem fnEq_eq {f g : Fn} (h : fnEq f g = true) : f = g := by
  cases f <;> cases g <;> simp only [fnEq, Bool.false_eq_true, Bool.and_eq_true] at h
  · rw [Nat.eq_of_beq_eq_true h]
  · rename_i p _ _ _ q _ _
    obtain ⟨⟨⟨h1, h2⟩, h3⟩, h4⟩ := h
    rcases p with ⟨p⟩
    rcases q with ⟨q⟩
    rw [Nat.eq_of_beq_eq_true h1, Nat.eq_of_beq_eq_true h3, beqB_eq h4, show p = q from pathEq_eq h2]
  · rw [Nat.eq_of_beq_eq_true h]

theorem arr_eq {x y : Array Value} (h : x.toList = y.toList) : x = y := by rcases x with ⟨x⟩; rcases y with ⟨y⟩; simp at h; rw [h]

theorem veqS_eq {p : Value → Value → Bool} (hp : ∀ a b, p a b = true → a = b) : ∀ a b, veqS p a b = true → a = b := by
  intro a b h
  cases a <;> simp only [veqS] at h <;> first | exact veq1_eq h | skip
  · cases b <;> simp only [qFn, Bool.and_eq_true, Bool.false_eq_true] at h
    rw [fnEq_eq h.1.1, arr_eq (all2_eq hp h.1.2), arr_eq (all2_eq hp h.2)]
  · cases b <;> simp only [qIface, Bool.and_eq_true, Bool.false_eq_true] at h
    rw [Nat.eq_of_beq_eq_true h.1, hp _ _ h.2]
  · cases b <;> simp only [qAgg, Bool.false_eq_true] at h
    rw [arr_eq (all2_eq hp h)]
  · cases b <;> simp only [qTups, Bool.false_eq_true] at h
    rw [arr_eq (all2_eq hp h)]

theorem veq_eq {a b : Value} (h : veq a b = true) : a = b :=
  veqS_eq (veqS_eq (veqS_eq (veqS_eq (fun _ _ => veq1_eq)))) a b h

end Go.Proofs.YtkpfafehcmammaaGreatDoor
namespace Go.Proofs.YtkpfafehcmammaaGreatDoor
open Go.Deep
variable {P : Program} {T : Tab} {e : Env} {s : AS} {g : G} {K : KVS}

theorem call_same {c : Call} (hq : quietO P (.call c) = true) : lOp (.call c) P T e s g K = lOp (.call c) P T e s g (fun v s' => s' = s ∧ K v s') := by
  rcases c with ⟨callee, args, ts⟩
  cases callee <;> simp only [quietO, Bool.false_eq_true] at hq
  rename_i b
  cases b <;> simp only [quietB, Bool.false_eq_true] at hq
  all_goals simp only [lOp, lCall, lBuiltin, lLen, lCap, lMin, true_and]

theorem quiet_same {o : Op} (hq : quietO P o = true) : lOp o P T e s g K = lOp o P T e s g (fun v s' => s' = s ∧ K v s') := by
  cases o
  case call c => exact call_same hq
  case convert a d x =>
    have hq : (!tBytes P d) = true := hq
    simp only [Bool.not_eq_true'] at hq
    simp only [lOp, lConv, hq, ife, true_and]
  all_goals first
    | (simp only [quietO, Bool.false_eq_true] at hq; done)
    | (simp only [lOp, lPick, lBuildV, lLoad, lNil, lBin, lUn, lIface, lSlice, lFieldA, lField, lIndexA, lIndex, lLook, lAssert, lExtract, lFunc, true_and]; done)
end Go.Proofs.YtkpfafehcmammaaGreatDoor
namespace Go.Proofs.YtkpfafehcmammaaGreatDoor
open Go.Deep

/-! Trees by number. -/
def getT {α : Type} : BT (Option α) → Nat → Option α
  | .nil, _ => none
  | .node _ _ v _ _, 0 => v
  | .node _ _ _ l r, m + 1 => if m % 2 = 0 then getT l (m / 2) else getT r (m / 2)

theorem beq_ite {α : Sort _} (m k : Nat) (x y : α) : @Bool.rec (fun _ => α) x y (Nat.beq m k) = if m = k then y else x := by
  by_cases h : m = k
  · subst h; simp
  · have : Nat.beq m k = false := by
      cases hh : Nat.beq m k
      · rfl
      · exact absurd (Nat.eq_of_beq_eq_true hh) h
    rw [this, if_neg h]

theorem gv_ex : ∀ {t : TV} {n : Nat} {K : Value → Prop}, gv t n K → ∃ v, getT t n = some v ∧ K v := by
  intro t
  induction t with
  | nil => intro n K h; exact h.elim
  | node b o v l r ihl ihr =>
    intro n K h
    cases n with
    | zero =>
      cases v with
      | none => exact h.elim
      | some v => exact ⟨v, rfl, h⟩
    | succ m =>
      have h' : @Bool.rec (fun _ => Prop) (gv r (Nat.div m 2) K) (gv l (Nat.div m 2) K) (Nat.beq (Nat.mod m 2) 0) := h
      rw [beq_ite] at h'
      simp only [getT]
      change if m % 2 = 0 then gv l (m / 2) K else gv r (m / 2) K at h'
      split at h'
      · rename_i e; rw [if_pos e]; exact ihl h'
      · rename_i e; rw [if_neg e]; exact ihr h'

theorem gb_ex : ∀ {t : TB} {n : Nat} {K : AB → Prop}, gb t n K → ∃ v, getT t n = some v ∧ K v := by
  intro t
  induction t with
  | nil => intro n K h; exact h.elim
  | node b o v l r ihl ihr =>
    intro n K h
    cases n with
    | zero =>
      cases v with
      | none => exact h.elim
      | some v => exact ⟨v, rfl, h⟩
    | succ m =>
      have h' : @Bool.rec (fun _ => Prop) (gb r (Nat.div m 2) K) (gb l (Nat.div m 2) K) (Nat.beq (Nat.mod m 2) 0) := h
      rw [beq_ite] at h'
      simp only [getT]
      change if m % 2 = 0 then gb l (m / 2) K else gb r (m / 2) K at h'
      split at h'
      · rename_i e; rw [if_pos e]; exact ihl h'
      · rename_i e; rw [if_neg e]; exact ihr h'

theorem getT_nil {α : Type} (n : Nat) : getT (.nil : BT (Option α)) n = none := by cases n <;> rfl

theorem halves {m k : Nat} (h : m % 2 = k % 2) : m / 2 = k / 2 ↔ m = k := by omega

/-- The law of a tree whose place n holds x. -/
def Put {α : Type} (t t' : BT (Option α)) (n : Nat) (x : Option α) : Prop := ∀ m, getT t' m = if m = n then x else getT t m

theorem Put.zero {α : Type} {b o b' o' : Nat} {u x : Option α} {l r : BT (Option α)} : Put (.node b o u l r) (.node b' o' x l r) 0 x := by
  intro m
  cases m with
  | zero => simp [getT]
  | succ m => simp [getT]
theorem Put.zeroN {α : Type} {b' o' : Nat} {x : Option α} : Put .nil (.node b' o' x .nil .nil) 0 x := by
  intro m
  cases m with
  | zero => simp [getT]
  | succ m => simp [getT]
theorem Put.left {α : Type} {b o b' o' n : Nat} {u x : Option α} {l l' r : BT (Option α)} (h : Put l l' (n / 2) x) (e : n % 2 = 0) : Put (.node b o u l r) (.node b' o' u l' r) (n + 1) x := by
  intro m
  cases m with
  | zero => simp [getT]
  | succ m =>
    simp only [getT, h (m / 2)]
    by_cases hm : m % 2 = 0
    · rw [if_pos hm, if_pos hm]
      by_cases h1 : m = n
      · subst h1; simp
      · rw [if_neg (by omega), if_neg (by omega)]
    · rw [if_neg hm, if_neg hm, if_neg (by omega)]
theorem Put.right {α : Type} {b o b' o' n : Nat} {u x : Option α} {l r r' : BT (Option α)} (h : Put r r' (n / 2) x) (e : ¬ n % 2 = 0) : Put (.node b o u l r) (.node b' o' u l r') (n + 1) x := by
  intro m
  cases m with
  | zero => simp [getT]
  | succ m =>
    simp only [getT, h (m / 2)]
    by_cases hm : m % 2 = 0
    · rw [if_pos hm, if_pos hm, if_neg (by omega)]
    · rw [if_neg hm, if_neg hm]
      by_cases h1 : m = n
      · subst h1; simp
      · rw [if_neg (by omega), if_neg (by omega)]
theorem Put.leftN {α : Type} {b' o' n : Nat} {x : Option α} {l' : BT (Option α)} (h : Put .nil l' (n / 2) x) (e : n % 2 = 0) : Put .nil (.node b' o' none l' .nil) (n + 1) x := by
  intro m
  have h1 := Put.left (b := 0) (o := 0) (b' := b') (o' := o') (u := none) (r := .nil) h e m
  rw [h1]
  cases m with
  | zero => simp [getT]
  | succ m => simp [getT]
theorem Put.rightN {α : Type} {b' o' n : Nat} {x : Option α} {r' : BT (Option α)} (h : Put .nil r' (n / 2) x) (e : ¬ n % 2 = 0) : Put .nil (.node b' o' none .nil r') (n + 1) x := by
  intro m
  have h1 := Put.right (b := 0) (o := 0) (b' := b') (o' := o') (u := none) (l := .nil) h e m
  rw [h1]
  cases m with
  | zero => simp [getT]
  | succ m => simp [getT]

theorem sv_ex (v : Value) : ∀ (f : Nat) {t : TV} {n : Nat} {K : TV → Prop}, sv f t n v K → ∃ t', Put t t' n (some v) ∧ K t' := by
  intro f
  induction f with
  | zero => intro t n K h; exact h.elim
  | succ f ih =>
    intro t n K h
    cases t with
    | nil =>
      cases n with
      | zero => exact ⟨_, Put.zeroN, h⟩
      | succ m =>
        have h' : @Bool.rec (fun _ => Prop) (sv f .nil (Nat.div m 2) v (fun r => K (.node 0 0 none .nil r))) (sv f .nil (Nat.div m 2) v (fun l => K (.node 0 0 none l .nil))) (Nat.beq (Nat.mod m 2) 0) := h
        rw [beq_ite] at h'
        change if m % 2 = 0 then _ else _ at h'
        split at h'
        · rename_i e; obtain ⟨t', h1, h2⟩ := ih h'; exact ⟨_, h1.leftN e, h2⟩
        · rename_i e; obtain ⟨t', h1, h2⟩ := ih h'; exact ⟨_, h1.rightN e, h2⟩
    | node b o u l r =>
      cases n with
      | zero => exact ⟨_, Put.zero, h⟩
      | succ m =>
        have h' : @Bool.rec (fun _ => Prop) (sv f r (Nat.div m 2) v (fun r => K (.node 0 0 u l r))) (sv f l (Nat.div m 2) v (fun l => K (.node 0 0 u l r))) (Nat.beq (Nat.mod m 2) 0) := h
        rw [beq_ite] at h'
        change if m % 2 = 0 then _ else _ at h'
        split at h'
        · rename_i e; obtain ⟨t', h1, h2⟩ := ih h'; exact ⟨_, h1.left e, h2⟩
        · rename_i e; obtain ⟨t', h1, h2⟩ := ih h'; exact ⟨_, h1.right e, h2⟩

theorem sb_ex (v : Option AB) : ∀ (f : Nat) {t : TB} {n : Nat} {K : TB → Prop}, sb f t n v K → ∃ t', Put t t' n v ∧ K t' := by
  intro f
  induction f with
  | zero => intro t n K h; exact h.elim
  | succ f ih =>
    intro t n K h
    cases t with
    | nil =>
      cases n with
      | zero => exact ⟨_, Put.zeroN, h⟩
      | succ m =>
        have h' : @Bool.rec (fun _ => Prop) (sb f .nil (Nat.div m 2) v (fun r => K (.node 0 0 none .nil r))) (sb f .nil (Nat.div m 2) v (fun l => K (.node 0 0 none l .nil))) (Nat.beq (Nat.mod m 2) 0) := h
        rw [beq_ite] at h'
        change if m % 2 = 0 then _ else _ at h'
        split at h'
        · rename_i e; obtain ⟨t', h1, h2⟩ := ih h'; exact ⟨_, h1.leftN e, h2⟩
        · rename_i e; obtain ⟨t', h1, h2⟩ := ih h'; exact ⟨_, h1.rightN e, h2⟩
    | node b o u l r =>
      cases n with
      | zero => exact ⟨_, Put.zero, h⟩
      | succ m =>
        have h' : @Bool.rec (fun _ => Prop) (sb f r (Nat.div m 2) v (fun r => K (.node 0 0 u l r))) (sb f l (Nat.div m 2) v (fun l => K (.node 0 0 u l r))) (Nat.beq (Nat.mod m 2) 0) := h
        rw [beq_ite] at h'
        change if m % 2 = 0 then _ else _ at h'
        split at h'
        · rename_i e; obtain ⟨t', h1, h2⟩ := ih h'; exact ⟨_, h1.left e, h2⟩
        · rename_i e; obtain ⟨t', h1, h2⟩ := ih h'; exact ⟨_, h1.right e, h2⟩

theorem setV_ex {t : TV} {n : Nat} {v : Value} {K : TV → Prop} (h : setV t n v K) : ∃ t', Put t t' n (some v) ∧ K t' := sv_ex v _ h
theorem setB_ex {t : TB} {n : Nat} {b : AB} {K : TB → Prop} (h : setB t n b K) : ∃ t', Put t t' n (some b) ∧ K t' := sb_ex _ _ h
theorem delB_ex {t : TB} {n : Nat} {K : TB → Prop} (h : delB t n K) : ∃ t', Put t t' n none ∧ K t' := sb_ex _ _ h

/-! Small ways on. -/
theorem ok_ex {α : Type} {x : Option α} {K : α → Prop} (h : ok x K) : ∃ a, x = some a ∧ K a := by cases x with | none => exact h.elim | some a => exact ⟨a, rfl, h⟩
theorem yes_ex {b : Bool} {K : Prop} (h : yes b K) : b = true ∧ K := by cases b with | false => exact h.elim | true => exact ⟨rfl, h⟩
theorem ife_ex {b : Bool} {x y : Prop} (h : ife b x y) : (b = true ∧ x) ∨ (b = false ∧ y) := by cases b with | false => exact .inr ⟨rfl, h⟩ | true => exact .inl ⟨rfl, h⟩
theorem nat_ex {n : Nat} {K : Nat → Prop} (h : nat n K) : K n := by cases n <;> exact h
theorem int_ex {n : Int} {K : Int → Prop} (h : int n K) : K n := by cases n <;> exact nat_ex (K := fun m => K _) h
theorem boo_ex {b : Bool} {K : Bool → Prop} (h : boo b K) : K b := by cases b <;> exact h

/-! What a value is. -/
section
variable {v : Value}
theorem vBool_ex {K : Bool → Prop} (h : vBool v K) : ∃ b, v = .bool b ∧ K b := by cases v <;> first | exact h.elim | exact ⟨_, rfl, h⟩
theorem vInt_ex {K : IntKind → Int → Prop} (h : vInt v K) : ∃ k n, v = .int k n ∧ K k n := by cases v <;> first | exact h.elim | exact ⟨_, _, rfl, h⟩
theorem vNat_ex {K : Nat → Prop} (h : vNat v K) : ∃ k n, v = .int k (.ofNat n) ∧ K n := by
  cases v with
  | int k n => cases n with
    | ofNat m => exact ⟨_, _, rfl, h⟩
    | negSucc m => exact h.elim
  | _ => exact h.elim
theorem vPtr_ex {K : Nat → Nat → Prop} (h : vPtr v K) : ∃ i o, v = .pointer (some ⟨i, o, none⟩) ∧ K i o := by
  cases v with
  | pointer a => cases a with
    | none => exact h.elim
    | some a =>
      obtain ⟨i, o, p⟩ := a
      cases p with
      | none => exact ⟨_, _, rfl, h⟩
      | some _ => exact h.elim
  | _ => exact h.elim
theorem vStr_ex {K : List UInt8 → Prop} (h : vStr v K) : ∃ l, v = .string ⟨⟨l⟩⟩ ∧ K l := by
  cases v with
  | string s => obtain ⟨⟨l⟩⟩ := s; exact ⟨_, rfl, h⟩
  | _ => exact h.elim
theorem vAgg_ex {K : List Value → Prop} (h : vAgg v K) : ∃ l, v = .agg ⟨l⟩ ∧ K l := by
  cases v with
  | agg s => obtain ⟨l⟩ := s; exact ⟨_, rfl, h⟩
  | _ => exact h.elim
theorem vTup_ex {K : List Value → Prop} (h : vTup v K) : ∃ l, v = .tuple ⟨l⟩ ∧ K l := by
  cases v with
  | tuple s => obtain ⟨l⟩ := s; exact ⟨_, rfl, h⟩
  | _ => exact h.elim
theorem vMap_ex {K : Nat → Prop} (h : vMap v K) : ∃ r, v = .map (some r) ∧ K r := by
  cases v with
  | map r => cases r with
    | none => exact h.elim
    | some r => exact ⟨_, rfl, h⟩
  | _ => exact h.elim
theorem vIface_ex {K : TypeId → Value → Prop} (h : vIface v K) : ∃ t u, v = .iface t u ∧ K t u := by cases v <;> first | exact h.elim | exact ⟨_, _, rfl, h⟩
theorem vSeq_ex {Ks : Nat → Nat → Nat → Nat → Nat → Prop} {Kn : Prop} {Kp : Nat → Nat → Prop} {Kt : List UInt8 → Prop} {Ka : List Value → Prop} {Kl : Prop} (h : vSeq v Ks Kn Kp Kt Ka Kl) :
    (∃ i o sz n c, v = .slice (some ⟨i, o, some sz⟩) n c ∧ Ks i o sz n c) ∨ (∃ n c, v = .slice none n c ∧ Kn) ∨ (∃ i o, v = .pointer (some ⟨i, o, none⟩) ∧ Kp i o) ∨ (∃ l, v = .string ⟨⟨l⟩⟩ ∧ Kt l) ∨ (∃ l, v = .agg ⟨l⟩ ∧ Ka l) ∨ (∃ t p f, ∃ _ : Bool, ∃ a c, v = .func (.via t p f true) a c ∧ Kl) := by
  cases v with
  | slice a n c => cases a with
    | none => exact .inr (.inl ⟨_, _, rfl, h⟩)
    | some a =>
      obtain ⟨i, o, p⟩ := a
      cases p with
      | none => exact h.elim
      | some _ => exact .inl ⟨_, _, _, _, _, rfl, h⟩
  | pointer a => cases a with
    | none => exact h.elim
    | some a =>
      obtain ⟨i, o, p⟩ := a
      cases p with
      | none => exact .inr (.inr (.inl ⟨_, _, rfl, h⟩))
      | some _ => exact h.elim
  | string s => obtain ⟨⟨l⟩⟩ := s; exact .inr (.inr (.inr (.inl ⟨_, rfl, h⟩)))
  | agg s => obtain ⟨l⟩ := s; exact .inr (.inr (.inr (.inr (.inl ⟨_, rfl, h⟩))))
  | func f a c =>
    cases f
    case via t p f q =>
      cases q with
      | false => exact h.elim
      | true => exact .inr (.inr (.inr (.inr (.inr ⟨_, _, _, true, _, _, rfl, h⟩))))
    all_goals exact h.elim
  | _ => exact h.elim
theorem vTxt_ex {Kt : List Value → Prop} {Ko : Prop} (h : vTxt v Kt Ko) : (∃ t p f l c, v = .func (.via t p f false) ⟨l⟩ c ∧ Kt l) ∨ Ko := by
  cases v with
  | func f a c =>
    obtain ⟨a⟩ := a
    cases f
    case via t p f q =>
      cases q with
      | false => exact .inl ⟨_, _, _, _, _, rfl, h⟩
      | true => exact .inr h
    all_goals exact .inr h
  | _ => exact .inr h
theorem vFn_ex {Kf : FuncId → List Value → List Value → Prop} {Ky : Nat → Prop} (h : vFn v Kf Ky) : (∃ f a c, v = .func (.func f) ⟨a⟩ ⟨c⟩ ∧ Kf f a c) ∨ (∃ l a c, v = .func (.yield l) a c ∧ Ky l) := by
  cases v with
  | func f a c =>
    obtain ⟨a⟩ := a
    obtain ⟨c⟩ := c
    cases f <;> first | exact h.elim | exact .inl ⟨_, _, _, rfl, h⟩ | exact .inr ⟨_, _, _, rfl, h⟩
  | _ => exact h.elim
theorem vGuard_ex {K : Bool → Prop} {Kn : Prop} (h : vGuard v K Kn) : (∃ b, v = .bool b ∧ K b) ∨ (∃ a, v = .tuple a ∧ Kn) := by cases v <;> first | exact h.elim | exact .inl ⟨_, rfl, h⟩ | exact .inr ⟨_, rfl, h⟩
end

/-! Lists. -/
theorem leq_ex : ∀ {x y : List UInt8} {K : Bool → Prop}, leq x y K → K (x == y) := by
  intro x
  induction x with
  | nil => intro y K h; cases y <;> exact h
  | cons a x ih =>
    intro y K h
    cases y with
    | nil => exact h
    | cons b y =>
      have h' : ife (Nat.beq a.toNat b.toNat) (leq x y K) (K false) := h
      clear h
      rcases ife_ex h' with ⟨e, h⟩ | ⟨e, h⟩
      · have e' : a = b := UInt8.toNat_inj.1 (Nat.eq_of_beq_eq_true e)
        subst e'
        have := ih h
        simpa using this
      · have e' : ¬ a = b := fun c => by subst c; simp at e
        have : ((a :: x) == (b :: y)) = false := by simp [e']
        rw [this]; exact h

theorem app_ex : ∀ {x y : List UInt8} {K : List UInt8 → Prop}, app x y K → K (x ++ y) := by
  intro x
  induction x with
  | nil => intro y K h; exact h
  | cons a x ih => intro y K h; exact ih (K := fun l => K (a :: l)) h
theorem appV_ex : ∀ {x y : List Value} {K : List Value → Prop}, appV x y K → K (x ++ y) := by
  intro x
  induction x with
  | nil => intro y K h; exact h
  | cons a x ih => intro y K h; exact ih (K := fun l => K (a :: l)) h
theorem take_ex : ∀ {x : List UInt8} {n : Nat} {K : List UInt8 → Prop}, take x n K → n ≤ x.length ∧ K (x.take n) := by
  intro x
  induction x with
  | nil => intro n K h; cases n with | zero => exact ⟨by simp, h⟩ | succ n => exact h.elim
  | cons a x ih => intro n K h; cases n with | zero => exact ⟨by simp, h⟩ | succ n => have := ih (K := fun l => K (a :: l)) h; exact ⟨by simpa using this.1, this.2⟩
theorem takeV_ex : ∀ {x : List Value} {n : Nat} {K : List Value → Prop}, takeV x n K → n ≤ x.length ∧ K (x.take n) := by
  intro x
  induction x with
  | nil => intro n K h; cases n with | zero => exact ⟨by simp, h⟩ | succ n => exact h.elim
  | cons a x ih => intro n K h; cases n with | zero => exact ⟨by simp, h⟩ | succ n => have := ih (K := fun l => K (a :: l)) h; exact ⟨by simpa using this.1, this.2⟩
theorem drop_ex : ∀ {x : List UInt8} {n : Nat} {K : List UInt8 → Prop}, drop x n K → n ≤ x.length ∧ K (x.drop n) := by
  intro x
  induction x with
  | nil => intro n K h; cases n with | zero => exact ⟨by simp, h⟩ | succ n => exact h.elim
  | cons a x ih => intro n K h; cases n with | zero => exact ⟨by simp, h⟩ | succ n => have := ih (K := K) h; exact ⟨by simpa using this.1, this.2⟩
theorem dropV_ex : ∀ {x : List Value} {n : Nat} {K : List Value → Prop}, dropV x n K → n ≤ x.length ∧ K (x.drop n) := by
  intro x
  induction x with
  | nil => intro n K h; cases n with | zero => exact ⟨by simp, h⟩ | succ n => exact h.elim
  | cons a x ih => intro n K h; cases n with | zero => exact ⟨by simp, h⟩ | succ n => have := ih (K := K) h; exact ⟨by simpa using this.1, this.2⟩
theorem nthB_ex : ∀ {x : List UInt8} {n : Nat} {K : UInt8 → Prop}, nthB x n K → ∃ b, x[n]? = some b ∧ K b := by
  intro x
  induction x with
  | nil => intro n K h; exact h.elim
  | cons a x ih => intro n K h; cases n with | zero => exact ⟨a, rfl, h⟩ | succ n => simpa using ih (K := K) h
theorem nthV_ex : ∀ {x : List Value} {n : Nat} {K : Value → Prop}, nthV x n K → ∃ b, x[n]? = some b ∧ K b := by
  intro x
  induction x with
  | nil => intro n K h; exact h.elim
  | cons a x ih => intro n K h; cases n with | zero => exact ⟨a, rfl, h⟩ | succ n => simpa using ih (K := K) h
theorem nthO_ex : ∀ {x : List Oper} {n : Nat} {K : Oper → Prop}, nthO x n K → ∃ b, x[n]? = some b ∧ K b := by
  intro x
  induction x with
  | nil => intro n K h; exact h.elim
  | cons a x ih => intro n K h; cases n with | zero => exact ⟨a, rfl, h⟩ | succ n => simpa using ih (K := K) h
theorem asC_ex {b : AB} {K : CB → Prop} (h : asC b K) : ∃ c, b = .inl c ∧ K c := by cases b with | inl c => exact ⟨c, rfl, h⟩ | inr x => exact h.elim
theorem asM_ex {b : AB} {K : List (Value × Value) → Prop} (h : asM b K) : ∃ c, b = .inr (.inl c) ∧ K c := by
  rcases b with c | c | c | c <;> first | exact h.elim | exact ⟨_, rfl, h⟩
theorem asL_ex {b : AB} {K : LB → Prop} (h : asL b K) : ∃ c, b = .inr (.inr (.inl c)) ∧ K c := by
  rcases b with c | c | c | c <;> first | exact h.elim | exact ⟨_, rfl, h⟩
theorem asD_ex {b : AB} {K : Bool → Prop} (h : asD b K) : ∃ c, b = .inr (.inr (.inr c)) ∧ K c := by
  rcases b with c | c | c | c <;> first | exact h.elim | exact ⟨_, rfl, h⟩
theorem getC_ex {h : TB} {id : Nat} {K : CB → Prop} (hh : getC h id K) : ∃ c, getT h id = some (.inl c) ∧ K c := by
  obtain ⟨b, h1, h2⟩ := gb_ex hh
  obtain ⟨c, rfl, h3⟩ := asC_ex h2
  exact ⟨c, h1, h3⟩

end Go.Proofs.YtkpfafehcmammaaGreatDoor
namespace Go.Proofs.YtkpfafehcmammaaGreatDoor
open Go.Deep

theorem gvD_ex : ∀ {t : TV} {n : Nat} {K0 : Prop} {K : Value → Prop}, gvD t n K0 K → (getT t n = none ∧ K0) ∨ ∃ v, getT t n = some v ∧ K v := by
  intro t
  induction t with
  | nil => intro n K0 K h; exact .inl ⟨getT_nil n, h⟩
  | node b o v l r ihl ihr =>
    intro n K0 K h
    cases n with
    | zero =>
      cases v with
      | none => exact .inl ⟨rfl, h⟩
      | some v => exact .inr ⟨v, rfl, h⟩
    | succ m =>
      have h' : @Bool.rec (fun _ => Prop) (gvD r (Nat.div m 2) K0 K) (gvD l (Nat.div m 2) K0 K) (Nat.beq (Nat.mod m 2) 0) := h
      rw [beq_ite] at h'
      simp only [getT]
      change if m % 2 = 0 then gvD l (m / 2) K0 K else gvD r (m / 2) K0 K at h'
      split at h'
      · rename_i e; simp only [if_pos e]; exact ihl h'
      · rename_i e; simp only [if_neg e]; exact ihr h'

/-- What a small tree holds is read, and is what the registers hold. -/
theorem small_ex {r : TV} : ∀ {l : List Tmp} {t : TV} {K : TV → Prop}, small l r t K → ∃ t', K t' ∧ ∀ x v, getT t' x = some v → getT t x = some v ∨ (x ∈ l ∧ getT r x = some v) := by
  intro l
  induction l with
  | nil => intro t K h; exact ⟨t, h, fun _ _ k => .inl k⟩
  | cons y l ih =>
    intro t K h
    have h' : gvD r y (small l r t K) (fun v => setV t y v (fun t => small l r t K)) := h
    rcases gvD_ex h' with ⟨_, k⟩ | ⟨v, e1, k⟩
    · obtain ⟨t', k1, k2⟩ := ih k
      refine ⟨t', k1, fun x u hu => ?_⟩
      rcases k2 x u hu with q | ⟨q1, q2⟩
      · exact .inl q
      · exact .inr ⟨List.mem_cons_of_mem _ q1, q2⟩
    · obtain ⟨t1, q1, q2⟩ := setV_ex k
      obtain ⟨t', k1, k2⟩ := ih q2
      refine ⟨t', k1, fun x u hu => ?_⟩
      rcases k2 x u hu with q | ⟨q3, q4⟩
      · rw [q1] at q
        by_cases e : x = y
        · subst e
          simp at q
          subst q
          exact .inr ⟨List.mem_cons_self, e1⟩
        · simp [e] at q
          exact .inl q
      · exact .inr ⟨List.mem_cons_of_mem _ q3, q4⟩
end Go.Proofs.YtkpfafehcmammaaGreatDoor
namespace Go.Proofs.YtkpfafehcmammaaGreatDoor
open Go.Deep

/-- Where a block of ours lies: its number, its first cell, how many cells are its own. -/
structure Loc where
  b : Nat
  base : Nat
  lim : Nat

/-- What the letters for numbers stand for; where blocks lie; how many have been met. -/
structure Cx where
  ρ : Nat → Int
  j : Nat → Loc
  nx : Nat

def kOf : Nat → IntKind
  | 0 => .i8
  | 1 => .i16
  | 2 => .i32
  | 3 => .i64
  | 4 => .u8
  | 5 => .u16
  | 6 => .u32
  | _ => .u64

def mPtr (X : Cx) (p : Option Addr) (v : Value) : Prop :=
  match p with
  | none => v = .pointer none
  | some ⟨i, o, none⟩ => i < X.nx ∧ v = .pointer (some ⟨(X.j i).b, (X.j i).base + o, none⟩)
  | some ⟨_, _, some _⟩ => False
def mSlice (X : Cx) (p : Option Addr) (len cap : Nat) (v : Value) : Prop :=
  match p with
  | none => len = 0 ∧ cap = 0 ∧ v = .slice none 0 0
  | some ⟨i, o, some sz⟩ => i < X.nx ∧ 0 < sz ∧ ∃ c, v = .slice (some ⟨(X.j i).b, (X.j i).base + o, none⟩) len c ∧ len ≤ c ∧ o + c * sz ≤ (X.j i).lim ∧ (0 < cap → cap = c + 1)
  | some ⟨_, _, none⟩ => False
def mMap (X : Cx) (r : Option Nat) (v : Value) : Prop :=
  match r with
  | none => v = .map none
  | some i => i < X.nx ∧ v = .map (some (X.j i).b)
def mFunc (X : Cx) (fn : Fn) (a c : Array Value → Prop) (v : Value) : Prop :=
  match fn with
  | .func f => ∃ x y, v = .func (.func f) x y ∧ a x ∧ c y
  | .yield l => l < X.nx ∧ v = .func (.yield (X.j l).b) #[] #[]
  | .via _ _ _ true => ∃ p n, v = .slice (some p) 0 n
  | .via _ _ _ false => ∃ bs : ByteArray, v = .string bs ∧ a ⟨bs.data.toList.map fun b => .int .u8 b.toNat⟩
  | _ => False

def VR (X : Cx) (a : Value) : Value → Prop :=
  @Value.rec (fun _ => Value → Prop) (fun _ => Array Value → Prop) (fun _ => List Value → Prop) (fun b v => v = .bool b) (fun k n v => v = .int k n) (fun _ _ _ => False) (fun _ re im v => v = .int (kOf re) (X.ρ im))
    (fun s v => v = .string s) (mPtr X) (mSlice X) (mMap X) (fun _ _ => False) (fun fn _ _ a c v => mFunc X fn a c v) (fun v => v = .nilFunc) (fun t _ ih v => ∃ u, v = .iface t u ∧ ih u) (fun v => v = .nilIface)
    (fun _ ih v => ∃ cs, v = .agg cs ∧ ih cs) (fun _ ih v => ∃ cs, v = .tuple cs ∧ ih cs) (fun _ ih cs => ih cs.toList) (fun l => l = []) (fun _ _ ihh iht l => ∃ u us, l = u :: us ∧ ihh u ∧ iht us) a
def VRl (X : Cx) (l : List Value) : List Value → Prop :=
  @Value.rec_2 (fun _ => Value → Prop) (fun _ => Array Value → Prop) (fun _ => List Value → Prop) (fun b v => v = .bool b) (fun k n v => v = .int k n) (fun _ _ _ => False) (fun _ re im v => v = .int (kOf re) (X.ρ im))
    (fun s v => v = .string s) (mPtr X) (mSlice X) (mMap X) (fun _ _ => False) (fun fn _ _ a c v => mFunc X fn a c v) (fun v => v = .nilFunc) (fun t _ ih v => ∃ u, v = .iface t u ∧ ih u) (fun v => v = .nilIface)
    (fun _ ih v => ∃ cs, v = .agg cs ∧ ih cs) (fun _ ih v => ∃ cs, v = .tuple cs ∧ ih cs) (fun _ ih cs => ih cs.toList) (fun l => l = []) (fun _ _ ihh iht l => ∃ u us, l = u :: us ∧ ihh u ∧ iht us) l

section
variable {X : Cx} {v : Value} {l : List Value}
@[simp] theorem VR_bool {b : Bool} : VR X (.bool b) v ↔ v = .bool b := Iff.rfl
@[simp] theorem VR_int {k : IntKind} {n : Int} : VR X (.int k n) v ↔ v = .int k n := Iff.rfl
@[simp] theorem VR_complex {k : FloatKind} {a b : Nat} : VR X (.complex k a b) v ↔ v = .int (kOf a) (X.ρ b) := Iff.rfl
@[simp] theorem VR_string {s : ByteArray} : VR X (.string s) v ↔ v = .string s := Iff.rfl
@[simp] theorem VR_nilPtr : VR X (.pointer none) v ↔ v = .pointer none := Iff.rfl
@[simp] theorem VR_ptr {i o : Nat} : VR X (.pointer (some ⟨i, o, none⟩)) v ↔ i < X.nx ∧ v = .pointer (some ⟨(X.j i).b, (X.j i).base + o, none⟩) := Iff.rfl
@[simp] theorem VR_nilSlice : VR X (.slice none 0 0) v ↔ v = .slice none 0 0 := ⟨fun h => h.2.2, fun h => ⟨rfl, rfl, h⟩⟩
theorem VR_noSlice {n c : Nat} : VR X (.slice none n c) v ↔ n = 0 ∧ c = 0 ∧ v = .slice none 0 0 := Iff.rfl
theorem VR_slice {i o sz len cap : Nat} : VR X (.slice (some ⟨i, o, some sz⟩) len cap) v ↔ i < X.nx ∧ 0 < sz ∧ ∃ c, v = .slice (some ⟨(X.j i).b, (X.j i).base + o, none⟩) len c ∧ len ≤ c ∧ o + c * sz ≤ (X.j i).lim ∧ (0 < cap → cap = c + 1) := Iff.rfl
@[simp] theorem VR_map {i : Nat} : VR X (.map (some i)) v ↔ i < X.nx ∧ v = .map (some (X.j i).b) := Iff.rfl
@[simp] theorem VR_nilMap : VR X (.map none) v ↔ v = .map none := Iff.rfl
@[simp] theorem VR_nilFunc : VR X .nilFunc v ↔ v = .nilFunc := Iff.rfl
@[simp] theorem VR_nilIface : VR X .nilIface v ↔ v = .nilIface := Iff.rfl
@[simp] theorem VR_iface {t : TypeId} {u : Value} : VR X (.iface t u) v ↔ ∃ u', v = .iface t u' ∧ VR X u u' := Iff.rfl
@[simp] theorem VR_agg : VR X (.agg ⟨l⟩) v ↔ ∃ cs : Array Value, v = .agg cs ∧ VRl X l cs.toList := Iff.rfl
@[simp] theorem VR_tuple : VR X (.tuple ⟨l⟩) v ↔ ∃ cs : Array Value, v = .tuple cs ∧ VRl X l cs.toList := Iff.rfl
theorem VR_func {f : FuncId} {a c : List Value} : VR X (.func (.func f) ⟨a⟩ ⟨c⟩) v ↔ ∃ x y : Array Value, v = .func (.func f) x y ∧ VRl X a x.toList ∧ VRl X c y.toList := Iff.rfl
theorem VR_yield {i : Nat} {a c : Array Value} : VR X (.func (.yield i) a c) v ↔ i < X.nx ∧ v = .func (.yield (X.j i).b) #[] #[] := Iff.rfl
theorem VR_via {t : TypeId} {p : Array FieldStep} {f : FuncId} {a c : Array Value} : VR X (.func (.via t p f true) a c) v ↔ ∃ p n, v = .slice (some p) 0 n := Iff.rfl
theorem VR_txt {t : TypeId} {p : Array FieldStep} {f : FuncId} {c : Array Value} : VR X (.func (.via t p f false) ⟨l⟩ c) v ↔ ∃ bs : ByteArray, v = .string bs ∧ VRl X l (bs.data.toList.map fun b => .int .u8 b.toNat) := Iff.rfl
@[simp] theorem VRl_nil {l' : List Value} : VRl X [] l' ↔ l' = [] := Iff.rfl
@[simp] theorem VRl_cons {a : Value} {l' : List Value} : VRl X (a :: l) l' ↔ ∃ u us, l' = u :: us ∧ VR X a u ∧ VRl X l us := Iff.rfl
end

/-- More blocks, those that there were where they were. -/
structure Cx.le (X Y : Cx) : Prop where
  ρ : Y.ρ = X.ρ
  nx : X.nx ≤ Y.nx
  j : ∀ i, i < X.nx → Y.j i = X.j i

theorem Cx.le.refl (X : Cx) : X.le X := ⟨rfl, Nat.le_refl _, fun _ _ => rfl⟩
theorem Cx.le.trans {X Y Z : Cx} (h : X.le Y) (h' : Y.le Z) : X.le Z := ⟨h'.ρ.trans h.ρ, Nat.le_trans h.nx h'.nx, fun i hi => (h'.j i (Nat.lt_of_lt_of_le hi h.nx)).trans (h.j i hi)⟩

theorem VR.mono {X Y : Cx} (h : X.le Y) : ∀ {a v : Value}, VR X a v → VR Y a v := by
  intro a
  refine @Value.rec (fun a => ∀ {v}, VR X a v → VR Y a v) (fun a => ∀ {l}, VRl X a.toList l → VRl Y a.toList l) (fun l => ∀ {l'}, VRl X l l' → VRl Y l l') ?_ ?_ ?_ ?_ ?_ ?_ ?_ ?_ ?_ ?_ ?_ ?_ ?_ ?_ ?_ ?_ ?_ ?_ a
  · exact fun _ _ h => h
  · exact fun _ _ _ h => h
  · exact fun _ _ _ h => h
  · intro k re im v hv
    rw [VR_complex] at *
    rw [h.ρ]; exact hv
  · exact fun _ _ h => h
  · intro p v hv
    rcases p with _ | ⟨i, o, _ | q⟩
    · exact hv
    · rw [VR_ptr] at *
      exact ⟨Nat.lt_of_lt_of_le hv.1 h.nx, by rw [h.j i hv.1]; exact hv.2⟩
    · exact hv.elim
  · intro p len cap v hv
    rcases p with _ | ⟨i, o, _ | sz⟩
    · exact hv
    · exact hv.elim
    · rw [VR_slice] at *
      obtain ⟨h1, h2, h3⟩ := hv
      exact ⟨Nat.lt_of_lt_of_le h1 h.nx, h2, by rw [h.j i h1]; exact h3⟩
  · intro r v hv
    cases r with
    | none => exact hv
    | some i =>
      rw [VR_map] at *
      exact ⟨Nat.lt_of_lt_of_le hv.1 h.nx, by rw [h.j i hv.1]; exact hv.2⟩
  · exact fun _ _ h => h
  · intro fn a c iha ihc v hv
    cases fn with
    | func f =>
      obtain ⟨x, y, h1, h2, h3⟩ := hv
      exact ⟨x, y, h1, iha h2, ihc h3⟩
    | yield l =>
      obtain ⟨h1, h2⟩ := hv
      exact ⟨Nat.lt_of_lt_of_le h1 h.nx, by rw [h.j l h1]; exact h2⟩
    | via t p f q =>
      cases q with
      | true => exact hv
      | false =>
        obtain ⟨bs, h1, h2⟩ := hv
        exact ⟨bs, h1, iha h2⟩
    | method n => exact hv.elim
    | methodOf t n => exact hv.elim
  · exact fun h => h
  · rintro t u ih v ⟨u', h1, h2⟩
    exact ⟨u', h1, ih h2⟩
  · exact fun h => h
  · rintro cs ih v ⟨cs', h1, h2⟩
    exact ⟨cs', h1, ih h2⟩
  · rintro cs ih v ⟨cs', h1, h2⟩
    exact ⟨cs', h1, ih h2⟩
  · exact fun l ih => ih
  · exact fun h => h
  · rintro a l iha ihl l' ⟨u, us, h1, h2, h3⟩
    exact ⟨u, us, h1, iha h2, ihl h3⟩

theorem VRl.mono {X Y : Cx} (h : X.le Y) : ∀ {l l' : List Value}, VRl X l l' → VRl Y l l'
  | [], _, hl => hl
  | _ :: _, _, ⟨u, us, h1, h2, h3⟩ => ⟨u, us, h1, VR.mono h h2, VRl.mono h h3⟩

theorem VRl.length {X : Cx} : ∀ {l l' : List Value}, VRl X l l' → l'.length = l.length
  | [], _, hl => by rw [VRl_nil] at hl; subst hl; rfl
  | _ :: _, _, ⟨u, us, h1, _, h3⟩ => by subst h1; simp [VRl.length h3]

theorem VRl.get {X : Cx} : ∀ {l l' : List Value}, VRl X l l' → ∀ {i : Nat} {a : Value}, l[i]? = some a → ∃ u, l'[i]? = some u ∧ VR X a u
  | _ :: _, _, ⟨u, us, h1, h2, h3⟩, 0, _, hi => by subst h1; simp at hi; subst hi; exact ⟨u, rfl, h2⟩
  | _ :: _, _, ⟨u, us, h1, h2, h3⟩, i + 1, _, hi => by subst h1; simp at hi; simpa using VRl.get h3 hi

theorem VRl.append {X : Cx} : ∀ {l l' m m' : List Value}, VRl X l l' → VRl X m m' → VRl X (l ++ m) (l' ++ m')
  | [], _, _, _, hl, hm => by rw [VRl_nil] at hl; subst hl; exact hm
  | _ :: _, _, _, _, ⟨u, us, h1, h2, h3⟩, hm => by subst h1; exact ⟨u, us ++ _, rfl, h2, VRl.append h3 hm⟩

theorem VRl.take {X : Cx} : ∀ {l l' : List Value} (n : Nat), VRl X l l' → VRl X (l.take n) (l'.take n)
  | _, _, 0, _ => by simp
  | [], _, _ + 1, hl => by rw [VRl_nil] at hl; subst hl; simp
  | _ :: _, _, n + 1, ⟨u, us, h1, h2, h3⟩ => by subst h1; exact ⟨u, us.take n, rfl, h2, VRl.take n h3⟩

theorem VRl.drop {X : Cx} : ∀ {l l' : List Value} (n : Nat), VRl X l l' → VRl X (l.drop n) (l'.drop n)
  | _, _, 0, h => by simpa using h
  | [], _, _ + 1, hl => by rw [VRl_nil] at hl; subst hl; simp
  | _ :: _, _, n + 1, ⟨u, us, h1, h2, h3⟩ => by subst h1; simpa using VRl.drop n h3

theorem plain1_VR (X : Cx) {v : Value} (h : plain1 v = true) : VR X v v := by
  unfold plain1 at h
  split at h <;> first | rfl | (simp at h; done) | exact ⟨rfl, rfl, rfl⟩

theorem plain1_all (X : Cx) : ∀ {l : List Value}, l.all plain1 = true → VRl X l l
  | [], _ => rfl
  | a :: l, h => by
    simp only [List.all_cons, Bool.and_eq_true] at h
    exact ⟨a, l, rfl, plain1_VR X h.1, plain1_all X h.2⟩

theorem plain_VR (X : Cx) {v : Value} (h : plain v = true) : VR X v v := by
  unfold plain at h
  split at h
  · exact ⟨_, rfl, plain1_all X h⟩
  · exact ⟨_, rfl, plain1_all X h⟩
  · exact plain1_VR X h

/-- One cell's value stays one. -/
theorem VR.one {X : Cx} {a v : Value} (h : VR X a v) (ha : Go.Proofs.YtkpfafehcmammaaGreatDoor.one a = true) : v.oneCell = true := by
  cases a with
  | bool b => cases h; rfl
  | int k n => cases h; rfl
  | float => exact h.elim
  | complex k a b => cases h; rfl
  | string s => cases h; rfl
  | pointer p =>
    rcases p with _ | ⟨i, o, _ | q⟩
    · cases h; rfl
    · obtain ⟨_, h⟩ := h; cases h; rfl
    · exact h.elim
  | slice p n c =>
    rcases p with _ | ⟨i, o, _ | q⟩
    · obtain ⟨_, _, h⟩ := h; cases h; rfl
    · exact h.elim
    · obtain ⟨_, _, c, h, _⟩ := h; cases h; rfl
  | map r =>
    cases r with
    | none => cases h; rfl
    | some i => obtain ⟨_, h⟩ := h; cases h; rfl
  | chan r => exact h.elim
  | func f a c =>
    cases f with
    | func f => obtain ⟨x, y, h, _⟩ := h; cases h; rfl
    | yield l => obtain ⟨_, h⟩ := h; cases h; rfl
    | via t p f q =>
      cases q with
      | true => obtain ⟨p, n, h⟩ := h; cases h; rfl
      | false => obtain ⟨bs, h, _⟩ := h; cases h; rfl
    | method => exact h.elim
    | methodOf => exact h.elim
  | nilFunc => cases h; rfl
  | iface t u => obtain ⟨u', h, _⟩ := h; cases h; rfl
  | nilIface => cases h; rfl
  | agg => cases ha
  | tuple => cases ha

end Go.Proofs.YtkpfafehcmammaaGreatDoor
namespace Go.Proofs.YtkpfafehcmammaaGreatDoor
open Go.Deep

def cbAt (c : CB) (i : Nat) : Option Value := if i < c.n then (match getT c.vs i with | some v => some v | none => c.d) else none

theorem gvd_ex {d : Option Value} : ∀ {t : TV} {n : Nat} {K : Value → Prop}, gvd t n d K → ∃ v, (match getT t n with | some v => some v | none => d) = some v ∧ K v := by
  intro t
  induction t with
  | nil => intro n K h; obtain ⟨v, h1, h2⟩ := ok_ex (x := d) (K := K) h; exact ⟨v, by rw [getT_nil]; exact h1, h2⟩
  | node b o v l r ihl ihr =>
    intro n K h
    cases n with
    | zero =>
      cases v with
      | none => obtain ⟨v, h1, h2⟩ := ok_ex (x := d) (K := K) h; exact ⟨v, h1, h2⟩
      | some v => exact ⟨v, rfl, h⟩
    | succ m =>
      have h' : @Bool.rec (fun _ => Prop) (gvd r (Nat.div m 2) d K) (gvd l (Nat.div m 2) d K) (Nat.beq (Nat.mod m 2) 0) := h
      rw [beq_ite] at h'
      simp only [getT]
      change if m % 2 = 0 then gvd l (m / 2) d K else gvd r (m / 2) d K at h'
      split at h'
      · rename_i e; rw [if_pos e]; exact ihl h'
      · rename_i e; rw [if_neg e]; exact ihr h'

theorem blt_iff {a b : Nat} : Nat.blt a b = true ↔ a < b := by unfold Nat.blt; rw [Nat.ble_eq]; exact Iff.rfl

theorem cell_ex {c : CB} {i : Nat} {K : Value → Prop} (h : cell c i K) : ∃ v, cbAt c i = some v ∧ K v := by
  obtain ⟨h1, h2⟩ := yes_ex h
  obtain ⟨v, h3, h4⟩ := gvd_ex h2
  exact ⟨v, by unfold cbAt; rw [if_pos (blt_iff.1 h1)]; exact h3, h4⟩

theorem cells_ex : ∀ (k : Nat) {c : CB} {i : Nat} {K : List Value → Prop}, cells k c i K → ∃ l, l.length = k ∧ (∀ m, m < k → l[m]? = cbAt c (i + m)) ∧ K l := by
  intro k
  induction k with
  | zero => intro c i K h; exact ⟨[], rfl, by simp, h⟩
  | succ k ih =>
    intro c i K h
    obtain ⟨v, h1, h2⟩ := cell_ex (K := fun v => cells k c (Nat.succ i) (fun l => K (v :: l))) h
    obtain ⟨l, h3, h4, h5⟩ := ih h2
    refine ⟨v :: l, by simp [h3], fun m hm => ?_, h5⟩
    cases m with
    | zero => simpa using h1.symm
    | succ m =>
      have := h4 m (by omega)
      simp only [List.getElem?_cons_succ, this]
      congr 1; omega

theorem setL_ex : ∀ {l : List Value} {t : TV} {i : Nat} {K : TV → Prop}, setL l t i K → ∃ t', (∀ m, getT t' m = if i ≤ m ∧ m < i + l.length then l[m - i]? else getT t m) ∧ (∀ v ∈ l, one v = true) ∧ K t' := by
  intro l
  induction l with
  | nil => intro t i K h; exact ⟨t, fun m => by rw [if_neg (by simp)], by simp, h⟩
  | cons v l ih =>
    intro t i K h
    obtain ⟨h1, h2⟩ := yes_ex (b := one v) (K := setV t i v (fun t => setL l t (Nat.succ i) K)) h
    obtain ⟨t1, h3, h4⟩ := setV_ex h2
    obtain ⟨t2, h5, h6, h7⟩ := ih h4
    refine ⟨t2, fun m => ?_, by simpa using ⟨h1, h6⟩, h7⟩
    rw [h5 m, h3 m]
    simp only [Nat.succ_eq_add_one, List.length_cons]
    by_cases hm : m = i
    · subst hm; rw [if_neg (by omega), if_pos rfl, if_pos (by omega)]; simp
    · by_cases h8 : i ≤ m ∧ m < i + (l.length + 1)
      · rw [if_pos (by omega), if_pos h8]
        have : m - i = (m - (i + 1)) + 1 := by omega
        rw [this]; rfl
      · rw [if_neg (by omega), if_neg hm, if_neg h8]

/-! Blocks. -/
def RR (X : Cx) (regs : TV) (n : Nat) (tmps : Array Value) : Prop := n ≤ tmps.size ∧ ∀ t v, getT regs t = some v → ∃ u, tmps[t]? = some u ∧ VR X v u

def ER (X : Cx) : List (Value × Value) → List MapEntry → Prop
  | [], l => l = []
  | p :: es, l => ∃ m ms, l = m :: ms ∧ VR X p.1 m.key ∧ VR X p.2 m.val ∧ ER X es ms

def CR (X : Cx) (w : World) (L : Loc) (c : CB) : Prop :=
  ∃ cs fz, w.heap[L.b]? = some (.cells cs c.ty fz) ∧ c.n ≤ L.lim ∧ L.base + L.lim ≤ cs.size ∧ (c.ro = false → ∀ o, o < cs.size → ¬ (fz.1 ≤ o ∧ o < fz.2)) ∧ ∀ i v, cbAt c i = some v → one v = true ∧ ∃ u, cs[L.base + i]? = some u ∧ VR X v u

def BR (X : Cx) (w : World) (L : Loc) (b : AB) : Prop :=
  match b with
  | .inl c => CR X w L c
  | .inr (.inl es) => ∃ ms k, w.heap[L.b]? = some (.map ms k) ∧ ER X es ms.toList
  | .inr (.inr (.inl r)) => ∃ l : Loop, w.heap[L.b]? = some (.loop l) ∧ l.state = r.st ∧ l.pending = r.pend ∧ RR X r.regs r.n l.tmps ∧ l.params.toList = r.params ∧ l.assign = r.assign ∧ l.body = r.body
  | .inr (.inr (.inr t)) => ∃ d, w.heap[L.b]? = some (.deferred d) ∧ (t = false → d = some [])

theorem RR.mono {X Y : Cx} (h : X.le Y) {regs : TV} {n : Nat} {tmps : Array Value} (hr : RR X regs n tmps) : RR Y regs n tmps :=
  ⟨hr.1, fun t v hv => let ⟨u, h1, h2⟩ := hr.2 t v hv; ⟨u, h1, VR.mono h h2⟩⟩

theorem ER.mono {X Y : Cx} (h : X.le Y) : ∀ {es : List (Value × Value)} {l : List MapEntry}, ER X es l → ER Y es l
  | [], _, he => he
  | _ :: _, _, ⟨m, ms, h1, h2, h3, h4⟩ => ⟨m, ms, h1, VR.mono h h2, VR.mono h h3, ER.mono h h4⟩

theorem BR.block {X : Cx} {w : World} {L : Loc} {b : AB} (h : BR X w L b) : ∃ o, w.heap[L.b]? = some o := by
  rcases b with c | c | c | c
  · obtain ⟨cs, fz, h, _⟩ := h; exact ⟨_, h⟩
  · obtain ⟨cs, fz, h, _⟩ := h; exact ⟨_, h⟩
  · obtain ⟨l, h, _⟩ := h; exact ⟨_, h⟩
  · obtain ⟨l, h, _⟩ := h; exact ⟨_, h⟩

theorem BR.lt {X : Cx} {w : World} {L : Loc} {b : AB} (h : BR X w L b) : L.b < w.heap.size := by
  obtain ⟨o, ho⟩ := h.block
  exact (Array.getElem?_eq_some_iff.1 ho).1

theorem BR.mono {X Y : Cx} (hX : X.le Y) {w w' : World} {L : Loc} {b : AB} (hw : w'.heap[L.b]? = w.heap[L.b]?) (h : BR X w L b) : BR Y w' L b := by
  rcases b with c | c | c | c
  · obtain ⟨cs, fz, h1, h2, h3, h4, h5⟩ := h
    exact ⟨cs, fz, hw.trans h1, h2, h3, h4, fun i v hv => let ⟨a, u, b, c⟩ := h5 i v hv; ⟨a, u, b, VR.mono hX c⟩⟩
  · obtain ⟨cs, fz, h1, h2⟩ := h
    exact ⟨cs, fz, hw.trans h1, h2.mono hX⟩
  · obtain ⟨l, h1, h2, h3, h4, h5⟩ := h
    exact ⟨l, hw.trans h1, h2, h3, h4.mono hX, h5⟩
  · obtain ⟨l, h1, h2⟩ := h
    exact ⟨l, hw.trans h1, h2⟩

/-- What lies in memory is what is said. -/
structure Rel (X : Cx) (s : AS) (w : World) : Prop where
  nx : X.nx = s.nx
  blk : ∀ id b, getT s.h id = some b → id < X.nx ∧ BR X w (X.j id) b
  sep : ∀ id id' b b', getT s.h id = some b → getT s.h id' = some b' → (X.j id).b = (X.j id').b → id = id'
  ng : NG ≤ X.nx
  glob : ∀ i, i < NG → (X.j i).b = i ∧ (X.j i).base = 0

def wrt (b : AB) : Bool := match b with | .inl c => !c.ro | _ => true
/-- A block that nothing of ours may write. -/
def Fr (X : Cx) (s : AS) (b : Nat) : Prop := ∀ id c, getT s.h id = some c → wrt c = true → (X.j id).b ≠ b

/-- A block that none of ours is. -/
def Un (X : Cx) (s : AS) (b : Nat) : Prop := ∀ id c, getT s.h id = some c → (X.j id).b ≠ b
theorem Un.fr {X : Cx} {s : AS} {b : Nat} (h : Un X s b) : Fr X s b := fun id c hc _ => h id c hc

structure Ext (X : Cx) (s : AS) (w : World) (Y : Cx) (s' : AS) (w' : World) : Prop where
  le : X.le Y
  size : w.heap.size ≤ w'.heap.size
  keep : ∀ b, b < w.heap.size → Fr X s b → w'.heap[b]? = w.heap[b]? ∧ Fr Y s' b
  un : ∀ b, b < w.heap.size → Un X s b → Un Y s' b
  io : w'.os = w.os ∧ w'.output = w.output

theorem Ext.refl (X : Cx) (s : AS) (w : World) : Ext X s w X s w := ⟨Cx.le.refl X, Nat.le_refl _, fun _ _ h => ⟨rfl, h⟩, fun _ _ h => h, rfl, rfl⟩
theorem Ext.trans {X Y Z : Cx} {s s' s'' : AS} {w w' w'' : World} (h : Ext X s w Y s' w') (h' : Ext Y s' w' Z s'' w'') : Ext X s w Z s'' w'' :=
  ⟨h.le.trans h'.le, Nat.le_trans h.size h'.size, fun b hb hf =>
    let ⟨h1, h2⟩ := h.keep b hb hf
    let ⟨h3, h4⟩ := h'.keep b (Nat.lt_of_lt_of_le hb h.size) h2
    ⟨h3.trans h1, h4⟩, fun b hb hu => h'.un b (Nat.lt_of_lt_of_le hb h.size) (h.un b hb hu), h'.io.1.trans h.io.1, h'.io.2.trans h.io.2⟩

theorem Rel.drew {X : Cx} {s : AS} {w : World} (h : Rel X s w) : Rel X s w.drew := ⟨h.nx, fun id b hb => ⟨(h.blk id b hb).1, (h.blk id b hb).2.mono (Cx.le.refl X) rfl⟩, h.sep, h.ng, h.glob⟩
theorem Ext.drew (X : Cx) (s : AS) (w : World) : Ext X s w X s w.drew := ⟨Cx.le.refl X, Nat.le_refl _, fun _ _ h => ⟨rfl, h⟩, fun _ _ h => h, rfl, rfl⟩

/-- One block turns. -/
theorem Rel.upd {X : Cx} {s : AS} {w w' : World} (h : Rel X s w) {id : Nat} {b b' : AB} {h' : TB} (hb : getT s.h id = some b) (hw : wrt b = true) (hp : Put s.h h' id (some b'))
    (ho : ∀ k, k ≠ (X.j id).b → w'.heap[k]? = w.heap[k]?) (hs : w'.heap.size = w.heap.size) (hn : BR X w' (X.j id) b') (hio : w'.os = w.os ∧ w'.output = w.output := by exact ⟨rfl, rfl⟩) : Rel X ⟨h', s.nx⟩ w' ∧ Ext X s w X ⟨h', s.nx⟩ w' := by
  refine ⟨⟨h.nx, fun i c hc => ?_, fun i i' c c' hc hc' e => ?_, h.ng, h.glob⟩, ⟨Cx.le.refl X, by omega, fun k hk hf => ⟨ho k fun e => hf id b hb hw e.symm, fun i c hc hw' => ?_⟩, fun k hk hu i c hc => ?_, hio⟩⟩
  · change getT h' i = some c at hc
    rw [hp i] at hc
    split at hc
    · rename_i e; subst e; cases hc; exact ⟨(h.blk _ b hb).1, hn⟩
    · rename_i e
      have h1 := h.blk i c hc
      exact ⟨h1.1, h1.2.mono (Cx.le.refl X) (ho _ fun e' => e (h.sep _ _ _ _ hc hb e'))⟩
  · change getT h' i = some c at hc
    change getT h' i' = some c' at hc'
    rw [hp i] at hc
    rw [hp i'] at hc'
    split at hc <;> split at hc'
    · rename_i e1 e2; rw [e1, e2]
    · rename_i e1 e2; subst e1; exact h.sep _ _ _ _ hb hc' e
    · rename_i e1 e2; subst e2; exact h.sep _ _ _ _ hc hb e
    · exact h.sep _ _ _ _ hc hc' e
  · change getT h' i = some c at hc
    rw [hp i] at hc
    split at hc
    · rename_i e; subst e; exact hf _ b hb hw
    · exact hf i c hc hw'
  · change getT h' i = some c at hc
    rw [hp i] at hc
    split at hc
    · rename_i e; subst e; exact hu _ b hb
    · exact hu i c hc

/-- One more place is known. -/
def Cx.put (X : Cx) (L : Loc) : Cx := ⟨X.ρ, fun i => if i = X.nx then L else X.j i, X.nx + 1⟩
theorem Cx.put_le (X : Cx) (L : Loc) : X.le (X.put L) := ⟨rfl, Nat.le_succ _, fun i hi => by simp only [Cx.put]; rw [if_neg (by omega)]⟩
theorem Cx.put_at (X : Cx) (L : Loc) : (X.put L).j X.nx = L := by simp [Cx.put]
theorem Cx.put_lt (X : Cx) (L : Loc) {i : Nat} (hi : i < X.nx) : (X.put L).j i = X.j i := (X.put_le L).j i hi

/-- One more block, at a place that nothing else of ours has; of the others some may be forgotten. -/
theorem Rel.addG {X : Cx} {s : AS} {w w' : World} (h : Rel X s w) {b : AB} {h1 h' : TB} {L : Loc} (hsub : ∀ i c, getT h1 i = some c → getT s.h i = some c) (hp : Put h1 h' s.nx (some b)) (ho : ∀ k, k < w.heap.size → k ≠ L.b → w'.heap[k]? = w.heap[k]?) (hs : w.heap.size ≤ w'.heap.size)
    (hL : ∀ i c, getT h1 i = some c → (X.j i).b ≠ L.b) (hf : ∀ k, k < w.heap.size → Fr X s k → L.b ≠ k) (hn : BR (X.put L) w' L b) (hio : w'.os = w.os ∧ w'.output = w.output := by exact ⟨rfl, rfl⟩) : Rel (X.put L) ⟨h', Nat.succ s.nx⟩ w' ∧ Ext X s w (X.put L) ⟨h', Nat.succ s.nx⟩ w' := by
  have hnx := h.nx
  have hlt : ∀ i c, getT h1 i = some c → i < X.nx := fun i c hc => (h.blk i c (hsub i c hc)).1
  refine ⟨⟨by simp [Cx.put, hnx], fun i c hc => ?_, fun i i' c c' hc hc' e => ?_, Nat.le_trans h.ng (Nat.le_succ _), fun i hi => ?_⟩, ⟨X.put_le L, hs, fun k hk hk' => ⟨ho k hk (fun e => hf k hk hk' e.symm), fun i c hc hw' => ?_⟩, fun k hk hu i c hc => ?_, hio⟩⟩
  · change getT h' i = some c at hc
    rw [hp i] at hc
    split at hc
    · rename_i e; subst e; cases hc; rw [← hnx, X.put_at]; exact ⟨by simp [Cx.put], hn⟩
    · have h2 := h.blk i c (hsub i c hc)
      rw [X.put_lt L h2.1]
      exact ⟨Nat.lt_succ_of_lt h2.1, h2.2.mono (X.put_le L) (ho _ h2.2.lt (hL i c hc))⟩
  · change getT h' i = some c at hc
    change getT h' i' = some c' at hc'
    rw [hp i] at hc
    rw [hp i'] at hc'
    split at hc <;> split at hc'
    · rename_i e1 e2; rw [e1, e2]
    · rename_i e1 e2
      rw [e1, ← hnx, X.put_at, X.put_lt L (hlt _ _ hc')] at e
      exact absurd e.symm (hL _ _ hc')
    · rename_i e1 e2
      rw [e2, ← hnx, X.put_at, X.put_lt L (hlt _ _ hc)] at e
      exact absurd e (hL _ _ hc)
    · rw [X.put_lt L (hlt _ _ hc), X.put_lt L (hlt _ _ hc')] at e
      exact h.sep _ _ _ _ (hsub _ _ hc) (hsub _ _ hc') e
  · have := h.ng
    rw [X.put_lt L (by omega)]
    exact h.glob i hi
  · change getT h' i = some c at hc
    rw [hp i] at hc
    split at hc
    · rename_i e; rw [e, ← hnx, X.put_at]; exact hf k hk hk'
    · rw [X.put_lt L (hlt _ _ hc)]; exact hk' i c (hsub i c hc) hw'
  · change getT h' i = some c at hc
    rw [hp i] at hc
    split at hc
    · rename_i e; rw [e, ← hnx, X.put_at]; exact hf k hk hu.fr
    · rw [X.put_lt L (hlt _ _ hc)]; exact hu i c (hsub i c hc)

/-- A new block behind all others. -/
theorem Rel.new {X : Cx} {s : AS} {w : World} (h : Rel X s w) {b : AB} {h' : TB} {o : Obj} {L : Loc} (hL : L.b = w.heap.size) (hp : Put s.h h' s.nx (some b)) (hn : BR (X.put L) (w.alloc o) L b) :
    Rel (X.put L) ⟨h', Nat.succ s.nx⟩ (w.alloc o) ∧ Ext X s w (X.put L) ⟨h', Nat.succ s.nx⟩ (w.alloc o) :=
  h.addG (fun _ _ hc => hc) hp (fun k hk _ => heap_alloc_old w o k hk) (by simp) (fun i c hc e => by have := (h.blk i c hc).2.lt; omega) (fun k hk _ e => by omega) hn

/-- A block is forgotten. -/
theorem Rel.del {X : Cx} {s : AS} {w : World} (h : Rel X s w) {id : Nat} {h' : TB} (hp : Put s.h h' id none) : Rel X ⟨h', s.nx⟩ w := by
  have hh : ∀ i c, getT h' i = some c → getT s.h i = some c := fun i c hc => by
    rw [hp i] at hc
    split at hc
    · cases hc
    · exact hc
  exact ⟨h.nx, fun i c hc => h.blk i c (hh i c hc), fun i i' c c' hc hc' e => h.sep _ _ _ _ (hh _ _ hc) (hh _ _ hc') e, h.ng, h.glob⟩

theorem Rel.grow {X : Cx} {s : AS} {w : World} (hR : Rel X s w) {w' : World} (hs : w.heap.size ≤ w'.heap.size) (hb : ∀ b, b < w.heap.size → w'.heap[b]? = w.heap[b]?) (hio : w'.os = w.os ∧ w'.output = w.output := by exact ⟨rfl, rfl⟩) : Rel X s w' ∧ Ext X s w X s w' :=
  ⟨⟨hR.nx, fun id b h => ⟨(hR.blk id b h).1, (hR.blk id b h).2.mono (Cx.le.refl X) (hb _ (hR.blk id b h).2.lt)⟩, hR.sep, hR.ng, hR.glob⟩, ⟨Cx.le.refl X, hs, fun b h hf => ⟨hb b h, hf⟩, fun _ _ h => h, hio⟩⟩

end Go.Proofs.YtkpfafehcmammaaGreatDoor
namespace Go.Proofs.YtkpfafehcmammaaGreatDoor
open Go.Deep

structure GR (X : Cx) (g : G) (a : Act) : Prop where
  tmp : ∀ t K, g t K → ∃ v, K v ∧ VR X v (a.tmps.getD t undef)

/-- An operation gives a value, or nothing. -/
def Done (P : Program) (o : Oper) (a : Act) (w : World) (u : Value) (w' : World) : Prop := (execOp a.eval o).run P w = .ok (.value u) w' ∨ ((execOp a.eval o).run P w = .ok .skip w' ∧ u = undef)

/-- An operation comes out as it is said. -/
def OpOK (P : Program) (o : Oper) (a : Act) (X : Cx) (s : AS) (w : World) (K : KVS) : Prop :=
  ∃ v s' Y u w', K v s' ∧ Done P o a w u w' ∧ Rel Y s' w' ∧ Ext X s w Y s' w' ∧ VR Y v u

theorem OpOK.quiet {P : Program} {o : Oper} {a : Act} {X : Cx} {s : AS} {w : World} {K : KVS} {v u : Value} (hR : Rel X s w) (hK : K v s) (hd : (execOp a.eval o).run P w = .ok (.value u) w) (hv : VR X v u) : OpOK P o a X s w K :=
  ⟨v, s, X, u, w, hK, .inl hd, hR, Ext.refl X s w, hv⟩

section
variable {P : Program} {T : Tab} {e : Env} {X : Cx} {s : AS} {w : World} {a : Act} {g : G} {o : Oper} {K : KVS}

theorem opd_ex (hR : Rel X s w) (hg : GR X g a) {x : Operand} {K : KV} (h : opd x g K) : ∃ v, K v ∧ VR X v (a.eval x) := by
  cases x with
  | tmp t => exact hg.tmp t K h
  | const v =>
    obtain ⟨h1, h2⟩ := yes_ex (b := plain v) (K := K v) h
    exact ⟨v, h2, plain_VR X h1⟩
  | global i =>
    obtain ⟨h1, h2⟩ := yes_ex (b := Nat.blt i NG) (K := K (.pointer (some ⟨i, 0, none⟩))) h
    have hi := blt_iff.1 h1
    refine ⟨_, h2, VR_ptr.2 ⟨Nat.lt_of_lt_of_le hi hR.ng, ?_⟩⟩
    rw [(hR.glob i hi).1, (hR.glob i hi).2]; rfl
  | func f => exact ⟨_, h, VR_func.2 ⟨_, _, rfl, rfl, rfl⟩⟩

theorem opds_ex (hR : Rel X s w) (hg : GR X g a) : ∀ {l : List Operand} {K : List Value → Prop}, opds l g K → ∃ vs, K vs ∧ VRl X vs (l.map a.eval) := by
  intro l
  induction l with
  | nil => intro K h; exact ⟨[], h, rfl⟩
  | cons x l ih =>
    intro K h
    obtain ⟨v, h1, h2⟩ := opd_ex hR hg (K := fun v => opds l g (fun vs => K (v :: vs))) h
    obtain ⟨vs, h3, h4⟩ := ih h1
    exact ⟨v :: vs, h3, _, _, rfl, h2, h4⟩

theorem move_ok (hR : Rel X s w) (hg : GR X g a) {x : Operand} (ho : o.op = .move x ∨ o.op = .assign x) (h : opd x g (fun v => K v s)) : OpOK P o a X s w K := by
  obtain ⟨v, h1, h2⟩ := opd_ex hR hg h
  refine .quiet hR h1 ?_ h2
  rcases ho with ho | ho <;> simp [execOp, ho]

theorem pick_ok (hR : Rel X s w) (hg : GR X g a) {c x y : Operand} (ho : o.op = .pick c x y) (h : lPick c x y P T e s g K) : OpOK P o a X s w K := by
  obtain ⟨v, h1, h2⟩ := opd_ex hR hg h
  obtain ⟨b, rfl, h3⟩ := vBool_ex h1
  rw [VR_bool] at h2
  rcases ife_ex h3 with ⟨rfl, h4⟩ | ⟨rfl, h4⟩
  · obtain ⟨v, h5, h6⟩ := opd_ex hR hg h4
    exact .quiet hR h5 (by simp [execOp, ho, h2, asBool]) h6
  · obtain ⟨v, h5, h6⟩ := opd_ex hR hg h4
    exact .quiet hR h5 (by simp [execOp, ho, h2, asBool]) h6

theorem isAgg_run {t : TypeId} {b : Bool} (h : isAgg P t = some b) : (Go.isAgg t).run P w = .ok b w := by
  unfold isAgg at h
  simp only [Go.isAgg, underlying, Sem.run_bind, run_program, Result.andThen]
  split at h <;> simp_all

theorem sizeOf_run {t : TypeId} {n : Nat} (h : sizeOf P t = some n) : (Go.sizeOf t).run P w = .ok n w := by
  unfold sizeOf at h
  simp only [Go.sizeOf, typeInfo, Sem.run_bind, run_program, Result.andThen]
  split at h <;> simp_all

theorem addr_add (b o n : Nat) : (⟨b, o, none⟩ : Addr).add n = ⟨b, o + n, none⟩ := by unfold Addr.add; split <;> simp_all

theorem CR.cell {L : Loc} {c : CB} (h : CR X w L c) {i : Nat} {v : Value} (hv : cbAt c i = some v) : one v = true ∧ ∃ u, w.cell? ⟨L.b, L.base + i, none⟩ = some u ∧ VR X v u := by
  obtain ⟨cs, fz, h1, _, _, _, h5⟩ := h
  obtain ⟨h6, u, h7, h8⟩ := h5 i v hv
  exact ⟨h6, u, by rw [cell_of_row w L.b _ cs c.ty fz h1]; exact h7, h8⟩

/-- Cells that lie in a row. -/
theorem CR.cells {L : Loc} {c : CB} (h : CR X w L c) : ∀ {l : List Value} {i : Nat}, (∀ m, m < l.length → l[m]? = cbAt c (i + m)) → ∃ us, VRl X l us ∧ ∀ m u, us[m]? = some u → w.cell? ⟨L.b, L.base + i + m, none⟩ = some u := by
  intro l
  induction l with
  | nil => intro i _; exact ⟨[], rfl, fun m u hu => by simp at hu⟩
  | cons v l ih =>
    intro i hl
    obtain ⟨us, h1, h2⟩ := ih (i := i + 1) (fun m hm => by
      have := hl (m + 1) (by simpa using hm)
      simp only [List.getElem?_cons_succ] at this
      rw [this]; congr 1; omega)
    have h0 := hl 0 (by simp)
    simp only [List.getElem?_cons_zero] at h0
    obtain ⟨_, u, h3, h4⟩ := h.cell h0.symm
    refine ⟨u :: us, ⟨u, us, rfl, h4, h1⟩, fun m x hx => ?_⟩
    cases m with
    | zero => simp at hx; subst hx; exact h3
    | succ m =>
      have := h2 m x (by simpa using hx)
      rw [← this]; congr 1; simp only [Addr.mk.injEq, and_true, true_and]; omega

theorem loadCells_run {L : Loc} {i : Nat} {us : List Value} (h : ∀ m u, us[m]? = some u → w.cell? ⟨L.b, L.base + i + m, none⟩ = some u) : (loadCells ⟨L.b, L.base + i, none⟩ us.length).run P w = .ok us.toArray w :=
  run_loadCells_list (P := P) (w := w) ⟨L.b, L.base + i, none⟩ us (fun m u hu => by rw [addr_add]; exact h m u hu)

theorem loadV_ex (hR : Rel X s w) {t : TypeId} {id off : Nat} {K : KV} (h : loadV P s.h t id off K) : ∃ v u, K v ∧ (loadVar t ⟨(X.j id).b, (X.j id).base + off, none⟩).run P w = .ok u w ∧ VR X v u := by
  obtain ⟨c, h1, h2⟩ := getC_ex h
  obtain ⟨b, h3, h4⟩ := ok_ex h2
  have hc : CR X w (X.j id) c := (hR.blk id _ h1).2
  rcases ife_ex h4 with ⟨rfl, h5⟩ | ⟨rfl, h5⟩
  · obtain ⟨n, h6, h7⟩ := ok_ex h5
    obtain ⟨l, h8, h9, h10⟩ := cells_ex n h7
    obtain ⟨us, h11, h12⟩ := hc.cells (l := l) (i := off) (by rw [h8]; exact h9)
    refine ⟨_, .agg us.toArray, h10, ?_, VR_agg.2 ⟨_, rfl, h11⟩⟩
    have hlen : us.length = n := by rw [h11.length, h8]
    simp [loadVar, isAgg_run h3, sizeOf_run h6, ← hlen, loadCells_run (P := P) h12]
  · obtain ⟨v, h6, h7⟩ := cell_ex h5
    obtain ⟨_, u, h8, h9⟩ := hc.cell h6
    exact ⟨v, u, h7, by simp [loadVar, isAgg_run h3, h8], h9⟩

theorem load_ok (hR : Rel X s w) (hg : GR X g a) {t : TypeId} {x : Operand} (ho : o.op = .load t x) (h : lLoad t x P T e s g K) : OpOK P o a X s w K := by
  obtain ⟨v, h1, h2⟩ := opd_ex hR hg h
  obtain ⟨id, off, rfl, h3⟩ := vPtr_ex h1
  obtain ⟨_, h2⟩ := VR_ptr.1 h2
  obtain ⟨v, u, h4, h5, h6⟩ := loadV_ex hR h3
  exact .quiet hR h4 (by simp [execOp, ho, Instr.loadAt, Instr.sureAddr, h2, h5]) h6

theorem nil_ok (hR : Rel X s w) (hg : GR X g a) {x : Operand} (ho : o.op = .nilCheck x) (h : lNil x P T e s g K) : OpOK P o a X s w K := by
  obtain ⟨v, h1, h2⟩ := opd_ex hR hg h
  obtain ⟨h3, h4⟩ := yes_ex h1
  refine .quiet hR h4 ?_ h2
  unfold isSet at h3
  split at h3
  · rename_i p
    obtain ⟨i, o, q⟩ := p
    cases q with
    | none => obtain ⟨_, h2⟩ := VR_ptr.1 h2; simp [execOp, ho, h2]
    | some _ => exact h2.elim
  · rename_i f a' c'
    obtain ⟨a'⟩ := a'
    obtain ⟨c'⟩ := c'
    obtain ⟨x, y, h2, _⟩ := VR_func.1 h2
    simp [execOp, ho, h2]
  · cases h3

end
end Go.Proofs.YtkpfafehcmammaaGreatDoor
namespace Go.Proofs.YtkpfafehcmammaaGreatDoor
open Go.Deep

theorem ilt_eq (x y : Int) : ilt x y = decide (x < y) := by
  cases x <;> cases y <;> simp only [ilt]
  · rename_i a b
    by_cases h : a < b
    · rw [blt_iff.2 h]; simp; omega
    · have : Nat.blt a b = false := by cases e : Nat.blt a b; rfl; exact absurd (blt_iff.1 e) h
      rw [this]; simp; omega
  · simp; omega
  · simp; omega
  · rename_i a b
    by_cases h : b < a
    · rw [blt_iff.2 h]; simp; omega
    · have : Nat.blt b a = false := by cases e : Nat.blt b a; rfl; exact absurd (blt_iff.1 e) h
      rw [this]; simp; omega

theorem beq_eq (a b : Nat) : Nat.beq a b = decide (a = b) := by
  by_cases h : a = b
  · subst h; simp
  · have : Nat.beq a b = false := by cases e : Nat.beq a b; rfl; exact absurd (Nat.eq_of_beq_eq_true e) h
    rw [this]; simp [h]

theorem ieq_eq (x y : Int) : ieq x y = (x == y) := by
  cases x <;> cases y <;> simp only [ieq, beq_eq]
  · rename_i a b
    rw [Bool.eq_iff_iff]
    simp only [decide_eq_true_eq, beq_iff_eq]
    exact ⟨fun h => by rw [h], fun h => Int.ofNat.inj h⟩
  · simp
  · simp
  · rename_i a b; by_cases h : a = b <;> simp [h]

theorem iadd_eq (x y : Int) : iadd x y = x + y := by cases x <;> cases y <;> rfl

theorem kno_inj {a b : IntKind} (h : keq a b = true) : a = b := by
  have := Nat.eq_of_beq_eq_true h
  cases a <;> cases b <;> simp_all [kno]

theorem wrap_small (k : IntKind) (m : Nat) (h : m < topOf k) : k.wrap (m : Int) = (m : Int) := by
  cases k <;> simp only [IntKind.wrap, IntKind.bits, IntKind.signed, topOf] at * <;> simp <;> omega

theorem wrp_eq (k : IntKind) (n : Int) : wrp k n = k.wrap n := by
  cases n with
  | ofNat m =>
    simp only [wrp]
    cases h : Nat.blt m (topOf k)
    · rfl
    · exact (wrap_small k m (blt_iff.1 h)).symm
  | negSucc m => rfl

theorem nint_ex {k : IntKind} {n : Int} {K : KV} (h : nint k n K) : K (.int k (k.wrap n)) := by
  have := int_ex h
  rwa [wrp_eq] at this
theorem nbool_ex {b : Bool} {K : KV} (h : nbool b K) : K (.bool b) := boo_ex (K := fun b => K (.bool b)) h

section
variable {P : Program} {T : Tab} {e : Env} {X : Cx} {s : AS} {w : World} {a : Act} {g : G} {o : Oper} {K : KVS}

theorem iBin_ex {op : BinOp} {k : IntKind} {x y : Int} {K : KV} (h : iBin op k x y K) (h1 : isShl op = false) (h2 : isShr op = false) (t : TypeId) :
    ∃ v, K v ∧ (Go.binOp op t (.int k x) (.int k y)).run P w = .ok v w ∧ plain1 v = true := by
  cases op
  · exact ⟨_, nint_ex h, by simp [Go.binOp, Op.intArith, iadd_eq], rfl⟩
  · exact ⟨_, nint_ex h, by simp [Go.binOp, Op.intArith] <;> rfl, rfl⟩
  · exact ⟨_, nint_ex h, by simp [Go.binOp, Op.intArith] <;> rfl, rfl⟩
  · rcases ife_ex (x := False) h with ⟨_, h⟩ | ⟨h3, h⟩
    · exact h.elim
    · rw [ieq_eq] at h3
      have : y ≠ 0 := by simpa using h3
      exact ⟨_, nint_ex h, by simp [Go.binOp, Op.intDiv, this], rfl⟩
  · rcases ife_ex (x := False) h with ⟨_, h⟩ | ⟨h3, h⟩
    · exact h.elim
    · rw [ieq_eq] at h3
      have : y ≠ 0 := by simpa using h3
      exact ⟨_, int_ex h, by simp [Go.binOp, Op.intDiv, this], rfl⟩
  · exact ⟨_, nint_ex h, by simp [Go.binOp, Op.intBits], rfl⟩
  · exact ⟨_, nint_ex h, by simp [Go.binOp, Op.intBits], rfl⟩
  · exact ⟨_, nint_ex h, by simp [Go.binOp, Op.intBits], rfl⟩
  · cases h1
  · cases h2
  · exact ⟨_, nint_ex h, by simp [Go.binOp, Op.intBits], rfl⟩
  · exact ⟨_, nbool_ex h, by simp [Go.binOp, Op.intCmp, ieq_eq], rfl⟩
  · exact ⟨_, nbool_ex h, by simp [Go.binOp, Op.intCmp, ieq_eq] <;> rfl, rfl⟩
  · exact ⟨_, nbool_ex h, by simp [Go.binOp, Op.intCmp, ilt_eq], rfl⟩
  · exact ⟨_, nbool_ex h, by simp [Go.binOp, Op.intCmp, ilt_eq, ← decide_not], rfl⟩
  · exact ⟨_, nbool_ex h, by simp [Go.binOp, Op.intCmp, ilt_eq], rfl⟩
  · exact ⟨_, nbool_ex h, by simp [Go.binOp, Op.intCmp, ilt_eq, ← decide_not], rfl⟩

theorem iBin2_ex {op : BinOp} {k k' : IntKind} {x y : Int} {K : KV} (h : iBin2 op k x k' y K) (t : TypeId) :
    ∃ v, K v ∧ (Go.binOp op t (.int k x) (.int k' y)).run P w = .ok v w ∧ plain1 v = true := by
  rcases ife_ex h with ⟨h1, h⟩ | ⟨h1, h⟩
  · have : op = .shl := by cases op <;> first | rfl | cases h1
    subst this
    rcases ife_ex (x := False) h with ⟨_, h⟩ | ⟨h3, h⟩
    · exact h.elim
    · rw [ilt_eq] at h3
      have : ¬ y < 0 := by simpa using h3
      exact ⟨_, nint_ex h, by simp [Go.binOp, Op.shift, this], rfl⟩
  · rcases ife_ex h with ⟨h2, h⟩ | ⟨h2, h⟩
    · have : op = .shr := by cases op <;> first | rfl | cases h2
      subst this
      rcases ife_ex (x := False) h with ⟨_, h⟩ | ⟨h3, h⟩
      · exact h.elim
      · rw [ilt_eq] at h3
        have : ¬ y < 0 := by simpa using h3
        exact ⟨_, int_ex h, by simp [Go.binOp, Op.shift, this], rfl⟩
    · obtain ⟨h3, h9⟩ := yes_ex (b := keq k k') (K := iBin op k x y K) h
      have e := kno_inj h3
      subst e
      exact iBin_ex h9 h1 h2 t

/-! Text. -/
theorem toList_eq (l : List UInt8) : (⟨⟨l⟩⟩ : ByteArray).toList = l := by
  rw [ByteArray.toList_eq]

theorem llt_ex : ∀ {x y : List UInt8} {K : Bool → Prop}, llt x y K → K (Op.bytesLess x y) := by
  intro x
  induction x with
  | nil =>
    intro y K h
    cases y with
    | nil => simp only [Op.bytesLess]; exact h
    | cons b y => simp only [Op.bytesLess]; exact h
  | cons a x ih =>
    intro y K h
    cases y with
    | nil => exact h
    | cons b y =>
      have h' : ife (Nat.blt a.toNat b.toNat) (K true) (ife (Nat.beq a.toNat b.toNat) (llt x y K) (K false)) := h
      simp only [Op.bytesLess]
      rcases ife_ex h' with ⟨e, h⟩ | ⟨e, h⟩
      · have : a < b := by rw [UInt8.lt_iff_toNat_lt]; exact blt_iff.1 e
        simpa [this] using h
      · have h1 : ¬ a < b := by rw [UInt8.lt_iff_toNat_lt]; intro c; rw [blt_iff.2 c] at e; cases e
        rcases ife_ex h with ⟨e2, h9⟩ | ⟨e2, h9⟩
        · have e3 : a = b := UInt8.toNat_inj.1 (Nat.eq_of_beq_eq_true e2)
          subst e3
          have := ih h9
          simpa [h1] using this
        · have e3 : (a == b) = false := by
            cases e4 : a == b
            · rfl
            · have := eq_of_beq e4
              subst this
              simp at e2
          simpa [h1, e3] using h9

theorem bytesLess_total : ∀ (x y : List UInt8), (Op.bytesLess x y || x == y) = !Op.bytesLess y x
  | [], [] => rfl
  | [], _ :: _ => rfl
  | _ :: _, [] => rfl
  | a :: x, b :: y => by
    have ih := bytesLess_total x y
    simp only [Op.bytesLess]
    by_cases h : a = b
    · subst h
      have : ¬ a < a := by rw [UInt8.lt_iff_toNat_lt]; omega
      simp [this] at ih ⊢
      exact ih
    · have h1 : a.toNat ≠ b.toNat := fun c => h (UInt8.toNat_inj.1 c)
      have h2 : ¬ b = a := fun c => h c.symm
      by_cases h3 : a < b
      · have h4 : ¬ b < a := by rw [UInt8.lt_iff_toNat_lt] at *; omega
        simp [h2, h3, h4]
      · have h4 : b < a := by rw [UInt8.lt_iff_toNat_lt] at *; omega
        simp [h, h3, h4]

theorem sBin_ex {op : BinOp} {x y : List UInt8} {K : KV} (h : sBin op x y K) (t : TypeId) : ∃ v, K v ∧ (Go.binOp op t (.string ⟨⟨x⟩⟩) (.string ⟨⟨y⟩⟩)).run P w = .ok v w ∧ plain1 v = true := by
  cases op
  · obtain ⟨h1, h2⟩ := yes_ex (b := Nat.blt (Nat.add x.length y.length) 1000000000) h
    have h3 := app_ex h2
    have h4 : x.length + y.length < 1000000000 := blt_iff.1 h1
    refine ⟨_, h3, ?_, rfl⟩
    have h5 : (⟨⟨x⟩⟩ : ByteArray) ++ ⟨⟨y⟩⟩ = ⟨⟨x ++ y⟩⟩ := by
      apply ByteArray.ext
      simp
    have h6 : ¬ (((⟨⟨x⟩⟩ : ByteArray).size + (⟨⟨y⟩⟩ : ByteArray).size : Nat) : Int) > IntKind.i64.max := by
      simp only [IntKind.max, IntKind.signed, IntKind.bits, ByteArray.size]
      simp
      omega
    simp only [Go.binOp, Op.stringOp, h5]
    rw [if_neg h6]; rfl
  · exact h.elim
  · exact h.elim
  · exact h.elim
  · exact h.elim
  · exact h.elim
  · exact h.elim
  · exact h.elim
  · exact h.elim
  · exact h.elim
  · exact h.elim
  · exact ⟨_, leq_ex (K := fun b => K (.bool b)) h, by simp [Go.binOp, Op.stringOp], rfl⟩
  · exact ⟨_, nbool_ex (leq_ex (K := fun b => nbool (!b) K) h), by simp [Go.binOp, Op.stringOp], rfl⟩
  · exact ⟨_, llt_ex (K := fun b => K (.bool b)) h, by simp [Go.binOp, Op.stringOp], rfl⟩
  · refine ⟨_, nbool_ex (llt_ex (K := fun b => nbool (!b) K) h), ?_, rfl⟩
    rw [← bytesLess_total]; simp [Go.binOp, Op.stringOp]
  · refine ⟨_, llt_ex (K := fun b => K (.bool b)) h, ?_, rfl⟩
    have := bytesLess_total x y
    simp only [Go.binOp, Op.stringOp, toList_eq, this]; simp
  · exact ⟨_, nbool_ex (llt_ex (K := fun b => nbool (!b) K) h), by simp [Go.binOp, Op.stringOp], rfl⟩

end
end Go.Proofs.YtkpfafehcmammaaGreatDoor
namespace Go.Proofs.YtkpfafehcmammaaGreatDoor
open Go.Deep

structure TabOK (P : Program) (ρ : Nat → Int) (T : Tab) : Prop where
  byte : ∀ i, T.byte i = true → 0 ≤ ρ i ∧ ρ i < 256
  bin : ∀ (X : Cx), X.ρ = ρ → ∀ op t x y r vx vy w, T.bin op x y = some r → VR X x vx → VR X y vy → ∃ v, (Go.binOp op t vx vy).run P w = .ok v w ∧ VR X r v
  conv : ∀ (X : Cx), X.ρ = ρ → ∀ k x r k' n, T.conv k x = some r → VR X x (.int k' n) → VR X r (.int k (k.wrap n))
  un : ∀ (X : Cx), X.ρ = ρ → ∀ op x r vx w, T.un op x = some r → VR X x vx → ∃ v, (Op.unary op vx).run P w = .ok v w ∧ VR X r v

section
variable {P : Program} {T : Tab} {e : Env} {X : Cx} {s : AS} {w : World} {a : Act} {g : G} {o : Oper} {K : KVS}

theorem tBool_un {t : TypeId} (h : tBool P t = true) : P.underlying t = some .bool := by unfold tBool at h; split at h <;> first | assumption | cases h
theorem tPtr_un {t : TypeId} (h : tPtr P t = true) : ∃ e, P.underlying t = some (.pointer e) := by unfold tPtr at h; split at h <;> first | exact ⟨_, ‹_›⟩ | cases h
theorem tSlice_un {t : TypeId} (h : tSlice P t = true) : ∃ e, P.underlying t = some (.slice e) := by unfold tSlice at h; split at h <;> first | exact ⟨_, ‹_›⟩ | cases h
theorem tFunc_un {t : TypeId} (h : tFunc P t = true) : ∃ a b c, P.underlying t = some (.func a b c) := by unfold tFunc at h; split at h <;> first | exact ⟨_, _, _, ‹_›⟩ | cases h
theorem tIface_un {t : TypeId} (h : tIface P t = true) : ∃ e, P.underlying t = some (.interface e) := by unfold tIface at h; split at h <;> first | exact ⟨_, ‹_›⟩ | cases h
theorem tStr_un {t : TypeId} (h : tStr P t = true) : P.underlying t = some .string := by unfold tStr at h; split at h <;> first | assumption | cases h
theorem tInt_un {t : TypeId} {k : IntKind} (h : tInt P t = some k) : P.underlying t = some (.int k) := by unfold tInt at h; split at h <;> first | (cases h; assumption) | cases h
theorem tSome_un {t : TypeId} (h : tSome P t = true) : ∃ d, P.underlying t = some d := by unfold tSome at h; split at h <;> first | exact ⟨_, ‹_›⟩ | cases h
theorem tCmp_un {t : TypeId} (h : tCmp P t = true) : ∃ i, P.info? t = some i ∧ i.comparable = true := by unfold tCmp at h; split at h <;> first | exact ⟨_, ‹_›, h⟩ | cases h
theorem elemOf_un {t e : TypeId} (h : elemOf P t = some e) : P.underlying t = some (.slice e) := by unfold elemOf at h; split at h <;> first | (cases h; assumption) | cases h
theorem tMap_un {t : TypeId} {p : TypeId × TypeId} (h : tMap P t = some p) : P.underlying t = some (.map p.1 p.2) := by unfold tMap at h; split at h <;> first | (cases h; assumption) | cases h
theorem arrOf_un {t : TypeId} {p : Nat × TypeId} (h : arrOf P t = some p) : P.underlying t = some (.array p.1 p.2) := by unfold arrOf at h; split at h <;> first | (cases h; assumption) | cases h
theorem structOf_un {t : TypeId} {fs : List Field} (h : structOf P t = some fs) : ∃ a : Array Field, a.toList = fs ∧ P.underlying t = some (.struct a) := by unfold structOf at h; split at h <;> first | (cases h; exact ⟨_, rfl, ‹_›⟩) | cases h
theorem elemSize_un {t : TypeId} {n : Nat} (h : elemSize P t = some n) : ∃ e, P.underlying t = some (.slice e) ∧ sizeOf P e = some n := by
  unfold elemSize at h
  split at h
  · exact ⟨_, elemOf_un ‹_›, h⟩
  · cases h

theorem underlying_run {t : TypeId} {d : TypeDesc} (h : P.underlying t = some d) : (underlying t).run P w = .ok d w := by simp [underlying, h]
theorem typeInfo_run {t : TypeId} {i : TypeInfo} (h : P.info? t = some i) : (typeInfo t).run P w = .ok i w := by simp [typeInfo, h]

theorem eqn_ex {op : BinOp} {b : Bool} {K : KV} (h : eqn op b K) : (op = .eql ∧ K (.bool b)) ∨ (op = .neq ∧ K (.bool (!b))) := by
  unfold eqn at h
  split at h
  · exact .inl ⟨rfl, nbool_ex h⟩
  · exact .inr ⟨rfl, nbool_ex h⟩
  · exact h.elim

/-- An answer of == or !=. -/
theorem eqn_run {op : BinOp} {t : TypeId} {b : Bool} {K : KV} {xo yo : Operand} {x y : Value} (h : eqn op b K) (he : (Op.equalIn (9999 + 1) t x y).run P w = .ok b w) (hg : (eqGuard op t xo yo x y).run P w = .ok () w)
    (hb1 : Go.binOp .eql t x y = (Op.equal t x y >>= fun r => pure (.bool r))) (hb2 : Go.binOp .neq t x y = (Op.equal t x y >>= fun r => pure (.bool (!r)))) :
    ∃ v u, K v ∧ (eqGuard op t xo yo x y >>= fun _ => Go.binOp op t x y).run P w = .ok u w ∧ VR X v u := by
  have he' : (Op.equal t x y).run P w = .ok b w := he
  rcases eqn_ex h with ⟨e, h'⟩ | ⟨e, h'⟩
  · subst e; exact ⟨_, _, h', by rw [hb1]; simp [hg, he'], rfl⟩
  · subst e; exact ⟨_, _, h', by rw [hb2]; simp [hg, he'], rfl⟩

theorem guard_int {op : BinOp} {t : TypeId} {xo yo : Operand} {k : IntKind} {n : Int} {y : Value} : (eqGuard op t xo yo (.int k n) y).run P w = .ok () w := by
  unfold eqGuard; cases op <;> simp
theorem guard_int2 {op : BinOp} {t : TypeId} {xo yo : Operand} {k : IntKind} {n : Int} {x : Value} : (eqGuard op t xo yo x (.int k n)).run P w = .ok () w := by
  unfold eqGuard; cases op <;> simp <;> cases x <;> simp
theorem guard_str {op : BinOp} {t : TypeId} {xo yo : Operand} {n : ByteArray} {y : Value} : (eqGuard op t xo yo (.string n) y).run P w = .ok () w := by
  unfold eqGuard; cases op <;> simp
theorem guard_bool {op : BinOp} {t : TypeId} {xo yo : Operand} {n : Bool} {y : Value} : (eqGuard op t xo yo (.bool n) y).run P w = .ok () w := by
  unfold eqGuard; cases op <;> simp
theorem guard_ptr {op : BinOp} {t : TypeId} {xo yo : Operand} {n : Option Addr} {y : Value} : (eqGuard op t xo yo (.pointer n) y).run P w = .ok () w := by
  unfold eqGuard; cases op <;> simp
theorem guard_slice {op : BinOp} {t : TypeId} {xo yo : Operand} {n : Option Addr} {l c : Nat} {y : Value} : (eqGuard op t xo yo (.slice n l c) y).run P w = .ok () w := by
  unfold eqGuard; cases op <;> simp
theorem guard_func {op : BinOp} {t : TypeId} {xo yo : Operand} {f : Fn} {b c : Array Value} {y : Value} : (eqGuard op t xo yo (.func f b c) y).run P w = .ok () w := by
  unfold eqGuard; cases op <;> simp
theorem guard_nilFunc {op : BinOp} {t : TypeId} {xo yo : Operand} {y : Value} : (eqGuard op t xo yo .nilFunc y).run P w = .ok () w := by
  unfold eqGuard; cases op <;> simp
theorem guard_iface {op : BinOp} {t t' : TypeId} {xo yo : Operand} {v y : Value} : (eqGuard op t xo yo (.iface t' v) y).run P w = .ok () w := by
  unfold eqGuard; cases op <;> simp
theorem guard_iface2 {op : BinOp} {t t' : TypeId} {xo yo : Operand} {v : Value} : (eqGuard op t xo yo .nilIface (.iface t' v)).run P w = .ok () w := by
  unfold eqGuard; cases op <;> simp
theorem isC_matches {x : Operand} (h : isC x = true) : ∃ v, x = .const v := by cases x <;> first | cases h; done | exact ⟨_, rfl⟩
theorem guard_nil {op : BinOp} {t : TypeId} {xo yo : Operand} (h : (isC xo || isC yo) = true) : (eqGuard op t xo yo .nilIface .nilIface).run P w = .ok () w := by
  rcases Bool.or_eq_true _ _ ▸ h with h | h
  · obtain ⟨v, rfl⟩ := isC_matches h
    unfold eqGuard; cases op <;> simp
  · obtain ⟨v, rfl⟩ := isC_matches h
    unfold eqGuard; cases op <;> simp

end
end Go.Proofs.YtkpfafehcmammaaGreatDoor
namespace Go.Proofs.YtkpfafehcmammaaGreatDoor
open Go.Deep

section
variable {P : Program} {w : World} {d : Nat} {t : TypeId}
theorem eq_bool {p q : Bool} (h : P.underlying t = some .bool) : (Op.equalIn (d + 1) t (.bool p) (.bool q)).run P w = .ok (p == q) w := by
  rw [Op.equalIn]; simp only [Sem.run_bind, underlying_run h, Result.andThen]; rfl
theorem eq_int {k : IntKind} {p q : Int} {k' : IntKind} (h : P.underlying t = some (.int k')) : (Op.equalIn (d + 1) t (.int k p) (.int k q)).run P w = .ok (p == q) w := by
  rw [Op.equalIn]; simp only [Sem.run_bind, underlying_run h, Result.andThen, if_true]; rfl
theorem eq_pnil {e : TypeId} {q : Option Addr} (h : P.underlying t = some (.pointer e)) : (Op.equalIn (d + 1) t (.pointer none) (.pointer q)).run P w = .ok q.isNone w := by
  rw [Op.equalIn]; simp only [Sem.run_bind, underlying_run h, Result.andThen]; rfl
theorem eq_ptr {e : TypeId} {q : Addr} (h : P.underlying t = some (.pointer e)) : (Op.equalIn (d + 1) t (.pointer (some q)) (.pointer none)).run P w = .ok false w := by
  rw [Op.equalIn]; simp only [Sem.run_bind, underlying_run h, Result.andThen]; rfl
theorem eq_snil {e : TypeId} {q : Option Addr} {n c n' c' : Nat} (h : P.underlying t = some (.slice e)) : (Op.equalIn (d + 1) t (.slice none n c) (.slice q n' c')).run P w = .ok q.isNone w := by
  rw [Op.equalIn]; simp only [Sem.run_bind, underlying_run h, Result.andThen]; rfl
theorem eq_slice {e : TypeId} {q : Addr} {n c n' c' : Nat} (h : P.underlying t = some (.slice e)) : (Op.equalIn (d + 1) t (.slice (some q) n c) (.slice none n' c')).run P w = .ok false w := by
  rw [Op.equalIn]; simp only [Sem.run_bind, underlying_run h, Result.andThen]; rfl
theorem eq_fnil {a b : Array TypeId} {c : Bool} (h : P.underlying t = some (.func a b c)) : (Op.equalIn (d + 1) t .nilFunc .nilFunc).run P w = .ok true w := by
  rw [Op.equalIn]; simp only [Sem.run_bind, underlying_run h, Result.andThen]; rfl
theorem eq_func {a b : Array TypeId} {c : Bool} {f : Fn} {x y : Array Value} (h : P.underlying t = some (.func a b c)) : (Op.equalIn (d + 1) t (.func f x y) .nilFunc).run P w = .ok false w := by
  rw [Op.equalIn]; simp only [Sem.run_bind, underlying_run h, Result.andThen]; rfl
theorem eq_inil {a : Array (String × TypeId)} (h : P.underlying t = some (.interface a)) : (Op.equalIn (d + 1) t .nilIface .nilIface).run P w = .ok true w := by
  rw [Op.equalIn]; simp only [Sem.run_bind, underlying_run h, Result.andThen]; rfl
theorem eq_iface1 {a : Array (String × TypeId)} {t' : TypeId} {v : Value} (h : P.underlying t = some (.interface a)) : (Op.equalIn (d + 1) t (.iface t' v) .nilIface).run P w = .ok false w := by
  rw [Op.equalIn]; simp only [Sem.run_bind, underlying_run h, Result.andThen]; rfl
theorem eq_iface2 {a : Array (String × TypeId)} {t' : TypeId} {v : Value} (h : P.underlying t = some (.interface a)) : (Op.equalIn (d + 1) t .nilIface (.iface t' v)).run P w = .ok false w := by
  rw [Op.equalIn]; simp only [Sem.run_bind, underlying_run h, Result.andThen]; rfl
theorem eq_unlike {a : Array (String × TypeId)} {t1 t2 : TypeId} {v u : Value} (h : P.underlying t = some (.interface a)) (hn : t1 ≠ t2) : (Op.equalIn (d + 1) t (.iface t1 v) (.iface t2 u)).run P w = .ok false w := by
  rw [Op.equalIn]; simp only [Sem.run_bind, underlying_run h, Result.andThen]
  simp [hn]
theorem eq_alike {a : Array (String × TypeId)} {t1 : TypeId} {i : TypeInfo} {v u : Value} (h : P.underlying t = some (.interface a)) (hi : P.info? t1 = some i) (hc : i.comparable = true) : (Op.equalIn (d + 1) t (.iface t1 v) (.iface t1 u)).run P w = (Op.equalIn d t1 v u).run P w := by
  conv => lhs; rw [Op.equalIn]
  simp only [Sem.run_bind, underlying_run h, Result.andThen, ne_eq, not_true_eq_false, if_false, typeInfo_run hi, hc, Bool.not_true]
  rfl
end

section
variable {P : Program} {T : Tab} {e : Env} {X : Cx} {s : AS} {w : World} {a : Act} {g : G} {o : Oper} {K : KVS}

theorem VR_somePtr {p : Addr} {v : Value} (h : VR X (.pointer (some p)) v) : ∃ q, v = .pointer (some q) := by
  obtain ⟨i, o, q⟩ := p
  cases q with
  | none => exact ⟨_, (VR_ptr.1 h).2⟩
  | some _ => exact h.elim
theorem VR_someSlice {p : Addr} {n c : Nat} {v : Value} (h : VR X (.slice (some p) n c) v) : ∃ q m, v = .slice (some q) n m := by
  obtain ⟨i, o, q⟩ := p
  cases q with
  | none => exact h.elim
  | some _ => obtain ⟨_, _, c, h, _⟩ := VR_slice.1 h; exact ⟨_, _, h⟩
theorem bin3_ex (hT : TabOK P X.ρ T) {op : BinOp} {t : TypeId} {xo yo : Operand} {x y vx vy : Value} {K : KV} (hx : VR X x vx) (hy : VR X y vy) (h : bin3 P T op t (isC xo || isC yo) x y K) :
    ∃ v u, K v ∧ (eqGuard op t xo yo vx vy >>= fun _ => Go.binOp op t vx vy).run P w = .ok u w ∧ VR X v u := by
  unfold bin3 at h
  split at h
  · cases hx; cases hy
    obtain ⟨h1, h2⟩ := yes_ex h
    refine eqn_run h2 ?_ guard_bool rfl rfl
    rename_i p q
    rw [eq_bool (tBool_un h1)]
    cases p <;> cases q <;> rfl
  · cases hx; cases hy
    obtain ⟨h1, h2⟩ := yes_ex h
    obtain ⟨e, h3⟩ := tPtr_un h1
    exact eqn_run h2 (eq_pnil h3) guard_ptr rfl rfl
  · cases hx
    obtain ⟨q, rfl⟩ := VR_somePtr hy
    obtain ⟨h1, h2⟩ := yes_ex h
    obtain ⟨e, h3⟩ := tPtr_un h1
    exact eqn_run h2 (eq_pnil h3) guard_ptr rfl rfl
  · cases hy
    obtain ⟨q, rfl⟩ := VR_somePtr hx
    obtain ⟨h1, h2⟩ := yes_ex h
    obtain ⟨e, h3⟩ := tPtr_un h1
    exact eqn_run h2 (eq_ptr h3) guard_ptr rfl rfl
  · obtain ⟨rfl, rfl, rfl⟩ := VR_noSlice.1 hx
    obtain ⟨rfl, rfl, rfl⟩ := VR_noSlice.1 hy
    obtain ⟨h1, h2⟩ := yes_ex h
    obtain ⟨e, h3⟩ := tSlice_un h1
    exact eqn_run h2 (eq_snil h3) guard_slice rfl rfl
  · obtain ⟨rfl, rfl, rfl⟩ := VR_noSlice.1 hx
    obtain ⟨q, m, rfl⟩ := VR_someSlice hy
    obtain ⟨h1, h2⟩ := yes_ex h
    obtain ⟨e, h3⟩ := tSlice_un h1
    exact eqn_run h2 (eq_snil h3) guard_slice rfl rfl
  · obtain ⟨rfl, rfl, rfl⟩ := VR_noSlice.1 hy
    obtain ⟨q, m, rfl⟩ := VR_someSlice hx
    obtain ⟨h1, h2⟩ := yes_ex h
    obtain ⟨e, h3⟩ := tSlice_un h1
    exact eqn_run h2 (eq_slice h3) guard_slice rfl rfl
  · cases hx; cases hy
    obtain ⟨h1, h2⟩ := yes_ex h
    obtain ⟨_, _, _, h3⟩ := tFunc_un h1
    exact eqn_run h2 (eq_fnil h3) guard_nilFunc rfl rfl
  · rename_i f' b' c'
    cases hy
    obtain ⟨h1, h2⟩ := yes_ex h
    obtain ⟨_, _, _, h3⟩ := tFunc_un h1
    obtain ⟨b'⟩ := b'
    obtain ⟨c'⟩ := c'
    obtain ⟨x', y', rfl, _⟩ := VR_func.1 hx
    exact eqn_run h2 (eq_func h3) guard_func rfl rfl
  · cases hx; cases hy
    obtain ⟨h1, h2⟩ := yes_ex h
    simp only [Bool.and_eq_true] at h1
    obtain ⟨e, h3⟩ := tIface_un h1.1
    exact eqn_run h2 (eq_inil h3) (guard_nil h1.2) rfl rfl
  · obtain ⟨u, rfl, _⟩ := VR_iface.1 hx
    cases hy
    obtain ⟨h1, h2⟩ := yes_ex h
    obtain ⟨e, h3⟩ := tIface_un h1
    exact eqn_run h2 (eq_iface1 h3) guard_iface rfl rfl
  · obtain ⟨u, rfl, _⟩ := VR_iface.1 hy
    cases hx
    obtain ⟨h1, h2⟩ := yes_ex h
    obtain ⟨e, h3⟩ := tIface_un h1
    exact eqn_run h2 (eq_iface2 h3) guard_iface2 rfl rfl
  · obtain ⟨u, rfl, hu⟩ := VR_iface.1 hx
    obtain ⟨u', rfl, hu'⟩ := VR_iface.1 hy
    obtain ⟨h1, h2⟩ := yes_ex h
    obtain ⟨e, h3⟩ := tIface_un h1
    obtain ⟨k, n, rfl, h4⟩ := vInt_ex h2
    obtain ⟨k', n', rfl, h5⟩ := vInt_ex h4
    cases hu; cases hu'
    rcases ife_ex h5 with ⟨h6, h7⟩ | ⟨h6, h7⟩
    · have := Nat.eq_of_beq_eq_true h6
      subst this
      obtain ⟨h8, h9⟩ := yes_ex h7
      simp only [Bool.and_eq_true] at h8
      have := kno_inj h8.2
      subst this
      obtain ⟨i, h10, h11⟩ := tCmp_un h8.1
      obtain ⟨k2, h12, h13⟩ := ok_ex h9
      have h14 := tInt_un h12
      exact eqn_run h13 (by rw [eq_alike h3 h10 h11, eq_int h14, ieq_eq]) guard_iface rfl rfl
    · rw [beq_eq] at h6
      simp only [decide_eq_false_iff_not] at h6
      exact eqn_run h7 (eq_unlike h3 h6) guard_iface rfl rfl
  · rename_i k re im _
    obtain ⟨r, h1, h2⟩ := ok_ex h
    obtain ⟨v, h3, h4⟩ := hT.bin X rfl op t _ _ r _ _ w h1 hx hy
    cases hx
    exact ⟨r, v, h2, by simp [guard_int, h3], h4⟩
  · obtain ⟨r, h1, h2⟩ := ok_ex h
    obtain ⟨v, h3, h4⟩ := hT.bin X rfl op t _ _ r _ _ w h1 hx hy
    cases hy
    exact ⟨r, v, h2, by simp [guard_int2, h3], h4⟩
  · exact h.elim

theorem vBin_ex {v : Value} {Ki : IntKind → Int → Prop} {Ks : List UInt8 → Prop} {Ko : Prop} (h : vBin v Ki Ks Ko) : (∃ k n, v = .int k n ∧ Ki k n) ∨ (∃ l, v = .string ⟨⟨l⟩⟩ ∧ Ks l) ∨ Ko := by
  cases v with
  | int k n => exact .inl ⟨_, _, rfl, h⟩
  | string b => obtain ⟨⟨l⟩⟩ := b; exact .inr (.inl ⟨_, rfl, h⟩)
  | _ => exact .inr (.inr h)

theorem bin2_ex (hT : TabOK P X.ρ T) {op : BinOp} {t : TypeId} {xo yo : Operand} {x y vx vy : Value} {K : KV} (hx : VR X x vx) (hy : VR X y vy) (h : bin2 P T op t (isC xo || isC yo) x y K) :
    ∃ v u, K v ∧ (eqGuard op t xo yo vx vy >>= fun _ => Go.binOp op t vx vy).run P w = .ok u w ∧ VR X v u := by
  rcases vBin_ex h with ⟨k, n, rfl, h1⟩ | ⟨l, rfl, h1⟩ | h1
  · rcases vBin_ex h1 with ⟨k', n', rfl, h2⟩ | ⟨l, rfl, h2⟩ | h2
    · cases hx; cases hy
      obtain ⟨v, h3, h4, h5⟩ := iBin2_ex (P := P) (w := w) h2 t
      exact ⟨v, v, h3, by simp [guard_int, h4], plain1_VR X h5⟩
    · exact h2.elim
    · exact bin3_ex hT hx hy h2
  · obtain ⟨l', rfl, h2⟩ := vStr_ex h1
    cases hx; cases hy
    obtain ⟨v, h3, h4, h5⟩ := sBin_ex (P := P) (w := w) h2 t
    exact ⟨v, v, h3, by simp [guard_str, h4], plain1_VR X h5⟩
  · exact bin3_ex hT hx hy h1

theorem bin_ok (hT : TabOK P X.ρ T) (hR : Rel X s w) (hg : GR X g a) {op : BinOp} {t t' : TypeId} {x y : Operand} (ho : o.op = .binOp op t x y t') (h : lBin op t x y t' P T e s g K) : OpOK P o a X s w K := by
  obtain ⟨v, h1, h2⟩ := opd_ex hR hg h
  obtain ⟨v', h3, h4⟩ := opd_ex hR hg h1
  obtain ⟨r, u, h5, h6, h7⟩ := bin2_ex (w := w) hT h2 h4 h3
  refine .quiet hR h5 (u := u) ?_ h7
  simp only [execOp, ho]
  rw [Sem.run_bind, h6]; rfl

theorem un1_ex (hT : TabOK P X.ρ T) {op : UnOp} {x vx : Value} {K : KV} (hx : VR X x vx) (h : un1 T op x K) : ∃ v u, K v ∧ (Op.unary op vx).run P w = .ok u w ∧ VR X v u := by
  unfold un1 at h
  split at h
  · cases hx; exact ⟨_, _, nbool_ex h, by simp [Op.unary], rfl⟩
  · cases hx; exact ⟨_, _, nint_ex h, by simp only [Op.unary, Op.intArith]; rfl, rfl⟩
  · cases hx; exact ⟨_, _, nint_ex h, by simp [Op.unary, Op.intBits], rfl⟩
  · obtain ⟨r, h1, h2⟩ := ok_ex h
    obtain ⟨v, h3, h4⟩ := hT.un X rfl _ _ r _ w h1 hx
    exact ⟨r, v, h2, h3, h4⟩
  · exact h.elim

theorem un_ok (hT : TabOK P X.ρ T) (hR : Rel X s w) (hg : GR X g a) {op : UnOp} {t : TypeId} {x : Operand} (ho : o.op = .unOp op t x) (h : lUn op t x P T e s g K) : OpOK P o a X s w K := by
  obtain ⟨v, h1, h2⟩ := opd_ex hR hg h
  obtain ⟨r, u, h5, h6, h7⟩ := un1_ex (P := P) (w := w) hT h2 h1
  exact .quiet hR h5 (u := u) (by simp [execOp, ho, h6]) h7

theorem iface_ok (hR : Rel X s w) (hg : GR X g a) {t : TypeId} {x : Operand} (ho : o.op = .makeInterface t x) (h : lIface t x P T e s g K) : OpOK P o a X s w K := by
  obtain ⟨v, h1, h2⟩ := opd_ex hR hg h
  obtain ⟨h3, h4⟩ := yes_ex h1
  simp only [Bool.and_eq_true, Bool.not_eq_true'] at h3
  obtain ⟨d, h5⟩ := tSome_un h3.2
  refine .quiet hR h4 (u := .iface t (a.eval x)) ?_ (VR_iface.2 ⟨_, rfl, h2⟩)
  have h6 : ∀ ms, d ≠ .interface ms := fun ms c => by
    have := h3.1
    unfold tIface at this
    rw [h5, c] at this
    cases this
  simp only [execOp, ho, Instr.makeInterface, Sem.run_bind, underlying_run h5, Result.andThen]
  cases d <;> first | rfl | exact absurd rfl (h6 _)

theorem func_ok (hR : Rel X s w) (hg : GR X g a) {fn : Fn} {x y : Array Operand} (ho : o.op = .makeFunc fn x y) (h : lFunc fn x y P T e s g K) : OpOK P o a X s w K := by
  cases fn with
  | func f =>
    obtain ⟨vs, h1, h2⟩ := opds_ex hR hg (l := x.toList) h
    obtain ⟨us, h3, h4⟩ := opds_ex hR hg (l := y.toList) h1
    refine .quiet hR h3 (u := .func (.func f) (x.map a.eval) (y.map a.eval)) ?_ (VR_func.2 ⟨_, _, rfl, by simpa using h2, by simpa using h4⟩)
    simp [execOp, ho, Instr.makeFunc]
  | _ => exact h.elim

theorem extract_ok (hR : Rel X s w) (hg : GR X g a) {x : Operand} {i : Nat} (ho : o.op = .extract x i) (h : lExtract x i P T e s g K) : OpOK P o a X s w K := by
  obtain ⟨v, h1, h2⟩ := opd_ex hR hg h
  obtain ⟨l, rfl, h3⟩ := vTup_ex h1
  obtain ⟨v, h4, h5⟩ := nthV_ex h3
  obtain ⟨cs, h6, h7⟩ := VR_tuple.1 h2
  obtain ⟨u, h8, h9⟩ := h7.get h4
  refine .quiet hR h5 (u := u) ?_ h9
  have h10 : cs[i]? = some u := by simpa using h8
  simp [execOp, ho, Instr.extract, h6, h10]

theorem assert_ok (hR : Rel X s w) (hg : GR X g a) {x : Operand} {t t' : TypeId} {c : Bool} (ho : o.op = .typeAssert x t t' c) (h : lAssert x t t' c P T e s g K) : OpOK P o a X s w K := by
  obtain ⟨v, h1, h2⟩ := opd_ex hR hg h
  obtain ⟨t1, u, rfl, h3⟩ := vIface_ex h1
  obtain ⟨u', h4, h5⟩ := VR_iface.1 h2
  obtain ⟨h6, h7⟩ := yes_ex h3
  simp only [Bool.and_eq_true, Bool.not_eq_true'] at h6
  obtain ⟨d, h8⟩ := tSome_un h6.1.2
  have h9 : ∀ ms, d ≠ .interface ms := fun ms c => by
    have := h6.1.1
    unfold tIface at this
    rw [h8, c] at this
    cases this
  have h10 := Nat.eq_of_beq_eq_true h6.2
  subst h10
  have h11 : (Instr.typeAssert (.iface t1 u') t t1 c).run P w = .ok (if c then .tuple #[u', .bool true] else u') w := by
    simp only [Instr.typeAssert, Sem.run_bind, underlying_run h8, Result.andThen]
    cases d <;> first | (simp; done) | exact absurd rfl (h9 _)
  rcases ife_ex h7 with ⟨rfl, h12⟩ | ⟨rfl, h12⟩
  · exact .quiet hR h12 (u := .tuple #[u', .bool true]) (by simp [execOp, ho, h4, h11]) (VR_tuple.2 ⟨_, rfl, _, _, rfl, h5, _, _, rfl, rfl, rfl⟩)
  · exact .quiet hR h12 (u := u') (by simp [execOp, ho, h4, h11]) h5

theorem one1_ex {α : Type} {l : List α} {K : α → Prop} (h : one1 l K) : ∃ x, l = [x] ∧ K x := by
  unfold one1 at h
  split at h
  · exact ⟨_, rfl, h⟩
  · exact h.elim
theorem two_ex {α : Type} {l : List α} {K : α → α → Prop} (h : two l K) : ∃ x y, l = [x, y] ∧ K x y := by
  unfold two at h
  split at h
  · exact ⟨_, _, rfl, h⟩
  · exact h.elim
theorem fst2_ex {α : Type} {l : List α} {K : α → α → Prop} (h : fst2 l K) : ∃ x y r, l = x :: y :: r ∧ K x y := by
  unfold fst2 at h
  split at h
  · exact ⟨_, _, _, rfl, h⟩
  · exact h.elim

end
end Go.Proofs.YtkpfafehcmammaaGreatDoor
namespace Go.Proofs.YtkpfafehcmammaaGreatDoor
open Go.Deep

section
variable {P : Program} {T : Tab} {e : Env} {X : Cx} {s : AS} {w : World} {a : Act} {g : G} {o : Oper} {K : KVS}

theorem fieldAt_un {t : TypeId} {i : Nat} {f : Field} (h : fieldAt P t i = some f) : ∃ fs : Array Field, P.underlying t = some (.struct fs) ∧ fs[i]? = some f := by
  unfold fieldAt at h
  split at h
  · obtain ⟨fs, h1, h2⟩ := structOf_un ‹_›
    exact ⟨fs, h2, by rw [← h1] at h; simpa using h⟩
  · cases h

theorem fieldOff_un {t : TypeId} {i k : Nat} (h : fieldOff P t i = some k) : ∃ f n, fieldAt P t i = some f ∧ sizeOf P f.type = some (n + 1) ∧ k = f.offset := by
  unfold fieldOff at h
  split at h
  · split at h
    · cases h; exact ⟨_, _, ‹_›, ‹_›, rfl⟩
    · cases h
  · cases h

theorem fieldA_ok (hR : Rel X s w) (hg : GR X g a) {t : TypeId} {x : Operand} {f : Nat} (ho : o.op = .fieldAddr t x f) (h : lFieldA t x f P T e s g K) : OpOK P o a X s w K := by
  obtain ⟨v, h1, h2⟩ := opd_ex hR hg h
  obtain ⟨i, off, rfl, h3⟩ := vPtr_ex h1
  obtain ⟨k, h4, h5⟩ := ok_ex h3
  have h5 := nat_ex h5
  obtain ⟨fd, n, h6, h7, rfl⟩ := fieldOff_un h4
  obtain ⟨fs, h8, h9⟩ := fieldAt_un h6
  obtain ⟨h10, h11⟩ := VR_ptr.1 h2
  refine .quiet hR h5 (u := .pointer (some ⟨(X.j i).b, (X.j i).base + off + fd.offset, none⟩)) ?_ (VR_ptr.2 ⟨h10, by rw [Nat.add_assoc]; rfl⟩)
  simp [execOp, ho, Instr.fieldAt, underlying_run h8, h9, h11, Instr.sureAddr, fieldPlace, sizeOf_run h7, addr_add]

theorem part_ex {t : TypeId} {l : List Value} {cs : Array Value} {off : Nat} {K : KV} (hl : VRl X l cs.toList) (h : part P t l off K) : ∃ v u, K v ∧ (Go.part t cs off).run P w = .ok u w ∧ VR X v u := by
  obtain ⟨b, h1, h2⟩ := ok_ex h
  rcases ife_ex h2 with ⟨rfl, h3⟩ | ⟨rfl, h3⟩
  · obtain ⟨n, h4, h5⟩ := ok_ex h3
    obtain ⟨h6, h7⟩ := dropV_ex h5
    obtain ⟨h8, h9⟩ := takeV_ex h7
    refine ⟨_, .agg (cs.extract off (off + n)), h9, by simp [Go.part, isAgg_run h1, sizeOf_run h4], VR_agg.2 ⟨_, rfl, ?_⟩⟩
    have := (hl.drop off).take n
    simpa [Array.toList_extract, List.extract] using this
  · obtain ⟨v, h4, h5⟩ := nthV_ex h3
    obtain ⟨u, h6, h7⟩ := hl.get h4
    have h8 : cs[off]? = some u := by simpa using h6
    exact ⟨v, u, h5, by simp [Go.part, isAgg_run h1, h8], h7⟩

theorem field_ok (hR : Rel X s w) (hg : GR X g a) {t : TypeId} {x : Operand} {f : Nat} (ho : o.op = .field t x f) (h : lField t x f P T e s g K) : OpOK P o a X s w K := by
  obtain ⟨v, h1, h2⟩ := opd_ex hR hg h
  obtain ⟨l, rfl, h3⟩ := vAgg_ex h1
  obtain ⟨fd, h4, h5⟩ := ok_ex h3
  obtain ⟨cs, h6, h7⟩ := VR_agg.1 h2
  obtain ⟨fs, h8, h9⟩ := fieldAt_un h4
  obtain ⟨v, u, h10, h11, h12⟩ := part_ex (P := P) (w := w) h7 h5
  refine .quiet hR h10 (u := u) ?_ h12
  simp [execOp, ho, Instr.field, underlying_run h8, h9, h6, asAgg, h11]

theorem indexA_ok (hR : Rel X s w) (hg : GR X g a) {t : TypeId} {x ix : Operand} (ho : o.op = .indexAddr t x ix) (h : lIndexA t x ix P T e s g K) : OpOK P o a X s w K := by
  obtain ⟨v, h1, h2⟩ := opd_ex hR hg h
  obtain ⟨k, i, rfl, h3⟩ := vNat_ex h1
  obtain ⟨v, h4, h5⟩ := opd_ex hR hg h3
  rw [VR_int] at h2
  rcases vSeq_ex h4 with ⟨id, off, sz, len, cap, rfl, h6⟩ | ⟨_, _, rfl, h6⟩ | ⟨id, off, rfl, h6⟩ | ⟨_, rfl, h6⟩ | ⟨_, rfl, h6⟩ | ⟨_, _, _, _, _, _, rfl, h6⟩
  · obtain ⟨n, h7, h8⟩ := ok_ex h6
    obtain ⟨h9, h10⟩ := yes_ex h8
    have h10 := nat_ex h10
    simp only [Bool.and_eq_true] at h9
    have h11 := Nat.eq_of_beq_eq_true h9.1
    subst h11
    have h12 := blt_iff.1 h9.2
    obtain ⟨el, h13, h14⟩ := elemSize_un h7
    obtain ⟨h15, h16, c, h17, _⟩ := VR_slice.1 h5
    refine .quiet hR h10 (u := .pointer (some ⟨(X.j id).b, (X.j id).base + off + i * n, none⟩)) ?_ (VR_ptr.2 ⟨h15, by rw [Nat.add_assoc]; rfl⟩)
    have h18 : (0 : Int) ≤ Int.ofNat i ∧ Int.ofNat i < (len : Int) := ⟨by simp, by simp; omega⟩
    simp [execOp, ho, Instr.indexAt, h2, h17, asIntOf, underlying_run h13, sizeOf_run h14, addr_add, h12]
  · exact h6.elim
  · obtain ⟨ar, h7, h8⟩ := ok_ex h6
    obtain ⟨sz, h9, h10⟩ := ok_ex h8
    obtain ⟨h11, h12⟩ := yes_ex h10
    have h12 := nat_ex h12
    have h13 := blt_iff.1 h11
    have h14 := arrOf_un h7
    obtain ⟨h15, h16⟩ := VR_ptr.1 h5
    refine .quiet hR h12 (u := .pointer (some ⟨(X.j id).b, (X.j id).base + off + i * sz, none⟩)) ?_ (VR_ptr.2 ⟨h15, by rw [Nat.add_assoc]; rfl⟩)
    simp [execOp, ho, Instr.indexAt, h2, h16, asIntOf, underlying_run h14, sizeOf_run h9, addr_add, Instr.sureAddr, h13]
  · exact h6.elim
  · exact h6.elim
  · exact h6.elim

theorem index_ok (hR : Rel X s w) (hg : GR X g a) {t : TypeId} {x ix : Operand} (ho : o.op = .index t x ix) (h : lIndex t x ix P T e s g K) : OpOK P o a X s w K := by
  obtain ⟨v, h1, h2⟩ := opd_ex hR hg h
  obtain ⟨k, i, rfl, h3⟩ := vNat_ex h1
  obtain ⟨v, h4, h5⟩ := opd_ex hR hg h3
  rw [VR_int] at h2
  rcases vTxt_ex h4 with ⟨_, _, _, l, _, rfl, h6⟩ | h4
  · obtain ⟨h7, h8⟩ := yes_ex h6
    obtain ⟨v, h9, h10⟩ := nthV_ex h8
    obtain ⟨bs, h11, h12⟩ := VR_txt.1 h5
    obtain ⟨u, h13, h14⟩ := h12.get h9
    have hi : i < bs.data.toList.length := by simpa using (List.getElem?_eq_some_iff.1 h13).1
    have h15 : u = .int .u8 (bs.data.toList[i]).toNat := by
      rw [List.getElem?_map, List.getElem?_eq_getElem hi] at h13
      simpa using h13.symm
    subst h15
    have h16 : bs[i]? = some (bs.data.toList[i]) := by
      obtain ⟨⟨bl⟩⟩ := bs
      rw [ByteArray.getElem?_lt' (⟨⟨bl⟩⟩ : ByteArray) i hi]
      rfl
    refine .quiet hR h10 ?_ h14
    simp [execOp, ho, Instr.index, h2, h11, asIntOf, underlying_run (tStr_un h7), h16]
  rcases vSeq_ex h4 with ⟨id, off, sz, len, cap, rfl, h6⟩ | ⟨_, _, rfl, h6⟩ | ⟨id, off, rfl, h6⟩ | ⟨l, rfl, h6⟩ | ⟨l, rfl, h6⟩ | ⟨_, _, _, _, _, _, rfl, h6⟩
  · exact h6.elim
  · exact h6.elim
  · exact h6.elim
  · obtain ⟨h7, h8⟩ := yes_ex h6
    obtain ⟨b, h9, h10⟩ := nthB_ex h8
    have h10 := nat_ex h10
    rw [VR_string] at h5
    refine .quiet hR h10 (u := .int .u8 b.toNat) ?_ rfl
    have h11 : (⟨⟨l⟩⟩ : ByteArray)[i]? = some b := by
      obtain ⟨hn, hb⟩ := List.getElem?_eq_some_iff.1 h9
      rw [ByteArray.getElem?_lt' (⟨⟨l⟩⟩ : ByteArray) i hn]
      exact congrArg some hb
    simp [execOp, ho, Instr.index, h2, h5, asIntOf, underlying_run (tStr_un h7), h11]
  · obtain ⟨ar, h7, h8⟩ := ok_ex h6
    obtain ⟨sz, h9, h10⟩ := ok_ex h8
    obtain ⟨h11, h12⟩ := yes_ex h10
    have h13 := blt_iff.1 h11
    obtain ⟨cs, h14, h15⟩ := VR_agg.1 h5
    obtain ⟨v, u, h16, h17, h18⟩ := part_ex (P := P) (w := w) h15 h12
    refine .quiet hR h16 (u := u) ?_ h18
    have h17' : (Go.part ar.2 cs (i * sz)).run P w = .ok u w := h17
    simp [execOp, ho, Instr.index, h2, h14, asIntOf, underlying_run (arrOf_un h7), sizeOf_run h9, h13, h17']
  · exact h6.elim

end
end Go.Proofs.YtkpfafehcmammaaGreatDoor
namespace Go.Proofs.YtkpfafehcmammaaGreatDoor
open Go.Deep

section
variable {P : Program} {T : Tab} {e : Env} {X : Cx} {s : AS} {w : World} {a : Act} {g : G} {o : Oper} {K : KVS}

theorem optd_ex (hR : Rel X s w) (hg : GR X g a) {x : Option Operand} {d : Nat} {K : Nat → Prop} (h : optd x d g K) : ∃ n, K n ∧ ((x = none ∧ n = d) ∨ ∃ y k, x = some y ∧ a.eval y = .int k (n : Int)) := by
  cases x with
  | none => exact ⟨d, nat_ex h, .inl ⟨rfl, rfl⟩⟩
  | some y =>
    obtain ⟨v, h1, h2⟩ := opd_ex hR hg h
    obtain ⟨k, n, rfl, h3⟩ := vNat_ex h1
    exact ⟨n, h3, .inr ⟨y, k, rfl, h2⟩⟩

theorem bound_run {k : IntKind} {n y : Nat} {c : BoundsCode} (h : n ≤ y) : (Instr.sliceBound (.int k (n : Int)) y c).run P w = .ok n w := by
  have : (0 : Int) ≤ (n : Int) ∧ (n : Int) ≤ (y : Int) := ⟨by omega, by omega⟩
  simp [Instr.sliceBound, asIntOf, h]

/-- The bounds of a slice expression with two of them at most. -/
theorem bounds_run {b : Bool} {len cap l h : Nat} {lo hi : Option Operand} (h1 : (lo = none ∧ l = 0) ∨ ∃ y k, lo = some y ∧ a.eval y = .int k (l : Int)) (h2 : (hi = none ∧ h = len) ∨ ∃ y k, hi = some y ∧ a.eval y = .int k (h : Int))
    (hlh : l ≤ h) (hc : h ≤ cap) : (Instr.sliceBounds b len cap (lo.map a.eval) (hi.map a.eval) none).run P w = .ok (l, h, cap) w := by
  rcases h2 with ⟨rfl, rfl⟩ | ⟨y, k, rfl, h2⟩
  · rcases h1 with ⟨rfl, rfl⟩ | ⟨z, k', rfl, h1⟩
    · simp [Instr.sliceBounds]
    · simp [Instr.sliceBounds, h1, bound_run hlh]
  · rcases h1 with ⟨rfl, rfl⟩ | ⟨z, k', rfl, h1⟩
    · simp [Instr.sliceBounds, h2, bound_run hc]
    · simp [Instr.sliceBounds, h1, h2, bound_run hlh, bound_run hc]

theorem slice_ok (hR : Rel X s w) (hg : GR X g a) {t : TypeId} {x : Operand} {lo hi mx : Option Operand} (ho : o.op = .slice t x lo hi mx) (h : lSlice t x lo hi mx P T e s g K) : OpOK P o a X s w K := by
  obtain ⟨h0, h⟩ := yes_ex h
  have hmx : mx = none := by simpa using h0
  subst hmx
  obtain ⟨v, h1, h2⟩ := opd_ex hR hg h
  obtain ⟨l, h3, h4⟩ := optd_ex hR hg h1
  rcases vSeq_ex h3 with ⟨id, off, sz, len, cap, rfl, h6⟩ | ⟨_, _, rfl, h6⟩ | ⟨id, off, rfl, h6⟩ | ⟨q, rfl, h6⟩ | ⟨_, rfl, h6⟩ | ⟨_, _, _, _, _, _, rfl, h6⟩
  · obtain ⟨n, h7, h8⟩ := ok_ex h6
    obtain ⟨h9, h10⟩ := yes_ex h8
    have h11 := Nat.eq_of_beq_eq_true h9
    subst h11
    obtain ⟨hh, h12, h13⟩ := optd_ex hR hg h10
    obtain ⟨h14, h15⟩ := yes_ex h12
    simp only [Bool.and_eq_true] at h14
    have hl := Nat.le_of_ble_eq_true h14.1
    have hh' := Nat.le_of_ble_eq_true h14.2
    obtain ⟨el, h16, h17⟩ := elemSize_un h7
    obtain ⟨h18, h19, c, h20, h21, h22, h23⟩ := VR_slice.1 h2
    have hb := bounds_run (P := P) (w := w) (a := a) (b := true) h4 h13 hl (Nat.le_trans hh' h21)
    have hrun : (execOp a.eval o).run P w = .ok (.value (.slice (if c = l then some ⟨(X.j id).b, (X.j id).base + off, none⟩ else some ⟨(X.j id).b, (X.j id).base + off + l * n, none⟩) (hh - l) (c - l))) w := by
      have hs : (Instr.slice t (.slice (some ⟨(X.j id).b, (X.j id).base + off, none⟩) len c) (lo.map a.eval) (hi.map a.eval) none).run P w = .ok (.slice (if c = l then some ⟨(X.j id).b, (X.j id).base + off, none⟩ else some ⟨(X.j id).b, (X.j id).base + off + l * n, none⟩) (hh - l) (c - l)) w := by
        simp [Instr.slice, underlying_run h16, hb, sizeOf_run h17, addr_add]
      simp [execOp, ho, Instr.sliceAt, underlying_run h16, h20, hs]
    have hmul : (c - l) * n = c * n - l * n := Nat.sub_mul _ _ _
    have hle : l * n ≤ c * n := Nat.mul_le_mul_right n (by omega)
    cases cap with
    | zero =>
      rcases ife_ex h15 with ⟨e1, h24⟩ | ⟨e1, h24⟩
      · have := Nat.eq_of_beq_eq_true e1
        subst this
        refine .quiet hR h24 hrun (VR_slice.2 ⟨h18, h19, c, ?_, by omega, h22, by simp⟩)
        by_cases e : c = 0 <;> simp [e]
      · rcases ife_ex h24 with ⟨e2, h25⟩ | ⟨e2, h25⟩
        · have h26 := nat_ex h25
          have h26 := nat_ex h26
          have e3 := blt_iff.1 e2
          refine .quiet hR h26 hrun (VR_slice.2 ⟨h18, h19, c - l, ?_, (by change hh - l ≤ c - l; omega), ?_, by simp⟩)
          · rw [if_neg (by omega)]; rw [Nat.add_assoc]; rfl
          · change off + l * n + (c - l) * n ≤ _
            omega
        · have e3 : ¬ l < len := fun c => by rw [blt_iff.2 c] at e2; cases e2
          refine .quiet hR h25 hrun (VR_via.2 ?_)
          have : hh - l = 0 := by omega
          by_cases e : c = l
          · exact ⟨_, _, by rw [if_pos e, this]⟩
          · exact ⟨_, _, by rw [if_neg e, this]⟩
    | succ cap =>
      have hc : cap = c := by have := h23 (by omega); omega
      subst hc
      rcases ife_ex h15 with ⟨e1, h24⟩ | ⟨e1, h24⟩
      · exact h24.elim
      · have e2 : ¬ cap = l := fun c => by subst c; rw [beq_eq] at e1; simp at e1
        have h26 := nat_ex h24
        have h26 := nat_ex h26
        have h26 := nat_ex h26
        refine .quiet hR h26 hrun (VR_slice.2 ⟨h18, h19, cap - l, ?_, ?_, ?_, fun _ => rfl⟩)
        · rw [if_neg e2]; rw [Nat.add_assoc]; rfl
        · change hh - l ≤ cap - l; omega
        · change off + l * n + (cap - l) * n ≤ _
          omega
  · obtain ⟨e3, e4, h2'⟩ := VR_noSlice.1 h2
    subst e3; subst e4
    obtain ⟨n, h7, h8⟩ := ok_ex h6
    obtain ⟨hh, h12, h13⟩ := optd_ex hR hg h8
    obtain ⟨h14, h15⟩ := yes_ex h12
    simp only [Bool.and_eq_true] at h14
    have e1 := Nat.eq_of_beq_eq_true h14.1
    have e2 := Nat.eq_of_beq_eq_true h14.2
    subst e1; subst e2
    obtain ⟨el, h16, h17⟩ := elemSize_un h7
    have hb := bounds_run (P := P) (w := w) (a := a) (b := true) (cap := 0) h4 h13 (Nat.le_refl _) (Nat.le_refl _)
    refine .quiet hR h15 (u := .slice none 0 0) ?_ ⟨rfl, rfl, rfl⟩
    have hs : (Instr.slice t (.slice none 0 0) (lo.map a.eval) (hi.map a.eval) none).run P w = .ok (.slice none 0 0) w := by
      simp [Instr.slice, underlying_run h16, hb, sizeOf_run h17]
    simp [execOp, ho, Instr.sliceAt, underlying_run h16, h2', hs]
  · obtain ⟨ar, h7, h8⟩ := ok_ex h6
    obtain ⟨sz, h9, h10⟩ := ok_ex h8
    obtain ⟨hh, h12, h13⟩ := optd_ex hR hg h10
    obtain ⟨cb, h14, h15⟩ := getC_ex h12
    obtain ⟨h16, h17⟩ := yes_ex h15
    obtain ⟨h18, h19⟩ := yes_ex h17
    have h19 := nat_ex h19
    have h19 := nat_ex h19
    have h19 := nat_ex h19
    simp only [Bool.and_eq_true] at h16 h18
    have hl := Nat.le_of_ble_eq_true h18.1.1
    have hh' := Nat.le_of_ble_eq_true h18.1.2
    have hn := blt_iff.1 h18.2
    have hz := blt_iff.1 h16.2
    have hr : off + ar.1 * sz ≤ cb.n := Nat.le_of_ble_eq_true h16.1
    obtain ⟨h20, h21⟩ := VR_ptr.1 h2
    obtain ⟨cs, fz, _, h22, _⟩ := (hR.blk id _ h14).2
    have hb := bounds_run (P := P) (w := w) (a := a) (b := false) h4 h13 hl hh'
    have hmul : (ar.1 - l) * sz = ar.1 * sz - l * sz := Nat.sub_mul _ _ _
    have hle : l * sz ≤ ar.1 * sz := Nat.mul_le_mul_right sz (by omega)
    refine .quiet hR h19 (u := .slice (some ⟨(X.j id).b, (X.j id).base + off + l * sz, none⟩) (hh - l) (ar.1 - l)) ?_ (VR_slice.2 ⟨h20, hz, ar.1 - l, ?_, ?_, ?_, fun _ => rfl⟩)
    · have : ¬ ar.1 = l := by omega
      simp [execOp, ho, Instr.sliceAt, underlying_run (arrOf_un h7), h21, Instr.sureAddr, hb, sizeOf_run h9, this, addr_add]
    · rw [Nat.add_assoc]; rfl
    · change hh - l ≤ ar.1 - l; omega
    · change off + l * sz + (ar.1 - l) * sz ≤ _
      omega
  · obtain ⟨h7, h8⟩ := yes_ex h6
    obtain ⟨hh, h12, h13⟩ := optd_ex hR hg h8
    obtain ⟨h14, h15⟩ := yes_ex h12
    have hl := Nat.le_of_ble_eq_true h14
    obtain ⟨h16, h17⟩ := drop_ex h15
    obtain ⟨h18, h19⟩ := take_ex h17
    rw [VR_string] at h2
    have hq : hh ≤ q.length := by simp at h18; omega
    have hb := bounds_run (P := P) (w := w) (a := a) (b := false) (cap := (⟨⟨q⟩⟩ : ByteArray).size) (len := (⟨⟨q⟩⟩ : ByteArray).size) h4 h13 hl hq
    refine .quiet hR h19 (u := .string ((⟨⟨q⟩⟩ : ByteArray).extract l hh)) ?_ ?_
    · simp only [execOp, ho, Instr.sliceAt, Sem.run_bind, underlying_run (tStr_un h7), Result.andThen, Instr.slice, h2]
      simp [hb]
    · rw [VR_string]
      congr 1
      apply ByteArray.ext
      simp [ByteArray.data_extract, List.extract]
  · exact h6.elim
  · exact h6.elim

end
end Go.Proofs.YtkpfafehcmammaaGreatDoor
