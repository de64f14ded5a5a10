import Derived.CallsIn
import Derived.Laws.Cells
import Derived.Laws.Rows
import Derived.Laws.Sem
import Derived.Laws.Strings
import Derived.Laws.World
import Derived.Wp
import Derived.Test.YtfkcodlceoghpaaGreatDoorX35
namespace Go.Proofs.YtfkcodlceoghpaaGreatDoor.Zev
set_option linter.unusedSimpArgs false
set_option linter.unusedVariables false
open Go.Deep
def aC{α:Type}:BT (Option α)->Nat->Option α
 | .nil,_=>none
 | .node _ _ v _ _,0=>v
 | .node _ _ _ l r,m+1=>if m%2=0 then aC l (m / 2) else aC r (m / 2)
theorem dh{a:Sort _}(m k:Nat)(x b:a): @Bool.rec (λ_=>a) x b (Nat.beq m k)=if m=k then b else x:=by
 by_cases h:m=k
 .subst h;simp
 have:Nat.beq m k=false:=by
  cases c:Nat.beq m k
  .rfl
  exact absurd (qaa c) h
 rw[this,qae h]
theorem kP:∀{t:TV}{n:Nat}{K:qv->Prop},gv t n K->∃v,aC t n=some v/\K v:=by
 intro t;induction t with
 | nil=>intro n K h;exact h.elim
 | node b o v l r c d=>
  intro n K h;cases n with
  | zero=>
   cases v with
   | none=>exact h.elim
   | some v=>exact⟨v,rfl,h⟩
  | succ m=>
   have a: @Bool.rec (λ_=>Prop) (gv r (Nat.div m 2) K) (gv l (Nat.div m 2) K) (Nat.beq (Nat.mod m 2) 0):=h;rw[dh]at a;simp only[aC];change if m%2=0 then gv l (m / 2) K else gv r (m / 2) K at a
   split at a
   .rename_i e;rw[qaj e];exact c a
   rename_i e;rw[qae e];exact d a
theorem gy:∀{t:TB}{n:Nat}{K:AB->Prop},gb t n K->∃v,aC t n=some v/\K v:=by
 intro t;induction t with
 | nil=>intro n K h;exact h.elim
 | node b o v l r c d=>
  intro n K h;cases n with
  | zero=>
   cases v with
   | none=>exact h.elim
   | some v=>exact⟨v,rfl,h⟩
  | succ m=>
   have a: @Bool.rec (λ_=>Prop) (gb r (Nat.div m 2) K) (gb l (Nat.div m 2) K) (Nat.beq (Nat.mod m 2) 0):=h;rw[dh]at a;simp only[aC];change if m%2=0 then gb l (m / 2) K else gb r (m / 2) K at a
   split at a
   .rename_i e;rw[qaj e];exact c a
   rename_i e;rw[qae e];exact d a
theorem bI{a:Type}(n:Nat):aC (.nil:BT (Option a)) n=none:=by cases n<;>rfl
def Put{α:Type}(t t':BT (Option α))(n:Nat)(x:Option α):Prop:=∀m,aC t' m=if m=n then x else aC t m
theorem Put.zero{a:Type}{b o b' o':Nat}{u x:Option a}{l r:BT (Option a)}:Put (.node b o u l r) (.node b' o' x l r) 0 x:=by
 intro m;cases m with
 | zero=>simp[aC]
 | succ m=>simp[aC]
theorem Put.vJ{a:Type}{b' o':Nat}{x:Option a}:Put .nil (.node b' o' x .nil .nil) 0 x:=by
 intro m;cases m with
 | zero=>simp[aC]
 | succ m=>simp[aC]
theorem Put.left{c:Type}{b o b' o' n:Nat}{u x:Option c}{l d r:BT (Option c)}(h:Put l d (n / 2) x)(e:n%2=0):Put (.node b o u l r) (.node b' o' u d r) (n+1) x:=by
 intro m;cases m with
 | zero=>simp[aC]
 | succ m=>
  simp only[aC,h (m / 2)];by_cases a:m%2=0
  .rw[qaj a,qaj a];by_cases h1:m=n
   .subst h1;simp
   rw[qae (by omega),qae (by omega)]
  rw[qae a,qae a,qae (by omega)]
theorem Put.right{c:Type}{b o b' o' n:Nat}{u x:Option c}{l r d:BT (Option c)}(h:Put r d (n / 2) x)(e:¬n%2=0):Put (.node b o u l r) (.node b' o' u l d) (n+1) x:=by
 intro m;cases m with
 | zero=>simp[aC]
 | succ m=>
  simp only[aC,h (m / 2)];by_cases a:m%2=0
  .rw[qaj a,qaj a,qae (by omega)]
  rw[qae a,qae a];by_cases h1:m=n
  .subst h1;simp
  rw[qae (by omega),qae (by omega)]
theorem Put.vT{a:Type}{b' o' n:Nat}{x:Option a}{c:BT (Option a)}(h:Put .nil c (n / 2) x)(e:n%2=0):Put .nil (.node b' o' none c .nil) (n+1) x:=by
 intro m;have h1:=Put.left (b:=0) (o:=0) (b':=b') (o':=o') (u:=none) (r:=.nil) h e m;rw[h1];cases m with
 | zero=>simp[aC]
 | succ m=>simp[aC]
theorem Put.pq{a:Type}{b' o' n:Nat}{x:Option a}{c:BT (Option a)}(h:Put .nil c (n / 2) x)(e:¬n%2=0):Put .nil (.node b' o' none .nil c) (n+1) x:=by
 intro m;have h1:=Put.right (b:=0) (o:=0) (b':=b') (o':=o') (u:=none) (l:=.nil) h e m;rw[h1];cases m with
 | zero=>simp[aC]
 | succ m=>simp[aC]
theorem yw(v:qv):∀(f:Nat){t:TV}{n:Nat}{K:TV->Prop},sv f t n v K->∃c,Put t c n (some v)/\K c:=by
 intro f;induction f with
 | zero=>intro t n K h;exact h.elim
 | succ f d=>
  intro t n K h;cases t with
  | nil=>
   cases n with
   | zero=>exact⟨_,Put.vJ,h⟩
   | succ m=>
    have a: @Bool.rec (λ_=>Prop) (sv f .nil (Nat.div m 2) v (λr=>K (.node 0 0 none .nil r))) (sv f .nil (Nat.div m 2) v (λl=>K (.node 0 0 none l .nil))) (Nat.beq (Nat.mod m 2) 0):=h;rw[dh]at a;change if m%2=0 then _ else _ at a
    split at a
    .rename_i e;obtain⟨c,h1,h2⟩:=d a;exact⟨_,h1.vT e,h2⟩
    rename_i e;obtain⟨c,h1,h2⟩:=d a;exact⟨_,h1.pq e,h2⟩
  | node b o u l r=>
   cases n with
   | zero=>exact⟨_,Put.zero,h⟩
   | succ m=>
    have a: @Bool.rec (λ_=>Prop) (sv f r (Nat.div m 2) v (λr=>K (.node 0 0 u l r))) (sv f l (Nat.div m 2) v (λl=>K (.node 0 0 u l r))) (Nat.beq (Nat.mod m 2) 0):=h;rw[dh]at a;change if m%2=0 then _ else _ at a
    split at a
    .rename_i e;obtain⟨c,h1,h2⟩:=d a;exact⟨_,h1.left e,h2⟩
    rename_i e;obtain⟨c,h1,h2⟩:=d a;exact⟨_,h1.right e,h2⟩
theorem vO(v:Option AB):∀(f:Nat){t:TB}{n:Nat}{K:TB->Prop},sb f t n v K->∃c,Put t c n v/\K c:=by
 intro f;induction f with
 | zero=>intro t n K h;exact h.elim
 | succ f d=>
  intro t n K h;cases t with
  | nil=>
   cases n with
   | zero=>exact⟨_,Put.vJ,h⟩
   | succ m=>
    have a: @Bool.rec (λ_=>Prop) (sb f .nil (Nat.div m 2) v (λr=>K (.node 0 0 none .nil r))) (sb f .nil (Nat.div m 2) v (λl=>K (.node 0 0 none l .nil))) (Nat.beq (Nat.mod m 2) 0):=h;rw[dh]at a;change if m%2=0 then _ else _ at a
    split at a
    .rename_i e;obtain⟨c,h1,h2⟩:=d a;exact⟨_,h1.vT e,h2⟩
    rename_i e;obtain⟨c,h1,h2⟩:=d a;exact⟨_,h1.pq e,h2⟩
  | node b o u l r=>
   cases n with
   | zero=>exact⟨_,Put.zero,h⟩
   | succ m=>
    have a: @Bool.rec (λ_=>Prop) (sb f r (Nat.div m 2) v (λr=>K (.node 0 0 u l r))) (sb f l (Nat.div m 2) v (λl=>K (.node 0 0 u l r))) (Nat.beq (Nat.mod m 2) 0):=h;rw[dh]at a;change if m%2=0 then _ else _ at a
    split at a
    .rename_i e;obtain⟨c,h1,h2⟩:=d a;exact⟨_,h1.left e,h2⟩
    rename_i e;obtain⟨c,h1,h2⟩:=d a;exact⟨_,h1.right e,h2⟩
theorem dL{t:TV}{n:Nat}{v:qv}{K:TV->Prop}(h:iq t n v K):∃a,Put t a n (some v)/\K a:=yw v _ h
theorem bC{t:TB}{n:Nat}{b:AB}{K:TB->Prop}(h:setB t n b K):∃a,Put t a n (some b)/\K a:=vO _ _ h
theorem vk{t:TB}{n:Nat}{K:TB->Prop}(h:yQ t n K):∃a,Put t a n none/\K a:=vO _ _ h
theorem aH{b:Type}{x:Option b}{K:b->Prop}(h:ok x K):∃a,x=some a/\K a:=by cases x with | none=>exact h.elim | some a=>exact⟨a,rfl,h⟩
theorem aB{b:Bool}{K:Prop}(h:yes b K):b=true/\K:=by cases b with | false=>exact h.elim | true=>exact⟨rfl,h⟩
theorem aI{b:Bool}{x a:Prop}(h:bF b x a):(b=true/\x)\/(b=false/\a):=by cases b with | false=>exact .inr ⟨rfl,h⟩ | true=>exact .inl ⟨rfl,h⟩
theorem aK{n:Nat}{K:Nat->Prop}(h:nat n K):K n:=by cases n<;>exact h
theorem xq{n:Int}{K:Int->Prop}(h:int n K):K n:=by cases n<;>exact aK (K:=λm=>K _) h
theorem sW{b:Bool}{K:Bool->Prop}(h:zW b K):K b:=by cases b<;>exact h
section
variable {v:qv}
theorem gZ{K:Bool->Prop}(h:jW v K):∃b,v=.bool b/\K b:=by cases v<;>first | exact h.elim | exact⟨_,rfl,h⟩
theorem fA{K:IntKind->Int->Prop}(h:jV v K):∃k n,v=.int k n/\K k n:=by cases v<;>first | exact h.elim | exact⟨_,_,rfl,h⟩
theorem eB{K:Nat->Prop}(h:lF v K):∃k n,v=.int k (.ofNat n)/\K n:=by
 cases v with
 | int k n=>cases n with
  | ofNat m=>exact⟨_,_,rfl,h⟩
  | negSucc m=>exact h.elim
 | _=>exact h.elim
theorem fu{K:Nat->Nat->Prop}(h:nQ v K):∃i o,v=.pointer (some ⟨i,o,none⟩)/\K i o:=by
 cases v with
 | pointer a=>cases a with
  | none=>exact h.elim
  | some a=>
   obtain⟨i,o,p⟩:=a;cases p with
   | none=>exact⟨_,_,rfl,h⟩
   | some _=>exact h.elim
 | _=>exact h.elim
theorem mH{K:List UInt8->Prop}(h:wC v K):∃l,v=.string ⟨⟨l⟩⟩/\K l:=by
 cases v with
 | string s=>obtain⟨⟨l⟩⟩:=s;exact⟨_,rfl,h⟩
 | _=>exact h.elim
theorem tZ{K:qV->Prop}(h:yl v K):∃l,v=.agg ⟨l⟩/\K l:=by
 cases v with
 | agg s=>obtain⟨l⟩:=s;exact⟨_,rfl,h⟩
 | _=>exact h.elim
theorem tX{K:qV->Prop}(h:yj v K):∃l,v=.tuple ⟨l⟩/\K l:=by
 cases v with
 | tuple s=>obtain⟨l⟩:=s;exact⟨_,rfl,h⟩
 | _=>exact h.elim
theorem mI{K:Nat->Prop}(h:wE v K):∃r,v=.map (some r)/\K r:=by
 cases v with
 | map r=>cases r with
  | none=>exact h.elim
  | some r=>exact⟨_,rfl,h⟩
 | _=>exact h.elim
theorem cu{b:Nat->Nat->Nat->Nat->Nat->Prop}{d:Prop}{e:Nat->Nat->Prop}{g:List UInt8->Prop}{j:qV->Prop}{k:Prop}(h:je v b d e g j k):
  (∃i o sz n c,v=.slice (some ⟨i,o,some sz⟩) n c/\b i o sz n c)\/(∃n c,v=.slice none n c/\d)\/(∃i o,v=.pointer (some ⟨i,o,none⟩)/\e i o)\/(∃l,v=.string ⟨⟨l⟩⟩/\g l)\/(∃l,v=.agg ⟨l⟩/\j l)\/(∃t p f,∃_:Bool,∃a c,v=.func (.via t p f true) a c/\k):=by
 cases v with
 | slice a n c=>cases a with
  | none=>exact .inr (.inl ⟨_,_,rfl,h⟩)
  | some a=>
   obtain⟨i,o,p⟩:=a;cases p with
   | none=>exact h.elim
   | some _=>exact .inl ⟨_,_,_,_,_,rfl,h⟩
 | pointer a=>cases a with
  | none=>exact h.elim
  | some a=>
   obtain⟨i,o,p⟩:=a;cases p with
   | none=>exact .inr (.inr (.inl ⟨_,_,rfl,h⟩))
   | some _=>exact h.elim
 | string s=>obtain⟨⟨l⟩⟩:=s;exact .inr (.inr (.inr (.inl ⟨_,rfl,h⟩)))
 | agg s=>obtain⟨l⟩:=s;exact .inr (.inr (.inr (.inr (.inl ⟨_,rfl,h⟩))))
 | func f a c=>
  cases f
  case via t p f q=>
   cases q with
   | false=>exact h.elim
   | true=>exact .inr (.inr (.inr (.inr (.inr ⟨_,_,_,true,_,_,rfl,h⟩))))
  all_goals exact h.elim
 | _=>exact h.elim
theorem mG{b:qV->Prop}{d:Prop}(h:wB v b d):(∃t p f l c,v=.func (.via t p f false) ⟨l⟩ c/\b l)\/d:=by
 cases v with
 | func f a c=>
  obtain⟨a⟩:=a;cases f
  case via t p f q=>
   cases q with
   | false=>exact .inl ⟨_,_,_,_,_,rfl,h⟩
   | true=>exact .inr h
  all_goals exact .inr h
 | _=>exact .inr h
theorem oQ{b:FuncId->qV->qV->Prop}{d:Nat->Prop}(h:zm v b d):(∃f a c,v=.func (.func f) ⟨a⟩ ⟨c⟩/\b f a c)\/(∃l a c,v=.func (.yield l) a c/\d l):=by
 cases v with
 | func f a c=>obtain⟨a⟩:=a;obtain⟨c⟩:=c;cases f<;>first | exact h.elim | exact .inl ⟨_,_,_,rfl,h⟩ | exact .inr ⟨_,_,_,rfl,h⟩
 | _=>exact h.elim
theorem nS{K:Bool->Prop}{c:Prop}(h:oP v K c):(∃b,v=.bool b/\K b)\/(∃a,v=.tuple a/\c):=by cases v<;>first | exact h.elim | exact .inl ⟨_,rfl,h⟩ | exact .inr ⟨_,rfl,h⟩
end
theorem lU:∀{x d:List UInt8}{K:Bool->Prop},leq x d K->K (x==d):=by
 intro x;induction x with
 | nil=>intro d K h;cases d<;>exact h
 | cons a x f=>
  intro d K h;cases d with
  | nil=>exact h
  | cons b d=>
   have g:bF (Nat.beq a.toNat b.toNat) (leq x d K) (K false):=h;clear h;obtain⟨e,h⟩ | ⟨e,h⟩:=aI g
   .obtain rfl:a=b:=UInt8.toNat_inj.1 (qaa e);have:=f h;simpa using this
   have e':¬a=b:=λc=>by subst c;simp at e
   have:((a::x)==(b::d))=false:=by simp[e']
   rw[this];exact h
theorem xP:∀{x b:List UInt8}{K:List UInt8->Prop},app x b K->K (x++b):=by
 intro x;induction x with
 | nil=>intro b K h;exact h
 | cons a x c=>intro b K h;exact c (K:=λl=>K (a::l)) h
theorem di:∀{x b:qV}{K:qV->Prop},iR x b K->K (x++b):=by
 intro x;induction x with
 | nil=>intro b K h;exact h
 | cons a x c=>intro b K h;exact c (K:=λl=>K (a::l)) h
theorem mJ:∀{x:List UInt8}{n:Nat}{K:List UInt8->Prop},take x n K->n<=x.length/\K (x.take n):=by
 intro x;induction x with
 | nil=>intro n K h;cases n with | zero=>exact⟨by simp,h⟩ | succ n=>exact h.elim
 | cons a x b=>intro n K h;cases n with | zero=>exact⟨by simp,h⟩ | succ n=>have:=b (K:=λl=>K (a::l)) h;exact⟨by simpa using this.1,this.2⟩
theorem jY:∀{x:qV}{n:Nat}{K:qV->Prop},oU x n K->n<=x.length/\K (x.take n):=by
 intro x;induction x with
 | nil=>intro n K h;cases n with | zero=>exact⟨by simp,h⟩ | succ n=>exact h.elim
 | cons a x b=>intro n K h;cases n with | zero=>exact⟨by simp,h⟩ | succ n=>have:=b (K:=λl=>K (a::l)) h;exact⟨by simpa using this.1,this.2⟩
theorem vg:∀{x:List UInt8}{n:Nat}{K:List UInt8->Prop},drop x n K->n<=x.length/\K (x.drop n):=by
 intro x;induction x with
 | nil=>intro n K h;cases n with | zero=>exact⟨by simp,h⟩ | succ n=>exact h.elim
 | cons a x b=>intro n K h;cases n with | zero=>exact⟨by simp,h⟩ | succ n=>have:=b (K:=K) h;exact⟨by simpa using this.1,this.2⟩
theorem kW:∀{x:qV}{n:Nat}{K:qV->Prop},sM x n K->n<=x.length/\K (x.drop n):=by
 intro x;induction x with
 | nil=>intro n K h;cases n with | zero=>exact⟨by simp,h⟩ | succ n=>exact h.elim
 | cons a x b=>intro n K h;cases n with | zero=>exact⟨by simp,h⟩ | succ n=>have:=b (K:=K) h;exact⟨by simpa using this.1,this.2⟩
theorem uH:∀{x:List UInt8}{n:Nat}{K:UInt8->Prop},yB x n K->∃b,x[n]?=some b/\K b:=by
 intro x;induction x with
 | nil=>intro n K h;exact h.elim
 | cons a x c=>intro n K h;cases n with | zero=>exact⟨a,rfl,h⟩ | succ n=>simpa using c (K:=K) h
theorem jr:∀{x:qV}{n:Nat}{K:qv->Prop},uF x n K->∃b,x[n]?=some b/\K b:=by
 intro x;induction x with
 | nil=>intro n K h;exact h.elim
 | cons a x c=>intro n K h;cases n with | zero=>exact⟨a,rfl,h⟩ | succ n=>simpa using c (K:=K) h
theorem uG:∀{x:List Oper}{n:Nat}{K:Oper->Prop},yA x n K->∃b,x[n]?=some b/\K b:=by
 intro x;induction x with
 | nil=>intro n K h;exact h.elim
 | cons a x c=>intro n K h;cases n with | zero=>exact⟨a,rfl,h⟩ | succ n=>simpa using c (K:=K) h
theorem xO{b:AB}{K:CB->Prop}(h:Ar b K):∃c,b=.inl c/\K c:=by cases b with | inl c=>exact⟨c,rfl,h⟩ | inr x=>exact h.elim
theorem tC{b:AB}{K:List (Value×Value)->Prop}(h:zY b K):∃c,b=.inr (.inl c)/\K c:=by
 obtain c | c | c | c:=b<;>first | exact h.elim | exact⟨_,rfl,h⟩
theorem jN{b:AB}{K:LB->Prop}(h:yT b K):∃c,b=.inr (.inr (.inl c))/\K c:=by
 obtain c | c | c | c:=b<;>first | exact h.elim | exact⟨_,rfl,h⟩
theorem xN{b:AB}{K:Bool->Prop}(h:zZ b K):∃c,b=.inr (.inr (.inr c))/\K c:=by
 obtain c | c | c | c:=b<;>first | exact h.elim | exact⟨_,rfl,h⟩
theorem dO{h:TB}{id:Nat}{K:CB->Prop}(a:kS h id K):∃c,aC h id=some (.inl c)/\K c:=by
 obtain⟨b,h1,h2⟩:=gy a;obtain⟨c,rfl,h3⟩:=xO h2;exact⟨c,h1,h3⟩
structure Loc where
 b:Nat
 base:Nat
 lim:Nat
structure Cx where
 ρ:Nat->Int
 j:Nat->Loc
 nx:Nat
def zM:Nat->IntKind
 | 0=>.i8
 | 1=>.i16
 | 2=>.i32
 | 3=>.i64
 | 4=>.u8
 | 5=>.u16
 | 6=>.u32
 | _=>.u64
def yC(X:Cx)(p:Option Addr)(v:Value):Prop:=
 match p with
 | none=>v=.pointer none
 | some ⟨i,o,none⟩=>i<X.nx/\v=.pointer (some ⟨(X.j i).b,(X.j i).base+o,none⟩)
 | some ⟨_,_,some _⟩=>False
def rA(X:Cx)(p:Option Addr)(len cap:Nat)(v:Value):Prop:=
 match p with
 | none=>len=0/\cap=0/\v=.slice none 0 0
 | some ⟨i,o,some sz⟩=>i<X.nx/\0<sz/\∃c,v=.slice (some ⟨(X.j i).b,(X.j i).base+o,none⟩) len c/\len<=c/\o+c*sz<=(X.j i).lim/\(0<cap->cap=c+1)
 | some ⟨_,_,none⟩=>False
def yD(X:Cx)(r:Option Nat)(v:Value):Prop:=
 match r with
 | none=>v=.map none
 | some i=>i<X.nx/\v=.map (some (X.j i).b)
def vS(X:Cx)(fn:Fn)(a c:Array Value->Prop)(v:Value):Prop:=
 match fn with
 | .func f=>∃x y,v=.func (.func f) x y/\a x/\c y
 | .yield l=>l<X.nx/\v=.func (.yield (X.j l).b) #[] #[]
 | .via _ _ _ true=>∃p n,v=.slice (some p) 0 n
 | .via _ _ _ false=>∃bs:ByteArray,v=.string bs/\a ⟨bs.data.toList.map λb=>.int .u8 b.toNat⟩
 | _=>False
def VR(X:Cx)(a:Value):Value->Prop:=
 @Value.rec (λ_=>Value->Prop) (λ_=>Array Value->Prop) (λ_=>List Value->Prop) (λb v=>v=.bool b) (λk n v=>v=.int k n) (λ_ _ _=>False) (λ_ re im v=>v=.int (zM re) (X.ρ im))
  (λs v=>v=.string s) (yC X) (rA X) (yD X) (λ_ _=>False) (λfn _ _ a c v=>vS X fn a c v) (λv=>v=.nilFunc) (λt _ ih v=>∃u,v=.iface t u/\ih u) (λv=>v=.nilIface)
  (λ_ ih v=>∃cs,v=.agg cs/\ih cs) (λ_ ih v=>∃cs,v=.tuple cs/\ih cs) (λ_ ih cs=>ih cs.toList) (λl=>l=[]) (λ_ _ zS zQ l=>∃u us,l=u::us/\zS u/\zQ us) a
def aO(X:Cx)(l:List Value):List Value->Prop:=
 @Value.rec_2 (λ_=>Value->Prop) (λ_=>Array Value->Prop) (λ_=>List Value->Prop) (λb v=>v=.bool b) (λk n v=>v=.int k n) (λ_ _ _=>False) (λ_ re im v=>v=.int (zM re) (X.ρ im))
  (λs v=>v=.string s) (yC X) (rA X) (yD X) (λ_ _=>False) (λfn _ _ a c v=>vS X fn a c v) (λv=>v=.nilFunc) (λt _ ih v=>∃u,v=.iface t u/\ih u) (λv=>v=.nilIface)
  (λ_ ih v=>∃cs,v=.agg cs/\ih cs) (λ_ ih v=>∃cs,v=.tuple cs/\ih cs) (λ_ ih cs=>ih cs.toList) (λl=>l=[]) (λ_ _ zS zQ l=>∃u us,l=u::us/\zS u/\zQ us) l
section
variable {X:Cx}{v:qv}{l:qV}
@[simp] theorem gX {b:Bool}:VR X (.bool b) v↔v=.bool b:=qat
@[simp] theorem dY {k:IntKind} {n:Int}:VR X (.int k n) v↔v=.int k n:=qat
@[simp] theorem eZ {k:FloatKind} {a b:Nat}:VR X (.complex k a b) v↔v=.int (zM a) (X.ρ b):=qat
@[simp] theorem bW {s:ByteArray}:VR X (.string s) v↔v=.string s:=qat
@[simp] theorem yf:VR X (.pointer none) v↔v=.pointer none:=qat
@[simp] theorem bf {i o:Nat}:VR X (.pointer (some ⟨i,o,none⟩)) v↔i<X.nx/\v=.pointer (some ⟨(X.j i).b,(X.j i).base+o,none⟩):=qat
@[simp] theorem wo:VR X (.slice none 0 0) v↔v=.slice none 0 0:=⟨λh=>h.2.2,λh=>⟨rfl,rfl,h⟩⟩
theorem bY{n c:Nat}:VR X (.slice none n c) v↔n=0/\c=0/\v=.slice none 0 0:=qat
theorem aT{i o sz len cap:Nat}:VR X (.slice (some ⟨i,o,some sz⟩) len cap) v↔i<X.nx/\0<sz/\∃c,v=.slice (some ⟨(X.j i).b,(X.j i).base+o,none⟩) len c/\len<=c/\o+c*sz<=(X.j i).lim/\(0<cap->cap=c+1):=qat
@[simp] theorem jR {i:Nat}:VR X (.map (some i)) v↔i<X.nx/\v=.map (some (X.j i).b):=qat
@[simp] theorem yg:VR X (.map none) v↔v=.map none:=qat
@[simp] theorem xQ:VR X .nilFunc v↔v=.nilFunc:=qat
@[simp] theorem wu:VR X .nilIface v↔v=.nilIface:=qat
@[simp] theorem fJ {t:TypeId} {u:Value}:VR X (.iface t u) v↔∃u',v=.iface t u'/\VR X u u':=qat
@[simp] theorem fe:VR X (.agg ⟨l⟩) v↔∃cs:Array Value,v=.agg cs/\aO X l cs.toList:=qat
@[simp] theorem bE:VR X (.tuple ⟨l⟩) v↔∃cs:Array Value,v=.tuple cs/\aO X l cs.toList:=qat
theorem eO{f:FuncId}{a c:qV}:VR X (.func (.func f) ⟨a⟩ ⟨c⟩) v↔∃x b:Array qv,v=.func (.func f) x b/\aO X a x.toList/\aO X c b.toList:=qat
theorem lq{i:Nat}{a c:Array qv}:VR X (.func (.yield i) a c) v↔i<X.nx/\v=.func (.yield (X.j i).b) #[] #[]:=qat
theorem tK{t:qT}{p:Array FieldStep}{f:FuncId}{a c:Array qv}:VR X (.func (.via t p f true) a c) v↔∃p n,v=.slice (some p) 0 n:=qat
theorem tN{t:qT}{p:Array FieldStep}{f:FuncId}{c:Array qv}:VR X (.func (.via t p f false) ⟨l⟩ c) v↔∃a:ByteArray,v=.string a/\aO X l (a.data.toList.map λb=>.int .u8 b.toNat):=qat
@[simp] theorem aW {l':List Value}:aO X [] l'↔l'=[]:=qat
@[simp] theorem dK {a:Value} {l':List Value}:aO X (a::l) l'↔∃u us,l'=u::us/\VR X a u/\aO X l us:=qat
end
structure Cx.le(X Y:Cx):Prop where
 ρ:Y.ρ=X.ρ
 nx:X.nx<=Y.nx
 j:∀i,i<X.nx->Y.j i=X.j i
theorem Cx.le.refl(X:Cx):X.le X:=⟨rfl,qbd _,λ_ _=>rfl⟩
theorem Cx.le.trans{X b c:Cx}(h:X.le b)(a:b.le c):X.le c:=⟨a.ρ.trans h.ρ,Nat.le_trans h.nx a.nx,λi d=>(a.j i (qao d h.nx)).trans (h.j i d)⟩
theorem VR.mono{X d:Cx}(h:X.le d):∀{a v:qv},VR X a v->VR d a v:=by
 intro a;refine @Value.rec (λa=>∀{v},VR X a v->VR d a v) (λa=>∀{l},aO X a.toList l->aO d a.toList l) (λl=>∀{g},aO X l g->aO d l g) ?_ ?_ ?_ ?_ ?_ ?_ ?_ ?_ ?_ ?_ ?_ ?_ ?_ ?_ ?_ ?_ ?_ ?_ a
 .exact λ_ _ h=>h
 .exact λ_ _ _ h=>h
 .exact λ_ _ _ h=>h
 .intro k re im v hv;rw[eZ]at*;rw[h.ρ];exact hv
 .exact λ_ _ h=>h
 .intro p v hv;obtain _ | ⟨i,o,_ | q⟩:=p
  .exact hv
  .rw[bf]at*;exact⟨qao hv.1 h.nx,by rw[h.j i hv.1];exact hv.2⟩
  exact hv.elim
 .intro p len cap v hv;obtain _ | ⟨i,o,_ | sz⟩:=p
  .exact hv
  .exact hv.elim
  rw[aT]at*;obtain⟨h1,h2,h3⟩:=hv;exact⟨qao h1 h.nx,h2,by rw[h.j i h1];exact h3⟩
 .intro r v hv;cases r with
  | none=>exact hv
  | some i=>rw[jR]at*;exact⟨qao hv.1 h.nx,by rw[h.j i hv.1];exact hv.2⟩
 .exact λ_ _ h=>h
 .intro fn a c e AJ v hv;cases fn with
  | func f=>obtain⟨x,m,h1,h2,h3⟩:=hv;exact⟨x,m,h1,e h2,AJ h3⟩
  | yield l=>obtain⟨h1,h2⟩:=hv;exact⟨qao h1 h.nx,by rw[h.j l h1];exact h2⟩
  | via t p f q=>
   cases q with
   | true=>exact hv
   | false=>obtain⟨s,h1,h2⟩:=hv;exact⟨s,h1,e h2⟩
  | method n=>exact hv.elim
  | methodOf t n=>exact hv.elim
 .exact λh=>h
 .rintro t u b v⟨u',h1,h2⟩;exact⟨u',h1,b h2⟩
 .exact λh=>h
 .rintro cs b v⟨cs',h1,h2⟩;exact⟨cs',h1,b h2⟩
 .rintro cs b v⟨cs',h1,h2⟩;exact⟨cs',h1,b h2⟩
 .exact λl b=>b
 .exact λh=>h
 rintro a l e w g⟨u,us,h1,h2,h3⟩;exact⟨u,us,h1,e h2,w h3⟩
theorem aO.mono{X a:Cx}(h:X.le a):∀{l b:qV},aO X l b->aO a l b
 | [],_,hl=>hl
 | _::_,_,⟨u,us,h1,h2,h3⟩=>⟨u,us,h1,VR.mono h h2,aO.mono h h3⟩
theorem aO.length{X:Cx}:∀{l a:qV},aO X l a->a.length=l.length
 | [],_,hl=>by rw[aW]at hl;subst hl;rfl
 | _::_,_,⟨u,us,h1,_,h3⟩=>by subst h1;simp[aO.length h3]
theorem aO.get{X:Cx}:∀{l b:qV},aO X l b->∀{i:Nat}{a:qv},l[i]?=some a->∃u,b[i]?=some u/\VR X a u
 | _::_,_,⟨u,us,h1,h2,h3⟩,0,_,hi=>by subst h1;simp at hi;subst hi;exact⟨u,rfl,h2⟩
 | _::_,_,⟨u,us,h1,h2,h3⟩,i+1,_,hi=>by subst h1;simp at hi;simpa using aO.get h3 hi
theorem aO.append{X:Cx}:∀{l a m b:qV},aO X l a->aO X m b->aO X (l++m) (a++b)
 | [],_,_,_,hl,hm=>by rw[aW]at hl;subst hl;exact hm
 | _::_,_,_,_,⟨u,us,h1,h2,h3⟩,hm=>by subst h1;exact⟨u,us++_,rfl,h2,aO.append h3 hm⟩
theorem aO.take{X:Cx}:∀{l a:qV}(n:Nat),aO X l a->aO X (l.take n) (a.take n)
 | _,_,0,_=>by simp
 | [],_,_+1,hl=>by rw[aW]at hl;subst hl;simp
 | _::_,_,n+1,⟨u,us,h1,h2,h3⟩=>by subst h1;exact⟨u,us.take n,rfl,h2,aO.take n h3⟩
theorem aO.drop{X:Cx}:∀{l a:qV}(n:Nat),aO X l a->aO X (l.drop n) (a.drop n)
 | _,_,0,h=>by simpa using h
 | [],_,_+1,hl=>by rw[aW]at hl;subst hl;simp
 | _::_,_,n+1,⟨u,us,h1,h2,h3⟩=>by subst h1;simpa using aO.drop n h3
theorem dD(X:Cx){v:qv}(h:dw v=true):VR X v v:=by
 unfold dw at h;split at h<;>first | rfl | (simp at h;done) | exact⟨rfl,rfl,rfl⟩
theorem eU(X:Cx):∀{l:qV},l.all dw=true->aO X l l
 | [],_=>rfl
 | a::l,h=>by
  simp only[List.all_cons,qab]at h;exact⟨a,l,rfl,dD X h.1,eU X h.2⟩
theorem kE(X:Cx){v:qv}(h:plain v=true):VR X v v:=by
 unfold plain at h;split at h
 .exact⟨_,rfl,eU X h⟩
 .exact⟨_,rfl,eU X h⟩
 exact dD X h
theorem VR.one{X:Cx}{a v:qv}(h:VR X a v)(d:Zev.one a=true):v.oneCell=true:=by
 cases a with
 | bool b=>cases h;rfl
 | int k n=>cases h;rfl
 | float=>exact h.elim
 | complex k a b=>cases h;rfl
 | string s=>cases h;rfl
 | pointer p=>
  obtain _ | ⟨i,o,_ | q⟩:=p
  .cases h;rfl
  .obtain⟨_,h⟩:=h;cases h;rfl
  exact h.elim
 | slice p n c=>
  obtain _ | ⟨i,o,_ | q⟩:=p
  .obtain⟨_,_,h⟩:=h;cases h;rfl
  .exact h.elim
  obtain⟨_,_,c,h,_⟩:=h;cases h;rfl
 | map r=>
  cases r with
  | none=>cases h;rfl
  | some i=>obtain⟨_,h⟩:=h;cases h;rfl
 | chan r=>exact h.elim
 | func f a c=>
  cases f with
  | func f=>obtain⟨x,e,h,_⟩:=h;cases h;rfl
  | yield l=>obtain⟨_,h⟩:=h;cases h;rfl
  | via t p f q=>
   cases q with
   | true=>obtain⟨p,n,h⟩:=h;cases h;rfl
   | false=>obtain⟨g,h,_⟩:=h;cases h;rfl
  | method=>exact h.elim
  | methodOf=>exact h.elim
 | nilFunc=>cases h;rfl
 | iface t u=>obtain⟨j,h,_⟩:=h;cases h;rfl
 | nilIface=>cases h;rfl
 | agg=>cases d
 | tuple=>cases d
def bO(c:CB)(i:Nat):Option Value:=if i<c.n then(match aC c.vs i with | some v=>some v | none=>c.d) else none
theorem xw{d:Option qv}:∀{t:TV}{n:Nat}{K:qv->Prop},xX t n d K->∃v,(match aC t n with | some v=>some v | none=>d)=some v/\K v:=by
 intro t;induction t with
 | nil=>intro n K h;obtain⟨v,h1,h2⟩:=aH (x:=d) (K:=K) h;exact⟨v,by rw[bI];exact h1,h2⟩
 | node b o v l r c f=>
  intro n K h;cases n with
  | zero=>
   cases v with
   | none=>obtain⟨v,h1,h2⟩:=aH (x:=d) (K:=K) h;exact⟨v,h1,h2⟩
   | some v=>exact⟨v,rfl,h⟩
  | succ m=>
   have a: @Bool.rec (λ_=>Prop) (xX r (Nat.div m 2) d K) (xX l (Nat.div m 2) d K) (Nat.beq (Nat.mod m 2) 0):=h;rw[dh]at a;simp only[aC];change if m%2=0 then xX l (m / 2) d K else xX r (m / 2) d K at a
   split at a
   .rename_i e;rw[qaj e];exact c a
   rename_i e;rw[qae e];exact f a
theorem aG{a b:Nat}:Nat.blt a b=true↔a<b:=by unfold Nat.blt;rw[Nat.ble_eq];exact qat
theorem nK{c:CB}{i:Nat}{K:qv->Prop}(h:cell c i K):∃v,bO c i=some v/\K v:=by
 obtain⟨h1,h2⟩:=aB h;obtain⟨v,h3,h4⟩:=xw h2;exact⟨v,by unfold bO;rw[qaj (aG.1 h1)];exact h3,h4⟩
theorem dH:∀(k:Nat){c:CB}{i:Nat}{K:qV->Prop},cells k c i K->∃l,l.length=k/\(∀m,m<k->l[m]?=bO c (i+m))/\K l:=by
 intro k;induction k with
 | zero=>intro c i K h;exact⟨[],rfl,by simp,h⟩
 | succ k a=>
  intro c i K h;obtain⟨v,h1,h2⟩:=nK (K:=λv=>cells k c (Nat.succ i) (λl=>K (v::l))) h;obtain⟨l,h3,h4,h5⟩:=a h2;refine⟨v::l,by simp[h3],λm b=>?_,h5⟩;cases m with
  | zero=>simpa using h1.symm
  | succ m=>have:=h4 m (by omega);simp only[List.getElem?_cons_succ,this];congr 1;omega
theorem bT:∀{l:qV}{t:TV}{i:Nat}{K:TV->Prop},ku l t i K->∃a,(∀m,aC a m=if i<=m/\m<i+l.length then l[m - i]? else aC t m)/\(∀v∈l,one v=true)/\K a:=by
 intro l;induction l with
 | nil=>intro t i K h;exact⟨t,λm=>by rw[qae (by simp)],by simp,h⟩
 | cons v l e=>
  intro t i K h;obtain⟨h1,h2⟩:=aB (b:=one v) (K:=iq t i v (λt=>ku l t (Nat.succ i) K)) h;obtain⟨j,h3,h4⟩:=dL h2;obtain⟨f,h5,g,h7⟩:=e h4;refine⟨f,λm=>?_,by simpa using ⟨h1,g⟩,h7⟩;rw[h5 m,h3 m];simp only[Nat.succ_eq_add_one,qbc];by_cases c:m=i
  .subst c;rw[qae (by omega),qaj rfl,qaj (by omega)];simp
  by_cases d:i<=m/\m<i+(l.length+1)
  .rw[qaj (by omega),qaj d];have:m - i=(m - (i+1))+1:=by omega
   rw[this];rfl
  rw[qae (by omega),qae c,qae d]
def RR(X:Cx)(regs:TV)(n:Nat)(tmps:Array Value):Prop:=n<=tmps.size/\∀t v,aC regs t=some v->∃u,tmps[t]?=some u/\VR X v u
def ER(X:Cx):List (Value×Value)->List MapEntry->Prop
 | [],l=>l=[]
 | p::es,l=>∃m ms,l=m::ms/\VR X p.1 m.key/\VR X p.2 m.val/\ER X es ms
def CR(X:Cx)(w:World)(L:Loc)(c:CB):Prop:=
 ∃cs fz,w.heap[L.b]?=some (.cells cs c.ty fz)/\c.n<=L.lim/\L.base+L.lim<=cs.size/\(c.ro=false->∀o,o<cs.size->¬(fz.1<=o/\o<fz.2))/\∀i v,bO c i=some v->one v=true/\∃u,cs[L.base+i]?=some u/\VR X v u
def BR(X:Cx)(w:World)(L:Loc)(b:AB):Prop:=
 match b with
 | .inl c=>CR X w L c
 | .inr (.inl es)=>∃ms k,w.heap[L.b]?=some (.map ms k)/\ER X es ms.toList
 | .inr (.inr (.inl r))=>∃l:Loop,w.heap[L.b]?=some (.loop l)/\l.state=r.st/\l.pending=r.pend/\RR X r.regs r.n l.tmps/\l.params.toList=r.params/\l.assign=r.assign/\l.body=r.body
 | .inr (.inr (.inr t))=>∃d,w.heap[L.b]?=some (.deferred d)/\(t=false->d=some [])
theorem RR.mono{X a:Cx}(h:X.le a){regs:TV}{n:Nat}{tmps:Array qv}(b:RR X regs n tmps):RR a regs n tmps:=
 ⟨b.1,λt v c=>let⟨u,h1,h2⟩:=b.2 t v c;⟨u,h1,VR.mono h h2⟩⟩
theorem ER.mono{X a:Cx}(h:X.le a):∀{b:List (Value×Value)} {l:List MapEntry},ER X b l->ER a b l
 | [],_,he=>he
 | _::_,_,⟨m,ms,h1,h2,h3,h4⟩=>⟨m,ms,h1,VR.mono h h2,VR.mono h h3,ER.mono h h4⟩
theorem BR.block{X:Cx}{w:qW}{L:Loc}{b:AB}(h:BR X w L b):∃o,w.heap[L.b]?=some o:=by
 obtain c | c | c | c:=b
 .obtain⟨cs,fz,h,_⟩:=h;exact⟨_,h⟩
 .obtain⟨cs,fz,h,_⟩:=h;exact⟨_,h⟩
 .obtain⟨l,h,_⟩:=h;exact⟨_,h⟩
 obtain⟨l,h,_⟩:=h;exact⟨_,h⟩
theorem BR.lt{X:Cx}{w:qW}{L:Loc}{b:AB}(h:BR X w L b):L.b<w.heap.size:=by
 obtain⟨o,ho⟩:=h.block;exact(qaf.1 ho).1
theorem BR.mono{X f:Cx}(e:X.le f){w w':qW}{L:Loc}{b:AB}(d:w'.heap[L.b]?=w.heap[L.b]?)(h:BR X w L b):BR f w' L b:=by
 obtain c | c | c | c:=b
 .obtain⟨cs,fz,h1,h2,h3,h4,h5⟩:=h;exact⟨cs,fz,d.trans h1,h2,h3,h4,λi v g=>let⟨a,u,b,c⟩:=h5 i v g;⟨a,u,b,VR.mono e c⟩⟩
 .obtain⟨cs,fz,h1,h2⟩:=h;exact⟨cs,fz,d.trans h1,h2.mono e⟩
 .obtain⟨l,h1,h2,h3,h4,h5⟩:=h;exact⟨l,d.trans h1,h2,h3,h4.mono e,h5⟩
 obtain⟨l,h1,h2⟩:=h;exact⟨l,d.trans h1,h2⟩
structure Rel(X:Cx)(s:AS)(w:World):Prop where
 nx:X.nx=s.nx
 blk:∀id b,aC s.h id=some b->id<X.nx/\BR X w (X.j id) b
 sep:∀id id' b b',aC s.h id=some b->aC s.h id'=some b'->(X.j id).b=(X.j id').b->id=id'
 ng:NG<=X.nx
 kR:∀i,i<NG->(X.j i).b=i/\(X.j i).base=0
def yh(b:AB):Bool:=match b with | .inl c=>!c.ro | _=>true
def Fr(X:Cx)(s:AS)(b:Nat):Prop:=∀id c,aC s.h id=some c->yh c=true->(X.j id).b≠b
def Un(X:Cx)(s:AS)(b:Nat):Prop:=∀id c,aC s.h id=some c->(X.j id).b≠b
theorem Un.fr{X:Cx}{s:AS}{b:Nat}(h:Un X s b):Fr X s b:=λid c hc _=>h id c hc
structure Ext(X:Cx)(s:AS)(w:World)(Y:Cx)(s':AS)(w':World):Prop where
 le:X.le Y
 size:w.heap.size<=w'.heap.size
 keep:∀b,b<w.heap.size->Fr X s b->w'.heap[b]?=w.heap[b]?/\Fr Y s' b
 un:∀b,b<w.heap.size->Un X s b->Un Y s' b
 io:w'.os=w.os/\w'.output=w.output
theorem Ext.refl(X:Cx)(s:AS)(w:qW):Ext X s w X s w:=⟨Cx.le.refl X,qbd _,λ_ _ h=>⟨rfl,h⟩,λ_ _ h=>h,rfl,rfl⟩
theorem Ext.trans{X d e:Cx}{s s' f:AS}{w w' g:qW}(h:Ext X s w d s' w')(a:Ext d s' w' e f g):Ext X s w e f g:=
 ⟨h.le.trans a.le,Nat.le_trans h.size a.size,λb c hf=>
  let⟨h1,h2⟩:=h.keep b c hf
  let⟨h3,h4⟩:=a.keep b (qao c h.size) h2
  ⟨h3.trans h1,h4⟩,λb c i=>a.un b (qao c h.size) (h.un b c i),a.io.1.trans h.io.1,a.io.2.trans h.io.2⟩
theorem Rel.drew{X:Cx}{s:AS}{w:qW}(h:Rel X s w):Rel X s w.drew:=⟨h.nx,λid b a=>⟨(h.blk id b a).1,(h.blk id b a).2.mono (Cx.le.refl X) rfl⟩,h.sep,h.ng,h.kR⟩
theorem Ext.drew(X:Cx)(s:AS)(w:qW):Ext X s w X s w.drew:=⟨Cx.le.refl X,qbd _,λ_ _ h=>⟨rfl,h⟩,λ_ _ h=>h,rfl,rfl⟩
theorem Rel.upd{X:Cx}{s:AS}{w w':qW}(h:Rel X s w){id:Nat}{b b':AB}{a:TB}(d:aC s.h id=some b)(g:yh b=true)(hp:Put s.h a id (some b'))
  (ho:∀k,k≠(X.j id).b->w'.heap[k]?=w.heap[k]?) (hs:w'.heap.size=w.heap.size) (hn:BR X w' (X.j id) b') (lu:w'.os=w.os/\w'.output=w.output:=by exact⟨rfl,rfl⟩):Rel X ⟨a,s.nx⟩ w'/\Ext X s w X ⟨a,s.nx⟩ w':=by
 refine⟨⟨h.nx,λi c hc=>?_,λi l c n hc f e=>?_,h.ng,h.kR⟩,⟨Cx.le.refl X,by omega,λk o hf=>⟨ho k λe=>hf id b d g e.symm,λi c hc p=>?_⟩,λk o m i c hc=>?_,lu⟩⟩
 .change aC a i=some c at hc
  rw[hp i]at hc;split at hc
  .rename_i e;subst e;cases hc;exact⟨(h.blk _ b d).1,hn⟩
  rename_i e;have h1:=h.blk i c hc;exact⟨h1.1,h1.2.mono (Cx.le.refl X) (ho _ λe'=>e (h.sep _ _ _ _ hc d e'))⟩
 .change aC a i=some c at hc
  change aC a l=some n at f
  rw[hp i]at hc;rw[hp l]at f;split at hc<;>split at f
  .rename_i e1 e2;rw[e1,e2]
  .rename_i e1 e2;subst e1;exact h.sep _ _ _ _ d f e
  .rename_i e1 e2;subst e2;exact h.sep _ _ _ _ hc d e
  exact h.sep _ _ _ _ hc f e
 .change aC a i=some c at hc
  rw[hp i]at hc;split at hc
  .rename_i e;subst e;exact hf _ b d g
  exact hf i c hc p
 change aC a i=some c at hc
 rw[hp i]at hc;split at hc
 .rename_i e;subst e;exact m _ b d
 exact m i c hc
def Cx.put(X:Cx)(L:Loc):Cx:=⟨X.ρ,λi=>if i=X.nx then L else X.j i,X.nx+1⟩
theorem Cx.bD(X:Cx)(L:Loc):X.le (X.put L):=⟨rfl,Nat.le_succ _,λi a=>by simp only[Cx.put];rw[qae (by omega)]⟩
theorem Cx.aQ(X:Cx)(L:Loc):(X.put L).j X.nx=L:=by simp[Cx.put]
theorem Cx.bq(X:Cx)(L:Loc){i:Nat}(a:i<X.nx):(X.put L).j i=X.j i:=(X.bD L).j i a
theorem Rel.vG{X:Cx}{s:AS}{w w':qW}(h:Rel X s w){b:AB}{h1 a:TB}{L:Loc}(f:∀i c,aC h1 i=some c->aC s.h i=some c)(hp:Put h1 a s.nx (some b))(ho:∀k,k<w.heap.size->k≠L.b->w'.heap[k]?=w.heap[k]?)(hs:w.heap.size<=w'.heap.size)
  (n:∀i c,aC h1 i=some c->(X.j i).b≠L.b) (hf:∀k,k<w.heap.size->Fr X s k->L.b≠k) (hn:BR (X.put L) w' L b) (lu:w'.os=w.os/\w'.output=w.output:=by exact⟨rfl,rfl⟩):Rel (X.put L) ⟨a,Nat.succ s.nx⟩ w'/\Ext X s w (X.put L) ⟨a,Nat.succ s.nx⟩ w':=by
 have g:=h.nx;have l:∀i c,aC h1 i=some c->i<X.nx:=λi c hc=>(h.blk i c (f i c hc)).1;refine⟨⟨by simp[Cx.put,g],λi c hc=>?_,λi p c r hc d e=>?_,Nat.le_trans h.ng (Nat.le_succ _),λi t=>?_⟩,⟨X.bD L,hs,λk m o=>⟨ho k m (λe=>hf k m o e.symm),λi c hc u=>?_⟩,λk m q i c hc=>?_,lu⟩⟩
 .change aC a i=some c at hc
  rw[hp i]at hc;split at hc
  .rename_i e;subst e;cases hc;rw[<-g,X.aQ];exact⟨by simp[Cx.put],hn⟩
  have h2:=h.blk i c (f i c hc);rw[X.bq L h2.1];exact⟨Nat.lt_succ_of_lt h2.1,h2.2.mono (X.bD L) (ho _ h2.2.lt (n i c hc))⟩
 .change aC a i=some c at hc
  change aC a p=some r at d
  rw[hp i]at hc;rw[hp p]at d;split at hc<;>split at d
  .rename_i e1 e2;rw[e1,e2]
  .rename_i e1 e2;rw[e1,<-g,X.aQ,X.bq L (l _ _ d)]at e;exact absurd e.symm (n _ _ d)
  .rename_i e1 e2;rw[e2,<-g,X.aQ,X.bq L (l _ _ hc)]at e;exact absurd e (n _ _ hc)
  rw[X.bq L (l _ _ hc),X.bq L (l _ _ d)]at e;exact h.sep _ _ _ _ (f _ _ hc) (f _ _ d) e
 .have:=h.ng;rw[X.bq L (by omega)];exact h.kR i t
 .change aC a i=some c at hc
  rw[hp i]at hc;split at hc
  .rename_i e;rw[e,<-g,X.aQ];exact hf k m o
  rw[X.bq L (l _ _ hc)];exact o i c (f i c hc) u
 change aC a i=some c at hc
 rw[hp i]at hc;split at hc
 .rename_i e;rw[e,<-g,X.aQ];exact hf k m q.fr
 rw[X.bq L (l _ _ hc)];exact q i c (f i c hc)
theorem Rel.new{X:Cx}{s:AS}{w:qW}(h:Rel X s w){b:AB}{a:TB}{o:Obj}{L:Loc}(f:L.b=w.heap.size)(hp:Put s.h a s.nx (some b))(hn:BR (X.put L) (w.alloc o) L b):
  Rel (X.put L) ⟨a,Nat.succ s.nx⟩ (w.alloc o)/\Ext X s w (X.put L) ⟨a,Nat.succ s.nx⟩ (w.alloc o):=
 h.vG (λ_ _ hc=>hc) hp (λk d _=>heap_alloc_old w o k d) (by simp) (λi c hc e=>by have:=(h.blk i c hc).2.lt;omega) (λk d _ e=>by omega) hn
theorem Rel.grow{X:Cx}{s:AS}{w:qW}(hR:Rel X s w){w':qW}(hs:w.heap.size<=w'.heap.size)(hb:∀b,b<w.heap.size->w'.heap[b]?=w.heap[b]?)(lu:w'.os=w.os/\w'.output=w.output:=by exact⟨rfl,rfl⟩):Rel X s w'/\Ext X s w X s w':=
 ⟨⟨hR.nx,λid b h=>⟨(hR.blk id b h).1,(hR.blk id b h).2.mono (Cx.le.refl X) (hb _ (hR.blk id b h).2.lt)⟩,hR.sep,hR.ng,hR.kR⟩,⟨Cx.le.refl X,hs,λb h hf=>⟨hb b h,hf⟩,λ_ _ h=>h,lu⟩⟩
structure GR(X:Cx)(g:G)(a:Act):Prop where
 tmp:∀t K,g t K->∃v,K v/\VR X v (a.tmps.getD t undef)
def Done(P:Program)(o:Oper)(a:Act)(w:World)(u:Value)(w':World):Prop:=(execOp a.eval o).run P w=.ok (.value u) w'\/((execOp a.eval o).run P w=.ok .skip w'/\u=undef)
def aP(P:Program)(o:Oper)(a:Act)(X:Cx)(s:AS)(w:World)(K:bR):Prop:=
 ∃v s' Y u w',K v s'/\Done P o a w u w'/\Rel Y s' w'/\Ext X s w Y s' w'/\VR Y v u
theorem aP.quiet{P:qp}{o:Oper}{a:Act}{X:Cx}{s:AS}{w:qW}{K:bR}{v u:qv}(b:Rel X s w)(c:K v s)(hd:(execOp a.eval o).run P w=.ok (.value u) w)(d:VR X v u):aP P o a X s w K:=
 ⟨v,s,X,u,w,c,.inl hd,b,Ext.refl X s w,d⟩
section
variable {P:qp}{T:Tab}{e:Env}{X:Cx}{s:AS}{w:qW}{a:Act}{g:G}{o:Oper}{K:bR}
theorem aD(c:Rel X s w)(hg:GR X g a){x:qg}{K:KV}(h:bL x g K):∃v,K v/\VR X v (a.eval x):=by
 cases x with
 | tmp t=>exact hg.tmp t K h
 | const v=>obtain⟨h1,h2⟩:=aB (b:=plain v) (K:=K v) h;exact⟨v,h2,kE X h1⟩
 | global i=>obtain⟨h1,h2⟩:=aB (b:=Nat.blt i NG) (K:=K (.pointer (some ⟨i,0,none⟩))) h;have d:=aG.1 h1;refine⟨_,h2,bf.2 ⟨qao d c.ng,?_⟩⟩;rw[(c.kR i d).1,(c.kR i d).2];rfl
 | func f=>exact⟨_,h,eO.2 ⟨_,_,rfl,rfl,rfl⟩⟩
theorem gK(c:Rel X s w)(hg:GR X g a):∀{l:List qg}{K:qV->Prop},lT l g K->∃b,K b/\aO X b (l.map a.eval):=by
 intro l;induction l with
 | nil=>intro K h;exact⟨[],h,rfl⟩
 | cons x l d=>intro K h;obtain⟨v,h1,h2⟩:=aD c hg (K:=λv=>lT l g (λb=>K (v::b))) h;obtain⟨b,h3,h4⟩:=d h1;exact⟨v::b,h3,_,_,rfl,h2,h4⟩
theorem gU(b:Rel X s w)(hg:GR X g a){x:qg}(ho:o.op=.move x\/o.op=.assign x)(h:bL x g (λv=>K v s)):aP P o a X s w K:=by
 obtain⟨v,h1,h2⟩:=aD b hg h;refine .quiet b h1 ?_ h2;obtain ho | ho:=ho<;>simp[execOp,ho]
theorem mU(d:Rel X s w)(hg:GR X g a){c x i:qg}(ho:o.op=.pick c x i)(h:rJ c x i P T e s g K):aP P o a X s w K:=by
 obtain⟨v,h1,h2⟩:=aD d hg h;obtain⟨b,rfl,h3⟩:=gZ h1;rw[gX]at h2;obtain⟨rfl,h4⟩ | ⟨rfl,h4⟩:=aI h3
 .obtain⟨v,h5,f⟩:=aD d hg h4;exact .quiet d h5 (by simp[execOp,ho,h2,asBool]) f
 obtain⟨v,h5,f⟩:=aD d hg h4;exact .quiet d h5 (by simp[execOp,ho,h2,asBool]) f
theorem eG{t:qT}{b:Bool}(h:isAgg P t=some b):(Go.isAgg t).run P w=.ok b w:=by
 unfold isAgg at h;simp only[Go.isAgg,underlying,qad,run_program,Result.andThen];split at h<;>simp_all
theorem aM{t:qT}{n:Nat}(h:sizeOf P t=some n):(Go.sizeOf t).run P w=.ok n w:=by
 unfold sizeOf at h;simp only[Go.sizeOf,typeInfo,qad,run_program,Result.andThen];split at h<;>simp_all
theorem addr_add(b o n:Nat):(⟨b,o,none⟩:Addr).add n=⟨b,o+n,none⟩:=by unfold Addr.add;split<;>simp_all
theorem CR.cell{L:Loc}{c:CB}(h:CR X w L c){i:Nat}{v:qv}(d:bO c i=some v):one v=true/\∃u,w.cell? ⟨L.b,L.base+i,none⟩=some u/\VR X v u:=by
 obtain⟨cs,fz,h1,_,_,_,h5⟩:=h;obtain⟨f,u,h7,j⟩:=h5 i v d;exact⟨f,u,by rw[cell_of_row w L.b _ cs c.ty fz h1];exact h7,j⟩
theorem CR.cells{L:Loc}{c:CB}(h:CR X w L c):∀{l:qV}{i:Nat},(∀m,m<l.length->l[m]?=bO c (i+m))->∃us,aO X l us/\∀m u,us[m]?=some u->w.cell? ⟨L.b,L.base+i+m,none⟩=some u:=by
 intro l;induction l with
 | nil=>intro i _;exact⟨[],rfl,λm u d=>by simp at d⟩
 | cons v l f=>
  intro i hl;obtain⟨us,h1,h2⟩:=f (i:=i+1) (λm j=>by
   have:=hl (m+1) (by simpa using j);simp only[List.getElem?_cons_succ]at this;rw[this];congr 1;omega)
  have h0:=hl 0 (by simp);simp only[List.getElem?_cons_zero]at h0;obtain⟨_,u,h3,h4⟩:=h.cell h0.symm;refine⟨u::us,⟨u,us,rfl,h4,h1⟩,λm x hx=>?_⟩;cases m with
  | zero=>simp at hx;subst hx;exact h3
  | succ m=>have:=h2 m x (by simpa using hx);rw[<-this];congr 1;simp only[Addr.mk.injEq,and_true,true_and];omega
theorem bG{L:Loc}{i:Nat}{us:qV}(h:∀m u,us[m]?=some u->w.cell? ⟨L.b,L.base+i+m,none⟩=some u):(loadCells ⟨L.b,L.base+i,none⟩ us.length).run P w=.ok us.toArray w:=
 run_loadCells_list (P:=P) (w:=w) ⟨L.b,L.base+i,none⟩ us (λm u c=>by rw[addr_add];exact h m u c)
theorem kH(p:Rel X s w){t:qT}{id off:Nat}{K:KV}(h:rD P s.h t id off K):∃v u,K v/\(loadVar t ⟨(X.j id).b,(X.j id).base+off,none⟩).run P w=.ok u w/\VR X v u:=by
 obtain⟨c,h1,h2⟩:=dO h;obtain⟨b,h3,h4⟩:=aH h2;have hc:CR X w (X.j id) c:=(p.blk id _ h1).2;obtain⟨rfl,h5⟩ | ⟨rfl,h5⟩:=aI h4
 .obtain⟨n,f,h7⟩:=aH h5;obtain⟨l,d,k,q⟩:=dH n h7;obtain⟨us,m,r⟩:=hc.cells (l:=l) (i:=off) (by rw[d];exact k);refine⟨_,.agg us.toArray,q,?_,fe.2 ⟨_,rfl,m⟩⟩;have x:us.length=n:=by rw[m.length,d]
  simp[loadVar,eG h3,aM f,<-x,bG (P:=P) r]
 obtain⟨v,f,h7⟩:=nK h5;obtain⟨_,u,d,k⟩:=hc.cell f;exact⟨v,u,h7,by simp[loadVar,eG h3,d],k⟩
theorem nk(b:Rel X s w)(hg:GR X g a){t:qT}{x:qg}(ho:o.op=.load t x)(h:rQ t x P T e s g K):aP P o a X s w K:=by
 obtain⟨v,h1,h2⟩:=aD b hg h;obtain⟨id,off,rfl,h3⟩:=fu h1;obtain⟨_,h2⟩:=bf.1 h2;obtain⟨v,u,h4,h5,c⟩:=kH b h3;exact .quiet b h4 (by simp[execOp,ho,Instr.loadAt,Instr.sureAddr,h2,h5]) c
theorem rq(b:Rel X s w)(hg:GR X g a){x:qg}(ho:o.op=.nilCheck x)(h:wZ x P T e s g K):aP P o a X s w K:=by
 obtain⟨v,h1,h2⟩:=aD b hg h;obtain⟨h3,h4⟩:=aB h1;refine .quiet b h4 ?_ h2;unfold isSet at h3;split at h3
 .rename_i p;obtain⟨i,o,q⟩:=p;cases q with
  | none=>obtain⟨_,h2⟩:=bf.1 h2;simp[execOp,ho,h2]
  | some _=>exact h2.elim
 .rename_i f a' c;obtain⟨a'⟩:=a';obtain⟨c⟩:=c;obtain⟨x,d,h2,_⟩:=eO.1 h2;simp[execOp,ho,h2]
 cases h3
end
theorem fZ(x c:Int):uQ x c=decide (x<c):=by
 cases x<;>cases c<;>simp only[uQ]
 .rename_i a b;by_cases h:a<b
  .rw[aG.2 h];simp;omega
  have:Nat.blt a b=false:=by cases e:Nat.blt a b;rfl;exact absurd (aG.1 e) h
  rw[this];simp;omega
 .simp;omega
 .simp;omega
 rename_i a b;by_cases h:b<a
 .rw[aG.2 h];simp;omega
 have:Nat.blt b a=false:=by cases e:Nat.blt b a;rfl;exact absurd (aG.1 e) h
 rw[this];simp;omega
theorem beq_eq(a b:Nat):Nat.beq a b=decide (a=b):=by
 by_cases h:a=b
 .subst h;simp
 have:Nat.beq a b=false:=by cases e:Nat.beq a b;rfl;exact absurd (qaa e) h
 rw[this];simp[h]
theorem l7(x c:Int):rX x c=(x==c):=by
 cases x<;>cases c<;>simp only[rX,beq_eq]
 .rename_i a b;rw[Bool.eq_iff_iff];simp only[decide_eq_true_eq,beq_iff_eq];exact⟨λh=>by rw[h],λh=>Int.ofNat.inj h⟩
 .simp
 .simp
 rename_i a b;by_cases h:a=b<;>simp[h]
theorem uT(x b:Int):yL x b=x+b:=by cases x<;>cases b<;>rfl
theorem fD{a b:IntKind}(h:tO a b=true):a=b:=by
 have:=qaa h;cases a<;>cases b<;>simp_all [zL]
theorem wrap_small(k:IntKind)(m:Nat)(h:m<jX k):k.wrap (m:Int)=(m:Int):=by
 cases k<;>simp only[IntKind.wrap,IntKind.bits,IntKind.signed,jX]at* <;>simp<;>omega
theorem wz(k:IntKind)(n:Int):zk k n=k.wrap n:=by
 cases n with
 | ofNat m=>
  simp only[zk];cases h:Nat.blt m (jX k)
  .rfl
  exact(wrap_small k m (aG.1 h)).symm
 | negSucc m=>rfl
theorem jv{k:IntKind}{n:Int}{K:KV}(h:iO k n K):K (.int k (k.wrap n)):=by
 have:=xq h;rwa[wz]at this
theorem aS{b:Bool}{K:KV}(h:bS b K):K (.bool b):=sW (K:=λb=>K (.bool b)) h
section
variable {P:qp}{T:Tab}{e:Env}{X:Cx}{s:AS}{w:qW}{a:Act}{g:G}{o:Oper}{K:bR}
theorem uU{b:BinOp}{k:IntKind}{x c:Int}{K:KV}(h:xu b k x c K)(t:qT):
  ∃v,K v/\(Go.binOp b t (.int k x) (.int k c)).run P w=.ok v w/\dw v=true:=by
 cases b
 .exact⟨_,jv h,by simp[Go.binOp,Op.intArith,uT],rfl⟩
 .exact⟨_,jv h,by simp[Go.binOp,Op.intArith]<;>rfl,rfl⟩
 iterate 9 exact h.elim
 .exact⟨_,aS h,by simp[Go.binOp,Op.intCmp,l7],rfl⟩
 .exact⟨_,aS h,by simp[Go.binOp,Op.intCmp,l7]<;>rfl,rfl⟩
 .exact⟨_,aS h,by simp[Go.binOp,Op.intCmp,fZ],rfl⟩
 .exact⟨_,aS h,by simp[Go.binOp,Op.intCmp,fZ,<-decide_not],rfl⟩
 .exact⟨_,aS h,by simp[Go.binOp,Op.intCmp,fZ],rfl⟩
 exact⟨_,aS h,by simp[Go.binOp,Op.intCmp,fZ,<-decide_not],rfl⟩
theorem rY{c:BinOp}{k d:IntKind}{x f:Int}{K:KV}(h:vW c k x d f K)(t:qT):
  ∃v,K v/\(Go.binOp c t (.int k x) (.int d f)).run P w=.ok v w/\dw v=true:=by
 obtain⟨h3,i⟩:=aB (b:=tO k d) (K:=xu c k x f K) h;obtain rfl:=fD h3;exact uU i t
theorem toList_eq(l:List UInt8):(⟨⟨l⟩⟩:ByteArray).toList=l:=by
 rw[ByteArray.toList_eq]
theorem jA:∀{x d:List UInt8}{K:Bool->Prop},xW x d K->K (Op.bytesLess x d):=by
 intro x;induction x with
 | nil=>
  intro d K h;cases d with
  | nil=>simp only[Op.bytesLess];exact h
  | cons b d=>simp only[Op.bytesLess];exact h
 | cons a x j=>
  intro d K h;cases d with
  | nil=>exact h
  | cons b d=>
   have k:bF (Nat.blt a.toNat b.toNat) (K true) (bF (Nat.beq a.toNat b.toNat) (xW x d K) (K false)):=h;simp only[Op.bytesLess];obtain⟨e,h⟩ | ⟨e,h⟩:=aI k
   .have:a<b:=by rw[qbg];exact aG.1 e
    simpa [this] using h
   have h1:¬a<b:=by rw[qbg];intro c;rw[aG.2 c]at e;cases e
   obtain⟨f,i⟩ | ⟨f,i⟩:=aI h
   .obtain rfl:a=b:=UInt8.toNat_inj.1 (qaa f);have:=j i;simpa [h1] using this
   have l:(a==b)=false:=by
    cases m:a==b
    .rfl
    have:=eq_of_beq m;subst this;simp at f
   simpa [h1,l] using i
theorem bP:∀(x d:List UInt8),(Op.bytesLess x d||x==d)=!Op.bytesLess d x
 | [],[]=>rfl
 | [],_::_=>rfl
 | _::_,[]=>rfl
 | a::x,b::d=>by
  have f:=bP x d;simp only[Op.bytesLess];by_cases h:a=b
  .subst h;have:¬a<a:=by rw[qbg];omega
   simp[this]at f ⊢;exact f
  have h1:a.toNat≠b.toNat:=λc=>h (UInt8.toNat_inj.1 c);have h2:¬b=a:=λc=>h c.symm;by_cases h3:a<b
  .have h4:¬b<a:=by rw[qbg]at*;omega
   simp[h2,h3,h4]
  have h4:b<a:=by rw[qbg]at*;omega
  simp[h,h3,h4]
theorem uj{d:BinOp}{x c:List UInt8}{K:KV}(h:yx d x c K)(t:qT):∃v,K v/\(Go.binOp d t (.string ⟨⟨x⟩⟩) (.string ⟨⟨c⟩⟩)).run P w=.ok v w/\dw v=true:=by
 cases d
 .obtain⟨h1,h2⟩:=aB (b:=Nat.blt (Nat.add x.length c.length) 1000000000) h;have h3:=xP h2;have h4:x.length+c.length<1000000000:=aG.1 h1;refine⟨_,h3,?_,rfl⟩;have h5:(⟨⟨x⟩⟩:ByteArray)++⟨⟨c⟩⟩=⟨⟨x++c⟩⟩:=by
   apply ByteArray.ext;simp
  have f:¬(((⟨⟨x⟩⟩:ByteArray).size+(⟨⟨c⟩⟩:ByteArray).size:Nat):Int)>IntKind.i64.max:=by
   simp only[IntKind.max,IntKind.signed,IntKind.bits,ByteArray.size];simp;omega
  simp only[Go.binOp,Op.stringOp,h5];rw[qae f];rfl
 .exact h.elim
 .exact h.elim
 .exact h.elim
 .exact h.elim
 .exact h.elim
 .exact h.elim
 .exact h.elim
 .exact h.elim
 .exact h.elim
 .exact h.elim
 .exact⟨_,lU (K:=λb=>K (.bool b)) h,by simp[Go.binOp,Op.stringOp],rfl⟩
 .exact⟨_,aS (lU (K:=λb=>bS (!b) K) h),by simp[Go.binOp,Op.stringOp],rfl⟩
 .exact⟨_,jA (K:=λb=>K (.bool b)) h,by simp[Go.binOp,Op.stringOp],rfl⟩
 .refine⟨_,aS (jA (K:=λb=>bS (!b) K) h),?_,rfl⟩;rw[<-bP];simp[Go.binOp,Op.stringOp]
 .refine⟨_,jA (K:=λb=>K (.bool b)) h,?_,rfl⟩;have:=bP x c;simp only[Go.binOp,Op.stringOp,toList_eq,this];simp
 exact⟨_,aS (jA (K:=λb=>bS (!b) K) h),by simp[Go.binOp,Op.stringOp],rfl⟩
end
structure bn(P:Program)(ρ:Nat->Int)(T:Tab):Prop where
 byte:∀i,T.byte i=true->0<=ρ i/\ρ i<256
 bin:∀(X:Cx),X.ρ=ρ->∀op t x y r vx vy w,T.bin op x y=some r->VR X x vx->VR X y vy->∃v,(Go.binOp op t vx vy).run P w=.ok v w/\VR X r v
 conv:∀(X:Cx),X.ρ=ρ->∀k x r k' n,T.conv k x=some r->VR X x (.int k' n)->VR X r (.int k (k.wrap n))
 un:∀(X:Cx),X.ρ=ρ->∀op x r vx w,T.un op x=some r->VR X x vx->∃v,(Op.unary op vx).run P w=.ok v w/\VR X r v
section
variable {P:qp}{T:Tab}{e:Env}{X:Cx}{s:AS}{w:qW}{a:Act}{g:G}{o:Oper}{K:bR}
theorem mK{t:qT}(h:ug P t=true):∃e,P.underlying t=some (.pointer e):=by unfold ug at h;split at h<;>first | exact⟨_,‹_›⟩ | cases h
theorem eD{t:qT}(h:fM P t=true):∃e,P.underlying t=some (.slice e):=by unfold fM at h;split at h<;>first | exact⟨_,‹_›⟩ | cases h
theorem cz{t:qT}(h:jh P t=true):P.underlying t=some .string:=by unfold jh at h;split at h<;>first | assumption | cases h
theorem ji{t:qT}{k:IntKind}(h:jk P t=some k):P.underlying t=some (.int k):=by unfold jk at h;split at h<;>first | (cases h;assumption) | cases h
theorem fB{t:qT}(h:iV P t=true):∃d,P.underlying t=some d:=by unfold iV at h;split at h<;>first | exact⟨_,‹_›⟩ | cases h
theorem dG{t e:qT}(h:elemOf P t=some e):P.underlying t=some (.slice e):=by unfold elemOf at h;split at h<;>first | (cases h;assumption) | cases h
theorem gI{t:qT}{p:TypeId×TypeId}(h:oV P t=some p):P.underlying t=some (.map p.1 p.2):=by unfold oV at h;split at h<;>first | (cases h;assumption) | cases h
theorem iL{t:qT}{p:Nat×TypeId}(h:kZ P t=some p):P.underlying t=some (.array p.1 p.2):=by unfold kZ at h;split at h<;>first | (cases h;assumption) | cases h
theorem gm{t:qT}{b:List Field}(h:structOf P t=some b):∃a:Array Field,a.toList=b/\P.underlying t=some (.struct a):=by unfold structOf at h;split at h<;>first | (cases h;exact⟨_,rfl,‹_›⟩) | cases h
theorem gB{t:qT}{n:Nat}(h:fG P t=some n):∃e,P.underlying t=some (.slice e)/\sizeOf P e=some n:=by
 unfold fG at h;split at h
 .exact⟨_,dG ‹_›,h⟩
 cases h
theorem aA{t:qT}{d:TypeDesc}(h:P.underlying t=some d):(underlying t).run P w=.ok d w:=by simp[underlying,h]
theorem aN{t:qT}{i:TypeInfo}(h:P.info? t=some i):(typeInfo t).run P w=.ok i w:=by simp[typeInfo,h]
theorem xG{c:BinOp}{b:Bool}{K:KV}(h:xH c b K):(c=.eql/\K (.bool b))\/(c=.neq/\K (.bool (!b))):=by
 unfold xH at h;split at h
 .exact .inl ⟨rfl,aS h⟩
 .exact .inr ⟨rfl,aS h⟩
 exact h.elim
theorem nG{d:BinOp}{t:qT}{b:Bool}{K:KV}{i j:qg}{x c:qv}(h:xH d b K)(l:(Op.equalIn (9999+1) t x c).run P w=.ok b w)(hg:(eqGuard d t i j x c).run P w=.ok () w)
  (hb1:Go.binOp .eql t x c=(Op.equal t x c>>=λr=>pure (.bool r))) (hb2:Go.binOp .neq t x c=(Op.equal t x c>>=λr=>pure (.bool (!r)))):
  ∃v u,K v/\(eqGuard d t i j x c>>=λ_=>Go.binOp d t x c).run P w=.ok u w/\VR X v u:=by
 have k:(Op.equal t x c).run P w=.ok b w:=l;obtain⟨e,f⟩ | ⟨e,f⟩:=xG h
 .subst e;exact⟨_,_,f,by rw[hb1];simp[hg,k],rfl⟩
 subst e;exact⟨_,_,f,by rw[hb2];simp[hg,k],rfl⟩
theorem oC{b:BinOp}{t:qT}{c d:qg}{k:IntKind}{n:Int}{f:qv}:(eqGuard b t c d (.int k n) f).run P w=.ok () w:=by
 unfold eqGuard;cases b<;>simp
theorem oz{b:BinOp}{t:qT}{c d:qg}{n:ByteArray}{f:qv}:(eqGuard b t c d (.string n) f).run P w=.ok () w:=by
 unfold eqGuard;cases b<;>simp
theorem jb{b:BinOp}{t:qT}{c d:qg}{n:Option Addr}{f:qv}:(eqGuard b t c d (.pointer n) f).run P w=.ok () w:=by
 unfold eqGuard;cases b<;>simp
end
section
variable {P:qp}{w:qW}{d:Nat}{t:qT}
theorem ve{e:qT}{q:Option Addr}(h:P.underlying t=some (.pointer e)):(Op.equalIn (d+1) t (.pointer none) (.pointer q)).run P w=.ok q.isNone w:=by
 rw[Op.equalIn];simp only[qad,aA h,Result.andThen];rfl
theorem xI{e:qT}{q:Addr}(h:P.underlying t=some (.pointer e)):(Op.equalIn (d+1) t (.pointer (some q)) (.pointer none)).run P w=.ok false w:=by
 rw[Op.equalIn];simp only[qad,aA h,Result.andThen];rfl
end
section
variable {P:qp}{T:Tab}{e:Env}{X:Cx}{s:AS}{w:qW}{a:Act}{g:G}{o:Oper}{K:bR}
theorem mE{p:Addr}{v:qv}(h:VR X (.pointer (some p)) v):∃q,v=.pointer (some q):=by
 obtain⟨i,o,q⟩:=p;cases q with
 | none=>exact⟨_,(bf.1 h).2⟩
 | some _=>exact h.elim
theorem nL(m:bn P X.ρ T){b:BinOp}{t:qT}{i j:qg}{x k c f:qv}{K:KV}(hx:VR X x c)(l:VR X k f)(h:vB P T b t (uP i||uP j) x k K):
  ∃v u,K v/\(eqGuard b t i j c f>>=λ_=>Go.binOp b t c f).run P w=.ok u w/\VR X v u:=by
 unfold vB at h;split at h
 .cases hx;cases l;obtain⟨h1,h2⟩:=aB h;obtain⟨e,h3⟩:=mK h1;exact nG h2 (ve h3) jb rfl rfl
 .cases l;obtain⟨q,rfl⟩:=mE hx;obtain⟨h1,h2⟩:=aB h;obtain⟨e,h3⟩:=mK h1;exact nG h2 (xI h3) jb rfl rfl
 exact h.elim
theorem jf{v:qv}{c:IntKind->Int->Prop}{f:List UInt8->Prop}{i:Prop}(h:tY v c f i):(∃k n,v=.int k n/\c k n)\/(∃l,v=.string ⟨⟨l⟩⟩/\f l)\/i:=by
 cases v with
 | int k n=>exact .inl ⟨_,_,rfl,h⟩
 | string b=>obtain⟨⟨l⟩⟩:=b;exact .inr (.inl ⟨_,rfl,h⟩)
 | _=>exact .inr (.inr h)
theorem vC(j:bn P X.ρ T){c:BinOp}{t:qT}{m p:qg}{x q f i:qv}{K:KV}(hx:VR X x f)(b:VR X q i)(h:yS P T c t (uP m||uP p) x q K):
  ∃v u,K v/\(eqGuard c t m p f i>>=λ_=>Go.binOp c t f i).run P w=.ok u w/\VR X v u:=by
 obtain⟨k,n,rfl,h1⟩ | ⟨l,rfl,h1⟩ | h1:=jf h
 .obtain⟨k',n',rfl,h2⟩ | ⟨l,rfl,h2⟩ | h2:=jf h1
  .cases hx;cases b;obtain⟨v,h3,h4,h5⟩:=rY (P:=P) (w:=w) h2 t;exact⟨v,v,h3,by simp[oC,h4],dD X h5⟩
  .exact h2.elim
  exact nL j hx b h2
 .obtain⟨l',rfl,h2⟩:=mH h1;cases hx;cases b;obtain⟨v,h3,h4,h5⟩:=uj (P:=P) (w:=w) h2 t;exact⟨v,v,h3,by simp[oz,h4],dD X h5⟩
 exact nL j hx b h1
theorem tu(j:bn P X.ρ T)(b:Rel X s w)(hg:GR X g a){c:BinOp}{t f:qT}{x i:qg}(ho:o.op=.binOp c t x i f)(h:xm c t x i f P T e s g K):aP P o a X s w K:=by
 obtain⟨v,h1,h2⟩:=aD b hg h;obtain⟨l,h3,h4⟩:=aD b hg h1;obtain⟨r,u,h5,k,h7⟩:=vC (w:=w) j h2 h4 h3;refine .quiet b h5 (u:=u) ?_ h7;simp only[execOp,ho];rw[qad,k];rfl
theorem wH(f:bn P X.ρ T){b:UnOp}{x c:qv}{K:KV}(hx:VR X x c)(h:zn T b x K):∃v u,K v/\(Op.unary b c).run P w=.ok u w/\VR X v u:=by
 unfold zn at h;split at h
 .cases hx;exact⟨_,_,aS h,by simp[Op.unary],rfl⟩
 exact h.elim
theorem vK(f:bn P X.ρ T)(b:Rel X s w)(hg:GR X g a){c:UnOp}{t:qT}{x:qg}(ho:o.op=.unOp c t x)(h:zJ c t x P T e s g K):aP P o a X s w K:=by
 obtain⟨v,h1,h2⟩:=aD b hg h;obtain⟨r,u,h5,i,h7⟩:=wH (P:=P) (w:=w) f h2 h1;exact .quiet b h5 (u:=u) (by simp[execOp,ho,i]) h7
theorem nE(c:Rel X s w)(hg:GR X g a){fn:Fn}{x b:Array qg}(ho:o.op=.makeFunc fn x b)(h:rR fn x b P T e s g K):aP P o a X s w K:=by
 cases fn with
 | func f=>obtain⟨i,h1,h2⟩:=gK c hg (l:=x.toList) h;obtain⟨us,h3,h4⟩:=gK c hg (l:=b.toList) h1;refine .quiet c h3 (u:=.func (.func f) (x.map a.eval) (b.map a.eval)) ?_ (eO.2 ⟨_,_,rfl,by simpa using h2,by simpa using h4⟩);simp[execOp,ho,Instr.makeFunc]
 | _=>exact h.elim
theorem iI(b:Rel X s w)(hg:GR X g a){x:qg}{i:Nat}(ho:o.op=.extract x i)(h:iD x i P T e s g K):aP P o a X s w K:=by
 obtain⟨v,h1,h2⟩:=aD b hg h;obtain⟨l,rfl,h3⟩:=tX h1;obtain⟨v,h4,h5⟩:=jr h3;obtain⟨cs,c,h7⟩:=bE.1 h2;obtain⟨u,f,j⟩:=h7.get h4;refine .quiet b h5 (u:=u) ?_ j;have k:cs[i]?=some u:=by simpa using f
 simp[execOp,ho,Instr.extract,c,k]
theorem gQ{b:Type}{l:List b}{K:b->Prop}(h:og l K):∃x,l=[x]/\K x:=by
 unfold og at h;split at h
 .exact⟨_,rfl,h⟩
 exact h.elim
theorem jg{b:Type}{l:List b}{K:b->b->Prop}(h:two l K):∃x c,l=[x,c]/\K x c:=by
 unfold two at h;split at h
 .exact⟨_,_,rfl,h⟩
 exact h.elim
theorem jG{b:Type}{l:List b}{K:b->b->Prop}(h:sD l K):∃x c r,l=x::c::r/\K x c:=by
 unfold sD at h;split at h
 .exact⟨_,_,_,rfl,h⟩
 exact h.elim
theorem iH{t:qT}{i:Nat}{f:Field}(h:fieldAt P t i=some f):∃b:Array Field,P.underlying t=some (.struct b)/\b[i]?=some f:=by
 unfold fieldAt at h;split at h
 .obtain⟨b,h1,h2⟩:=gm ‹_›;exact⟨b,h2,by rw[<-h1]at h;simpa using h⟩
 cases h
theorem kU{t:qT}{i k:Nat}(h:iG P t i=some k):∃f n,fieldAt P t i=some f/\sizeOf P f.type=some (n+1)/\k=f.offset:=by
 unfold iG at h;split at h
 .split at h
  .cases h;exact⟨_,_,‹_›,‹_›,rfl⟩
  cases h
 cases h
theorem jc(c:Rel X s w)(hg:GR X g a){t:qT}{x:qg}{f:Nat}(ho:o.op=.fieldAddr t x f)(h:jD t x f P T e s g K):aP P o a X s w K:=by
 obtain⟨v,h1,h2⟩:=aD c hg h;obtain⟨i,off,rfl,h3⟩:=fu h1;obtain⟨k,h4,h5⟩:=aH h3;have h5:=aK h5;obtain⟨d,n,l,h7,rfl⟩:=kU h4;obtain⟨y,m,p⟩:=iH l;obtain⟨q,r⟩:=bf.1 h2;refine .quiet c h5 (u:=.pointer (some ⟨(X.j i).b,(X.j i).base+off+d.offset,none⟩)) ?_ (bf.2 ⟨q,by rw[qbi];rfl⟩);simp[execOp,ho,Instr.fieldAt,aA m,p,r,Instr.sureAddr,fieldPlace,aM h7,addr_add]
theorem mV{t:qT}{l:qV}{cs:Array qv}{off:Nat}{K:KV}(hl:aO X l cs.toList)(h:part P t l off K):∃v u,K v/\(Go.part t cs off).run P w=.ok u w/\VR X v u:=by
 obtain⟨b,h1,h2⟩:=aH h;obtain⟨rfl,h3⟩ | ⟨rfl,h3⟩:=aI h2
 .obtain⟨n,h4,h5⟩:=aH h3;obtain⟨c,h7⟩:=kW h5;obtain⟨d,f⟩:=jY h7;refine⟨_,.agg (cs.extract off (off+n)),f,by simp[Go.part,eG h1,aM h4],fe.2 ⟨_,rfl,?_⟩⟩;have:=(hl.drop off).take n;simpa [Array.toList_extract,List.extract] using this
 obtain⟨v,h4,h5⟩:=jr h3;obtain⟨u,c,h7⟩:=hl.get h4;have d:cs[off]?=some u:=by simpa using c
 exact⟨v,u,h5,by simp[Go.part,eG h1,d],h7⟩
theorem kT(b:Rel X s w)(hg:GR X g a){t:qT}{x:qg}{f:Nat}(ho:o.op=.field t x f)(h:lY t x f P T e s g K):aP P o a X s w K:=by
 obtain⟨v,h1,h2⟩:=aD b hg h;obtain⟨l,rfl,h3⟩:=tZ h1;obtain⟨n,h4,h5⟩:=aH h3;obtain⟨cs,c,h7⟩:=fe.1 h2;obtain⟨p,d,i⟩:=iH h4;obtain⟨v,u,j,k,m⟩:=mV (P:=P) (w:=w) h7 h5;refine .quiet b j (u:=u) ?_ m;simp[execOp,ho,Instr.field,aA d,i,c,asAgg,k]
theorem ja(p:Rel X s w)(hg:GR X g a){t:qT}{x z:qg}(ho:o.op=.indexAddr t x z)(h:jC t x z P T e s g K):aP P o a X s w K:=by
 obtain⟨v,h1,h2⟩:=aD p hg h;obtain⟨k,i,rfl,h3⟩:=eB h1;obtain⟨v,h4,h5⟩:=aD p hg h3;rw[dY]at h2;obtain⟨id,off,sz,len,cap,rfl,d⟩ | ⟨_,_,rfl,d⟩ | ⟨id,off,rfl,d⟩ | ⟨_,rfl,d⟩ | ⟨_,rfl,d⟩ | ⟨_,_,_,_,_,_,rfl,d⟩:=cu h4
 .obtain⟨n,h7,h8⟩:=aH d;obtain⟨f,l⟩:=aB h8;have l:=aK l;simp only[qab]at f;obtain rfl:=qaa f.1;have m:=aG.1 f.2;obtain⟨D,q,r⟩:=gB h7;obtain⟨y,A,c,B,_⟩:=aT.1 h5;refine .quiet p l (u:=.pointer (some ⟨(X.j id).b,(X.j id).base+off+i*n,none⟩)) ?_ (bf.2 ⟨y,by rw[qbi];rfl⟩);have E:(0:Int)<=Int.ofNat i/\Int.ofNat i<(len:Int):=⟨by simp,by simp;omega⟩;simp[execOp,ho,Instr.indexAt,h2,B,asIntOf,aA q,aM r,addr_add,m]
 .exact d.elim
 .obtain⟨ar,h7,h8⟩:=aH d;obtain⟨sz,f,l⟩:=aH h8;obtain⟨C,m⟩:=aB l;have m:=aK m;have q:=aG.1 C;have r:=iL h7;obtain⟨y,A⟩:=bf.1 h5;refine .quiet p m (u:=.pointer (some ⟨(X.j id).b,(X.j id).base+off+i*sz,none⟩)) ?_ (bf.2 ⟨y,by rw[qbi];rfl⟩);simp[execOp,ho,Instr.indexAt,h2,A,asIntOf,aA r,aM f,addr_add,Instr.sureAddr,q]
 .exact d.elim
 .exact d.elim
 exact d.elim
theorem kM(f:Rel X s w)(hg:GR X g a){t:qT}{x A:qg}(ho:o.op=.index t x A)(h:lX t x A P T e s g K):aP P o a X s w K:=by
 obtain⟨v,h1,h2⟩:=aD f hg h;obtain⟨k,i,rfl,h3⟩:=eB h1;obtain⟨v,h4,h5⟩:=aD f hg h3;rw[dY]at h2;obtain⟨_,_,_,l,_,rfl,c⟩ | h4:=mG h4
 .obtain⟨h7,h8⟩:=aB c;obtain⟨v,j,d⟩:=jr h8;obtain⟨m,n,q⟩:=tN.1 h5;obtain⟨u,p,r⟩:=q.get j;have B:i<m.data.toList.length:=by simpa using (qax.1 p).1
  have y:u=.int .u8 (m.data.toList[i]).toNat:=by
   rw[List.getElem?_map,qak B]at p;simpa using p.symm
  subst y;have z:m[i]?=some (m.data.toList[i]):=by
   obtain⟨⟨C⟩⟩:=m;rw[ByteArray.getElem?_lt' (⟨⟨C⟩⟩:ByteArray) i B];rfl
  refine .quiet f d ?_ r;simp[execOp,ho,Instr.index,h2,n,asIntOf,aA (cz h7),z]
 obtain⟨id,off,sz,len,cap,rfl,c⟩ | ⟨_,_,rfl,c⟩ | ⟨id,off,rfl,c⟩ | ⟨l,rfl,c⟩ | ⟨l,rfl,c⟩ | ⟨_,_,_,_,_,_,rfl,c⟩:=cu h4
 .exact c.elim
 .exact c.elim
 .exact c.elim
 .obtain⟨h7,h8⟩:=aB c;obtain⟨b,j,d⟩:=uH h8;have d:=aK d;rw[bW]at h5;refine .quiet f d (u:=.int .u8 b.toNat) ?_ rfl;have n:(⟨⟨l⟩⟩:ByteArray)[i]?=some b:=by
   obtain⟨hn,D⟩:=qax.1 j;rw[ByteArray.getElem?_lt' (⟨⟨l⟩⟩:ByteArray) i hn];exact congrArg some D
  simp[execOp,ho,Instr.index,h2,h5,asIntOf,aA (cz h7),n]
 .obtain⟨ar,h7,h8⟩:=aH c;obtain⟨sz,j,d⟩:=aH h8;obtain⟨n,q⟩:=aB d;have p:=aG.1 n;obtain⟨cs,r,y⟩:=fe.1 h5;obtain⟨v,u,z,E,F⟩:=mV (P:=P) (w:=w) y q;refine .quiet f z (u:=u) ?_ F;have H:(Go.part ar.2 cs (i*sz)).run P w=.ok u w:=E;simp[execOp,ho,Instr.index,h2,r,asIntOf,aA (iL h7),aM j,p,H]
 exact c.elim
theorem mW(c:Rel X s w)(hg:GR X g a){x:Option qg}{d:Nat}{K:Nat->Prop}(h:wW x d g K):∃n,K n/\((x=none/\n=d)\/∃b k,x=some b/\a.eval b=.int k (n:Int)):=by
 cases x with
 | none=>exact⟨d,aK h,.inl ⟨rfl,rfl⟩⟩
 | some b=>obtain⟨v,h1,h2⟩:=aD c hg h;obtain⟨k,n,rfl,h3⟩:=eB h1;exact⟨n,h3,.inr ⟨b,k,rfl,h2⟩⟩
theorem eH{k:IntKind}{n b:Nat}{c:BoundsCode}(h:n<=b):(Instr.sliceBound (.int k (n:Int)) b c).run P w=.ok n w:=by
 have:(0:Int)<=(n:Int)/\(n:Int)<=(b:Int):=⟨by omega,by omega⟩;simp[Instr.sliceBound,asIntOf,h]
theorem mq{b:Bool}{len cap l h:Nat}{d f:Option qg}(h1:(d=none/\l=0)\/∃c k,d=some c/\a.eval c=.int k (l:Int))(h2:(f=none/\h=len)\/∃c k,f=some c/\a.eval c=.int k (h:Int))
  (i:l<=h) (hc:h<=cap):(Instr.sliceBounds b len cap (d.map a.eval) (f.map a.eval) none).run P w=.ok (l,h,cap) w:=by
 obtain⟨rfl,rfl⟩ | ⟨c,k,rfl,h2⟩:=h2
 .obtain⟨rfl,rfl⟩ | ⟨j,m,rfl,h1⟩:=h1
  .simp[Instr.sliceBounds]
  simp[Instr.sliceBounds,h1,eH i]
 obtain⟨rfl,rfl⟩ | ⟨j,m,rfl,h1⟩:=h1
 .simp[Instr.sliceBounds,h2,eH hc]
 simp[Instr.sliceBounds,h1,h2,eH i,eH hc]
theorem jZ(d:Rel X s w)(hg:GR X g a){t:qT}{x:qg}{i j f:Option qg}(ho:o.op=.slice t x i j f)(h:lW t x i j f P T e s g K):aP P o a X s w K:=by
 obtain⟨h0,h⟩:=aB h;have m:f=none:=by simpa using h0
 subst m;obtain⟨v,h1,h2⟩:=aD d hg h;obtain⟨l,h3,h4⟩:=mW d hg h1;obtain⟨id,off,sz,len,cap,rfl,c⟩ | ⟨_,_,rfl,c⟩ | ⟨id,off,rfl,c⟩ | ⟨q,rfl,c⟩ | ⟨_,rfl,c⟩ | ⟨_,_,_,_,_,_,rfl,c⟩:=cu h3;iterate 3 exact c.elim
 .obtain⟨h7,h8⟩:=aB c;obtain⟨k,n,p⟩:=mW d hg h8;obtain⟨r,y⟩:=aB n;have hl:=qay r;obtain⟨E,z⟩:=vg y;obtain⟨A,B⟩:=mJ z;rw[bW]at h2;have C:k<=q.length:=by simp at A;omega
  have D:=mq (P:=P) (w:=w) (a:=a) (b:=false) (cap:=(⟨⟨q⟩⟩:ByteArray).size) (len:=(⟨⟨q⟩⟩:ByteArray).size) h4 p hl C;refine .quiet d B (u:=.string ((⟨⟨q⟩⟩:ByteArray).extract l k)) ?_ ?_
  .simp only[execOp,ho,Instr.sliceAt,qad,aA (cz h7),Result.andThen,Instr.slice,h2];simp[D]
  rw[bW];congr 1
  apply ByteArray.ext;simp[ByteArray.data_extract,List.extract]
 .exact c.elim
 exact c.elim
end
end Go.Proofs.YtfkcodlceoghpaaGreatDoor.Zev
