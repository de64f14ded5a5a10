import Derived.Test.YtdaafkmhfedkiaaGreatX8
namespace Go.Proofs.YtdaafkmhfedkiaaGreat
set_option maxHeartbeats 1600000
open Go.RowKit Go.Proofs.Tryz
structure uk where
 word:Nat
 takes:List Nat
 dH:List Nat
 dK:Nat
 cut:Bool
structure Bd where
 di:List Nat
 dh:List uk
 at_:Nat
def uk.none:uk:=⟨0,[],[],0,false⟩
def Bd.dJ(Z:Bd):uk:=Z.dh.headD uk.none
def fT(x:Int×Nat)(many:Nat):Except Err Nat:=if x.1<(many:Int) then .ok x.1.toNat else .error (3,x.2)
def iX(bl:uk)(at_:Nat)(stk:List Nat):Except Err (Nat×List Nat):=
 if stk.length=bl.dK then(if bl.cut then .ok (0,stk) else .error (4,at_))
 else .ok (stk.getD (stk.length - 1) 0,stk.take (stk.length - 1))
def iH(bl:uk)(at_:Nat)(ks:List Nat):Nat->List Nat->Except Err (List Nat)
 | 0,stk=>.ok stk
 | i+1,stk=>match iX bl at_ stk with
  | .error e=>.error e
  | .ok (got,ahl)=>if got≠ks.getD i 0/\got≠0 then .error (4,at_) else iH bl at_ ks i ahl
def dP(Z:Bd)(ks:List Nat):Except Err Bd:=
 match iH Z.dJ Z.at_ ks ks.length Z.di with
 | .error e=>.error e
 | .ok stk=>.ok {Z with di:=stk}
def gQ(Z:Bd)(ks:List Nat):Bd:={Z with di:=Z.di++ks}
def gU(Z:Bd):Bd:={Z with di:=Z.di.take Z.dJ.dK,dh:={Z.dJ with cut:=true}::Z.dh.tail}
def jR(word:Nat)(t:Ty)(Z:Bd):Except Err Bd:=
 match dP Z t.ins with
 | .error e=>.error e
 | .ok st1=>.ok {st1 with dh:=⟨word,t.ins,t.outs,st1.di.length,false⟩::st1.dh,di:=st1.di++t.ins}
def jX(Z:Bd):Except Err (uk×Bd):=
 match dP Z Z.dJ.dH with
 | .error e=>.error e
 | .ok st1=>if st1.di.length=Z.dJ.dK then .ok (Z.dJ,{st1 with dh:=st1.dh.tail}) else .error (4,Z.at_)
def eU(b:uk):List Nat:=if b.word=3 then b.takes else b.dH
def jB(Z:Bd)(x:Int×Nat):Except Err (List Nat):=
 match fT x Z.dh.length with
 | .error e=>.error e
 | .ok k=>.ok (eU (Z.dh.getD k uk.none))
def kG(m:fE)(x:Int×Nat):Except Err Ty:=
 match fT x m.dm.length with
 | .error e=>.error e
 | .ok k=>.ok (m.dm.getD k ⟨[],[]⟩)
def fM(m:fE)(f:Nat):Ty:=m.dm.getD (m.funcs.getD f (0,0)).1.toNat ⟨[],[]⟩
def fJ(m:fE)(y:ic):Except Err Ty:=if y.typed then kG m y.num else .ok ⟨[],y.dH⟩
def rC(t:Ty)(Z:Bd):Except Err Bd:=
 match dP Z t.ins with
 | .error e=>.error e
 | .ok st1=>.ok (gQ st1 t.outs)
def fe(m:fE)(x:Nat)(y:ic)(Z:Bd):Except Err Bd:=
 if x=0 then .ok (gU Z)
 else if x=2\/x=3 then
  match fJ m y with
  | .error e=>.error e
  | .ok t=>jR x t Z
 else if x=4 then
  match fJ m y with
  | .error e=>.error e
  | .ok t=>match dP Z [127] with
   | .error e=>.error e
   | .ok st1=>jR 4 t st1
 else if x=5 then
  match jX Z with
  | .error e=>.error e
  | .ok (left,st1)=>jR 5 ⟨left.takes,left.dH⟩ (gQ st1 left.takes)
 else if x=11 then
  match jX Z with
  | .error e=>.error e
  | .ok (left,st1)=>if left.word=4/\left.takes≠left.dH then .error (4,Z.at_) else .ok (gQ st1 left.dH)
 else .ok Z
def jm(Z:Bd):List (Int×Nat)->List (List Nat)->Except Err (List (List Nat))
 | [],M=>.ok M
 | x::xs,M=>match jB Z x with
  | .error e=>.error e
  | .ok ks=>jm Z xs (M++[ks])
def nE(Z:Bd)(last:List Nat):List (List Nat)->Except Err Unit
 | []=>.ok ()
 | ks::rest=>if ks.length≠last.length then .error (4,Z.at_) else
  match dP Z ks with
  | .error e=>.error e
  | .ok _=>nE Z last rest
def iM(y:ic)(Z:Bd):Except Err Bd:=
 match jm Z y.dF [] with
 | .error e=>.error e
 | .ok others=>match jB Z y.num with
  | .error e=>.error e
  | .ok last=>match dP Z [127] with
   | .error e=>.error e
   | .ok st1=>match nE st1 last others with
    | .error e=>.error e
    | .ok _=>match dP st1 last with
     | .error e=>.error e
     | .ok st2=>.ok (gU st2)
def eT(m:fE)(x:Nat)(y:ic)(Z:Bd):Except Err Bd:=
 if x=12 then
  match jB Z y.num with
  | .error e=>.error e
  | .ok ks=>match dP Z ks with
   | .error e=>.error e
   | .ok st1=>.ok (gU st1)
 else if x=13 then
  match jB Z y.num with
  | .error e=>.error e
  | .ok ks=>match dP Z [127] with
   | .error e=>.error e
   | .ok st1=>match dP st1 ks with
    | .error e=>.error e
    | .ok st2=>.ok (gQ st2 ks)
 else if x=14 then iM y Z
 else if x=15 then
  match dP Z (Z.dh.getD (Z.dh.length - 1) uk.none).dH with
  | .error e=>.error e
  | .ok st1=>.ok (gU st1)
 else if x=16 then
  match fT y.num m.funcs.length with
  | .error e=>.error e
  | .ok f=>rC (fM m f) Z
 else if x=17 then
  if m.tables.length=0 then .error (3,Z.at_) else
  match kG m y.num with
  | .error e=>.error e
  | .ok t=>match dP Z [127] with
   | .error e=>.error e
   | .ok st1=>rC t st1
 else .ok Z
def fQ(Z:Bd):Except Err (Nat×Bd):=
 match iX Z.dJ Z.at_ Z.di with
 | .error e=>.error e
 | .ok (k,stk)=>.ok (k,{Z with di:=stk})
def gZ(Z:Bd):Except Err Bd:=
 match dP Z [127] with
 | .error e=>.error e
 | .ok st1=>match fQ st1 with
  | .error e=>.error e
  | .ok (second,st2)=>match fQ st2 with
   | .error e=>.error e
   | .ok (first,st3)=>if second≠0/\second≠(if first=0 then second else first) then .error (4,Z.at_) else .ok (gQ st3 [if first=0 then second else first])
def iw(m:fE)(x:Int×Nat):Except Err MF:=
 match fT x m.dB.length with
 | .error e=>.error e
 | .ok k=>.ok (m.dB.getD k ⟨0,false,⟨0,0,0⟩⟩)
def iD(ls:List Nat)(x:Nat)(y:ic)(Z:Bd):Except Err Bd:=
 match fT y.num ls.length with
 | .error e=>.error e
 | .ok k=>match(if x=32 then .ok Z else dP Z [ls.getD k 0]) with
  | .error e=>.error e
  | .ok st1=>if x=33 then .ok st1 else .ok (gQ st1 [ls.getD k 0])
def fG(m:fE)(ls:List Nat)(x:Nat)(y:ic)(Z:Bd):Except Err Bd:=
 if x=26 then
  match fQ Z with
  | .error e=>.error e
  | .ok (_,st1)=>.ok st1
 else if x=27 then gZ Z
 else if x=35 then
  match iw m y.num with
  | .error e=>.error e
  | .ok g=>.ok (gQ Z [g.kind])
 else if x=36 then
  match iw m y.num with
  | .error e=>.error e
  | .ok g=>if g.xM then dP Z [g.kind] else .error (4,Z.at_)
 else iD ls x y Z
def vk(x:Nat):Int:=if x=44\/x=45\/x=58 then 0 else if x=41\/x=55 then 3 else 2
def p9(x k:Nat)(y:ic)(Z:Bd):Except Err Bd:=
 if vk x<y.align then .error (4,Z.at_) else
 match dP Z [127] with
 | .error e=>.error e
 | .ok st1=>.ok (gQ st1 [k])
def mM(x k:Nat)(y:ic)(Z:Bd):Except Err Bd:=
 if vk x<y.align then .error (4,Z.at_) else dP Z [127,k]
def fD(m:fE)(x:Nat)(y:ic)(Z:Bd):Except Err Bd:=
 if m.jT.length=0 then .error (3,Z.at_)
 else if x=63 then .ok (gQ Z [127])
 else if x=64 then
  match dP Z [127] with
  | .error e=>.error e
  | .ok st1=>.ok (gQ st1 [127])
 else if x=41 then p9 x 126 y Z
 else if x=40\/x=44\/x=45 then p9 x 127 y Z
 else if x=55 then mM x 126 y Z
 else if x=54\/x=58 then mM x 127 y Z
 else .ok Z
def kK(puts:Nat)(takes:List Nat)(Z:Bd):Except Err Bd:=
 match dP Z takes with
 | .error e=>.error e
 | .ok st1=>.ok (gQ st1 [puts])
def kz(x:Nat)(Z:Bd):Except Err Bd:=
 if x=65 then .ok (gQ Z [127])
 else if x=66 then .ok (gQ Z [126])
 else if x=69 then kK 127 [127] Z
 else if x<=79 then kK 127 [127,127] Z
 else if x=80 then kK 127 [126] Z
 else if x<=90 then kK 127 [126,126] Z
 else if x<=105 then kK 127 [127] Z
 else if x<=120 then kK 127 [127,127] Z
 else if x<=123 then kK 126 [126] Z
 else if x<=138 then kK 126 [126,126] Z
 else if x=167 then kK 127 [126] Z
 else kK 126 [127] Z
def fI(m:fE)(ls:List Nat)(x:Nat)(y:ic)(Z:Bd):Except Err Bd:=
 if x<=11 then fe m x y Z
 else if x<=17 then eT m x y Z
 else if x<=36 then fG m ls x y Z
 else if x<=64 then fD m x y Z
 else kz x Z
def tu(m:fE)(ls:List Nat)(s:qS)(n:Nat):Nat->List Nat->Nat->Bd->Except Err Unit
 | 0,_,_,_=>.error (2,n)
 | fuel+1,os,j,Z=>
  match lD s n j with
  | .error e=>.error e
  | .ok (x,j1)=>
   match(if x=11/\os=[] then .ok os else je os j x) with
   | .error e=>.error e
   | .ok os'=>
    match jc j x s n j1 with
    | .error e=>.error e
    | .ok (y,e)=>
     match fI m ls x y {Z with at_:=j} with
     | .error e=>.error e
     | .ok J=>if x=11/\os=[] then .ok () else tu m ls s n fuel os' e J
def jv(s:qS)(m:fE)(f:Nat):Except Err Unit:=
 tu m ((fM m f).ins++(m.dQ.getD f ([],0,0)).1) s (m.dQ.getD f ([],0,0)).2.2 ((m.dQ.getD f ([],0,0)).2.2 - (m.dQ.getD f ([],0,0)).2.1) [] (m.dQ.getD f ([],0,0)).2.1
  ⟨[],[⟨2,[],(fM m f).outs,0,false⟩],0⟩
def dV{α:Type}(f:α->Except Err Unit):List α->Except Err Unit
 | []=>.ok ()
 | x::xs=>match f x with
  | .error e=>.error e
  | .ok _=>dV f xs
def iT(many:Nat)(x:Int×Nat):Except Err Unit:=if x.1<(many:Int) then .ok () else .error (3,x.2)
def nG(most:Int)(x:Hf):Except Err Unit:=if most<x.least\/(x.has=true/\(x.most<x.least\/most<x.most)) then .error (5,x.at_) else .ok ()
def kE(k:Nat)(c:Cst):Except Err Unit:=if c.kind=k then .ok () else .error (4,c.at_)
def uV(m:fE)(Tc:Nat):Nat:=if Tc=0 then m.funcs.length else if Tc=1 then m.tables.length else if Tc=2 then m.jT.length else m.dB.length
def gJ(m:fE)(i:Nat):Except Err Unit:=
 match m.dw[i]? with
 | none=>.ok ()
 | some e=>if(m.dw.take i).any (fun e'=>decide (e'.name.data.toList=e.name.data.toList)) then .error (6,e.nameAt) else iT (uV m e.Tc) e.idx
def jk(m:fE)(x:Int×Nat):Except Err Unit:=
 match fT x m.funcs.length with
 | .error e=>.error e
 | .ok f=>if(fM m f).ins.length=0/\(fM m f).outs.length=0 then .ok () else .error (4,x.2)
def lC(m:fE)(e:Qi):Except Err Unit:=
 if m.tables.length=0 then .error (3,e.at_) else
 match kE 127 e.place with
 | .error q=>.error q
 | .ok _=>dV (iT m.funcs.length) e.funcs
def mI(m:fE)(d:Dat):Except Err Unit:=if m.jT.length=0 then .error (3,d.at_) else kE 127 d.place
def nI(a b:Except Err Unit):Except Err Unit:=match a with
 | .error e=>.error e
 | .ok _=>b
def Px(s:qS)(m:fE):Except Err Unit:=
 nI (dV (iT m.dm.length) m.funcs) <|
 nI (dV (nG 20) m.tables) <|
 nI (dV (nG 16) m.jT) <|
 nI (dV (fun g=>kE g.kind g.first) m.dB) <|
 nI (dV (gJ m) (List.range m.dw.length)) <|
 nI (dV (jk m) m.starts) <|
 nI (dV (lC m) m.elems) <|
 nI (dV (jv s m) (List.range m.dQ.length)) <|
 dV (mI m) m.data
def KQ:List uk->Nat->Prop
 | [],_=>True
 | b::bs,n=>b.dK<=n/\KQ bs b.dK
theorem KQ.le:∀{a:List uk} {n m:Nat},KQ a n->n<=m->KQ a m
 | [],_,_,_,_=>trivial
 | _::_,_,_,h,hm=>⟨Nat.le_trans h.1 hm,h.2⟩
structure Tidy(Z:Bd):Prop where
 rZ:KQ Z.dh Z.di.length
 short:∀b∈Z.dh,b.takes.length<=8/\b.dH.length<=8
theorem Tidy.dK{Z:Bd}(h:Tidy Z):Z.dJ.dK<=Z.di.length:=by
 obtain⟨stk,c,a⟩:=Z;cases c with
 | nil=>exact qZ
 | cons b c=>exact h.rZ.1
theorem qi{bl:uk}{a k:Nat}{stk b:qM}(hf:bl.dK<=stk.length)(h:iX bl a stk=.ok (k,b)):bl.dK<=b.length/\b.length<=stk.length/\b=stk.take b.length:=by
 unfold iX at h;split at h
 .split at h<;>cases h;exact⟨hf,qR,qs⟩
 cases h;rename_i c;refine⟨qt,qs,?_⟩;simp
theorem Du{bl:uk}{a q p:Nat}{stk:qM}(h:iX bl a stk=.error (q,p)):q=4/\p=a:=by
 unfold iX at h;split at h
 .split at h<;>cases h;exact⟨rfl,rfl⟩
 cases h
theorem OP{bl:uk}{a:Nat}{ks:qM}:∀(i:Nat) {stk b:qM},bl.dK<=stk.length->iH bl a ks i stk=.ok b->bl.dK<=b.length/\b.length<=stk.length/\b=stk.take b.length:=by
 intro i;induction i with
 | zero=>intro stk b hf h;simp[iH] at h;subst h;exact⟨hf,qR,qs⟩
 | succ i j=>
  intro stk b hf h;unfold iH at h;rcases c:iX bl a stk with e|⟨l,m⟩
  .rw[c] at h;cases h
  rw[c] at h;simp only at h;have U:=qi hf c;split at h
  .cases h
  have L:=j U.1 h;refine⟨L.1,qo,?_⟩;rw[L.2.2,U.2.2,List.take_take];congr 1
  have:=L.2.1;simp;omega
theorem TG{bl:uk}{a:Nat}{ks:qM}:∀(i:Nat) {stk:qM} {q p:Nat},iH bl a ks i stk=.error (q,p)->q=4/\p=a:=by
 intro i;induction i with
 | zero=>intro stk q p h;simp[iH] at h
 | succ i c=>
  intro stk q p h;unfold iH at h;rcases b:iX bl a stk with e|⟨j,l⟩
  .rw[b] at h;cases h;exact Du b
  rw[b] at h;simp only at h;split at h
  .cases h;exact⟨rfl,rfl⟩
  exact c h
theorem eH{Z J:Bd}{ks:qM}(hf:Z.dJ.dK<=Z.di.length)(h:dP Z ks=.ok J):J.dh=Z.dh/\J.at_=Z.at_/\Z.dJ.dK<=J.di.length/\J.di.length<=Z.di.length/\J.di=Z.di.take J.di.length:=by
 unfold dP at h;rcases a:iH Z.dJ Z.at_ ks ks.length Z.di with e|stk
 .rw[a] at h;cases h
 rw[a] at h;cases h;have:=OP _ hf a;exact⟨rfl,rfl,this⟩
theorem xB{Z:Bd}{ks:qM}{q p:Nat}(h:dP Z ks=.error (q,p)):q=4/\p=Z.at_:=by
 unfold dP at h;rcases a:iH Z.dJ Z.at_ ks ks.length Z.di with e|stk
 .rw[a] at h;cases h;exact TG _ a
 rw[a] at h;cases h
theorem Tidy.take{Z J:Bd}{ks:qM}(c:Tidy Z)(h:dP Z ks=.ok J):Tidy J:=by
 obtain⟨U,-,h3,-,-⟩:=eH c.dK h;obtain⟨stk,e,a⟩:=Z;obtain⟨j,i,l⟩:=J;simp only at U;subst U;cases i with
 | nil=>exact⟨trivial,qs⟩
 | cons b e=>exact⟨⟨h3,c.rZ.2⟩,c.short⟩
theorem Tidy.put{Z:Bd}(a:Tidy Z)(ks:qM):Tidy (gQ Z ks):=⟨a.rZ.le (by simp[gQ]),a.short⟩
theorem Tidy.CV{Z:Bd}(e:Tidy Z)(hb:Z.dh≠[]):Tidy (gU Z):=by
 have hf:=e.dK;obtain⟨stk,h,a⟩:=Z;cases h with
 | nil=>exact absurd rfl hb
 | cons b h=>
  simp only[Bd.dJ,List.headD_cons] at hf;refine⟨⟨?_,e.rZ.2⟩,?_⟩
  .simp[gU,Bd.dJ];omega
  intro c hc;simp[gU,Bd.dJ] at hc;rcases hc with rfl | hc
  .exact e.short b qs
  exact e.short c (by simp[hc])
def eD(N:Nat)(d:Int)(k:Nat)(f:Bd->Except Err Bd):Prop:=∀Z,Tidy Z->Z.dh≠[]->Z.at_<=N->
 (∀q p,f Z=.error (q,p)->(q=3\/q=4)/\p<=N)/\∀J,f Z=.ok J->Tidy J/\J.at_=Z.at_/\J.di.length<=Z.di.length+k/\(J.dh.length:Int)=Z.dh.length+d
section
variable {N:Nat} {d:Int} {k k':Nat} {f g:Bd->Except Err Bd}
theorem eD.then(hf:eD N 0 k f)(i:eD N d k' g){F:Bd->Except Err Bd}(j:∀Z e,f Z=.error e->F Z=.error e)(X:∀Z st1,f Z=.ok st1->F Z=g st1):eD N d (k+k') F:=by
 intro Z l hb m;obtain⟨U,L⟩:=hf Z l hb m;rcases a:f Z with⟨q,p⟩|st1
 .rw[j _ _ a];exact⟨fun s p' h=>by cases h;exact U _ _ a,fun _ h=>by cases h⟩
 obtain⟨n,t,l1,b⟩:=L _ a;have o:st1.dh≠[]:=by
  intro c;rw[c] at b;have:Z.dh.length≠0:=by simpa using hb
  simp at b;omega
 obtain⟨h3,h4⟩:=i st1 n o qo;rw[X _ _ a];refine⟨h3,fun J h=>?_⟩;obtain⟨r,u,l2,v⟩:=h4 _ h;exact⟨r,qo,qo,qo⟩
theorem eD.take(ks:qM):eD N 0 0 (fun Z=>dP Z ks):=by
 intro Z a hb b;refine⟨fun q p h=>?_,fun J h=>?_⟩
 .have:=xB h;exact⟨.inr this.1,qo⟩
 have:=eH a.dK h;exact⟨a.take h,this.2.1,qo,by rw[this.1];simp⟩
theorem eD.put(ks:qM)(h:ks.length<=k):eD N 0 k (fun Z=>.ok (gQ Z ks)):=by
 intro Z a hb b;refine⟨fun q p h=>(by cases h),fun J h=>?_⟩;cases h;exact⟨a.put ks,rfl,by simp[gQ];omega,by simp[gQ]⟩
theorem eD.CV:eD N 0 0 (fun Z=>.ok (gU Z)):=by
 intro Z a hb b;refine⟨fun q p h=>(by cases h),fun J h=>?_⟩;cases h;refine⟨a.CV hb,rfl,by simp[gU];omega,?_⟩;have:Z.dh.length≠0:=by simpa using hb
 simp[gU];omega
theorem eD.weak(hf:eD N d k f)(X:k<=k'):eD N d k' f:=fun Z a hb b=>⟨(hf Z a hb b).1,fun J h=>⟨((hf Z a hb b).2 J h).1,((hf Z a hb b).2 J h).2.1,by have:=((hf Z a hb b).2 J h).2.2.1;omega,((hf Z a hb b).2 J h).2.2.2⟩⟩
theorem eD.same:eD N 0 k (fun Z=>.ok Z):=fun Z a _ _=>⟨fun _ _ h=>(by cases h),fun J h=>by cases h;exact⟨a,rfl,qo,qs⟩⟩
theorem eD.fail{q p:Nat}(hq:q=3\/q=4)(hp:p<=N):eD N d k (fun _=>.error (q,p)):=fun Z _ _ _=>⟨fun _ _ h=>by cases h;exact⟨hq,hp⟩,fun J h=>by cases h⟩
theorem eD.here{q:Nat}(hq:q=3\/q=4):eD N d k (fun Z=>.error (q,Z.at_)):=fun Z _ _ a=>⟨fun _ _ h=>by cases h;exact⟨hq,a⟩,fun J h=>by cases h⟩
theorem eD.ite{c:Prop}[Decidable c](hf:c->eD N d k f)(a:¬c->eD N d k g):eD N d k (fun Z=>if c then f Z else g Z):=by
 by_cases h:c
 .simp only[if_pos h];exact hf h
 simp only[if_neg h];exact a h
theorem eD.ask{a:Type}{r:Except Err a}{P:a->Prop}{G:a->Bd->Except Err Bd}(b:∀q p,r=.error (q,p)->(q=3\/q=4)/\p<=N)(hp:∀x,r=.ok x->P x)(c:∀x,P x->eD N d k (G x)){F:Bd->Except Err Bd}(U:∀e Z,r=.error e->F Z=.error e)(L:∀x Z,r=.ok x->F Z=G x Z):eD N d k F:=by
 intro Z i hb j;rcases r with⟨q,p⟩|x
 .rw[U _ Z rfl];exact⟨fun _ _ h=>by cases h;exact b _ _ rfl,fun _ h=>by cases h⟩
 rw[L _ Z rfl];exact c x (hp _ rfl) Z i hb j
end
theorem vz{x:Int×Nat}{many q p N:Nat}(hx:vY N x)(h:fT x many=.error (q,p)):(q=3\/q=4)/\p<=N:=by
 unfold fT at h;split at h<;>cases h;exact⟨.inl rfl,hx.2.2⟩
theorem MN{x:Int×Nat}{many k:Nat}(hx:0<=x.1)(h:fT x many=.ok k):k<many/\x.1=(k:Int):=by
 unfold fT at h;split at h<;>cases h;omega
theorem eD.enter{N:Nat}(i:Nat){t:Ty}(U:t.ins.length<=8)(L:t.outs.length<=8):eD N 1 8 (jR i t):=by
 intro Z c hb j;unfold jR;rcases a:dP Z t.ins with⟨q,p⟩|st1
 .have:=xB a;exact⟨fun _ _ h=>by cases h;exact⟨.inr this.1,qo⟩,fun _ h=>by cases h⟩
 have hf:=eH c.dK a;have e:=c.take a;refine⟨fun _ _ h=>(by cases h),fun J h=>?_⟩;cases h;refine⟨⟨⟨qs,e.rZ⟩,?_⟩,hf.2.1,qt,by simp[hf.1]⟩;intro b hb;simp at hb;rcases hb with rfl | hb
 .exact⟨U,L⟩
 exact e.short b hb
theorem uB{Z:Bd}(e:Tidy Z)(hb:Z.dh≠[]):(∀q p,jX Z=.error (q,p)->q=4/\p=Z.at_)/\∀left J,jX Z=.ok (left,J)->left=Z.dJ/\Tidy J/\J.at_=Z.at_/\J.di.length<=Z.di.length/\J.dh=Z.dh.tail/\left.takes.length<=8/\left.dH.length<=8:=by
 unfold jX;rcases i:dP Z Z.dJ.dH with⟨q,p⟩|st1
 .have:=xB i;exact⟨fun _ _ h=>by cases h;exact this,fun _ _ h=>by cases h⟩
 have hf:=eH e.dK i;have j:=e.take i;simp only;split
 .rename_i hl;refine⟨fun _ _ h=>(by cases h),fun left J h=>?_⟩;cases h;obtain⟨stk,l,a⟩:=Z;obtain⟨n,m,o⟩:=st1;simp only at hf;obtain⟨rfl,rfl,-⟩:=hf;cases m with
  | nil=>exact absurd rfl hb
  | cons b l=>simp only[Bd.dJ,List.headD_cons] at hl;exact⟨rfl,⟨by simpa [hl] using j.rZ.2,fun c hc=>j.short c (by simp at hc ⊢;exact .inr hc)⟩,rfl,by simpa using (eH e.dK i).2.2.2.1,rfl,e.short b qs⟩
 exact⟨fun _ _ h=>by cases h;exact⟨rfl,rfl⟩,fun _ _ h=>by cases h⟩
theorem XW{Z:Bd}(hb:Z.dh≠[]):Z.dJ∈Z.dh:=by
 obtain⟨stk,c,a⟩:=Z;cases c with
 | nil=>exact absurd rfl hb
 | cons b c=>simp[Bd.dJ]
theorem xw{Z:Bd}{x:Int×Nat}{N:Nat}(b:Tidy Z)(hx:vY N x):(∀q p,jB Z x=.error (q,p)->(q=3\/q=4)/\p<=N)/\∀ks,jB Z x=.ok ks->ks.length<=8:=by
 unfold jB;rcases a:fT x Z.dh.length with⟨q,p⟩|k
 .exact⟨fun _ _ h=>by cases h;exact vz hx a,fun _ h=>by cases h⟩
 refine⟨fun _ _ h=>(by cases h),fun ks h=>?_⟩;cases h;have X:=(MN hx.1 a).1;have c:Z.dh.getD k uk.none∈Z.dh:=by simp[X]
 have:=b.short _ c;unfold eU;split<;>omega
theorem ab4{Z J:Bd}(h:J.dh=Z.dh)(x:Int×Nat):jB J x=jB Z x:=by unfold jB;rw[h]
theorem yx{m:fE}{x:Int×Nat}{N:Nat}(b:mK N m)(hx:vY N x):(∀q p,kG m x=.error (q,p)->(q=3\/q=4)/\p<=N)/\∀t,kG m x=.ok t->t.ins.length<=8/\t.outs.length<=8:=by
 unfold kG;rcases a:fT x m.dm.length with⟨q,p⟩|k
 .exact⟨fun _ _ h=>by cases h;exact vz hx a,fun _ h=>by cases h⟩
 refine⟨fun _ _ h=>(by cases h),fun t h=>?_⟩;cases h;have X:=(MN hx.1 a).1;have:=b.dm.2 _ (show m.dm.getD k ⟨[],[]⟩∈m.dm by simp[X]);exact⟨this.1,Nat.le_trans this.2 qo⟩
theorem vN{m:fE}{N:Nat}(a:mK N m)(f:Nat):(fM m f).ins.length<=8/\(fM m f).outs.length<=8:=by
 unfold fM;generalize (m.funcs.getD f (0,0)).1.toNat=k;by_cases h:k<m.dm.length
 .have:=a.dm.2 _ (show m.dm.getD k ⟨[],[]⟩∈m.dm by simp[h]);exact⟨this.1,Nat.le_trans this.2 qo⟩
 have:m.dm.getD k ⟨[],[]⟩=⟨[],[]⟩:=by simp[show m.dm.length<=k by omega]
 rw[this];simp
theorem yZ{m:fE}{y:ic}{N:Nat}(a:mK N m)(hy:wB N y):(∀q p,fJ m y=.error (q,p)->(q=3\/q=4)/\p<=N)/\∀t,fJ m y=.ok t->t.ins.length<=8/\t.outs.length<=8:=by
 unfold fJ;split
 .exact yx a hy.1
 refine⟨fun _ _ h=>(by cases h),fun t h=>?_⟩;cases h;exact⟨qs,Nat.le_trans hy.2.2.2.1 qo⟩
theorem eD.call{N:Nat}{t:Ty}(h:t.outs.length<=8):eD N 0 8 (rC t):=
 ((eD.take t.ins).then (eD.put t.outs h) (F:=rC t) (fun Z e h=>by simp only[rC,h]<;>rfl) (fun Z st1 h=>by simp only[rC,h]<;>rfl)).weak qo
def opens(x:Nat):Int:=if x=2\/x=3\/x=4 then 1 else if x=11 then -1 else 0
theorem G7{m:fE}{y:ic}{N:Nat}(B:mK N m)(hy:wB N y)(x:Nat):eD N (opens x) 16 (fe m x y):=by
 obtain⟨u,v⟩:=yZ B hy;unfold fe;refine eD.ite (fun h=>?_) (fun I=>eD.ite (fun h=>?_) (fun U=>eD.ite (fun h=>?_) (fun L=>eD.ite (fun h=>?_) (fun h3=>eD.ite (fun h=>?_) (fun h4=>?_)))))
 .subst h;exact eD.CV.weak qo
 .have:opens x=1:=by unfold opens;rw[if_pos qo]
  rw[this];exact eD.ask (G:=fun t=>jR x t) u v (fun t a=>(eD.enter x a.1 a.2).weak qo) (fun e Z h=>by simp only[h]<;>rfl) (fun t Z h=>by simp only[h]<;>rfl)
 .subst h;refine eD.ask (G:=fun t=>fun Z=>match dP Z [127] with
   | .error e=>.error e
   | .ok st1=>jR 4 t st1) u v (fun t a=>?_) (fun e Z h=>by simp only[h]<;>rfl) (fun t Z h=>by simp only[h]<;>rfl)
  exact((eD.take [127]).then (eD.enter 4 a.1 a.2) (fun Z e h=>by simp only[h]<;>rfl) (fun Z st1 h=>by simp only[h]<;>rfl)).weak qo
 .subst h;intro Z a hb w;obtain⟨l1,l2⟩:=uB a hb;dsimp only;rcases c:jX Z with⟨q,p⟩|⟨left,st1⟩
  .have:=l1 _ _ c;exact⟨fun _ _ h=>by cases h;exact⟨.inr this.1,qo⟩,fun _ h=>by cases h⟩
  obtain⟨rfl,i,o,s1,j,l,r⟩:=l2 _ _ c;simp only;have C:Z.dh.length≠0:=by simpa using hb
  by_cases s:st1.dh=[]
  ·
   have z:=i.put Z.dJ.takes;unfold jR;simp only;rcases X:dP (gQ st1 Z.dJ.takes) Z.dJ.takes with⟨q,p⟩|K
   .have:=xB X;exact⟨fun _ _ h=>by cases h;exact⟨.inr this.1,by have:=this.2;simp[gQ] at this;omega⟩,fun _ h=>by cases h⟩
   have hf:=eH z.dK X;have n:=z.take X;refine⟨fun _ _ h=>(by cases h),fun J h=>?_⟩;cases h;have A:st1.dh.length=0:=by rw[s];rfl
   rw[j] at A;simp at A;refine⟨⟨⟨qs,n.rZ⟩,?_⟩,by rw[hf.2.1];simp[gQ,o],?_,?_⟩
   .intro b hbm;simp at hbm;rcases hbm with rfl | hbm
    .exact⟨l,r⟩
    exact n.short b hbm
   .have:=hf.2.2.2.1;simp[gQ] at this ⊢;omega
   rw[show opens 5=0 from rfl];simp[hf.1,gQ,s];omega
  have D:=(eD.put (N:=N) (k:=8) Z.dJ.takes l).then (eD.enter (N:=N) 5 (t:=⟨Z.dJ.takes,Z.dJ.dH⟩) l r) (F:=fun st1=>jR 5 ⟨Z.dJ.takes,Z.dJ.dH⟩ (gQ st1 Z.dJ.takes)) (fun _ _ h=>by cases h) (fun _ _ h=>by cases h;rfl);obtain⟨h5,E⟩:=D st1 i s qo;refine⟨h5,fun J h=>?_⟩;obtain⟨n,M,s2,H⟩:=E _ h;refine⟨n,qo,qo,?_⟩;rw[H,j,show opens 5=0 from rfl];simp;omega
 .subst h;intro Z a hb w;obtain⟨l1,l2⟩:=uB a hb;dsimp only;rcases c:jX Z with⟨q,p⟩|⟨left,st1⟩
  .have:=l1 _ _ c;exact⟨fun _ _ h=>by cases h;exact⟨.inr this.1,qo⟩,fun _ h=>by cases h⟩
  obtain⟨rfl,i,o,s1,j,l,r⟩:=l2 _ _ c;have C:Z.dh.length≠0:=by simpa using hb
  simp only;split
  .exact⟨fun _ _ h=>by cases h;exact⟨.inr rfl,w⟩,fun _ h=>by cases h⟩
  refine⟨fun _ _ h=>(by cases h),fun J h=>?_⟩;cases h;refine⟨i.put _,o,by simp[gQ];omega,?_⟩;rw[show opens 11= -1 from rfl];simp[gQ,j];omega
 have:opens x=0:=by unfold opens;rw[if_neg qo,if_neg h4]
 rw[this];exact eD.same
theorem Ah{Z:Bd}{N:Nat}(a:Tidy Z):∀(xs:List (Int×Nat)) (M:List (qM)),(∀x∈xs,vY N x)->(∀ks∈M,ks.length<=8)->
  (∀q p,jm Z xs M=.error (q,p)->(q=3\/q=4)/\p<=N)/\∀r,jm Z xs M=.ok r->r.length=M.length+xs.length/\∀ks∈r,ks.length<=8
 | [],M,_,L=>⟨fun _ _ h=>by simp[jm] at h,fun r h=>by simp[jm] at h;subst h;exact⟨qs,L⟩⟩
 | x::xs,M,U,L=>by
  obtain⟨l1,l2⟩:=xw a (U x qs);unfold jm;rcases b:jB Z x with⟨q,p⟩|ks
  .exact⟨fun _ _ h=>by cases h;exact l1 _ _ b,fun _ h=>by cases h⟩
  have:=Ah a xs (M++[ks]) (fun y hy=>U y (by simp[hy])) (fun k X=>by rcases List.mem_append.1 X with h | h;exact L k h;simp at h;subst h;exact l2 _ b);exact⟨this.1,fun r h=>⟨by have:=(this.2 r h).1;simp at this ⊢;omega,(this.2 r h).2⟩⟩
theorem JA{Z:Bd}{last:qM}:∀(r:List (qM)) {q p:Nat},nE Z last r=.error (q,p)->q=4/\p=Z.at_
 | [],q,p,h=>by simp[nE] at h
 | ks::r,q,p,h=>by
  unfold nE at h;split at h
  .cases h;exact⟨rfl,rfl⟩
  split at h
  .rename_i ho;cases h;exact xB ho
  exact JA r h
theorem GY{y:ic}{N:Nat}(hy:wB N y):eD N 0 16 (iM y):=by
 intro Z a hb r;unfold iM;obtain⟨l1,-⟩:=Ah a y.dF [] hy.2.2.1 qs;obtain⟨c,-⟩:=xw a hy.1;rcases U:jm Z y.dF [] with⟨q,p⟩|i
 .exact⟨fun _ _ h=>by cases h;exact l1 _ _ U,fun _ h=>by cases h⟩
 simp only;rcases L:jB Z y.num with⟨q,p⟩|last
 .exact⟨fun _ _ h=>by cases h;exact c _ _ L,fun _ h=>by cases h⟩
 simp only;rcases h3:dP Z [127] with⟨q,p⟩|st1
 .have:=xB h3;exact⟨fun _ _ h=>by cases h;exact⟨.inr this.1,qo⟩,fun _ h=>by cases h⟩
 have b:=eH a.dK h3;have j:=a.take h3;simp only;rcases h4:nE st1 last i with⟨q,p⟩|u
 .have:=JA _ h4;exact⟨fun _ _ h=>by cases h;exact⟨.inr this.1,qo⟩,fun _ h=>by cases h⟩
 simp only;have l:st1.dh≠[]:=by rw[b.1];exact hb
 obtain⟨h5,m⟩:=((eD.take (N:=N) last).then eD.CV (F:=fun Z=>match dP Z last with
  | .error e=>.error e
  | .ok st2=>.ok (gU st2)) (fun Z e h=>by simp only[h]<;>rfl) (fun Z st1 h=>by simp only[h]<;>rfl)) st1 j l qo
 refine⟨h5,fun J h=>?_⟩;obtain⟨n,s,s2,o⟩:=m _ h;exact⟨n,qo,qo,by rw[o,b.1]⟩
theorem eD.label{N:Nat}{x:Int×Nat}(hx:vY N x){d:Int}{k:Nat}{G:qM->Bd->Except Err Bd}(c:∀ks,ks.length<=8->eD N d k (G ks)){F:Bd->Except Err Bd}(U:∀e Z,jB Z x=.error e->F Z=.error e)(L:∀ks Z,jB Z x=.ok ks->F Z=G ks Z):eD N d k F:=by
 intro Z b hb i;obtain⟨l1,l2⟩:=xw b hx;rcases a:jB Z x with⟨q,p⟩|ks
 .rw[U _ _ a];exact⟨fun _ _ h=>by cases h;exact l1 _ _ a,fun _ h=>by cases h⟩
 rw[L _ _ a];exact c ks (l2 _ a) Z b hb i
theorem Kt{m:fE}{y:ic}{N:Nat}(b:mK N m)(hy:wB N y)(x:Nat):eD N 0 16 (eT m x y):=by
 unfold eT;refine eD.ite (fun h=>?_) (fun l=>eD.ite (fun h=>?_) (fun U=>eD.ite (fun h=>?_) (fun L=>eD.ite (fun h=>?_) (fun h3=>eD.ite (fun h=>?_) (fun h4=>eD.ite (fun h=>?_) (fun h5=>eD.same))))))
 .refine eD.label hy.1 (G:=fun ks=>fun Z=>match dP Z ks with
   | .error e=>.error e
   | .ok st1=>.ok (gU st1)) (fun ks _=>?_) (fun e Z h=>by simp only[h]<;>rfl) (fun t Z h=>by simp only[h]<;>rfl)
  exact((eD.take ks).then eD.CV (fun Z e h=>by simp only[h]<;>rfl) (fun Z st1 h=>by simp only[h]<;>rfl)).weak qo
 .refine eD.label hy.1 (G:=fun ks=>fun Z=>match dP Z [127] with
   | .error e=>.error e
   | .ok st1=>match dP st1 ks with
    | .error e=>.error e
    | .ok st2=>.ok (gQ st2 ks)) (fun ks c=>?_) (fun e Z h=>by simp only[h]<;>rfl) (fun t Z h=>by simp only[h]<;>rfl)
  exact((eD.take [127]).then (((eD.take ks).then (eD.put (k:=8) ks c) (F:=fun st1=>match dP st1 ks with
    | .error e=>.error e
    | .ok st2=>.ok (gQ st2 ks)) (fun Z e h=>by simp only[h]<;>rfl) (fun Z st1 h=>by simp only[h]<;>rfl))) (fun Z e h=>by simp only[h]<;>rfl) (fun Z st1 h=>by simp only[h]<;>rfl)).weak qo
 .exact GY hy
 .intro Z a hb ha;exact(((eD.take (N:=N) (Z.dh.getD (Z.dh.length - 1) uk.none).dH).then eD.CV (F:=fun J=>match dP J (Z.dh.getD (Z.dh.length - 1) uk.none).dH with
   | .error e=>.error e
   | .ok st1=>.ok (gU st1)) (fun Z e h=>by simp only[h]<;>rfl) (fun Z st1 h=>by simp only[h]<;>rfl)).weak (k':=16) qo) Z a hb ha
 .exact eD.ask (P:=fun _=>True) (r:=fT y.num m.funcs.length) (G:=fun f=>rC (fM m f)) (fun q p h=>vz hy.1 h) (fun _ _=>trivial) (fun f _=>(eD.call (vN b f).2).weak qo) (fun e Z h=>by simp only[h]<;>rfl) (fun t Z h=>by simp only[h]<;>rfl)
 refine eD.ite (fun _=>eD.here (.inl rfl)) (fun _=>?_);obtain⟨i,j⟩:=yx b hy.1;refine eD.ask (G:=fun t=>fun Z=>match dP Z [127] with
  | .error e=>.error e
  | .ok st1=>rC t st1) i j (fun t a=>?_) (fun e Z h=>by simp only[h]<;>rfl) (fun t Z h=>by simp only[h]<;>rfl)
 exact((eD.take [127]).then (eD.call a.2) (fun Z e h=>by simp only[h]<;>rfl) (fun Z st1 h=>by simp only[h]<;>rfl)).weak qo
theorem eD.top{N:Nat}{d:Int}{k:Nat}{G:Nat->Bd->Except Err Bd}(m:∀x,eD N d k (G x)){F:Bd->Except Err Bd}(U:∀e Z,fQ Z=.error e->F Z=.error e)(L:∀x Z st1,fQ Z=.ok (x,st1)->F Z=G x st1):eD N d k F:=by
 intro Z j hb n;rcases c:fQ Z with⟨q,p⟩|x
 .rw[U _ _ c];unfold fQ at c;split at c
  .rename_i h;cases c;have:=Du h;exact⟨fun _ _ h=>by cases h;exact⟨.inr this.1,qo⟩,fun _ h=>by cases h⟩
  cases c
 obtain⟨x,st1⟩:=x;rw[L _ _ _ c];unfold fQ at c;split at c
 .cases c
 rename_i h;cases c;have hf:=qi j.dK h;rename_i stk;have o:Tidy {Z with di:=stk}:=by
  obtain⟨s0,l,a⟩:=Z;cases l with
  | nil=>exact absurd rfl hb
  | cons b l=>exact⟨⟨hf.1,j.rZ.2⟩,j.short⟩
 obtain⟨h5,i⟩:=m x {Z with di:=stk} o hb n;exact⟨h5,fun J h=>⟨(i J h).1,(i J h).2.1,by have:=(i J h).2.2.1;simp at this;omega,(i J h).2.2.2⟩⟩
theorem Fz{N:Nat}:eD N 0 16 gZ:=by
 intro c l m j;have n:eD N 0 16 (fun Z=>match dP Z [127] with
  | .error e=>.error e
  | .ok st1=>match fQ st1 with
   | .error e=>.error e
   | .ok (a,i)=>match fQ i with
    | .error e=>.error e
    | .ok (first,b)=>if a≠0/\a≠(if first=0 then a else first) then .error (4,c.at_) else .ok (gQ b [if first=0 then a else first])):=by
  refine((eD.take [127]).then (k':=16) (g:=fun st1=>match fQ st1 with
   | .error e=>.error e
   | .ok (a,i)=>match fQ i with
    | .error e=>.error e
    | .ok (first,b)=>if a≠0/\a≠(if first=0 then a else first) then .error (4,c.at_) else .ok (gQ b [if first=0 then a else first])) ?_ (fun Z e h=>by simp only[h]<;>rfl) (fun Z st1 h=>by simp only[h]<;>rfl)).weak qo
  refine eD.top (G:=fun a=>fun i=>match fQ i with
    | .error e=>.error e
    | .ok (first,b)=>if a≠0/\a≠(if first=0 then a else first) then .error (4,c.at_) else .ok (gQ b [if first=0 then a else first])) (fun a=>?_) (fun e Z h=>by simp only[h]<;>rfl) (fun x Z st1 h=>by simp only[h]<;>rfl)
  refine eD.top (G:=fun first=>fun b=>if a≠0/\a≠(if first=0 then a else first) then .error (4,c.at_) else .ok (gQ b [if first=0 then a else first])) (fun first=>?_) (fun e Z h=>by simp only[h]<;>rfl) (fun x Z st1 h=>by simp only[h]<;>rfl);exact eD.ite (fun _=>eD.fail (.inr rfl) j) (fun _=>eD.put _ qs)
 exact n c l m j
theorem zF{m:fE}{x:Int×Nat}{N:Nat}(hx:vY N x):∀q p,iw m x=.error (q,p)->(q=3\/q=4)/\p<=N:=by
 unfold iw;rcases a:fT x m.dB.length with⟨q,p⟩|k
 .exact fun _ _ h=>by cases h;exact vz hx a
 exact fun _ _ h=>by cases h
theorem GZ{ls:qM}{y:ic}{N:Nat}(hy:wB N y)(x:Nat):eD N 0 16 (iD ls x y):=by
 refine eD.ask (P:=fun _=>True) (r:=fT y.num ls.length) (G:=fun k=>fun Z=>match(if x=32 then .ok Z else dP Z [ls.getD k 0]) with
  | .error e=>.error e
  | .ok st1=>if x=33 then .ok st1 else .ok (gQ st1 [ls.getD k 0])) (fun q p h=>vz hy.1 h) (fun _ _=>trivial) (fun k _=>?_) (fun e Z h=>by simp only[iD,h]<;>rfl) (fun t Z h=>by simp only[iD,h]<;>rfl)
 refine(eD.then (k:=0) (k':=16) (f:=fun Z=>if x=32 then .ok Z else dP Z [ls.getD k 0]) (eD.ite (fun _=>eD.same) (fun _=>eD.take _)) (g:=fun st1=>if x=33 then .ok st1 else .ok (gQ st1 [ls.getD k 0])) (eD.ite (fun _=>eD.same) (fun _=>eD.put _ qs)) (fun Z e h=>by simp only[h]<;>rfl) (fun Z st1 h=>by simp only[h]<;>rfl)).weak qo
theorem CY{m:fE}{ls:qM}{y:ic}{N:Nat}(hy:wB N y)(x:Nat):eD N 0 16 (fG m ls x y):=by
 unfold fG;refine eD.ite (fun h=>?_) (fun a=>eD.ite (fun h=>?_) (fun U=>eD.ite (fun h=>?_) (fun L=>eD.ite (fun h=>?_) (fun h3=>GZ hy x))))
 .exact eD.top (G:=fun _=>fun Z=>.ok Z) (fun _=>eD.same) (fun e Z h=>by simp only[h]<;>rfl) (fun x Z st1 h=>by simp only[h]<;>rfl)
 .exact Fz
 .exact eD.ask (P:=fun _=>True) (r:=iw m y.num) (G:=fun g=>fun Z=>.ok (gQ Z [g.kind])) (zF hy.1) (fun _ _=>trivial) (fun g _=>eD.put _ qs) (fun e Z h=>by simp only[h]<;>rfl) (fun t Z h=>by simp only[h]<;>rfl)
 exact eD.ask (P:=fun _=>True) (r:=iw m y.num) (G:=fun g=>fun Z=>if g.xM then dP Z [g.kind] else .error (4,Z.at_)) (zF hy.1) (fun _ _=>trivial) (fun g _=>eD.ite (fun _=>(eD.take _).weak qo) (fun _=>eD.here (.inr rfl))) (fun e Z h=>by simp only[h]<;>rfl) (fun t Z h=>by simp only[h]<;>rfl)
theorem kU{N:Nat}(a:Nat)(b:qM):eD N 0 16 (kK a b):=
 ((eD.take b).then (k':=16) (eD.put [a] qs) (fun Z e h=>by simp only[kK,h]<;>rfl) (fun Z st1 h=>by simp only[kK,h]<;>rfl)).weak qo
theorem Nu{N:Nat}(x k:Nat)(y:ic):eD N 0 16 (p9 x k y):=by
 unfold p9;refine eD.ite (fun _=>eD.here (.inr rfl)) (fun _=>?_);exact((eD.take [127]).then (k':=16) (eD.put [k] qs) (fun Z e h=>by simp only[h]<;>rfl) (fun Z st1 h=>by simp only[h]<;>rfl)).weak qo
theorem IQ{N:Nat}(x k:Nat)(y:ic):eD N 0 16 (mM x k y):=by
 unfold mM;exact eD.ite (fun _=>eD.here (.inr rfl)) (fun _=>(eD.take _).weak qo)
theorem FD{m:fE}{y:ic}{N:Nat}(x:Nat):eD N 0 16 (fD m x y):=by
 unfold fD;refine eD.ite (fun _=>eD.here (.inl rfl)) (fun _=>eD.ite (fun _=>eD.put _ qs) (fun _=>eD.ite (fun _=>?_) (fun _=>eD.ite (fun _=>Nu _ _ _) (fun _=>eD.ite (fun _=>Nu _ _ _) (fun _=>eD.ite (fun _=>IQ _ _ _) (fun _=>eD.ite (fun _=>IQ _ _ _) (fun _=>eD.same)))))));exact((eD.take [127]).then (k':=16) (eD.put [127] qs) (fun Z e h=>by simp only[h]<;>rfl) (fun Z st1 h=>by simp only[h]<;>rfl)).weak qo
theorem FB{N:Nat}(x:Nat):eD N 0 16 (kz x):=by
 unfold kz;exact eD.ite (fun _=>eD.put _ qs) (fun _=>eD.ite (fun _=>eD.put _ qs) (fun _=>eD.ite (fun _=>kU _ _) (fun _=>eD.ite (fun _=>kU _ _) (fun _=>eD.ite (fun _=>kU _ _) (fun _=>eD.ite (fun _=>kU _ _) (fun _=>eD.ite (fun _=>kU _ _) (fun _=>eD.ite (fun _=>kU _ _) (fun _=>eD.ite (fun _=>kU _ _) (fun _=>eD.ite (fun _=>kU _ _) (fun _=>eD.ite (fun _=>kU _ _) (fun _=>kU _ _)))))))))))
theorem zu{m:fE}{ls:qM}{y:ic}{N:Nat}(a:mK N m)(hy:wB N y)(x:Nat):eD N (opens x) 16 (fI m ls x y):=by
 unfold fI;refine eD.ite (fun _=>G7 a hy x) (fun h=>?_);have:opens x=0:=by unfold opens;rw[if_neg qo,if_neg qo]
 rw[this];exact eD.ite (fun _=>Kt a hy x) (fun _=>eD.ite (fun _=>CY hy x) (fun _=>eD.ite (fun _=>FD x) (fun _=>FB x)))
theorem BV{os os':qM}{j x:Nat}(h:KL os (some os') j x):(os'.length:Int)=os.length+opens x:=by
 rcases h with⟨_,_,h⟩ | ⟨U,b,L,h3⟩
 .cases h
 cases h3;unfold je at L;unfold opens;split at L
 .rename_i hx;rw[if_pos (by simpa using hx)];split at L<;>cases L;simp
 rename_i hx;rw[if_neg (by simpa using hx)];split at L
 .rename_i h5;subst h5;split at L<;>cases L;rename_i a;rw[if_neg qo];cases os with
  | nil=>simp at a
  | cons o os=>simp
 split at L
 .rename_i h11;cases L;rw[if_pos h11];cases os with
  | nil=>exact absurd ⟨h11,rfl⟩ U
  | cons o os=>simp;omega
 rename_i h11;cases L;rw[if_neg h11];simp
def yo(K:Nat->Prop)(x:uk)(w:World)(cs:List Value):Prop:=
 ∃tv gv,cs=[qB x.word,tv,gv,qJ x.dK,.bool x.cut]/\dG K x.takes w tv/\dG K x.dH w gv
theorem yo.kept{S K:qD}{w w':qW}{x:uk}{cs:qV}(h:yo K x w cs)(X:Kept S w w')(b:∀g,g<w.heap.size->K g->¬S g):yo K x w' cs:=by
 obtain⟨d,f,e,a,c⟩:=h;exact⟨d,f,e,Row.kept a X b,Row.kept c X b⟩
theorem yo.mono{K K':qD}{w:qW}{x:uk}{cs:qV}(h:yo K x w cs)(d:∀g,K g->K' g):yo K' x w cs:=by
 obtain⟨f,i,e,a,c⟩:=h;exact⟨f,i,e,Row.mono a (fun g _ b=>d g b),Row.mono c (fun g _ b=>d g b)⟩
structure jd(K O:Nat->Prop)(w:World)(bb:Nat)(mp lv sv bv:Value)(Z:Bd):Prop where
 blk:kY w bb [mp,lv,sv,bv,qJ Z.at_]
 own:O bb
 stk:dG (fun g=>O g/\g≠bb) Z.di w sv
 zK:gu 247 5 (fun _=>yo K) (fun g=>O g/\g≠bb) Z.dh.reverse w bv
 x8:∀k,O k->¬K k
 kb:∀k,K k->k<w.heap.size
def jJ(K O:Nat->Prop)(w:World)(bb:Nat)(mp lv:Value)(Z:Bd):Prop:=∃sv bv,jd K O w bb mp lv sv bv Z
section
variable {K O S:qD} {w w':qW} {bb:Nat} {mp lv sv bv:qv} {Z:Bd}
theorem jd.lt(h:jd K O w bb mp lv sv bv Z):bb<w.heap.size:=h.blk.lt
theorem jd.kept(h:jd K O w bb mp lv sv bv Z)(X:Kept S w w')(d:∀k,k<w.heap.size->S k->¬O k/\¬K k):jd K O w' bb mp lv sv bv Z:=
 ⟨h.blk.kept X h.lt (fun c=>(d _ h.lt c).1 h.own),h.own,Row.kept h.stk X (fun g a b c=>(d g a c).1 b.1),h.zK.kept X (fun g a b c=>(d g a c).1 b.1) (fun _ _ e=>e.kept X (fun g a b c=>(d g a c).2 b)),h.x8,fun k f=>Nat.lt_of_lt_of_le (h.kb k f) X.size⟩
theorem jd.drewN(h:jd K O w bb mp lv sv bv Z)(k:Nat):jd K O (w.drewN k) bb mp lv sv bv Z:=
 h.kept (S:=fun _=>False) (qr.drewN k) (fun _ _ c=>c.elim)
theorem jd.drew(h:jd K O w bb mp lv sv bv Z):jd K O w.drew bb mp lv sv bv Z:=
 h.kept (S:=fun _=>False) (qr.drew) (fun _ _ c=>c.elim)
theorem jd.alloc(h:jd K O w bb mp lv sv bv Z)(o:Obj):jd K O (w.alloc o) bb mp lv sv bv Z:=
 h.kept (S:=fun _=>False) (qr.alloc o) (fun _ _ c=>c.elim)
theorem jd.more{b:qD}(h:jd K O w bb mp lv sv bv Z)(c:∀k,O k->b k)(d:∀k,b k->¬K k):jd K b w bb mp lv sv bv Z:=
 ⟨h.blk,c _ h.own,Row.mono h.stk (fun g _ a=>⟨c g a.1,a.2⟩),by
  obtain⟨css,U,L⟩:=h.zK;exact⟨css,Row.mono U (fun g _ a=>⟨c g a.1,a.2⟩),L⟩,d,h.kb⟩
theorem jd.cells{a b:qv}{J:Bd}(h:jd K O w bb mp lv sv bv Z)(X:Kept (only bb) w w')(hb:kY w' bb [mp,lv,a,b,qJ J.at_])
  (f:dG (fun g=>O g/\g≠bb) J.di w a) (i:gu 247 5 (fun _=>yo K) (fun g=>O g/\g≠bb) J.dh.reverse w b):jd K O w' bb mp lv a b J:=
 ⟨hb,h.own,Row.kept f X (fun g _ d (c:g=bb)=>d.2 c),i.kept X (fun g _ d (c:g=bb)=>d.2 c) (fun _ _ e=>e.kept X (fun g _ j (c:g=bb)=>h.x8 bb h.own (c▸j))),h.x8,fun k l=>Nat.lt_of_lt_of_le (h.kb k l) X.size⟩
end
theorem Row.cut{ok:qD}{w:qW}{E:TypeId}{a n k:Nat}{p:qO}{c:Nat}{xs:qV}(h:Row ok w E a (.slice p n c) n xs)(X:k<=n):Row ok w E a (.slice p k c) k (xs.take (k*a)):=by
 refine⟨⟨?_,?_⟩,fun g l=>h.at_ g (by cases p<;>simp_all [Value.ownBlock])⟩
 .have:=h.own.1;have L:k*a<=n*a:=Nat.mul_le_mul_right _ X;simp;omega
 rcases h.own.2 with⟨b,m⟩ | ⟨g,A,d,b,hb,e,o,f,i,j⟩
 .cases b;have:k=0:=qo;subst this;exact .inl ⟨rfl,rfl⟩
 cases b;refine .inr ⟨g,c,d,rfl,hb,e,qo,f,i,?_⟩;have L:k*a<=n*a:=Nat.mul_le_mul_right _ X;rw[<-j,List.take_take,Nat.min_eq_left L]
theorem dG.cut{ok:qD}{w:qW}{ks:qM}{p:qO}{c:Nat}(k:Nat)(h:dG ok ks w (.slice p ks.length c))(X:k<=ks.length):dG ok (ks.take k) w (.slice p k c):=by
 have q:=Row.cut h X;unfold dG;have a:(ks.take k).length=k:=by simp;omega
 rw[a];have b:kindCells (ks.take k)=(kindCells ks).take (k*1):=by simp[kindCells]
 rw[b];exact q
theorem dG.cell{ok:qD}{w:qW}{ks:qM}{v:qv}(h:dG ok ks w v){i:Nat}(a:i<ks.length):∃g A,v=.slice (some (qA g 0)) ks.length A/\ok g/\g<w.heap.size/\ks.length<=A/\w.cell? (qA g i)=some (qB (ks.getD i 0:Nat)):=by
 have b:=fun g=>h.own.cells (g:=g);rcases h.own.2 with⟨_,f⟩ | ⟨g,A,j,rfl,hb,c,d,k,l,m⟩
 .omega
 refine⟨g,A,rfl,h.at_ g rfl,(Array.getElem?_eq_some_iff.1 c).1,d,?_⟩;have:=b g rfl i (qB (ks.getD i 0:Nat)) (by simp[kindCells,a]);have e:(⟨g,0,none⟩:Addr).add i=⟨g,i,none⟩:=by unfold Addr.add;split<;>simp_all
 rwa[e] at this
theorem dG.len{ok:qD}{w:qW}{ks:qM}{v:qv}(h:dG ok ks w v):ks.length<=maxLen:=by
 rcases h.own.2 with⟨_,a⟩ | ⟨g,A,b,rfl,hb,c,d,e,f,i⟩
 .omega
 omega
theorem Au{K ok:qD}{w:qW}{a:List uk}{v:qv}(h:gu 247 5 (fun _=>yo K) ok a.reverse w v){k:Nat}(X:k<a.length):
  ∃g A b c,v=.slice (some (qA g 0)) a.length A/\ok g/\g<w.heap.size/\a.length<=A/\dG K a[k].takes w b/\dG K a[k].dH w c/\
   w.cell? ⟨g,(a.length - 1 - k)*5,none⟩=some (qB (a[k].word:Nat))/\w.cell? ⟨g,(a.length - 1 - k)*5+1,none⟩=some b/\w.cell? ⟨g,(a.length - 1 - k)*5+2,none⟩=some c/\
   w.cell? ⟨g,(a.length - 1 - k)*5+3,none⟩=some (qJ (a[k].dK:Nat))/\w.cell? ⟨g,(a.length - 1 - k)*5+4,none⟩=some (.bool a[k].cut):=by
 obtain⟨css,e,j⟩:=h;have l:=fun g=>e.own.cells (g:=g);have m:a.reverse.length=a.length:=qs;have n:a.reverse[a.length - 1 - k]?=some a[k]:=by
  rw[List.getElem?_reverse qo];rw[show a.length - 1 - (a.length - 1 - k)=k by omega];exact List.getElem?_eq_getElem X
 obtain⟨cs,p,⟨b,c,rfl,q,r⟩,-⟩:=j.get n;rcases e.own.2 with⟨_,z⟩ | ⟨g,A,B,f,hb,s,C,D,E,F⟩
 .omega
 have t:∀i,(⟨g,0,none⟩:Addr).add i=⟨g,i,none⟩:=by intro i;unfold Addr.add;split<;>simp_all
 have d:∀o u,o<5->([Value.int .u8 (a[k].word:Nat),b,c,qJ (a[k].dK:Nat),.bool a[k].cut]:qV)[o]?=some u->w.cell? ⟨g,(a.length - 1 - k)*5+o,none⟩=some u:=by
  intro o u x y;have:=l g (by rw[f];rfl) ((a.length - 1 - k)*5+o) u ((Each.flat j p x).trans y);rwa[t] at this
 refine⟨g,A,b,c,by rw[f,m],e.at_ g (by rw[f];rfl),(Array.getElem?_eq_some_iff.1 s).1,qo,q,r,?_,d 1 _ qo rfl,d 2 _ qo rfl,d 3 _ qo rfl,d 4 _ qo rfl⟩;exact d 0 _ qo rfl
def acK:qS:=⟨#[0,97,115,109,1,0,0,0,1,6,1,96,1,127,1,127,3,2,1,0,7,6,1,2,105,100,0,0,10,6,1,4,0,32,0,11,0,20,4,110,97,109,101,1,5,1,0,2,105,100,2,6,1,0,1,0,1,120]⟩
def acJ:qS:=⟨#[0,97,115,109,1,0,0,0,2]⟩
def oo(s:qS):Except Err Unit:=match nO s with
 | .error e=>.error e
 | .ok (m,_)=>Px s m
def answer(r:Except Err Unit):Nat×Nat:=match r with
 | .error e=>e
 | .ok _=>(0,0)
theorem ag9:answer (oo acK)=(0,0):=by decide+kernel
theorem af7:answer (oo acJ)=(2,8):=by decide+kernel
def Told(N q p:Nat):Prop:=2<=q/\q<=6/\p<=N
theorem UD{m:fE}{ls:qM}{s:qS}{n N:Nat}(hm:mK N m)(d:n<=N):∀(fuel:Nat) (os:qM) (j:Nat) (Z:Bd) {q p:Nat},j<=n->Tidy Z->Z.dh.length=os.length+1->tu m ls s n fuel os j Z=.error (q,p)->Told N q p:=by
 intro fuel;induction fuel with
 | zero=>intro os j Z q p o g hb h;simp[tu] at h;obtain⟨rfl,rfl⟩:=h;exact⟨qo,qo,d⟩
 | succ fuel r=>
  intro os j Z q p o g hb h;unfold tu at h;by_cases i:j<n
  .rw[eB i] at h;simp only at h;have k:∀y e,jc j (bt s j) s n (j+1)=.ok (y,e)->wB N y/\e<=n:=by
    intro y e hb;have:=(sI j (bt s j)).ok qo qo hb;obtain⟨-,L,h3,h4,h5,t,u⟩:=this;exact⟨⟨h3.le d,h4,fun x hx=>(h5 x hx).le d,t,u⟩,L⟩
   have hst:Tidy {Z with at_:=j}:=⟨g.rZ,g.short⟩;have hne:({Z with at_:=j}:Bd).dh≠[]:=by
    intro c;have:Z.dh.length=0:=by simp at c;simp[c]
    omega
   by_cases b:bt s j=11/\os=[]
   .rw[if_pos b] at h;simp only at h;split at h
    .rename_i a;cases h;have:=(sI j (bt s j)).err qo qo a;exact⟨qo,qo,qo⟩
    rename_i y e a;obtain⟨hy,l⟩:=k _ _ a;split at h
    .exact adS
    rw[if_pos b] at h;cases h
   rw[if_neg b] at h;rcases f:je os j (bt s j) with⟨z,p'⟩|os'
   .rw[f] at h;cases h;have:=Nq f;exact⟨qo,qo,qo⟩
   rw[f] at h;simp only at h;split at h
   .rename_i a;cases h;have:=(sI j (bt s j)).err qo qo a;exact⟨qo,qo,qo⟩
   rename_i y e a;obtain⟨hy,l⟩:=k _ _ a;split at h
   .exact adS
   rename_i J hc;rw[if_neg b] at h;obtain⟨v,-,-,w⟩:=(zu (ls:=ls) hm hy (bt s j) _ hst hne qt).2 _ hc;have:=BV (.inr ⟨b,os',f,rfl⟩);refine r os' e J l v ?_ h;simp at w;omega
  rw[iW i] at h;cases h;exact⟨qo,qo,d⟩
theorem oh{a:Type}{f:a->Except Err Unit}{R:Nat->qD}:∀{xs:List a} {q p:Nat},(∀x∈xs,∀q p,f x=.error (q,p)->R q p)->dV f xs=.error (q,p)->R q p
 | [],q,p,_,h=>by simp[dV] at h
 | x::xs,q,p,U,h=>by
  unfold dV at h;split at h
  .rename_i ho;cases h;exact U x qs _ _ ho
  exact oh (fun y hy=>U y (by simp[hy])) h
theorem tK{a b:Except Err Unit}{R:Nat->qD}{q p:Nat}(U:∀q p,a=.error (q,p)->R q p)(L:∀q p,b=.error (q,p)->R q p)(h:nI a b=.error (q,p)):R q p:=by
 unfold nI at h;split at h
 .cases h;exact U _ _ rfl
 exact L _ _ h
theorem BX{many q p N:Nat}{x:Int×Nat}(hx:vY N x)(h:iT many x=.error (q,p)):Told N q p:=by
 unfold iT at h;split at h<;>cases h;exact⟨qo,qo,hx.2.2⟩
theorem CW{k q p N:Nat}{c:Cst}(hx:c.at_<=N)(h:kE k c=.error (q,p)):Told N q p:=by
 unfold kE at h;split at h<;>cases h;exact⟨qo,qo,hx⟩
theorem Gm{s:qS}{m:fE}{f q p N:Nat}(hm:mK N m)(hf:f<m.dQ.length)(h:jv s m f=.error (q,p)):Told N q p:=by
 have hc:=hm.dQ.2 _ (show m.dQ.getD f ([],0,0)∈m.dQ by simp[hf]);unfold jv at h;have a:Tidy ⟨[],[⟨2,[],(fM m f).outs,0,false⟩],0⟩:=by
  exact adV
 exact UD hm hc.2.2 _ _ _ _ hc.2.1 a qs h
theorem af6{s:qS}{m:fE}{q p N:Nat}(a:mK N m)(h:Px s m=.error (q,p)):Told N q p:=by
 unfold Px at h;refine tK (fun q p=>oh (fun x hx _ _ h=>BX (a.funcs.2 x hx) h)) (fun q p=>tK (fun q p=>oh (fun x hx q p h=>?_)) (fun q p=>tK (fun q p=>oh (fun x hx q p h=>?_)) (fun q p=>tK (fun q p=>oh (fun x hx q p h=>CW (a.dB.2 x hx) h))
  (fun q p=>tK (fun q p=>oh (fun x hx q p h=>?_)) (fun q p=>tK (fun q p=>oh (fun x hx q p h=>?_)) (fun q p=>tK (fun q p=>oh (fun x hx q p h=>?_)) (fun q p=>tK (fun q p=>oh (fun x hx q p h=>Gm a (by simpa using hx) h)) (fun q p=>oh (fun x hx q p h=>?_))))))))) h
 .have:=a.tables.2 x hx;unfold nG at h;split at h<;>cases h;exact⟨qo,qo,this⟩
 .have:=a.jT.2 x hx;unfold nG at h;split at h<;>cases h;exact⟨qo,qo,this⟩
 .unfold gJ at h;split at h
  .cases h
  rename_i e b;have:=a.dw.2 e (List.mem_of_getElem? b);split at h
  .cases h;exact⟨qo,qo,this.1⟩
  exact BX this.2.1 h
 .have:=a.starts.2 x hx;unfold jk at h;split at h
  .rename_i ho;cases h;have U:=vz this ho;exact⟨qo,qo,U.2⟩
  split at h<;>cases h;exact⟨qo,qo,this.2.2⟩
 .have:=a.elems.2 x hx;unfold lC at h;split at h
  .cases h;exact⟨qo,qo,this.1⟩
  split at h
  .rename_i ho;cases h;exact CW this.2.1 ho
  exact oh (fun y hy _ _ h=>BX (this.2.2.2 y hy) h) h
 have:=a.data.2 x hx;unfold mI at h;split at h
 .cases h;exact⟨qo,qo,this.1⟩
 exact CW this.2 h
structure Says{α:Type}(S:Nat->Prop)(w:World)(r:Except Err α)(V:α->World->Value->Prop)(e:Ending)(w':World):Prop where
 kept:Kept S w w'
 ok:∀x,r=.ok x->∃v,e=.returned v/\V x w' v
 err:∀q p,r=.error (q,p)->e=iK q p
def XU(_:Unit)(_:World)(v:Value):Prop:=v=.tuple #[]
abbrev Looks(w:World)(r:Except Err Unit)(e:Ending)(w':World):Prop:=Says (fun _=>False) w r XU e w'
section
variable {α:Type} {S:qD} {w w':qW} {r:Except Err α} {V:α->qW->qv->Prop}
theorem Says.dW{x:α}{v:qv}(a:r=.ok x)(X:Kept S w w')(b:V x w' v):Says S w r V (.returned v) w':=
 ⟨X,fun c h=>by rw[a] at h;cases h;exact⟨v,rfl,b⟩,fun q p h=>by rw[a] at h;cases h⟩
theorem Says.dD{q p:Nat}(a:r=.error (q,p))(X:Kept S w w'):Says S w r V (iK q p) w':=
 ⟨X,fun b h=>by(rw[a] at h;cases h),fun c p' h=>by rw[a] at h;cases h;rfl⟩
end
theorem afk(v:Int)(a many:Nat)(w:qW)(c:0<=v)(U:v<=4294967295):
  qC 84 #[.agg #[.int .u32 v,qJ a],qJ many] w (Says (fun _=>False) w (fT (v,a) many) fun k _ u=>u=qJ v/\v=(k:Int)/\k<many):=by
 by_cases b:v<(many:Int)
 .go_enter func84,ntmps84;go_wp2;go_ret;exact Says.dW (x:=v.toNat) (by simp[fT,b]) (qr.alloc _) ⟨rfl,qo,qo⟩
 have d:(many:Int)<=v:=qo;go_enter func84,ntmps84;go_wp2_with fail
 refine(mD _ _ _).mono ?_;rintro e g ⟨rfl,rfl⟩;exact⟨rfl,Says.dD (by simp[fT,b]) (qr.alloc _)⟩
theorem afl{x:Int×Nat}{many:Nat}:(∀k,fT x many=.ok k->iT many x=.ok ())/\∀e,fT x many=.error e->iT many x=.error e:=by
 unfold fT iT;split
 .exact⟨fun _ _=>rfl,fun _ h=>by cases h⟩
 exact⟨fun _ h=>(by cases h),fun _ h=>by cases h;rfl⟩
section
variable {α:Type} {f:α->Except Err Unit} {xs:List α} {k:Nat}
theorem uG(X:k<xs.length)(h:f xs[k]=.ok ()):dV f (xs.drop k)=dV f (xs.drop (k+1)):=by
 rw[List.drop_eq_getElem_cons X];simp[dV,h]
theorem rP{e:Err}(X:k<xs.length)(h:f xs[k]=.error e):dV f (xs.drop k)=.error e:=by
 rw[List.drop_eq_getElem_cons X];simp[dV,h]
theorem xX(X:¬k<xs.length):dV f (xs.drop k)=.ok ():=by
 rw[List.drop_eq_nil_of_le qo];rfl
end
theorem uH(a b k:Nat)(z:Int)(w:qW){d:Int}(f:d=(k:Int)):
  qC 126 #[.agg #[qJ a,qB b,qJ z],qB d] w (Looks w (kE k ⟨a,b,z⟩)):=by
 subst f;by_cases c:b=k
 .have g:(((b:Nat):Int) !=((k:Nat):Int))=false:=by simp[c]
  subst c;go_enter func126,ntmps126;go_wp2;go_end0;exact Says.dW (x:=()) (by simp[kE]) (qr.alloc _) rfl
 have g:(((b:Nat):Int) !=((k:Nat):Int))=true:=by simp;omega
 go_enter func126,ntmps126;go_wp2_with fail
 refine(mD _ _ _).mono ?_;rintro e h ⟨rfl,rfl⟩;exact⟨rfl,Says.dD (by simp[kE,c]) (qr.alloc _)⟩
theorem FI{w:qW}{b Y:Nat}{s:qS}{ok:qD}{m:fE}(t:kC s ok w b Y m)(B:m.dB.length<=50):
  qC 86 #[qP Y] w (Looks w (dV (fun g=>kE g.kind g.first) m.dB)):=by
 obtain⟨f,j,d⟩:=t;obtain⟨F,G⟩:=j.blk.twelve.1.2.2.2.2.1;obtain⟨p,c,hf⟩:=Row.shape d.h4;have i:=d.h4;rw[hf] at F i;clear d j;have l:qh (dV (fun g=>kE g.kind g.first) m.dB=dV (fun g=>kE g.kind g.first) (m.dB.drop 0)):=by show _=_;simp
 go_enter func86,ntmps86;go_wp2;go_loopw [9] (fun q wr=>∃k:Nat,k<=m.dB.length/\q=qJ k/\qK w wr/\dV (fun g=>kE g.kind g.first) m.dB=dV (fun g=>kE g.kind g.first) (m.dB.drop k)) (fun q _=>m.dB.length - (intOf q).toNat)
 case atStart=>exact⟨0,qZ,rfl,Kept.refl _ _,l.o⟩
 obtain⟨k,X,rfl,hkp,n⟩:=hrel;have HE:=hide n;clear n l;by_cases hlt:k<m.dB.length
 .have hlt':(k:Int)<(m.dB.length:Int):=qo;have r:isRow 191 5 MF.cells ok m.dB wr (.slice p m.dB.length c):=Row.kept i hkp (fun _ _ _ hc=>hc);obtain⟨g,A,y,-,C,D,a⟩:=Row.cells r qo;cases y;have hx:m.dB[k]?=some m.dB[k]:=List.getElem?_eq_getElem hlt;have HB:=hide (fun e=>rP (f:=fun g:MF=>kE g.kind g.first) (e:=e) hlt);have HO:=hide (uG (f:=fun g:MF=>kE g.kind g.first) hlt);have c0:wr.cell? ⟨g,k*5,none⟩=some (qB (m.dB[k].kind:Nat)):=(a (k*5) qo).trans (flat_get (m:=5) (o:=0) (fun _=>rfl) hx qo);have c1:wr.cell? ⟨g,k*5+1,none⟩=some (.bool m.dB[k].xM):=(a (k*5+1) qo).trans (flat_get (m:=5) (o:=1) (fun _=>rfl) hx qo);have c2:wr.cell? ⟨g,k*5+2,none⟩=some (qJ (m.dB[k].first.at_:Nat)):=(a (k*5+2) qo).trans (flat_get (m:=5) (o:=2) (fun _=>rfl) hx qo);have c3:wr.cell? ⟨g,k*5+3,none⟩=some (qB (m.dB[k].first.kind:Nat)):=(a (k*5+3) qo).trans (flat_get (m:=5) (o:=3) (fun _=>rfl) hx qo);have c4:wr.cell? ⟨g,k*5+4,none⟩=some (qJ m.dB[k].first.val):=(a (k*5+4) qo).trans (flat_get (m:=5) (o:=4) (fun _=>rfl) hx qo);clear a r i hx;generalize m.dB[k]=x at*;go_wp2_with fail
  refine(uH _ _ x.kind _ _ rfl).mono ?_;rintro e E ⟨z,hok,jY⟩;have hk3:=(hkp.alloc _).trans z;cases ho:kE x.kind x.first with
  | ok u=>obtain⟨v,rfl,rfl⟩:=hok u ho;have HN:=hide (HE.o.trans (HO.o ho));exact adT
  | error qp=>obtain⟨q,H⟩:=qp;obtain rfl:=jY _ _ ho;exact⟨rfl,Says.dD (HE.o.trans (HB.o _ ho)) hk3⟩
 exact aaZ
theorem LX{w:qW}{b Y:Nat}{s:qS}{ok:qD}{m:fE}(E:kC s ok w b Y m)(K:m.data.length<=50):
  qC 91 #[qP Y] w (Looks w (dV (mI m) m.data)):=by
 obtain⟨f,j,l⟩:=E;obtain⟨t,L⟩:=j.blk.twelve.1.2.2.2.1;obtain⟨M,N,y⟩:=Row.shape l.h3;rw[y] at t;obtain⟨F,G⟩:=j.blk.twelve.2.2.2.2.1;have z:=j.lt;obtain⟨p,c,hf⟩:=Row.shape l.h9;have r:=l.h9;rw[hf] at F r;clear l j y;have B:qh (dV (mI m) m.data=dV (mI m) (m.data.drop 0)):=by show _=_;simp
 go_enter func91,ntmps91;go_wp2;go_loopw [9] (fun q wr=>∃k:Nat,k<=m.data.length/\q=qJ k/\qK w wr/\dV (mI m) m.data=dV (mI m) (m.data.drop k)) (fun q _=>m.data.length - (intOf q).toNat)
 case atStart=>exact⟨0,qZ,rfl,Kept.refl _ _,B.o⟩
 obtain⟨k,X,rfl,hkp,C⟩:=hrel;have HE:=hide C;clear C B;by_cases hlt:k<m.data.length
 .have hlt':(k:Int)<(m.data.length:Int):=qo;have O:=(hkp.cell (p:=(qA Y 3)) z (fun c=>c)).trans t;have Q:Y<wr.heap.size:=Nat.lt_of_lt_of_le z hkp.size;have D:isRow 216 5 Dat.cells ok m.data wr (.slice p m.data.length c):=Row.kept r hkp (fun _ _ _ hc=>hc);obtain⟨g,A,H,-,R,S,a⟩:=Row.cells D qo;cases H;have hx:m.data[k]?=some m.data[k]:=List.getElem?_eq_getElem hlt;have HB:=hide (fun e=>rP (f:=mI m) (e:=e) hlt);have HO:=hide (uG (f:=mI m) hlt);have c0:wr.cell? ⟨g,k*5,none⟩=some (qJ (m.data[k].at_:Nat)):=(a (k*5) qo).trans (flat_get (m:=5) (o:=0) (fun _=>rfl) hx qo);have c1:wr.cell? ⟨g,k*5+1,none⟩=some (qJ (m.data[k].place.at_:Nat)):=(a (k*5+1) qo).trans (flat_get (m:=5) (o:=1) (fun _=>rfl) hx qo);have c2:wr.cell? ⟨g,k*5+2,none⟩=some (qB (m.data[k].place.kind:Nat)):=(a (k*5+2) qo).trans (flat_get (m:=5) (o:=2) (fun _=>rfl) hx qo);have c3:wr.cell? ⟨g,k*5+3,none⟩=some (qJ m.data[k].place.val):=(a (k*5+3) qo).trans (flat_get (m:=5) (o:=3) (fun _=>rfl) hx qo);have c4:wr.cell? ⟨g,k*5+4,none⟩=some (.string m.data[k].bytes):=(a (k*5+4) qo).trans (flat_get (m:=5) (o:=4) (fun _=>rfl) hx qo);clear a D r hx;generalize m.data[k]=x at*;by_cases d:m.jT.length=0
  .have I:((m.jT.length:Int)==0)=true:=by rw[d];rfl
   have i:mI m x=.error (3,x.at_):=by simp[mI,d]
   have n:=hide (HE.o.trans (HB.o _ i));clear HE HO HB i d;go_wp2_with fail
   refine(mD _ _ _).mono ?_;rintro e T ⟨rfl,rfl⟩;exact⟨rfl,Says.dD n.o (hkp.alloc _)⟩
  have I:((m.jT.length:Int)==0)=false:=qe;have i:mI m x=kE 127 x.place:=by simp[mI,d]
  have n:=hide i;clear i d;go_wp2_with fail
  refine(uH _ _ 127 _ _ rfl).mono ?_;rintro e U ⟨J,hok,jY⟩;have hk3:=(hkp.alloc _).trans J;cases ho:kE 127 x.place with
  | ok u=>obtain⟨v,rfl,rfl⟩:=hok u ho;have HN:=hide (HE.o.trans (HO.o (n.o.trans ho)));exact adT
  | error qp=>obtain⟨q,V⟩:=qp;obtain rfl:=jY _ _ ho;exact⟨rfl,Says.dD (HE.o.trans (HB.o _ (n.o.trans ho))) hk3⟩
 exact aaZ
theorem zG{w:qW}{ok:qD}{ls:List Hf}{v:qv}(most:Int)(b:isRow 186 4 Hf.cells ok ls w v)(D:ls.length<=50):
  qC 85 #[v,.int .u32 most] w (Looks w (dV (nG most) ls)):=by
 obtain⟨p,c,rfl⟩:=Row.shape b;have d:qh (dV (nG most) ls=dV (nG most) (ls.drop 0)):=by show _=_;simp
 go_enter func85,ntmps85;go_wp2;go_loopw [8] (fun q wr=>∃k:Nat,k<=ls.length/\q=qJ k/\qK w wr/\dV (nG most) ls=dV (nG most) (ls.drop k)) (fun q _=>ls.length - (intOf q).toNat)
 case atStart=>exact⟨0,qZ,rfl,Kept.refl _ _,d.o⟩
 obtain⟨k,X,rfl,hkp,i⟩:=hrel;have HE:=hide i;clear i d;by_cases hlt:k<ls.length
 .have hlt':(k:Int)<(ls.length:Int):=qo;have j:isRow 186 4 Hf.cells ok ls wr (.slice p ls.length c):=Row.kept b hkp (fun _ _ _ hc=>hc);obtain⟨g,A,u,-,E,F,a⟩:=Row.cells j qo;cases u;have hx:ls[k]?=some ls[k]:=List.getElem?_eq_getElem hlt;have y:=hide (fun e=>rP (f:=nG most) (e:=e) hlt);have z:=hide (uG (f:=nG most) hlt);have c0:wr.cell? ⟨g,k*4,none⟩=some (qJ (ls[k].at_:Nat)):=(a (k*4) qo).trans (flat_get (m:=4) (o:=0) (fun _=>rfl) hx qo);have c1:wr.cell? ⟨g,k*4+1,none⟩=some (.int .u32 ls[k].least):=(a (k*4+1) qo).trans (flat_get (m:=4) (o:=1) (fun _=>rfl) hx qo);have c2:wr.cell? ⟨g,k*4+2,none⟩=some (.int .u32 ls[k].most):=(a (k*4+2) qo).trans (flat_get (m:=4) (o:=2) (fun _=>rfl) hx qo);have c3:wr.cell? ⟨g,k*4+3,none⟩=some (.bool ls[k].has):=(a (k*4+3) qo).trans (flat_get (m:=4) (o:=3) (fun _=>rfl) hx qo);clear a j b hx;generalize ls[k]=x at*;obtain⟨B,l,n,C⟩:=x;simp only at c0 c1 c2 c3;cases C<;>cases r:decide (most<l)<;>cases s:decide (n<l)<;>cases t:decide (most<n);all_goals
   first
   | (have HN:=hide (HE.o.trans (y.o (5,B) (by unfold nG;rw[if_pos];simp at r s t ⊢;omega)))
      go_wp2_with fail
      refine(mD _ _ _).mono ?_;rintro e G ⟨rfl,rfl⟩;exact⟨rfl,Says.dD HN.o (hkp.alloc _)⟩)
   | (have HN:=hide (HE.o.trans (z.o (by unfold nG;rw[if_neg];simp at r s t ⊢;omega)))
      go_wp2_with fail
      go_roundw
      case rel=>exact⟨k+1,qo,by go_num,hkp.alloc _,HN.o⟩
      simp[intOf];omega)
 exact aaZ
end Go.Proofs.YtdaafkmhfedkiaaGreat
