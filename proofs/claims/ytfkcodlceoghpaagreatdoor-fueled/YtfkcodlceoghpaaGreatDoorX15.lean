import Derived.Test.YtfkcodlceoghpaaGreatDoorX14
namespace Go.Proofs.YtfkcodlceoghpaaGreatDoor
set_option linter.unusedSimpArgs false
set_option linter.unusedVariables false
open Go.RowKit
abbrev Ins:=Nat×Nat×fO
def chk(m:dX)(ls:List Nat)(i:Ins)(Z:Bd):Except Err Bd:=iG m ls i.2.1 i.2.2 {Z with at_:=i.1}
def dS(x:Nat):Bool:=x==2||x==3||x==4
def FR(x nb:Nat)(op:List Nat):List Nat:=if dS x then nb::op else if x=11 then op.tail else op
def Ve(x nb:Nat):Nat:=if dS x then nb+1 else nb
structure PB where
 lp:Bool
 tk:Nat
 ca:Nat
 tg:Nat
 el:Nat
structure PS where
 wd:Nat
 bk:Nat
 num:Nat
 zz:List Nat
 val:Int
def PB.none:PB:=⟨false,0,0,0,0⟩
def SA(dx:List Ty)(y:fO):Ty:=if y.typed then dx.getD y.num.1.toNat ⟨[],[]⟩ else⟨[],y.dL⟩
def nH(dx:List Ty)(x:Nat)(y:fO)(behind:Nat):PB:=
 if x=3 then⟨true,(SA dx y).ins.length,(SA dx y).ins.length,behind,0⟩ else⟨false,(SA dx y).ins.length,(SA dx y).outs.length,0,0⟩
def stepOf(i:Ins)(b:Nat):PS:=⟨i.2.1,b,i.2.2.num.1.toNat,i.2.2.dA.map (·.1.toNat),i.2.2.val⟩
def setB(bs:List PB)(o:Nat)(f:PB->PB):List PB:=bs.set o (f (bs.getD o PB.none))
def iI(dx:List Ty):List Ins->List Nat->List PB->List PS->List PB×List PS
 | [],_,bs,ss=>(bs,ss)
 | i::r,op,bs,ss=>
  if dS i.2.1 then iI dx r (bs.length::op) (bs++[nH dx i.2.1 i.2.2 (ss.length+1)]) (ss++[stepOf i bs.length])
  else if i.2.1=5 then iI dx r op (setB bs (op.headD 0) λb=>{b with el:=ss.length+1}) (ss++[stepOf i (op.headD 0)])
  else if i.2.1=11 then(if op.tail=[] then(bs,ss) else iI dx r op.tail (setB bs (op.headD 0) λb=>if b.lp then b else {b with tg:=ss.length+1}) (ss++[stepOf i (op.headD 0)]))
  else iI dx r op bs (ss++[stepOf i (op.headD 0)])
def tab(m:dX)(ls:List Nat):List Ins->Bd->List Nat->Nat->List (Bd×List Nat)
 | [],_,_,_=>[]
 | i::r,Z,op,nb=>(Z,op)::(match chk m ls i Z with
  | .error _=>[]
  | .ok J=>tab m ls r J (FR i.2.1 nb op) (Ve i.2.1 nb))
def IV(x:Nat):Bool:=x<=5||x==11||(decide (12<=x)&&decide (x<=17))||x==26||x==27||(decide (32<=x)&&decide (x<=36))||x==40||x==41||x==44||x==45||x==54||x==55||x==58||(decide (63<=x)&&decide (x<=66))||(decide (69<=x)&&decide (x<=90))||(decide (103<=x)&&decide (x<=138))||x==167||x==172||x==173
def fits(m:dX)(ls:List Nat):List Ins->Bd->Nat->Prop
 | [],_,_=>False
 | i::r,Z,d=>(nC Z.dn Z.dB.length/\IV i.2.1=true/\0<=i.2.2.num.1)/\(i.2.1=5->Z.dJ.word=4/\0<d)/\∃J,chk m ls i Z=.ok J/\
  (if i.2.1=11/\d=0 then r=[] else fits m ls r J (if dS i.2.1 then d+1 else if i.2.1=11 then d - 1 else d))
section
variable {m:dX}{ls:qM}
theorem Af{bl:pW}{a:Nat}{ks:qM}(hc:bl.cut=false):∀{i:Nat}{stk b:qM},bl.dK<=stk.length->jD bl a ks i stk=.ok b->bl.dK+i<=stk.length/\b=stk.take (stk.length - i)
 | 0,stk,b,hf,h=>by
  cases h;exact⟨hf,qs⟩
 | i+1,stk,b,hf,h=>by
  unfold jD iR at h;rw[hc]at h;by_cases hl:stk.length=bl.dK
  .rw[qac hl]at h;cases h
  rw[qaa hl]at h;simp only at h;split at h
  .cases h
  have c:(stk.take (stk.length - 1)).length=stk.length - 1:=qs;obtain⟨U,d⟩:=Af hc (by rw[c];omega) h;rw[c]at U d;refine⟨qo,?_⟩;rw[d,qcg];congr 1
  omega
theorem gK{Z J:Bd}{ks:qM}(hc:Z.dJ.cut=false)(hf:Z.dJ.dK<=Z.dB.length)(h:dQ Z ks=.ok J):Z.dJ.dK+ks.length<=Z.dB.length/\J={Z with dB:=Z.dB.take (Z.dB.length - ks.length)}:=by
 unfold dQ at h;split at h
 .cases h
 rename_i stk a;cases h;obtain⟨U,b⟩:=Af hc hf a;exact⟨U,by rw[b]⟩
theorem Ae{bl:pW}{a:Nat}{ks:qM}:∀{i:Nat}{stk c:qM},bl.dK<=stk.length->jD bl a ks i stk=.ok c->bl.dK<=c.length
 | 0,stk,c,hf,h=>by cases h;exact hf
 | i+1,stk,c,hf,h=>by
  unfold jD at h;split at h
  .cases h
  rename_i d e b;split at h
  .cases h
  refine Ae ?_ h;unfold iR at b;split at b
  .split at b<;>cases b;exact hf
  cases b;simp;omega
theorem iQ{Z J:Bd}{ks:qM}(h:dQ Z ks=.ok J):J.dn=Z.dn/\(Z.dJ.dK<=Z.dB.length->Z.dJ.dK<=J.dB.length):=by
 unfold dQ at h;split at h
 .cases h
 rename_i stk a;cases h;exact⟨rfl,λhf=>Ae hf a⟩
theorem Q5{a:Type}{c:Prop}[Decidable c]{e:Err}{z b:a}(h:(if c then .error e else .ok z:Except Err a)=.ok b):z=b:=by
 split at h
 .cases h
 cases h;rfl
theorem vV{Z J:Bd}{k:Nat}(h:fe Z=.ok (k,J)):J.dn=Z.dn:=by
 unfold fe at h;split at h
 .cases h
 cases h;rfl
def KB(Z J:Bd):Prop:=J.dn=Z.dn\/J.dn={Z.dJ with cut:=true}::Z.dn.tail
theorem KB.cut{Z st1:Bd}(h:st1.dn=Z.dn):KB Z (fV st1):=by
 right
 unfold fV Bd.dJ;rw[h]
theorem LG{Z J:Bd}{t:Ty}(h:kT t Z=.ok J):J.dn=Z.dn:=by
 unfold kT at h;split at h
 .cases h
 rename_i U;cases h;exact(iQ U).1
theorem KC{Z J:Bd}{k:Nat}{t:qM}(h:gy k t Z=.ok J):J.dn=Z.dn:=by
 unfold gy at h;split at h
 .cases h
 rename_i U;cases h;exact(iQ U).1
theorem DK{x:Nat}{Z J:Bd}(h:gG x Z=.ok J):J.dn=Z.dn:=by
 unfold gG at h;repeat' split at h
 all_goals first
  | exact KC h
  | (cases h;rfl)
theorem DN{x:Nat}{y:fO}{Z J:Bd}(h:eG m x y Z=.ok J):J.dn=Z.dn:=by
 unfold eG kN jq at h;repeat' split at h
 all_goals first
  | (cases h;done)
  | exact(iQ h).1
  | (cases h;rfl)
  | (rename_i U;cases h;exact(iQ U).1)
theorem yS{x:Nat}{y:fO}{Z J:Bd}(h:eF m ls x y Z=.ok J):J.dn=Z.dn:=by
 unfold eF at h;split at h
 .split at h
  .cases h
  rename_i U;cases h;exact vV U
 split at h
 .unfold fH at h;split at h
  .cases h
  rename_i U;split at h
  .cases h
  rename_i a;split at h
  .cases h
  rename_i b;obtain rfl:=Q5 h;exact((vV b).trans (vV a)).trans (iQ U).1
 split at h
 .split at h
  .cases h
  cases h;rfl
 split at h
 .split at h
  .cases h
  split at h
  .exact(iQ h).1
  cases h
 unfold fT at h;split at h
 .cases h
 split at h
 .cases h
 rename_i st1 U;have c:st1.dn=Z.dn:=by
  split at U
  .cases U;rfl
  exact(iQ U).1
 split at h<;>cases h<;>exact c
theorem Tc{x:Nat}{y:fO}{Z J:Bd}(h:dU m x y Z=.ok J):KB Z J:=by
 unfold dU at h;split at h
 .split at h
  .cases h
  split at h
  .cases h
  rename_i U;cases h;exact KB.cut (iQ U).1
 split at h
 .split at h
  .cases h
  split at h
  .cases h
  rename_i U;split at h
  .cases h
  rename_i a;cases h;exact .inl ((iQ a).1.trans (iQ U).1)
 split at h
 .unfold fU at h;split at h
  .cases h
  split at h
  .cases h
  split at h
  .cases h
  rename_i U;split at h
  .cases h
  split at h
  .cases h
  rename_i a;cases h;exact KB.cut ((iQ a).1.trans (iQ U).1)
 split at h
 .split at h
  .cases h
  rename_i U;cases h;exact KB.cut (iQ U).1
 split at h
 .split at h
  .cases h
  exact .inl (LG h)
 split at h
 .split at h
  .cases h
  split at h
  .cases h
  split at h
  .cases h
  rename_i U;exact .inl ((LG h).trans (iQ U).1)
 cases h;exact .inl rfl
theorem xw{i:Ins}{Z J:Bd}(h:chk m ls i Z=.ok J)(U:dS i.2.1=false)(a:i.2.1≠5)(b:i.2.1≠11):KB Z J:=by
 simp only[dS,Bool.or_eq_false_iff,beq_eq_false_iff_ne]at U;unfold chk iG at h;have e:∀z:Bd,z.dn=({Z with at_:=i.1}:Bd).dn->KB Z z:=λz c=>.inl c;split at h
 .unfold dR at h;split at h
  .cases h;exact KB.cut rfl
  simp only[show ¬(i.2.1=2\/i.2.1=3) by omega,show ¬i.2.1=4 by omega,a,b,qct]at h;cases h;exact .inl rfl
 split at h
 .have:=Tc h;exact this
 split at h
 .exact e _ (yS h)
 split at h
 .exact e _ (DN h)
 exact e _ (DK h)
theorem wT{bl:pW}{a:Nat}{ks:qM}:∀{i:Nat}{stk r:qM},bl.dK+i<=stk.length->jD bl a ks i stk=.ok r->r=stk.take (stk.length - i)
 | 0,stk,r,_,h=>by cases h;simp
 | i+1,stk,r,hf,h=>by
  unfold jD iR at h;rw[qaa qo]at h;simp only at h;split at h
  .cases h
  have b:(stk.take (stk.length - 1)).length=stk.length - 1:=qs;rw[wT (by rw[b];omega) h,b,qcg];congr 1
  omega
theorem G5{Z st1:Bd}{left:pW}(h:jv Z=.ok (left,st1)):left=Z.dJ/\st1.dn=Z.dn.tail/\st1.dB.length=Z.dJ.dK/\(Z.dJ.cut=false->Z.dJ.dK<=Z.dB.length->Z.dB.length=Z.dJ.dK+Z.dJ.dL.length):=by
 unfold jv at h;split at h
 .cases h
 rename_i a U;split at h
 .rename_i L;cases h;refine⟨rfl,by rw[(iQ U).1],L,λhc hf=>?_⟩;obtain⟨b,rfl⟩:=gK hc hf U;simp at L;omega
 cases h
theorem BH{x:Nat}{t:Ty}{Z J:Bd}(h:iV x t Z=.ok J):∃st1,dQ Z t.ins=.ok st1/\J.dn=⟨x,t.ins,t.outs,st1.dB.length,false⟩::Z.dn/\J.dB.length=st1.dB.length+t.ins.length:=by
 unfold iV at h;split at h
 .cases h
 rename_i st1 U;cases h;exact⟨st1,U,by rw[(iQ U).1],qs⟩
theorem UH{y:fO}{t:Ty}(h:eU m y=.ok t):t=SA m.dx y:=by
 unfold eU at h;unfold SA;split at h
 .rename_i hy;rw[qac hy];unfold iH fE at h;split at h
  .cases h
  rename_i k X;split at X
  .cases X;cases h;rfl
  cases X
 rename_i hy;rw[qaa hy];cases h;rfl
theorem sU{i:Ins}{Z J:Bd}(h:chk m ls i Z=.ok J)(ho:dS i.2.1=true):∃B,J.dn=B::Z.dn/\B.word=i.2.1/\B.cut=false/\B.takes=(SA m.dx i.2.2).ins/\B.dL=(SA m.dx i.2.2).outs/\J.dB.length=B.dK+B.takes.length/\
  (Z.dJ.cut=false->Z.dJ.dK<=Z.dB.length->Z.dJ.dK<=B.dK/\Z.dB.length=B.dK+B.takes.length+(if i.2.1=4 then 1 else 0)):=by
 simp only[dS,qby,qcn]at ho;unfold chk iG at h;rw[qac qo]at h;unfold dR at h;rw[qaa qo]at h;by_cases a:i.2.1=4
 .rw[qaa qo,qac a]at h;split at h
  .cases h
  rename_i t b;split at h
  .cases h
  rename_i st1 U;obtain⟨j,c,d,e⟩:=BH h;have:=UH b;subst this;refine⟨_,by rw[d,(iQ U).1],a.symm,rfl,rfl,rfl,e,λhc hf=>?_⟩;obtain⟨g,rfl⟩:=gK (Z:={Z with at_:=i.1}) hc hf U;obtain⟨f,rfl⟩:=gK (by exact hc) (by simp;have:=g;simp at this;show Z.dJ.dK<=_;simp[Bd.dJ]at this ⊢;omega) c;rw[qac a];simp[Bd.dJ]at g f ⊢;omega
 rw[qac qo]at h;split at h
 .cases h
 rename_i t b;obtain⟨j,c,d,e⟩:=BH h;have:=UH b;subst this;refine⟨_,d,rfl,rfl,rfl,rfl,e,λhc hf=>?_⟩;obtain⟨f,rfl⟩:=gK (Z:={Z with at_:=i.1}) hc hf c;rw[qaa a];simp[Bd.dJ]at f ⊢;omega
theorem xU{i:Ins}{Z J:Bd}(h:chk m ls i Z=.ok J)(e:i.2.1=5)(hf:∀b∈Z.dn.tail.head?,b.dK<=Z.dJ.dK):J.dn=⟨5,Z.dJ.takes,Z.dJ.dL,Z.dJ.dK,false⟩::Z.dn.tail/\J.dB.length=Z.dJ.dK+Z.dJ.takes.length/\
  (Z.dJ.cut=false->Z.dJ.dK<=Z.dB.length->Z.dB.length=Z.dJ.dK+Z.dJ.dL.length):=by
 unfold chk iG at h;rw[qac qo]at h;unfold dR at h;rw[qaa qo,qaa qo,qaa qo,qac e]at h;split at h
 .cases h
 rename_i left st1 U;obtain⟨rfl,c,d,f⟩:=G5 U;obtain⟨o,a,g,j⟩:=BH h;unfold dQ at a;split at a
 .cases a
 rename_i stk k;cases a;have p:(fJ st1 Z.dJ.takes).dJ.dK<=Z.dJ.dK:=by
  show(st1.dn.headD pW.none).dK<=_;have l:st1.dn=Z.dn.tail:=c;rw[l];cases n:Z.dn.tail with
  | nil=>exact qZ
  | cons b r=>exact hf b (by rw[n];simp)
 have:=wT (bl:=(fJ st1 Z.dJ.takes).dJ) (by
  show _+Z.dJ.takes.length<=(st1.dB++Z.dJ.takes).length;rw[qaq];have:st1.dB.length=Z.dJ.dK:=d;omega) k
 have hl:stk.length=Z.dJ.dK:=by
  rw[this];show((st1.dB++Z.dJ.takes).take ((st1.dB++Z.dJ.takes).length - Z.dJ.takes.length)).length=_;have:st1.dB.length=Z.dJ.dK:=d;simp;omega
 refine⟨?_,?_,f⟩
 .rw[g];show _::st1.dn=_;rw[c];simp only[hl];rfl
 rw[j];simp only[hl];rfl
theorem yH{i:Ins}{Z J:Bd}(h:chk m ls i Z=.ok J)(a:i.2.1=11):J.dn=Z.dn.tail/\J.dB.length=Z.dJ.dK+Z.dJ.dL.length/\(Z.dJ.word=4->Z.dJ.takes=Z.dJ.dL)/\
  (Z.dJ.cut=false->Z.dJ.dK<=Z.dB.length->Z.dB.length=Z.dJ.dK+Z.dJ.dL.length):=by
 unfold chk iG at h;rw[qac qo]at h;unfold dR at h;rw[qaa qo,qaa qo,qaa qo,qaa qo,qac a]at h;split at h
 .cases h
 rename_i left st1 U;obtain⟨rfl,b,c,d⟩:=G5 U;split at h
 .cases h
 rename_i hw;cases h;refine⟨b,?_,λf=>?_,d⟩
 .show(st1.dB++Z.dJ.dL).length=_;rw[qaq];have:st1.dB.length=Z.dJ.dK:=c;omega
 obtain e | e:=Classical.em (Z.dJ.takes=Z.dJ.dL)
 .exact e
 exact absurd ⟨f,e⟩ hw
end
section
variable {m:dX}{ls:qM}{dx:List Ty}
def Sm(iB:List (Bd×List Nat))(Z:Bd)(op:List Nat)(j:Nat)(b0 b:PB):Prop:=
 ∃B,Z.dn[j]?=some B/\(b.lp=b0.lp/\b.tk=b0.tk/\b.ca=b0.ca)/\(b0.lp=true->b.tg=b0.tg)/\
 (b0.lp=false->∃st2,iB[b.tg]?=some (st2,op.drop (j+1))/\st2.dn=Z.dn.drop (j+1)/\st2.dB.length=B.dK+B.dL.length)/\
 (B.word≠4->b.el=b0.el)/\
 (B.word=4->b0.el=0->(b.el=0/\B.takes=B.dL)\/(b.el≠0/\∃st2,iB[b.el]?=some (st2,op.drop j)/\st2.dn=⟨5,B.takes,B.dL,B.dK,false⟩::Z.dn.drop (j+1)/\st2.dB.length=B.dK+B.takes.length))
theorem iq(a:List PB)(o:Nat)(f:PB->PB):(setB a o f).length=a.length:=by unfold setB;simp
theorem wX{b:List PB}{o a:Nat}{f:PB->PB}(h:a≠o):(setB b o f)[a]?=b[a]?:=by
 unfold setB;rw[List.getElem?_set_ne (λe=>h e.symm)]
theorem EE{a:List PB}{o:Nat}{f:PB->PB}(h:o<a.length):(setB a o f)[o]?=some (f (a.getD o PB.none)):=by
 unfold setB;rw[List.getElem?_set_self h]
theorem sW{a:List PB}{o:Nat}{b:PB}(h:a[o]?=some b):a.getD o PB.none=b:=by
 rw[qag,h];rfl
theorem oP{a b:List PB}{o:Nat}(h:a[o]?=b[o]?):a.getD o PB.none=b.getD o PB.none:=by
 rw[qag,qag,h]
theorem ends{iB:List (Bd×qM)}:∀(r:List Ins)(Z:Bd)(l:qM)(f:List PB)(ss:List PS)(d:Nat),fits m ls r Z d->l.length=d+1->Z.dn.length=d+1->l.Nodup->(∀o∈l,o<f.length)->
  iB.drop ss.length=tab m ls r Z l f.length->
  f.length<=(iI dx r l f ss).1.length/\(∀o,o<f.length->o∉l.take d->(iI dx r l f ss).1[o]?=f[o]?)/\
  ∀j o,l[j]?=some o->j<d->Sm iB Z l j (f.getD o PB.none) ((iI dx r l f ss).1.getD o PB.none)
 | [],Z,l,f,ss,d,h,_,_,_,_,_=>h.elim
 | i::r,Z,l,f,ss,d,h,ho,hb,hnd,hlt,ht=>by
  obtain⟨⟨L,-⟩,R,J,hc,hr⟩:=h;have hn:iB.drop (ss.length+1)=tab m ls r J (FR i.2.1 f.length l) (Ve i.2.1 f.length):=by
   have U:iB.drop (ss.length+1)=(iB.drop ss.length).drop 1:=by rw[List.drop_drop]
   rw[U,ht,tab,hc];rfl
  obtain⟨g,k,rfl⟩:∃a b,l=a::b:=by
   cases l with
   | nil=>simp at ho
   | cons a b=>exact⟨a,b,rfl⟩
  obtain⟨q,M,hbl⟩:∃a b,Z.dn=a::b:=by
   cases S:Z.dn with
   | nil=>rw[S]at hb;simp at hb
   | cons a b=>exact⟨a,b,rfl⟩
  have y:Z.dJ=q:=by unfold Bd.dJ;rw[hbl];rfl
  have E:g<f.length:=hlt g qs;simp only[qbb]at ho;rw[hbl]at hb;simp only[qbb]at hb;by_cases p:dS i.2.1=true
  .rw[qaa (by intro c;rw[c.1]at p;cases p),qac p]at hr;simp only[FR,Ve,p,qda]at hn;obtain⟨B,e1,-,-,-,-,-,-⟩:=sU hc p;have hp:iI dx (i::r) (g::k) f ss=iI dx r (f.length::g::k) (f++[nH dx i.2.1 i.2.2 (ss.length+1)]) (ss++[stepOf i f.length]):=by
    conv=>lhs;unfold iI
    rw[qac p]
   rw[hp];obtain⟨s,t,u⟩:=ends r J (f.length::g::k) (f++[nH dx i.2.1 i.2.2 (ss.length+1)]) (ss++[stepOf i f.length]) (d+1) hr qt (by rw[e1,hbl];simp;omega)
    (qdv.2 ⟨λc=>by have:=hlt _ c;omega,hnd⟩) (λo h=>by
     exact UW) (by simpa using hn)
   refine⟨by simp at s;omega,λo U n=>?_,λj o U n=>?_⟩
   .rw[t o qt (by rw[qdp];intro c;obtain rfl | c:=qav.1 c;omega;exact n c),qbe U]
   have T:=hlt o (qai U);obtain⟨B',b1,b2,b3,b4,b5,b6⟩:=u (j+1) o (by simpa using U) qo;have V:(f++[nH dx i.2.1 i.2.2 (ss.length+1)]).getD o PB.none=f.getD o PB.none:=oP (by rw[qbe T]);rw[V]at b2 b3 b4 b5 b6;rw[e1]at b1 b4 b6;exact⟨B',by simpa using b1,b2,b3,by simpa using b4,b5,by simpa using b6⟩
  have F:dS i.2.1=false:=by simpa using p
  simp only[F,qct,qbu]at hr;simp only[FR,Ve,F,qct,qbu]at hn;by_cases v:i.2.1=11
  .simp only[v,qda,true_and]at hr hn;obtain⟨e1,z,N,-⟩:=yH hc v;rw[y]at z N;rw[hbl]at e1;simp only[qcz]at e1 hn;by_cases G:d=0
   .subst G;have hp:iI dx (i::r) (g::k) f ss=(f,ss):=by
     have:k=[]:=by cases k with | nil=>rfl | cons a b=>simp at ho
     subst this;unfold iI;rw[qaa p,qaa qo,qac v];rfl
    rw[hp];exact⟨qR,λ_ _ _=>rfl,λj o _ h=>absurd h qo⟩
   rw[qaa G]at hr;have hp:iI dx (i::r) (g::k) f ss=iI dx r k (setB f g λb=>if b.lp then b else {b with tg:=ss.length+1}) (ss++[stepOf i g]):=by
    conv=>lhs;unfold iI
    rw[qaa p,qaa qo,qac v,qaa (by intro c;simp only[qcz]at c;rw[c]at ho;simp at ho;omega)];rfl
   rw[hp];have A:=qdv.1 hnd;obtain⟨s,t,u⟩:=ends r J k (setB f g λb=>if b.lp then b else {b with tg:=ss.length+1}) (ss++[stepOf i g]) (d - 1) hr qo (by rw[e1];omega) A.2 (λo h=>by rw[iq];exact hlt o (by simp[h])) (by rw[iq];simpa using hn);rw[iq]at s;have H:iB[ss.length+1]?=some (J,k):=by
    exact UU
   obtain⟨w,rfl⟩:∃w,d=w+1:=⟨d - 1,qo⟩;simp only[Nat.add_sub_cancel]at t u;refine⟨s,λo U n=>?_,λj o U n=>?_⟩
   .rw[qdp]at n;rw[t o (by rw[iq];exact U) (λc=>n (by simp[c])),wX (λe=>n (by simp[e]))]
   cases j with
   | zero=>
    simp only[qas,Option.some.injEq]at U;subst U;have hno:g∉k.take w:=λc=>A.1 (List.mem_of_mem_take c);have W:(iI dx r k (setB f g λb=>if b.lp then b else {b with tg:=ss.length+1}) (ss++[stepOf i g])).1.getD g PB.none=(λb:PB=>if b.lp then b else {b with tg:=ss.length+1}) (f.getD g PB.none):=sW ((t g (by rw[iq];exact E) hno).trans (EE E));rw[W];generalize f.getD g PB.none=I;refine⟨q,by rw[hbl];rfl,?_,?_,?_,?_,?_⟩
    .cases hl:I.lp<;>simp[hl]
    .intro hl;simp[hl]
    .intro hl;simp only[hl,qbu,qct];exact⟨J,by simpa using H,by rw[hbl];simpa using e1,z⟩
    .intro _;cases hl:I.lp<;>simp[hl]
    intro Y D;left
    refine⟨?_,N Y⟩;cases hl:I.lp<;>simp[hl,D]
   | succ j=>simp only[qbh]at U;obtain⟨B',b1,b2,b3,b4,b5,b6⟩:=u j o U qo;have hne:o≠g:=λe=>A.1 (by rw[<-e];exact qai U);exact WJ
  simp only[v,qct,false_and]at hr hn;by_cases C:i.2.1=5
  .obtain⟨hw,G⟩:=R C;rw[y]at hw;have aa:∀b∈Z.dn.tail.head?,b.dK<=Z.dJ.dK:=by
    rw[hbl,y];intro b K;rw[hbl]at L;cases M with
    | nil=>simp at K
    | cons c r'=>simp at K;subst K;exact L.2.1
   obtain⟨e1,z,-⟩:=xU hc C aa;rw[y]at e1 z;rw[hbl]at e1;simp only[qcz]at e1;have hp:iI dx (i::r) (g::k) f ss=iI dx r (g::k) (setB f g λb=>{b with el:=ss.length+1}) (ss++[stepOf i g]):=by
    conv=>lhs;unfold iI
    rw[qaa p,qac C];rfl
   rw[hp];have A:=qdv.1 hnd;obtain⟨s,t,u⟩:=ends r J (g::k) (setB f g λb=>{b with el:=ss.length+1}) (ss++[stepOf i g]) d hr qt (by rw[e1];simp;omega) hnd (λo h=>by rw[iq];exact hlt o h) (by rw[iq];simpa using hn);rw[iq]at s;have H:iB[ss.length+1]?=some (J,g::k):=by
    exact UU
   obtain⟨w,rfl⟩:∃w,d=w+1:=⟨d - 1,qo⟩;refine⟨s,λo U n=>?_,λj o U n=>?_⟩
   .rw[t o (by rw[iq];exact U) n];rw[qdp]at n;exact wX (λe=>n (by simp[e]))
   obtain⟨B',b1,b2,b3,b4,b5,b6⟩:=u j o U n;cases j with
   | zero=>
    simp only[qas,Option.some.injEq]at U;subst U;rw[sW (EE E)]at b2 b3 b4 b5 b6;rw[e1]at b1 b4;simp only[qas,Option.some.injEq]at b1;subst b1;have D:=b5 qs;refine⟨q,by rw[hbl];rfl,b2,b3,?_,λh=>absurd hw h,λ_ _=>.inr ⟨by rw[D];simp,J,?_,?_,z⟩⟩
    .rw[hbl];simpa using b4
    .rw[D];simpa using H
    rw[hbl];simpa using e1
   | succ j=>
    have ab:k[j]?=some o:=by simpa using U
    have hne:o≠g:=λe=>A.1 (by rw[<-e];exact qai ab);exact WJ
  have X:=xw hc F C v;have hp:iI dx (i::r) (g::k) f ss=iI dx r (g::k) f (ss++[stepOf i g]):=by
   conv=>lhs;unfold iI
   rw[qaa p,qaa C,qaa v];rfl
  rw[hp];obtain⟨x,e1,f1,f2,O,Q⟩:∃x,J.dn=x::M/\x.word=q.word/\x.takes=q.takes/\x.dL=q.dL/\x.dK=q.dK:=by
   obtain h | h:=X
   .exact⟨q,by rw[h,hbl],rfl,rfl,rfl,rfl⟩
   exact⟨{q with cut:=true},by rw[h,y,hbl];rfl,rfl,rfl,rfl,rfl⟩
  obtain⟨s,t,u⟩:=ends r J (g::k) f (ss++[stepOf i g]) d hr qt (by rw[e1];simp;omega) hnd hlt (by simpa using hn);refine⟨s,t,λj o U n=>?_⟩;obtain⟨B',b1,b2,b3,b4,b5,b6⟩:=u j o U n;rw[e1]at b1 b4 b6;rw[Sm,hbl];cases j with
  | zero=>simp only[qas,Option.some.injEq]at b1;subst b1;rw[f1]at b5 b6;rw[f2,O,Q]at b6;rw[O,Q]at b4;exact⟨q,rfl,b2,b3,by simpa using b4,b5,by simpa using b6⟩
  | succ j=>exact⟨B',by simpa using b1,b2,b3,by simpa using b4,b5,by simpa using b6⟩
end
section
variable {m:dX}{ls:qM}
def MB(iB:List (Bd×List Nat))(Z:Bd)(op:List Nat)(d:Nat)(bs:List PB):Prop:=
 ∀j o B,op[j]?=some o->Z.dn[j]?=some B->(j=d->(bs.getD o PB.none).ca=B.dL.length/\B.word≠3)/\(B.word=4->(bs.getD o PB.none).el=0)/\
  (j<d->(bs.getD o PB.none).lp=(B.word==3)/\(bs.getD o PB.none).tk=B.takes.length/\(bs.getD o PB.none).ca=(dZ B).length/\
   (B.word=3->∃st2,iB[(bs.getD o PB.none).tg]?=some (st2,op.drop j)/\st2.dn={B with cut:=false}::Z.dn.drop (j+1)/\st2.dB.length=B.dK+B.takes.length))
structure AtK(I:List Ins)(iB:List (Bd×List Nat))(R:List PB×List PS)(k:Nat)(Z:Bd)(op:List Nat)(bs:List PB)(ss:List PS)(d:Nat):Prop where
 sl:ss.length=k
 fit:fits m ls (I.drop k) Z d
 ol:op.length=d+1
 bl:Z.dn.length=d+1
 nd:op.Nodup
 lt:∀o∈op,o<bs.length
 tb:iB.drop k=tab m ls (I.drop k) Z op bs.length
 pr:R=iI m.dx (I.drop k) op bs ss
 Y:MB iB Z op d bs
theorem uY(dx:List Ty):∀(r:List Ins)(a:qM)(d:List PB)(c:List PS),∃z,(iI dx r a d c).2=c++z
 | [],a,d,c=>⟨[],by simp[iI]⟩
 | i::r,a,d,c=>by
  unfold iI;split
  .obtain⟨z,h⟩:=uY dx r (d.length::a) (d++[nH dx i.2.1 i.2.2 (c.length+1)]) (c++[stepOf i d.length]);exact⟨_,by rw[h,qaj]⟩
  split
  .obtain⟨z,h⟩:=uY dx r a (setB d (a.headD 0) λb=>{b with el:=c.length+1}) (c++[stepOf i (a.headD 0)]);exact⟨_,by rw[h,qaj]⟩
  split
  .split
   .exact⟨[],qs⟩
   obtain⟨z,h⟩:=uY dx r a.tail (setB d (a.headD 0) λb=>if b.lp then b else {b with tg:=c.length+1}) (c++[stepOf i (a.headD 0)]);exact⟨_,by rw[h,qaj]⟩
  obtain⟨z,h⟩:=uY dx r a d (c++[stepOf i (a.headD 0)]);exact⟨_,by rw[h,qaj]⟩
theorem AtK.next{I:List Ins}{iB:List (Bd×qM)}{R:List PB×List PS}{k:Nat}{Z:Bd}{v:qM}{f:List PB}{n:List PS}{d:Nat}(h:AtK (m:=m) (ls:=ls) I iB R k Z v f n d){i:Ins}(hi:I[k]?=some i)(ad:¬(i.2.1=11/\d=0)):
  ∃J p C D,chk m ls i Z=.ok J/\p=FR i.2.1 f.length v/\iB[k+1]?=some (J,p)/\R.2[k]?=some (stepOf i (if dS i.2.1 then f.length else v.headD 0))/\AtK (m:=m) (ls:=ls) I iB R (k+1) J p C (n++[stepOf i (if dS i.2.1 then f.length else v.headD 0)]) D:=by
 obtain⟨x,ae,K,M,E,hlt,af,F,hmb⟩:=h;have aj:I.drop k=i::I.drop (k+1):=by
  exact Vy
 rw[aj]at ae af F;obtain⟨⟨ag,-⟩,h5,J,hc,q⟩:=ae;rw[qaa ad]at q;have s:iB.drop (k+1)=tab m ls (I.drop (k+1)) J (FR i.2.1 f.length v) (Ve i.2.1 f.length):=by
  have U:iB.drop (k+1)=(iB.drop k).drop 1:=by rw[List.drop_drop]
  rw[U,af,tab,hc];rfl
 have t:iB[k+1]?=some (J,FR i.2.1 f.length v):=by
  have:iB[k+1]?=(iB.drop (k+1))[0]?:=qs;rw[this,s];cases V:I.drop (k+1) with
  | nil=>rw[V]at q;exact q.elim
  | cons a b=>rfl
 obtain⟨l,p,rfl⟩:∃a b,v=a::b:=by
  cases v with
  | nil=>simp at K
  | cons a b=>exact⟨a,b,rfl⟩
 obtain⟨u,ah,hB⟩:∃a b,Z.dn=a::b:=by
  cases V:Z.dn with
  | nil=>rw[V]at M;simp at M
  | cons a b=>exact⟨a,b,rfl⟩
 have N:Z.dJ=u:=by unfold Bd.dJ;rw[hB];rfl
 have ak:l<f.length:=hlt l qs;simp only[qbb]at K;rw[hB]at M;simp only[qbb]at M;have O:∀C W z,R=iI m.dx (I.drop (k+1)) W C (n++[z])->R.2[k]?=some z:=λC W z hR=>by
  obtain⟨y,hy⟩:=uY m.dx (I.drop (k+1)) W C (n++[z]);rw[hR,hy,qaj,qdf qo];simp[x]
 by_cases r:dS i.2.1=true
 .simp only[FR,Ve,r,qda]at s t;rw[qac r]at q;obtain⟨B,g,w1,w2,Y,w4,w5,-⟩:=sU hc r;have hp:R=iI m.dx (I.drop (k+1)) (f.length::l::p) (f++[nH m.dx i.2.1 i.2.2 (n.length+1)]) (n++[stepOf i f.length]):=by
   rw[F];conv=>lhs;unfold iI
   rw[qac r]
  refine⟨J,_,f++[nH m.dx i.2.1 i.2.2 (n.length+1)],d+1,hc,rfl,by simp only[FR,r,qda];exact t,by rw[qac r];exact O _ _ _ hp,?_⟩;simp only[FR,r,qda];refine⟨by simp[x],q,qt,by rw[g,hB];simp;omega,qdv.2 ⟨λc=>by have:=hlt _ c;omega,E⟩,λo h=>?_,by simpa using s,hp,?_⟩
  .exact UW
  intro j o B' U L;rw[g]at L;cases j with
  | zero=>
   simp only[qas,Option.some.injEq]at U L;subst U L;have eb:(f++[nH m.dx i.2.1 i.2.2 (n.length+1)]).getD f.length PB.none=nH m.dx i.2.1 i.2.2 (n.length+1):=sW qs;rw[eb];refine⟨λc=>qo,λc=>?_,λ_=>?_⟩
   .unfold nH;rw[qaa qo]
   unfold nH dZ;rw[w1,Y,w4];by_cases Q:i.2.1=3
   .simp only[Q,qda,true_and];refine⟨rfl,λ_=>⟨J,by rw[x];simpa using t,?_,by rw[w5,Y]⟩⟩;have ai:B={B with cut:=false}:=by
     cases B;simp only at w2;subst w2;rfl
    rw[g];simp only[List.drop_succ_cons,List.drop_zero];rw[<-Y,<-w4];rw[w1,Q]at ai;exact congrArg (· ::Z.dn) ai
   simp only[Q,qct];exact⟨by simp[Q],trivial,trivial,λc=>absurd c qs⟩
  | succ j=>simp only[qbh]at U L;have al:=hlt o (qai U);have eb:(f++[nH m.dx i.2.1 i.2.2 (n.length+1)]).getD o PB.none=f.getD o PB.none:=oP (by rw[qbe al]);rw[eb,g];obtain⟨a1,a2,a3⟩:=hmb j o B' U L;exact⟨λc=>a1 qo,a2,λc=>by simpa using a3 qo⟩
 have aa:dS i.2.1=false:=by simpa using r
 simp only[aa,qct,qbu]at q ⊢;simp only[FR,Ve,aa,qct,qbu]at s t ⊢;by_cases w:i.2.1=11
 .have hd:d≠0:=λc=>ad ⟨w,c⟩;obtain⟨D,rfl⟩:∃D,d=D+1:=⟨d - 1,qo⟩;simp only[w,qda,qcz,Nat.add_sub_cancel]at q s t ⊢;obtain⟨g,e2,e3,-⟩:=yH hc w;rw[hB]at g;simp only[qcz]at g;have hp:R=iI m.dx (I.drop (k+1)) p (setB f l λb=>if b.lp then b else {b with tg:=n.length+1}) (n++[stepOf i l]):=by
   rw[F];conv=>lhs;unfold iI
   rw[qaa r,qaa qo,qac w,qaa (by intro c;simp only[qcz]at c;rw[c]at K;simp at K)];rfl
  have S:=qdv.1 E;refine⟨J,p,_,D,hc,rfl,t,O _ _ _ hp,by simp[x],q,qo,by rw[g];omega,S.2,λo h=>by rw[iq];exact hlt o (by simp[h]),by rw[iq];exact s,hp,?_⟩;intro j o B' U L;have ab:o≠l:=λe=>S.1 (by rw[<-e];exact qai U);rw[oP (wX ab),g];rw[g]at L;obtain⟨a1,a2,a3⟩:=hmb (j+1) o B' (by simpa using U) (by rw[hB];simpa using L);rw[hB]at a3;exact⟨λc=>a1 qo,a2,λc=>by simpa using a3 qo⟩
 simp only[w,qct]at q s t ⊢;by_cases G:i.2.1=5
 .obtain⟨hw,hd⟩:=h5 G;rw[N]at hw;have am:∀b∈Z.dn.tail.head?,b.dK<=Z.dJ.dK:=by
   rw[hB,N];intro b ac;rw[hB]at ag;cases ah with
   | nil=>simp at ac
   | cons c r'=>simp at ac;subst ac;exact ag.2.1
  obtain⟨g,e2,-⟩:=xU hc G am;rw[N,hB]at g;simp only[qcz]at g;have hp:R=iI m.dx (I.drop (k+1)) (l::p) (setB f l λb=>{b with el:=n.length+1}) (n++[stepOf i l]):=by
   rw[F];conv=>lhs;unfold iI
   rw[qaa r,qac G];rfl
  have S:=qdv.1 E;refine⟨J,l::p,_,d,hc,rfl,t,O _ _ _ hp,by simp[x],q,qt,by rw[g];simp;omega,E,λo h=>by rw[iq];exact hlt o h,by rw[iq];exact s,hp,?_⟩;intro j o B' U L;rw[g]at L ⊢;cases j with
  | zero=>simp only[qas,Option.some.injEq]at U L;subst U L;rw[sW (EE ak)];obtain⟨a1,a2,a3⟩:=hmb 0 l u rfl (by rw[hB];rfl);refine⟨λc=>qo,λc=>absurd c qs,λc=>?_⟩;obtain⟨T,b2,H,-⟩:=a3 c;unfold dZ at H ⊢;rw[hw]at T H;exact⟨by rw[T];rfl,b2,by simpa using H,λc=>absurd c qs⟩
  | succ j=>
   have an:p[j]?=some o:=by simpa using U
   have ab:o≠l:=λe=>S.1 (by rw[<-e];exact qai an);rw[oP (wX ab)];exact UY
 have X:=xw hc aa G w;have hp:R=iI m.dx (I.drop (k+1)) (l::p) f (n++[stepOf i l]):=by
  rw[F];conv=>lhs;unfold iI
  rw[qaa r,qaa G,qaa w];rfl
 obtain⟨A,g,f1,f2,f3,f4⟩:∃A,J.dn=A::ah/\A.word=u.word/\A.takes=u.takes/\A.dL=u.dL/\A.dK=u.dK:=by
  obtain h | h:=X
  .exact⟨u,by rw[h,hB],rfl,rfl,rfl,rfl⟩
  exact⟨{u with cut:=true},by rw[h,N,hB];rfl,rfl,rfl,rfl,rfl⟩
 refine⟨J,l::p,f,d,hc,rfl,t,O _ _ _ hp,by simp[x],q,qt,by rw[g];simp;omega,E,hlt,s,hp,?_⟩;intro j o B' U L;rw[g]at L ⊢;cases j with
 | zero=>simp only[qas,Option.some.injEq]at U L;subst U L;obtain⟨a1,a2,a3⟩:=hmb 0 l u rfl (by rw[hB];rfl);rw[hB]at a3;unfold dZ at a3 ⊢;rw[f1,f2,f3,f4];refine⟨a1,a2,λc=>?_⟩;obtain⟨T,b2,H,b4⟩:=a3 c;refine⟨T,b2,H,λc'=>?_⟩;obtain⟨ao,c1,c2,c3⟩:=b4 c';refine⟨ao,c1,?_,c3⟩;rw[c2];simp only[List.drop_succ_cons]
 | succ j=>exact UY
end
section
variable {m:dX}{ls:qM}{I:List Ins}{iB:List (Bd×qM)}{R:List PB×List PS}{k:Nat}{Z:Bd}{op:qM}{bs:List PB}{ss:List PS}{d:Nat}
theorem AtK.label(h:AtK (m:=m) (ls:=ls) I iB R k Z op bs ss d){j o:Nat}{B:pW}(ho:op[j]?=some o)(g:Z.dn[j]?=some B)(i:j<d):
  (R.1.getD o PB.none).lp=(B.word==3)/\(R.1.getD o PB.none).tk=B.takes.length/\(R.1.getD o PB.none).ca=(dZ B).length/\
  (∃a,iB[(R.1.getD o PB.none).tg]?=some (a,if B.word=3 then op.drop j else op.drop (j+1))/\a.dn=(if B.word=3 then {B with cut:=false}::Z.dn.drop (j+1) else Z.dn.drop (j+1))/\a.dB.length=B.dK+(dZ B).length)/\
  (B.word=4->((R.1.getD o PB.none).el=0/\B.takes=B.dL)\/((R.1.getD o PB.none).el≠0/\∃a,iB[(R.1.getD o PB.none).el]?=some (a,op.drop j)/\a.dn=⟨5,B.takes,B.dL,B.dK,false⟩::Z.dn.drop (j+1)/\a.dB.length=B.dK+B.takes.length)):=by
 obtain⟨-,-,l⟩:=ends (dx:=m.dx) (iB:=iB) (I.drop k) Z op bs ss d h.fit h.ol h.bl h.nd h.lt (by rw[h.sl];exact h.tb);rw[<-h.pr]at l;obtain⟨p,q,⟨r,s,t⟩,u,v,z,w⟩:=l j o ho i;obtain rfl:B=p:=Option.some.inj (g.symm.trans q);obtain⟨-,x,y⟩:=h.Y j o B ho g;obtain⟨c1,c2,c3,c4⟩:=y i;refine⟨r.trans c1,s.trans c2,t.trans c3,?_,λn=>w n (x n)⟩;by_cases b:B.word=3
 .obtain⟨a,c,e,f⟩:=c4 b;refine⟨a,?_,?_,?_⟩
  .rw[u (by rw[c1,b];rfl),qac b];exact c
  .rw[qac b];exact e
  rw[f];unfold dZ;rw[qac b]
 obtain⟨a,c,e,f⟩:=v (by rw[c1];simp[b]);refine⟨a,?_,?_,?_⟩
 .rw[qaa b];exact c
 .rw[qaa b];exact e
 rw[f];unfold dZ;rw[qaa b]
theorem AtK.outer(h:AtK (m:=m) (ls:=ls) I iB R k Z op bs ss d){o:Nat}{B:pW}(ho:op[d]?=some o)(b:Z.dn[d]?=some B):(R.1.getD o PB.none).ca=B.dL.length/\B.word≠3:=by
 obtain⟨-,a,-⟩:=ends (dx:=m.dx) (iB:=iB) (I.drop k) Z op bs ss d h.fit h.ol h.bl h.nd h.lt (by rw[h.sl];exact h.tb);rw[<-h.pr]at a;obtain⟨e,-,-⟩:=h.Y d o B ho b;have hno:o∉op.take d:=by
  intro c;obtain⟨i,hi,f⟩:=List.mem_iff_getElem.1 c;have hl:i<d:=by simp at hi;omega
  have U:op[i]?=some o:=by
   rw[<-f,List.getElem_take,qab (by have:=h.ol;omega)]
  have:=(List.getElem?_inj (by have:=h.ol;omega) h.nd).1 (U.trans ho.symm);omega
 rw[oP (a o (h.lt o (qai ho)) hno)];exact e rfl
theorem FN(h0:AtK (m:=m) (ls:=ls) I iB R 0 Z op bs ss d):∀(k:Nat)(J:Bd)(op':qM),iB[k]?=some (J,op')->∃c f g,AtK (m:=m) (ls:=ls) I iB R k J op' c f g
 | 0,J,op',h=>by
  have:iB[0]?=some (Z,op):=by
   exact UX
  rw[this]at h;cases h;exact⟨bs,ss,d,h0⟩
 | k+1,J,op',h=>by
  obtain⟨r,-⟩:=qae.1 h;obtain⟨⟨st1,j⟩,U⟩:∃x,iB[k]?=some x:=⟨_,qab qo⟩;obtain⟨s,t,l,X⟩:=FN h0 k st1 j U;have hI:∃i,I[k]?=some i:=by
   exact WM
  obtain⟨i,hi⟩:=hI;by_cases hne:i.2.1=11/\l=0
  .exact Xh
  obtain⟨st2,u,n,o,hc,v,p,-,q⟩:=X.next hi hne;rw[p]at h;cases h;exact⟨n,_,o,q⟩
end
structure PF where
 ty:Ty
 loc:Nat
 bs:List PB
 ss:List PS
structure Lb where
 f:Nat
 b:Nat
 fl:Nat
structure Fr where
 f:Nat
 nx:Nat
 fi:Nat
structure Rn where
 stk:List Int
 lab:List Lb
 eY:List Fr
 mem:List Nat
 dW:List Int
structure Ev where
 fs:List PF
 iL:List Int
 tys:List Ty
 most:Nat
 nf:Nat->Int->Int->Int×Nat
 lf:Nat->List Nat->Int
 sf:Nat->Int->List Nat
def PF.none:PF:=⟨⟨[],[]⟩,0,[],[]⟩
def Rn.put(s:Rn)(n:Int):Rn:={s with stk:=s.stk++[n]}
def Rn.pop(s:Rn):Option (Int×Rn):=match s.stk.getLast? with
 | none=>none
 | some n=>some (n,{s with stk:=s.stk.dropLast})
section
variable (E:Ev)
def nI(l:Lb):PB:=(E.fs.getD l.f PF.none).bs.getD l.b PB.none
def l9(l:Lb)(s:Rn):Option Rn:=
 if l.fl+(nI E l).ca<=s.stk.length then some {s with stk:=s.stk.take l.fl++s.stk.drop (s.stk.length - (nI E l).ca)} else none
def jH(s:Rn):Option Rn:=match s.eY.getLast? with
 | none=>none
 | some f=>match s.lab[f.fi]? with
  | none=>none
  | some l=>match l9 E l s with
   | none=>none
   | some s'=>some {s' with lab:=s.lab.take f.fi,eY:=s.eY.dropLast}
def mE(s:Rn)(k:Nat):Rn:={s with eY:=s.eY.dropLast++(s.eY.getLast?.map λf=>{f with nx:=k}).toList}
def mQ(j:Nat)(s:Rn):Option Rn:=match s.eY.getLast? with
 | none=>none
 | some f=>if s.lab.length<j+1 then none else if s.lab.length - 1 - j=f.fi then jH E s else match s.lab[s.lab.length - 1 - j]? with
  | none=>none
  | some l=>match l9 E l s with
   | none=>none
   | some s'=>some {mE s' (nI E l).tg with lab:=s.lab.take (s.lab.length - 1 - j)++(if(nI E l).lp then[l] else[])}
def nS(f:Nat)(s:Rn):Option (Rn×Nat):=
 if s.eY.length=50 then some (s,7) else match E.fs[f]? with
 | none=>none
 | some F=>if s.stk.length<F.ty.ins.length then none else some ({s with stk:=s.stk++List.replicate F.loc 0,eY:=s.eY++[⟨f,0,s.lab.length⟩],lab:=s.lab++[⟨f,0,s.stk.length - F.ty.ins.length⟩]},0)
def oG(which:Nat)(s:Rn):Option Rn:=match s.eY.getLast? with
 | none=>none
 | some f=>match(E.fs.getD f.f PF.none).bs[which]? with
  | none=>none
  | some b=>if s.stk.length<b.tk then none else some {s with lab:=s.lab++[⟨f.f,which,s.stk.length - b.tk⟩]}
def TC(which:Nat)(s:Rn):Option Rn:=match s.pop with
 | none=>none
 | some (n,s1)=>match oG E which s1 with
  | none=>none
  | some s2=>if n≠0 then some s2 else match s2.eY.getLast? with
   | none=>none
   | some f=>if((E.fs.getD f.f PF.none).bs.getD which PB.none).el≠0 then some (mE s2 ((E.fs.getD f.f PF.none).bs.getD which PB.none).el) else mQ E 0 s2
def ok0(r:Option Rn):Option (Rn×Nat):=r.map λs=>(s,0)
def oh(p:PS)(s:Rn):Option (Rn×Nat):=
 if p.wd=0 then some (s,1)
 else if p.wd=2\/p.wd=3 then ok0 (oG E p.bk s)
 else if p.wd=4 then ok0 (TC E p.bk s)
 else if p.wd=5 then ok0 (mQ E 0 s)
 else if p.wd=11 then(if s.lab.length=0 then none else some ({s with lab:=s.lab.dropLast},0))
 else some (s,0)
def u32(n:Int):Nat:=(n%4294967296).toNat
def Hg(p:PS)(s:Rn):Option (Rn×Nat):=match s.pop with
 | none=>none
 | some (n,s1)=>match E.iL[u32 n]? with
  | none=>some (s1,5)
  | some f=>if f= -1 then some (s1,5) else match E.fs[f.toNat]?,E.tys[p.num]? with
   | some F,some t=>if F.ty.ins=t.ins/\F.ty.outs=t.outs then nS E f.toNat s1 else some (s1,6)
   | _,_=>none
def rE(p:PS)(s:Rn):Option (Rn×Nat):=
 if p.wd=12 then ok0 (mQ E p.num s)
 else if p.wd=13 then(match s.pop with
  | none=>none
  | some (n,s1)=>if n≠0 then ok0 (mQ E p.num s1) else some (s1,0))
 else if p.wd=14 then(match s.pop with
  | none=>none
  | some (n,s1)=>ok0 (mQ E (p.zz.getD (u32 n) p.num) s1))
 else if p.wd=15 then ok0 (jH E s)
 else if p.wd=16 then nS E p.num s
 else if p.wd=17 then Hg E p s
 else some (s,0)
def uT(s:Rn):Option Nat:=match s.eY.getLast? with
 | none=>none
 | some f=>s.lab[f.fi]?.map (·.fl)
def tu(p:PS)(s:Rn):Option (Rn×Nat):=
 if p.wd=26 then s.pop.map λx=>(x.2,0)
 else if p.wd=27 then(match s.pop with
  | none=>none
  | some (n,s1)=>match s1.pop with
   | none=>none
   | some (b,s2)=>match s2.pop with
    | none=>none
    | some (a,s3)=>some (s3.put (if n≠0 then a else b),0))
 else if p.wd=32 then(match uT s with
  | none=>none
  | some b=>s.stk[b+p.num]?.map λn=>(s.put n,0))
 else if p.wd=33 then(match s.pop with
  | none=>none
  | some (n,s1)=>match uT s1 with
   | none=>none
   | some b=>if b+p.num<s1.stk.length then some ({s1 with stk:=s1.stk.set (b+p.num) n},0) else none)
 else if p.wd=34 then(match s.stk.getLast?,uT s with
  | some n,some b=>if b+p.num<s.stk.length then some ({s with stk:=s.stk.set (b+p.num) n},0) else none
  | _,_=>none)
 else if p.wd=35 then s.dW[p.num]?.map λn=>(s.put n,0)
 else if p.wd=36 then(match s.pop with
  | none=>none
  | some (n,s1)=>if p.num<s1.dW.length then some ({s1 with dW:=s1.dW.set p.num n},0) else none)
 else some (s,0)
def oI(x:Nat):Nat:=if x=44\/x=45\/x=58 then 1 else if x=41\/x=55 then 8 else 4
def lD(p:PS)(s:Rn):Option (Rn×Nat):=
 if p.wd=63 then some (s.put ((s.mem.length / 64:Nat):Int),0)
 else if p.wd=64 then(match s.pop with
  | none=>none
  | some (n,s1)=>if s1.mem.length / 64+u32 n<=E.most then some ({s1 with mem:=s1.mem++List.replicate (u32 n*64) 0}.put ((s1.mem.length / 64:Nat):Int),0) else some (s1.put (-1),0))
 else if p.wd=54\/p.wd=55\/p.wd=58 then(match s.pop with
  | none=>none
  | some (n,s1)=>match s1.pop with
   | none=>none
   | some (a,s2)=>if u32 a+p.num+oI p.wd<=s2.mem.length then some ({s2 with mem:=s2.mem.take (u32 a+p.num)++E.sf p.wd n++s2.mem.drop (u32 a+p.num+oI p.wd)},0) else some (s2,4))
 else(match s.pop with
  | none=>none
  | some (a,s1)=>if u32 a+p.num+oI p.wd<=s1.mem.length then some (s1.put (E.lf p.wd ((s1.mem.drop (u32 a+p.num)).take (oI p.wd))),0) else some (s1,4))
def zQ(x:Nat):Nat:=if x=69\/x=80\/(103<=x/\x<=105)\/(121<=x/\x<=123)\/x=167\/x=173 then 1 else 2
def ou(p:PS)(s:Rn):Option (Rn×Nat):=
 if p.wd=65\/p.wd=66 then some (s.put p.val,0)
 else if p.wd=172 then some (s,0)
 else if zQ p.wd=1 then(match s.pop with
  | none=>none
  | some (a,s1)=>some (s1.put (E.nf p.wd a 0).1,(E.nf p.wd a 0).2))
 else(match s.pop with
  | none=>none
  | some (b,s1)=>match s1.pop with
   | none=>none
   | some (a,s2)=>some (s2.put (E.nf p.wd a b).1,(E.nf p.wd a b).2))
def TK(p:PS)(s:Rn):Option (Rn×Nat):=
 if p.wd<=11 then oh E p s else if p.wd<=17 then rE E p s else if p.wd<=36 then tu p s else if p.wd<=64 then lD E p s else ou E p s
def rH(s:Rn):Option (Rn×Nat):=match s.eY.getLast? with
 | none=>none
 | some f=>match(E.fs.getD f.f PF.none).ss[f.nx]? with
  | none=>ok0 (jH E s)
  | some p=>TK E p (mE s (f.nx+1))
end
section
variable {m:dX}{ls:qM}{I:List Ins}{iB:List (Bd×qM)}{R:List PB×List PS}{k:Nat}{Z:Bd}{op:qM}{bs:List PB}{ss:List PS}{d:Nat}
def R8(outs:List Nat)(Z:Bd)(op:List Nat):Prop:=op.getLast?=some 0/\∃c,Z.dn.getLast?=some ⟨2,[],outs,0,c⟩
theorem getLast?_tail{c:Type}:∀{l:List c},2<=l.length->l.tail.getLast?=l.getLast?
 | [],h=>by simp at h
 | [a],h=>by simp at h
 | a::b::r,_=>by simp[qdr]
theorem AtK.XK(h:AtK (m:=m) (ls:=ls) I iB R k Z op bs ss d){i:Ins}(hi:I[k]?=some i)(u:¬(i.2.1=11/\d=0)){p:qM}(v:R8 p Z op){J:Bd}(hc:chk m ls i Z=.ok J):R8 p J (FR i.2.1 bs.length op):=by
 have w:=h.ol;have q:=h.bl;have x:I.drop k=i::I.drop (k+1):=by
  exact Vy
 have s:=h.fit;rw[x]at s;obtain⟨⟨hfl,-⟩,y,-⟩:=s;obtain⟨U,c,f⟩:=v;have t:∀(B:pW)(l:List pW),1<=l.length->(B::l).getLast?=l.getLast?:=λB l hl=>by
  cases l with
  | nil=>simp at hl
  | cons a b=>simp[qdr]
 by_cases n:dS i.2.1=true
 .obtain⟨B,g,-⟩:=sU hc n;unfold FR;rw[qac n];refine⟨?_,c,?_⟩
  .cases op with
   | nil=>simp at w
   | cons a b=>rw[qdr];exact U
  rw[g,t _ _ qo];exact f
 have z:dS i.2.1=false:=by simpa using n
 unfold FR;rw[qaa n];by_cases j:i.2.1=11
 .have hd:d≠0:=λc=>u ⟨j,c⟩;obtain⟨g,-⟩:=yH hc j;rw[qac j];exact⟨by rw[getLast?_tail qo];exact U,c,by rw[g,getLast?_tail qo];exact f⟩
 rw[qaa j];refine⟨U,?_⟩;by_cases o:i.2.1=5
 .obtain⟨-,hd⟩:=y o;have A:∀b∈Z.dn.tail.head?,b.dK<=Z.dJ.dK:=by
   exact WU
  obtain⟨g,-⟩:=xU hc o A;refine⟨c,?_⟩;rw[g,t _ _ qt,getLast?_tail qo];exact f
 obtain e | e:=xw hc z o j
 .exact⟨c,by rw[e];exact f⟩
 rw[e];cases hq:Z.dn with
 | nil=>rw[hq]at q;simp at q
 | cons a r=>
  rw[hq]at f;cases r with
  | nil=>simp at f;refine⟨true,?_⟩;unfold Bd.dJ;rw[hq];simp[f]
  | cons b r'=>refine⟨c,?_⟩;simp only[qcz];rw[qdr]at f ⊢;exact f
theorem GD{c:qM}(h0:AtK (m:=m) (ls:=ls) I iB R 0 Z op bs ss d)(f:R8 c Z op):∀(k:Nat)(J:Bd)(op':qM),iB[k]?=some (J,op')->R8 c J op'
 | 0,J,op',h=>by
  have:iB[0]?=some (Z,op):=by
   exact UX
  rw[this]at h;cases h;exact f
 | k+1,J,op',h=>by
  obtain⟨o,-⟩:=qae.1 h;obtain⟨⟨st1,g⟩,U⟩:∃x,iB[k]?=some x:=⟨_,qab qo⟩;obtain⟨p,q,j,X⟩:=FN h0 k st1 g U;have hI:∃i,I[k]?=some i:=by
   exact WM
  obtain⟨i,hi⟩:=hI;by_cases hne:i.2.1=11/\j=0
  .exact Xh
  obtain⟨st2,r,s,t,hc,l,n,-,u⟩:=X.next hi hne;rw[n]at h;cases h;rw[l];exact X.XK hi hne (GD h0 f k st1 g U) hc
structure Xo(m:dX)(F:PF)(ls:List Nat)(I:List Ins)(iB:List (Bd×List Nat)):Prop where
 all:∀(k:Nat)(Z:Bd)(op:List Nat),iB[k]?=some (Z,op)->R8 F.ty.outs Z op/\∃bs ss d,AtK (m:=m) (ls:=ls) I iB (F.bs,F.ss) k Z op bs ss d
 z:∃a,iB[0]?=some (⟨[],[⟨2,[],F.ty.outs,0,false⟩],a⟩,[0])
 ll:ls.length=F.ty.ins.length+F.loc
def zh(F:PF)(f base:Nat)(Z:Bd)(op:List Nat)(Lq:List Lb):Prop:=Lq.length=op.length/\∀j o B,op[j]?=some o->Z.dn[j]?=some B->Lq[Lq.length - 1 - j]?=some ⟨f,o,if j+1=op.length then base else base+(F.ty.ins.length+F.loc)+B.dK⟩
def Sl(m:dX)(E:Ev):List Fr->List Lb->Nat->Prop
 | [],lab,_=>lab=[]
 | fr::r,lab,h=>fr.fi<=lab.length/\∃F ls I iB Z op base,E.fs[fr.f]?=some F/\Xo m F ls I iB/\iB[fr.nx]?=some (Z,op)/\(∀B∈Z.dn,B.cut=false)/\zh F fr.f base Z op (lab.drop fr.fi)/\h=base+(F.ty.ins.length+F.loc)+Z.dB.length/\Sl m E r (lab.take fr.fi) (base+F.ty.outs.length)
structure nT(m:dX)(E:Ev)(s:Rn):Prop where
 fr:Sl m E s.eY.reverse s.lab s.stk.length
 gl:s.dW.length=m.dI.length
 fl:s.eY.length<=50
structure vH(m:dX)(E:Ev)(s:Rn)(fr:Fr)(r:List Fr)(F:PF)(ls:List Nat)(I:List Ins)(iB:List (Bd×List Nat))(Z:Bd)(op:List Nat)(base k:Nat):Prop where
 eY:s.eY.reverse=fr::r
 fi:fr.fi<=s.lab.length
 fn:E.fs[fr.f]?=some F
 ft:Xo m F ls I iB
 tb:iB[k]?=some (Z,op)
 lv:∀B∈Z.dn,B.cut=false
 sg:zh F fr.f base Z op (s.lab.drop fr.fi)
 re:Sl m E r (s.lab.take fr.fi) (base+F.ty.outs.length)
 gl:s.dW.length=m.dI.length
 fl:s.eY.length<=50
end
section
variable {m:dX}{E:Ev}{s:Rn}{fr:Fr}{r:List Fr}{F:PF}{ls:qM}{I:List Ins}{iB:List (Bd×qM)}{Z:Bd}{op:qM}{base k:Nat}
theorem vH.last(T:vH m E s fr r F ls I iB Z op base k):s.eY.getLast?=some fr/\s.eY.dropLast=r.reverse:=by
 have:s.eY=r.reverse++[fr]:=by
  have:=congrArg List.reverse T.eY;simpa using this
 rw[this];simp
theorem vH.fs(T:vH m E s fr r F ls I iB Z op base k):E.fs.getD fr.f PF.none=F:=by
 rw[qag,T.fn];rfl
theorem vH.lens(T:vH m E s fr r F ls I iB Z op base k):Z.dn.length=op.length/\0<op.length/\s.lab.length=fr.fi+op.length:=by
 obtain⟨-,a,b,d,h⟩:=T.ft.all k Z op T.tb;have:=T.sg.1;have c:=T.fi;simp at this;exact⟨by rw[h.bl,h.ol],by rw[h.ol];omega,qo⟩
theorem vH.lab(T:vH m E s fr r F ls I iB Z op base k){j o:Nat}{B:pW}(ho:op[j]?=some o)(a:Z.dn[j]?=some B):s.lab[s.lab.length - 1 - j]?=some ⟨fr.f,o,if j+1=op.length then base else base+(F.ty.ins.length+F.loc)+B.dK⟩:=by
 obtain⟨-,h0,hl⟩:=T.lens;have b:j<op.length:=(qae.1 ho).1;have h:=T.sg.2 j o B ho a;rw[qbr]at h;rw[<-h];congr 1
 simp;omega
theorem vH.outer(T:vH m E s fr r F ls I iB Z op base k):op[op.length - 1]?=some 0/\(∃c,Z.dn[op.length - 1]?=some ⟨2,[],F.ty.outs,0,c⟩)/\(F.bs.getD 0 PB.none).ca=F.ty.outs.length/\s.lab[fr.fi]?=some ⟨fr.f,0,base⟩:=by
 obtain⟨⟨U,c,a⟩,g,i,d,h⟩:=T.ft.all k Z op T.tb;obtain⟨e,h0,hl⟩:=T.lens;rw[qbm]at U a;rw[e]at a;have b:op.length - 1=d:=by rw[h.ol];omega
 refine⟨U,⟨c,a⟩,?_,?_⟩
 .exact(h.outer (by rw[<-b];exact U) (by rw[<-b];exact a)).1
 have:=T.lab U a;rw[qac qo]at this;rw[<-this];congr 1
 omega
theorem Bc(T:vH m E s fr r F ls I iB Z op base k)(hh:base+F.ty.outs.length<=s.stk.length):∃s',jH E s=some s'/\nT m E s':=by
 obtain⟨a,b⟩:=T.last;obtain⟨-,-,c,d⟩:=T.outer;have hb:nI E ⟨fr.f,0,base⟩=F.bs.getD 0 PB.none:=by unfold nI;rw[T.fs]
 unfold jH l9;simp only[a,d,hb,c,qac hh];refine⟨_,rfl,?_,T.gl,?_⟩
 .simp only[b,List.reverse_reverse];have e:(s.stk.take base++s.stk.drop (s.stk.length - F.ty.outs.length)).length=base+F.ty.outs.length:=by simp;omega
  rw[e];exact T.re
 have:=T.fl;simp;omega
theorem ET(T:vH m E s fr r F ls I iB Z op base k){j:Nat}{B:pW}(l:Z.dn[j]?=some B)(hh:base+(F.ty.ins.length+F.loc)+B.dK+(dZ B).length<=s.stk.length):∃s',mQ E j s=some s'/\nT m E s':=by
 obtain⟨w,D⟩:=T.last;obtain⟨J,h0,hl⟩:=T.lens;have K:j<op.length:=by rw[<-J];exact(qae.1 l).1
 unfold mQ;simp only[w];rw[qaa qo];by_cases L:j+1=op.length
 .rw[qac qo];apply Bc T;obtain⟨-,⟨c,b⟩,-,-⟩:=T.outer;rw[show op.length - 1=j by omega]at b;rw[l]at b;cases b;simp[dZ]at hh;omega
 rw[qaa qo];obtain⟨o,ho⟩:∃o,op[j]?=some o:=⟨_,qab K⟩;have y:=T.lab ho l;rw[qaa L]at y;obtain⟨-,W,X,d,h⟩:=T.ft.all k Z op T.tb;obtain⟨G,Y,M,⟨N,O,n,P⟩,-⟩:=h.label ho l (by have:=h.ol;omega);have hb:∀x,nI E ⟨fr.f,o,x⟩=F.bs.getD o PB.none:=λx=>by unfold nI;rw[T.fs]
 rw[y];unfold l9;simp only[hb,M,qac hh];refine⟨_,rfl,?_,T.gl,?_⟩
 .simp only[mE,w,D,Option.map_some,Option.toList_some,List.reverse_append,qcu,List.reverse_nil,qay,List.reverse_reverse,List.singleton_append];have Q:(s.stk.take (base+(F.ty.ins.length+F.loc)+B.dK)++s.stk.drop (s.stk.length - (dZ B).length)).length=base+(F.ty.ins.length+F.loc)+B.dK+(dZ B).length:=by simp;omega
  have ha:fr.fi<=s.lab.length - 1 - j:=qo;have aa:s.lab.length - 1 - j<=s.lab.length:=qo;refine⟨qt,F,ls,I,iB,N,_,base,T.fn,T.ft,O,λH u=>?_,?_,by rw[Q,P];omega,?_⟩
  .rw[n]at u;split at u
   .obtain rfl | h':=qav.1 u
    .rfl
    exact T.lv H (List.mem_of_mem_drop h')
   exact T.lv H (List.mem_of_mem_drop u)
  .have hs:=T.sg.2;have R:=T.sg.1;simp only[qcb]at R;by_cases v:B.word=3
   .have z:(F.bs.getD o PB.none).lp=true:=G.trans (by rw[v];rfl);rw[qac v]at n ⊢;simp only[z,qda];have S:(List.take (s.lab.length - 1 - j) s.lab++[(⟨fr.f,o,base+(F.ty.ins.length+F.loc)+B.dK⟩:Lb)]).drop fr.fi=(s.lab.take (s.lab.length - 1 - j+1)).drop fr.fi:=by
     congr 1
     rw[List.take_add_one,y];rfl
    rw[S];refine⟨qt,λa b p g e=>?_⟩;have U:a<op.length - j:=by have:=(qae.1 g).1;simpa using this
    have A:op[j+a]?=some b:=by rw[qbr]at g;exact g
    obtain⟨B3,C,V⟩:∃B3,Z.dn[j+a]?=some B3/\B3.dK=p.dK:=by
     rw[n]at e;cases a with
     | zero=>simp at e;exact⟨B,by simpa using l,by rw[<-e]⟩
     | succ q=>rw[qbh,qbr]at e;exact⟨p,by rw[<-e];congr 1;omega,rfl⟩
    have i:=hs (j+a) b B3 A C;rw[V]at i;simp only[qcb,qca];rw[qbr,qcs qo];rw[qbr,qcb]at i;rw[show fr.fi+(min (s.lab.length - 1 - j+1) s.lab.length - fr.fi - 1 - a)=fr.fi+(s.lab.length - fr.fi - 1 - (j+a)) by omega,i];congr 2
    try simp only[qcb]
    by_cases t:j+a+1=op.length
    .rw[qac t,qac qo]
    rw[qaa t,qaa qo]
   have z:(F.bs.getD o PB.none).lp=false:=G.trans (by simp[v]);rw[qaa v]at n ⊢;simp only[z,qbu,qct,qbt];refine⟨qt,λa b p g e=>?_⟩;have U:a<op.length - (j+1):=by have:=(qae.1 g).1;simpa using this
   have A:op[j+1+a]?=some b:=by rw[qbr]at g;exact g
   have C:Z.dn[j+1+a]?=some p:=by rw[n,qbr]at e;exact e
   have i:=hs (j+1+a) b p A C;simp only[qcb,qca];rw[qbr,qcs qo];rw[qbr,qcb]at i;rw[show fr.fi+(min (s.lab.length - 1 - j) s.lab.length - fr.fi - 1 - a)=fr.fi+(s.lab.length - fr.fi - 1 - (j+1+a)) by omega,i];congr 2
   try simp only[qcb]
   by_cases t:j+1+a+1=op.length
   .rw[qac t,qac qo]
   rw[qaa t,qaa qo]
  have:(List.take (s.lab.length - 1 - j) s.lab++if(F.bs.getD o PB.none).lp=true then[(⟨fr.f,o,base+(F.ty.ins.length+F.loc)+B.dK⟩:Lb)] else[]).take fr.fi=s.lab.take fr.fi:=by
   rw[List.take_append_of_le_length qt,qcg];congr 1
   omega
  rw[this];exact T.re
 have:=T.fl;have h9:s.eY.length=r.length+1:=by
  have:=congrArg List.length T.eY;simpa using this
 simp[mE,w,D];omega
end
structure sI(m:dX)(E:Ev):Prop where
 tys:E.tys=m.dx
 fl:E.fs.length=m.funcs.length
 ft:∀(f:Nat)(F:PF),E.fs[f]?=some F->F.ty=dM m f/\∃ls I iB,Xo m F ls I iB
 tb:∀v∈E.iL,v= -1\/(0<=v/\v.toNat<E.fs.length)
section
variable {m:dX}{E:Ev}{s:Rn}{fr:Fr}{r:List Fr}{F:PF}{ls:qM}{I:List Ins}{iB:List (Bd×qM)}{Z:Bd}{op:qM}{base k:Nat}
theorem kI(h:0<s.stk.length):∃n,s.pop=some (n,{s with stk:=s.stk.dropLast}):=by
 unfold Rn.pop;cases a:s.stk.getLast? with
 | none=>rw[List.getLast?_eq_none_iff]at a;rw[a]at h;simp at h
 | some n=>exact⟨n,rfl⟩
theorem vH.stk(T:vH m E s fr r F ls I iB Z op base k)(z:List Int):vH m E {s with stk:=z} fr r F ls I iB Z op base k:=⟨T.eY,T.fi,T.fn,T.ft,T.tb,T.lv,T.sg,T.re,T.gl,T.fl⟩
theorem fall{J:Bd}{a:qM}{s':Rn}(T:vH m E s fr r F ls I iB Z op base k)(b:fr.nx=k+1)(c:iB[k+1]?=some (J,a))(d:∀B∈J.dn,B.cut=false)(hf:s'.eY=s.eY)(e:zh F fr.f base J a (s'.lab.drop fr.fi))(g:fr.fi<=s'.lab.length)(h:s'.lab.take fr.fi=s.lab.take fr.fi)(i:s'.dW.length=m.dI.length)
  (hl:s'.stk.length=base+(F.ty.ins.length+F.loc)+J.dB.length):nT m E s':=by
 refine⟨?_,i,by rw[hf];exact T.fl⟩;rw[hf,T.eY];exact⟨g,F,ls,I,iB,J,a,base,T.fn,T.ft,by rw[b];exact c,d,e,hl,by rw[h];exact T.re⟩
theorem zh.same{f:Nat}{J:Bd}{Lq:List Lb}(h:zh F f base Z op Lq)(hb:J.dn=Z.dn):zh F f base J op Lq:=by
 unfold zh at h ⊢;rw[hb];exact h
theorem uJ{J:Bd}{s':Rn}(T:vH m E s fr r F ls I iB Z op base k)(b:fr.nx=k+1)(c:iB[k+1]?=some (J,op))(hb:J.dn=Z.dn)(hf:s'.eY=s.eY)(a:s'.lab=s.lab)(d:s'.dW.length=s.dW.length)
  (hl:s'.stk.length=base+(F.ty.ins.length+F.loc)+J.dB.length):nT m E s':=
 fall T b c (by rw[hb];exact T.lv) hf (by rw[a];exact T.sg.same hb) (by rw[a];exact T.fi) (by rw[a]) (by rw[d];exact T.gl) hl
theorem oO(T:vH m E s fr r F ls I iB Z op base k):Z.dJ.cut=false:=by
 obtain⟨c,h0,-⟩:=T.lens;unfold Bd.dJ;cases d:Z.dn with
 | nil=>rw[d]at c;simp at c;omega
 | cons a b=>exact T.lv a (by rw[d];simp)
theorem nC.get:∀{a:List pW}{n j:Nat}{B:pW},nC a n->a[j]?=some B->B.dK<=n/\∀C,a.head?=some C->B.dK<=C.dK
 | [],n,j,B,_,h=>by simp at h
 | C::a,n,0,B,hf,h=>by
  simp at h;subst h;exact⟨hf.1,λc b=>by simp at b;rw[b];exact qR⟩
 | C::a,n,j+1,B,hf,h=>by
  have U:=nC.get hf.2 (by simpa using h);exact⟨by have:=hf.1;omega,λc b=>by simp at b;subst b;exact U.1⟩
structure VH(m:dX)(F:PF)(ls:List Nat)(iB:List (Bd×List Nat))(Z:Bd)(op:List Nat)(k:Nat)(i:Ins)(J:Bd)(op':List Nat)(bk:Nat):Prop where
 chk:chk m ls i Z=.ok J
 fl:nC Z.dn Z.dB.length
 kn:IV i.2.1=true
 nn:0<=i.2.2.num.1
 w5:i.2.1=5->Z.dJ.word=4/\1<op.length
 tb:iB[k+1]?=some (J,op')
 X8:dS i.2.1=true->op'=bk::op/\bk<F.bs.length
 XL:i.2.1=11->op'=op.tail/\1<op.length
 VZ:dS i.2.1=false->i.2.1≠11->op'=op
theorem AtK.V8{R:List PB×List PS}{b:List PB}{c:List PS}{d:Nat}(h:AtK (m:=m) (ls:=ls) I iB R k Z op b c d):b.length<=R.1.length:=by
 obtain⟨a,-⟩:=ends (dx:=m.dx) (iB:=iB) (I.drop k) Z op b c d h.fit h.ol h.bl h.nd h.lt (by rw[h.sl];exact h.tb);rw[<-h.pr]at a;exact a
theorem TR(T:Xo m F ls I iB)(x:iB[k]?=some (Z,op)):
  (F.ss[k]?=none/\Z.dB.length=Z.dJ.dK+F.ty.outs.length\/Z.dJ.cut=true/\F.ss[k]?=none)\/∃i J n q,F.ss[k]?=some (stepOf i q)/\VH m F ls iB Z op k i J n q:=by
 obtain⟨⟨U,c,g⟩,t,u,d,h⟩:=T.all k Z op x;have j:=h.fit;obtain⟨i,hi⟩:∃i,I[k]?=some i:=by
  cases e:I.drop k with
  | nil=>rw[e]at j;exact j.elim
  | cons a b=>
   have g:(I.drop k)[0]?=some a:=by rw[e];rfl
   exact⟨a,by simpa using g⟩
 have v:I.drop k=i::I.drop (k+1):=by
  exact Vy
 rw[v]at j;obtain⟨⟨o,y,z⟩,w,st1,hc,K⟩:=j;by_cases f:i.2.1=11/\d=0
 .left
  have A:(F.bs,F.ss)=(t,u):=by
   rw[h.pr,v];unfold iI;rw[qaa (by rw[f.1];decide),qaa (by rw[f.1];decide),qac f.1,qac];have:=h.ol;cases op with
   | nil=>rfl
   | cons a b=>simp at this;simp[f.2]at this;simp[this]
  have B:F.ss=u:=congrArg Prod.snd A;have hno:F.ss[k]?=none:=by rw[B,List.getElem?_eq_none (by rw[h.sl];exact qR)]
  obtain⟨-,-,-,p⟩:=yH hc f.1;cases hcut:Z.dJ.cut with
  | true=>exact .inr ⟨rfl,hno⟩
  | false=>
   left
   refine⟨hno,?_⟩;have hb:=h.bl;rw[f.2]at hb;have C:Z.dJ.dL=F.ty.outs:=by
    cases e:Z.dn with
    | nil=>rw[e]at hb;simp at hb
    | cons a b=>rw[e]at hb g;simp at hb;subst hb;simp at g;unfold Bd.dJ;rw[e];simp[g]
   rw[<-C];refine p hcut ?_;cases e:Z.dn with
   | nil=>rw[e]at hb;simp at hb
   | cons a b=>rw[e]at o;unfold Bd.dJ;rw[e];exact o.1
 right
 obtain⟨J,n,L,M,D,l,G,p,X⟩:=h.next hi f;refine⟨i,J,n,_,p,D,o,y,z,λh'=>⟨(w h').1,by rw[h.ol];have:=(w h').2;omega⟩,G,λh'=>?_,λh'=>?_,λh' H=>?_⟩
 .rw[qac h',l];unfold FR;rw[qac h'];refine⟨rfl,?_⟩;have N:=X.lt t.length (by rw[l];unfold FR;rw[qac h'];simp);have:=X.V8;simp only at this;omega
 .rw[l];unfold FR;rw[h'];refine⟨rfl,?_⟩;rw[h.ol];have:d≠0:=λc=>f ⟨h',c⟩;omega
 rw[l];unfold FR;rw[h',qaa H];rfl
end
section
variable {m:dX}{E:Ev}{s:Rn}{fr:Fr}{r:List Fr}{F:PF}{ls:qM}{I:List Ins}{iB:List (Bd×qM)}{Z:Bd}{op:qM}{base k:Nat}{i:Ins}{J:Bd}{op':qM}{bk:Nat}
theorem uF(c:nC Z.dn Z.dB.length)(h:Z.dn≠[]):Z.dJ.dK<=Z.dB.length:=by
 unfold Bd.dJ;cases d:Z.dn with
 | nil=>exact absurd d h
 | cons a b=>rw[d]at c;exact c.1
theorem vH.ne(T:vH m E s fr r F ls I iB Z op base k):Z.dn≠[]:=by
 obtain⟨a,h0,-⟩:=T.lens;intro c;rw[c]at a;simp at a;omega
theorem Ll(T:vH m E s fr r F ls I iB Z op base k)(c:VH m F ls iB Z op k i J op' bk)(ho:dS i.2.1=true)(hh:s.stk.length=base+(F.ty.ins.length+F.loc)+J.dB.length):
  ∃s',oG E bk s=some s'/\s'.eY=s.eY/\s'.stk=s.stk/\s'.dW=s.dW/\fr.fi<=s'.lab.length/\s'.lab.take fr.fi=s.lab.take fr.fi/\zh F fr.f base J op' (s'.lab.drop fr.fi)/\(∀B∈J.dn,B.cut=false):=by
 obtain⟨h,q⟩:=T.last;obtain⟨t,h0,hl⟩:=T.lens;obtain⟨rfl,l⟩:=c.X8 ho;obtain⟨B,b,u,n,v,w,p,-⟩:=sU c.chk ho;obtain⟨-,x,y,d,X⟩:=T.ft.all (k+1) J (bk::op) c.tb;obtain⟨z,e,A,-,-⟩:=X.label (j:=0) (o:=bk) (B:=B) rfl (by rw[b];rfl) (by have:=X.ol;simp at this;omega);have hb:F.bs[bk]?=some (F.bs.getD bk PB.none):=by rw[qag,qab l];rfl
 unfold oG;simp only[h,T.fs,hb];simp only at e;rw[e,qaa (by rw[hh,p];omega)];refine⟨_,rfl,rfl,rfl,rfl,by simp;have:=T.fi;omega,by rw[List.take_append_of_le_length T.fi],⟨by simp[T.sg.1];have:=T.sg.1;simp at this;omega,λj o C U a=>?_⟩,λC hC=>?_⟩
 .have hd:(s.lab++[(⟨fr.f,bk,s.stk.length - B.takes.length⟩:Lb)]).drop fr.fi=s.lab.drop fr.fi++[⟨fr.f,bk,s.stk.length - B.takes.length⟩]:=List.drop_append_of_le_length T.fi;rw[hd];have D:=T.sg.1;cases j with
  | zero=>
   simp only[qas,Option.some.injEq]at U;subst U;rw[b]at a;simp only[qas,Option.some.injEq]at a;subst a;rw[qdf qs];simp only[qaq,qbb,qbs,qcf];rw[qaa qo,show(s.lab.drop fr.fi).length+1 - 1 - 0 - (s.lab.drop fr.fi).length=0 by omega];simp only[qas];congr 2
   omega
  | succ j=>
   simp only[qbh]at U;rw[b]at a;simp only[qbh]at a;have G:j<op.length:=(qae.1 U).1;have:=T.sg.2 j o C U a;rw[qbe (by simp only[qaq,qdd];omega)];simp only[qaq,qbb,qbs,qcf];rw[show(s.lab.drop fr.fi).length+1 - 1 - (j+1)=(s.lab.drop fr.fi).length - 1 - j by omega,this];congr 2
   by_cases g:j+1=op.length
   .rw[qac g,qac qo]
   rw[qaa g,qaa qo]
 rw[b]at hC;obtain rfl | hC:=qav.1 hC
 .exact n
 exact T.lv C hC
theorem Kk(T:vH m E s fr r F ls I iB Z op base k)(u:fr.nx=k+1)(hs:s.stk.length=base+(F.ty.ins.length+F.loc)+Z.dB.length)(e:VH m F ls iB Z op k i J op' bk)(hx:i.2.1<=11):
  ∃s' w,oh E (stepOf i bk) s=some (s',w)/\(w=0->nT m E s'):=by
 have v:=oO T;have x:=uF e.fl T.ne;obtain⟨ah,h0,hl⟩:=T.lens;unfold oh;show ∃s' w,(if i.2.1=0 then _ else _)=_/\_;by_cases Y:i.2.1=0
 .rw[qac Y];exact⟨s,1,rfl,λh=>by cases h⟩
 rw[qaa Y];show ∃s' w,(if i.2.1=2\/i.2.1=3 then ok0 (oG E bk s) else if i.2.1=4 then ok0 (TC E bk s) else if i.2.1=5 then ok0 (mQ E 0 s) else if i.2.1=11 then _ else _)=_/\_;by_cases D:i.2.1=2\/i.2.1=3
 .rw[qac D];have ho:dS i.2.1=true:=by unfold dS;obtain h | h:=D<;>simp[h]
  obtain⟨B,f,G,b3,b4,b5,b6,H⟩:=sU e.chk ho;obtain⟨-,K⟩:=H v x;rw[qaa qo]at K;have hh:s.stk.length=base+(F.ty.ins.length+F.loc)+J.dB.length:=qo;obtain⟨s',c1,c2,c3,c4,c5,p,g,y⟩:=Ll T e ho hh;rw[c1];exact⟨s',0,rfl,λ_=>fall T u e.tb y c2 g c5 p (by rw[c4];exact T.gl) (by rw[c3];exact hh)⟩
 rw[qaa D];by_cases q:i.2.1=4
 .rw[qac q];have ho:dS i.2.1=true:=by unfold dS;simp[q]
  obtain⟨B,f,G,b3,b4,b5,b6,H⟩:=sU e.chk ho;obtain⟨-,K⟩:=H v x;rw[qac q]at K;obtain⟨n,hp⟩:=kI (s:=s) qo;have T1:=T.stk s.stk.dropLast;have hh:({s with stk:=s.stk.dropLast}:Rn).stk.length=base+(F.ty.ins.length+F.loc)+J.dB.length:=by simp;omega
  obtain⟨s',c1,c2,c3,c4,c5,p,g,y⟩:=Ll T1 e ho hh;obtain⟨z,L⟩:=T.last;unfold TC;simp only[hp,c1];have M:s'.dW.length=m.dI.length:=by rw[c4];exact T.gl
  have aa:s'.stk.length=base+(F.ty.ins.length+F.loc)+J.dB.length:=by rw[c3];exact hh
  by_cases ab:n≠0
  .rw[qac ab];exact⟨s',0,rfl,λ_=>fall T1 u e.tb y c2 g c5 p M aa⟩
  rw[qaa ab];have N:s'.eY.getLast?=some fr:=by rw[c2];exact z
  simp only[N,T.fs];obtain⟨rfl,ai⟩:=e.X8 ho;obtain⟨-,bs,ss,d,X⟩:=T.ft.all (k+1) J (bk::op) e.tb;obtain⟨a1,a2,a3,-,a5⟩:=X.label (j:=0) (o:=bk) (B:=B) rfl (by rw[f];rfl) (by have:=X.ol;simp at this;omega);simp only at a5;have T2:vH m E s' fr r F ls I iB J (bk::op) base (k+1):=⟨by rw[c2];exact T.eY,c5,T.fn,T.ft,e.tb,y,g,by rw[p];exact T.re,M,by rw[c2];exact T.fl⟩;rcases a5 (by rw[G,q]) with⟨O,Q⟩ | ⟨O,ac,Q,a8,a9⟩
  .rw[qaa (by rw[O];simp)];obtain⟨R,S,V⟩:=ET T2 (j:=0) (B:=B) (by rw[f];rfl) (by
    unfold dZ;rw[qaa (by rw[G];omega),<-Q];omega)
   rw[S];exact⟨R,0,rfl,λ_=>V⟩
  rw[qac O];refine⟨_,0,rfl,λ_=>?_⟩;refine⟨?_,M,?_⟩
  .have W:s'.eY.dropLast=r.reverse:=by rw[c2];exact L
   simp only[mE,N,W,Option.map_some,Option.toList_some,List.reverse_append,qcu,List.reverse_nil,qay,List.reverse_reverse,List.singleton_append];refine⟨c5,F,ls,I,iB,ac,_,base,T.fn,T.ft,Q,λC hC=>?_,?_,by rw[aa,a9];omega,by rw[p];exact T.re⟩
   .rw[a8]at hC;obtain rfl | hC:=qav.1 hC
    .rfl
    rw[f]at hC;exact T.lv C (by simpa using hC)
   refine⟨g.1,λj o C U l=>?_⟩;simp only[List.drop_zero]at U ⊢;rw[a8,f]at l;cases j with
   | zero=>simp at l;have:=g.2 0 o B U (by rw[f];rfl);rw[this,<-l]
   | succ j=>exact g.2 (j+1) o C U (by rw[f];simpa using l)
  have h9:s.eY.length=r.length+1:=by
   have:=congrArg List.length T.eY;simpa using this
  have:=T.fl;have W:s'.eY.dropLast=r.reverse:=by rw[c2];exact L
  simp[mE,N,W];omega
 rw[qaa q];have ad:Z.dn[0]?=some Z.dJ:=by
  unfold Bd.dJ;cases hq:Z.dn with
  | nil=>exact absurd hq T.ne
  | cons a b=>rfl
 by_cases A:i.2.1=5
 .rw[qac A];obtain⟨w1,w2⟩:=e.w5 A;have ae:∀b∈Z.dn.tail.head?,b.dK<=Z.dJ.dK:=by
   have hfl:=e.fl;exact WU
  obtain⟨-,-,e3⟩:=xU e.chk A ae;have:=e3 v x;obtain⟨R,S,V⟩:=ET T (j:=0) ad (by
   unfold dZ;rw[qaa (by rw[w1];decide)];omega)
  rw[S];exact⟨R,0,rfl,λ_=>V⟩
 rw[qaa A];by_cases t:i.2.1=11
 .rw[qac t];obtain⟨z,L,e3,e4⟩:=yH e.chk t;obtain⟨rfl,aj⟩:=e.XL t;have h6:=e4 v x;rw[qaa qo];refine⟨_,0,rfl,λ_=>fall T u e.tb (λB hB=>T.lv B (by rw[z]at hB;exact List.mem_of_mem_tail hB)) rfl ⟨?_,λj o B U l=>?_⟩ ?_ ?_ T.gl (by show s.stk.length=_;omega)⟩
  .have:=T.sg.1;simp at this ⊢;omega
  .have h1':op[j+1]?=some o:=by rw[List.getElem?_tail]at U;exact U
   have af:Z.dn[j+1]?=some B:=by rw[z,List.getElem?_tail]at l;exact l
   have hj:j+1<op.length:=(qae.1 h1').1;have:=T.sg.2 (j+1) o B h1' af;rw[qbr]at this ⊢;simp only[qcb,List.length_dropLast,List.length_tail]at this ⊢;rw[List.getElem?_dropLast,qac qo];rw[show fr.fi+(s.lab.length - 1 - fr.fi - 1 - j)=fr.fi+(s.lab.length - fr.fi - 1 - (j+1)) by omega,this];congr 2
   by_cases hq:j+1+1=op.length
   .rw[qac hq,qac qo]
   rw[qaa hq,qaa qo]
  .simp;omega
  rw[qde,qcg];congr 1
  omega
 rw[qaa t];have ag:dS i.2.1=false:=by unfold dS;simp;omega
 obtain rfl:=e.VZ ag t;have X:=e.kn;have U:i.2.1=1:=by
  unfold IV at X;simp only[qby,qaz,qcd,qcn]at X;omega
 have hc:=e.chk;unfold chk iG at hc;rw[qac hx]at hc;unfold dR at hc;simp only[U]at hc;simp at hc;refine⟨s,0,rfl,λ_=>uJ T u e.tb (by rw[<-hc]) rfl rfl rfl (by rw[hs,<-hc])⟩
end
end Go.Proofs.YtfkcodlceoghpaaGreatDoor
