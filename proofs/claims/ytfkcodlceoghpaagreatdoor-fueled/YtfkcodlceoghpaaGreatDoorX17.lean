import Derived.BigQuiet
import Derived.Deep.AppendLies
import Derived.Deep.QuietTactic
import Derived.Laws.CopyRow
import Derived.Laws.Tables
import Derived.Test.YtfkcodlceoghpaaGreatDoorX15
import Derived.Test.YtfkcodlceoghpaaGreatDoorX16
namespace Go.Proofs.YtfkcodlceoghpaaGreatDoor
set_option maxHeartbeats 1600000
set_option maxRecDepth 100000
set_option linter.unusedSimpArgs false
set_option linter.unusedVariables false
open Go.RowKit Go.Proofs.Tryz
section
variable {m:dX}{E:Ev}{s:Rn}{fr:Fr}{r:List Fr}{F:PF}{ls:qM}{I:List Ins}{iB:List (Bd×qM)}{Z:Bd}{op:qM}{base k:Nat}{i:Ins}{J:Bd}{op':qM}{bk:Nat}
theorem Ic(e:sI m E)(T:vH m E s fr r F ls I iB Z op base k)(q:fr.nx=k+1)(u:iB[k+1]?=some (J,op))(hb:J.dn=Z.dn){f:Nat}(hf:f<m.funcs.length){t:Ty}(v:∀b,E.fs[f]?=some b->b.ty.ins=t.ins/\b.ty.outs=t.outs)(U:t.ins.length<=s.stk.length)(H:s.stk.length+t.outs.length=base+(F.ty.ins.length+F.loc)+J.dB.length+t.ins.length):
  ∃s' w,nS E f s=some (s',w)/\(w=0->nT m E s'):=by
 unfold nS;by_cases g:s.eY.length=50
 .rw[qac g];exact⟨s,7,rfl,λh=>by cases h⟩
 rw[qaa g];obtain⟨b,c⟩:∃b,E.fs[f]?=some b:=⟨_,qab (by rw[e.fl];exact hf)⟩;obtain⟨-,x,y,A,l⟩:=e.ft f b c;obtain⟨n,C⟩:=v b c;obtain⟨a,D⟩:=l.z;simp only[c,n];rw[qaa qo];refine⟨_,0,rfl,λ_=>⟨?_,T.gl,?_⟩⟩
 .simp only[List.reverse_append,qcu,List.reverse_nil,qay,List.singleton_append,T.eY];refine⟨qs,b,x,y,A,_,_,s.stk.length - t.ins.length,c,l,D,λB p=>?_,?_,?_,?_⟩
  .simp at p;subst p;rfl
  .refine⟨qs,λj o B d K=>?_⟩;cases j with
   | zero=>simp at d;subst d;simp
   | succ j=>simp at d
  .simp[n];omega
  have G:(s.lab++[(⟨f,0,s.stk.length - t.ins.length⟩:Lb)]).take s.lab.length=s.lab:=qs;rw[G];refine⟨T.fi,F,ls,I,iB,J,op,base,T.fn,T.ft,by rw[q];exact u,by rw[hb];exact T.lv,T.sg.same hb,?_,T.re⟩;rw[C];omega
 have:=T.fl;simp;omega
theorem xG{z:Bd}{x:Int×Nat}{ks:qM}(c:z.dn≠[])(h:gX z x=.ok ks):∃B,z.dn[x.1.toNat]?=some B/\ks=dZ B:=by
 unfold gX fE at h;split at h
 .cases h
 rename_i k X;split at X
 .rename_i hlt;cases X;cases h;have hl:0<z.dn.length:=by
   cases d:z.dn with
   | nil=>exact absurd d c
   | cons a b=>simp
  refine⟨_,qab (show x.1.toNat<z.dn.length by omega),?_⟩;rw[qag,qab (show x.1.toNat<z.dn.length by omega)];rfl
 cases X
theorem EW(T:vH m E s fr r F ls I iB Z op base k)(d:nC Z.dn Z.dB.length){j:Nat}{B:pW}(c:Z.dn[j]?=some B){z:Nat}(U:Z.dJ.dK+(dZ B).length<=z)(h:s.stk.length=base+(F.ty.ins.length+F.loc)+z):∃s',ok0 (mQ E j s)=some (s',0)/\nT m E s':=by
 have l:=(nC.get d c).2 Z.dJ (by
  unfold Bd.dJ;cases e:Z.dn with
  | nil=>exact absurd e T.ne
  | cons a b=>rfl)
 obtain⟨s',f,g⟩:=ET T c qo;exact⟨s',by rw[f];rfl,g⟩
theorem DW{z:Bd}(a:z.dn≠[]):∀{xs:List (Int×Nat)} {M r:List (qM)},iy z xs M=.ok r->∃l,r=M++l/\l.length=xs.length/\∀(j:Nat)(x:Int×Nat),xs[j]?=some x->∃B,z.dn[x.1.toNat]?=some B/\l[j]?=some (dZ B)
 | [],M,r,h=>by
  cases h;exact⟨[],qs,rfl,λj x h=>by simp at h⟩
 | x::xs,M,r,h=>by
  unfold iy at h;split at h
  .cases h
  rename_i ks X;obtain⟨B,b,rfl⟩:=xG a X;obtain⟨l,c,d,e⟩:=DW a h;refine⟨dZ B::l,by rw[c];simp,by simp[d],λj y hy=>?_⟩;cases j with
  | zero=>simp at hy;subst hy;exact⟨B,b,rfl⟩
  | succ j=>simpa using e j y (by simpa using hy)
theorem look_ok{z:Bd}{last:qM}:∀{r:List (qM)},jG z last r=.ok ()->∀ks∈r,ks.length=last.length
 | [],_,ks,h=>by simp at h
 | a::r,h,ks,X=>by
  unfold jG at h;split at h
  .cases h
  rename_i hl;split at h
  .cases h
  obtain rfl | X:=qav.1 X
  .simpa using hl
  exact look_ok h ks X
theorem Oy(e:sI m E)(T:vH m E s fr r F ls I iB Z op base k)(L:fr.nx=k+1)(hs:s.stk.length=base+(F.ty.ins.length+F.loc)+Z.dB.length)(b:VH m F ls iB Z op k i J op' bk)(hx:¬i.2.1<=11)(ah:i.2.1<=17):
  ∃s' w,rE E (stepOf i bk) s=some (s',w)/\(w=0->nT m E s'):=by
 have g:=oO T;have A:=uF b.fl T.ne;obtain⟨ai,h0,hl⟩:=T.lens;have aj:dS i.2.1=false:=by unfold dS;simp;omega
 obtain rfl:=b.VZ aj qo;have hc:=b.chk;unfold chk iG at hc;rw[qaa hx,qac ah]at hc;unfold dU at hc;have C:({Z with at_:=i.1}:Bd).dn≠[]:=T.ne;unfold rE;show ∃s' w,(if i.2.1=12 then ok0 (mQ E i.2.2.num.1.toNat s) else if i.2.1=13 then _ else if i.2.1=14 then _ else if i.2.1=15 then _ else if i.2.1=16 then nS E i.2.2.num.1.toNat s else if i.2.1=17 then _ else _)=_/\_;have M:∀{z st1:Bd}{q:Nat},z.dn=Z.dn->z.dB=Z.dB->dQ z [q]=.ok st1->Z.dJ.dK+1<=Z.dB.length/\st1={z with dB:=Z.dB.take (Z.dB.length - 1)}:=λ{z st1 q} D G h=>by
  have N:z.dJ=Z.dJ:=by unfold Bd.dJ;rw[D]
  obtain⟨a,d⟩:=gK (by rw[N];exact g) (by rw[N,G];exact A) h;rw[N,G]at a;rw[G]at d;exact⟨a,d⟩
 by_cases S:i.2.1=12
 .rw[qac S]at hc ⊢;split at hc
  .cases hc
  rename_i ks X;split at hc
  .cases hc
  rename_i st1 U;obtain⟨B,u,rfl⟩:=xG C X;obtain⟨a,-⟩:=gK (Z:={Z with at_:=i.1}) g A U;obtain⟨s',j,o⟩:=EW T b.fl u a hs;exact⟨s',0,j,λ_=>o⟩
 rw[qaa S]at hc ⊢;by_cases V:i.2.1=13
 .rw[qac V]at hc ⊢;split at hc
  .cases hc
  rename_i ks X;split at hc
  .cases hc
  rename_i st1 U;obtain⟨B,u,rfl⟩:=xG C X;obtain⟨a,rfl⟩:=M (z:={Z with at_:=i.1}) rfl rfl U;split at hc
  .cases hc
  rename_i W v;cases hc;have Y:(Z.dB.take (Z.dB.length - 1)).length=Z.dB.length - 1:=qs;obtain⟨d,rfl⟩:=gK (by exact g) (by show Z.dJ.dK<=(Z.dB.take (Z.dB.length - 1)).length;omega) v;have O:Z.dJ.dK+(dZ B).length<=(Z.dB.take (Z.dB.length - 1)).length:=d;obtain⟨n,hp⟩:=kI (s:=s) qo;have p:=T.stk s.stk.dropLast;simp only[hp];by_cases aa:n≠0
  .rw[qac aa];obtain⟨s',j,o⟩:=EW p b.fl u O qt;exact⟨s',0,j,λ_=>o⟩
  rw[qaa aa];exact⟨_,0,rfl,λ_=>uJ p L b.tb rfl rfl rfl rfl (by simp[fJ];omega)⟩
 rw[qaa V]at hc ⊢;by_cases ab:i.2.1=14
 .rw[qac ab]at hc ⊢;unfold fU at hc;split at hc
  .cases hc
  rename_i au ho;split at hc
  .cases hc
  rename_i last ak;split at hc
  .cases hc
  rename_i st1 U;obtain⟨a,rfl⟩:=M (z:={Z with at_:=i.1}) rfl rfl U;split at hc
  .cases hc
  rename_i al;split at hc
  .cases hc
  rename_i W v;have Y:(Z.dB.take (Z.dB.length - 1)).length=Z.dB.length - 1:=qs;obtain⟨d,-⟩:=gK (by exact g) (by show Z.dJ.dK<=(Z.dB.take (Z.dB.length - 1)).length;omega) v;have O:Z.dJ.dK+last.length<=(Z.dB.take (Z.dB.length - 1)).length:=d;obtain⟨B,u,rfl⟩:=xG C ak;obtain⟨l,D,G,e3⟩:=DW C ho;simp only[qay]at D;subst D;obtain⟨n,hp⟩:=kI (s:=s) qo;have p:=T.stk s.stk.dropLast;simp only[hp];have am:∃y,Z.dn[(i.2.2.dA.map (·.1.toNat)).getD (u32 n) i.2.2.num.1.toNat]?=some y/\(dZ y).length=(dZ B).length:=by
   rw[qag,qbk];cases P:i.2.2.dA[u32 n]? with
   | none=>exact⟨B,u,rfl⟩
   | some x=>obtain⟨y,c1,c2⟩:=e3 _ _ P;exact⟨y,c1,look_ok al _ (qai c2)⟩
  obtain⟨y,c1,c2⟩:=am;obtain⟨s',j,o⟩:=EW p b.fl c1 (z:=(Z.dB.take (Z.dB.length - 1)).length) qo qt;exact⟨s',0,j,λ_=>o⟩
 rw[qaa ab]at hc ⊢;by_cases ac:i.2.1=15
 .rw[qac ac]at hc ⊢;split at hc
  .cases hc
  rename_i st1 U;obtain⟨a,-⟩:=gK (Z:={Z with at_:=i.1}) g A U;obtain⟨-,⟨c,o2⟩,-,-⟩:=T.outer;have hg:(Z.dn.getD (Z.dn.length - 1) pW.none).dL=F.ty.outs:=by
   rw[qag,ai,o2];rfl
  have ad:Z.dJ.dK+(Z.dn.getD (Z.dn.length - 1) pW.none).dL.length<=Z.dB.length:=a;rw[hg]at ad;obtain⟨s',j,o⟩:=Bc T qo;exact⟨s',0,by rw[j];rfl,λ_=>o⟩
 rw[qaa ac]at hc ⊢;by_cases ae:i.2.1=16
 .rw[qac ae]at hc ⊢;split at hc
  .cases hc
  rename_i f hf;unfold fE at hf;split at hf
  .rename_i hlt;cases hf;unfold kT at hc;split at hc
   .cases hc
   rename_i st1 U;cases hc;obtain⟨a,rfl⟩:=gK (Z:={Z with at_:=i.1}) g A U;have ad:Z.dJ.dK+(dM m i.2.2.num.1.toNat).ins.length<=Z.dB.length:=a;by_cases an:i.2.2.num.1.toNat<m.funcs.length
   .exact Ic e T L b.tb rfl (t:=dM m i.2.2.num.1.toNat) an (λH h=>by rw[(e.ft _ H h).1];exact⟨rfl,rfl⟩) qo (by simp[fJ];omega)
   exfalso
   have h7:m.funcs.length=0:=qo;have h8:=(qae.1 T.fn).1;rw[e.fl]at h8;omega
  cases hf
 rw[qaa ae]at hc ⊢;have ao:i.2.1=17:=qo;rw[qac ao]at hc ⊢;split at hc
 .cases hc
 split at hc
 .cases hc
 rename_i t K;split at hc
 .cases hc
 rename_i st1 U;obtain⟨a,rfl⟩:=M (z:={Z with at_:=i.1}) rfl rfl U;unfold kT at hc;split at hc
 .cases hc
 rename_i W v;cases hc;have Y:(Z.dB.take (Z.dB.length - 1)).length=Z.dB.length - 1:=qs;obtain⟨d,rfl⟩:=gK (by exact g) (by show Z.dJ.dK<=(Z.dB.take (Z.dB.length - 1)).length;omega) v;have O:Z.dJ.dK+t.ins.length<=(Z.dB.take (Z.dB.length - 1)).length:=d;obtain⟨n,hp⟩:=kI (s:=s) qo;have p:=T.stk s.stk.dropLast;unfold Hg;simp only[hp];cases P:E.iL[u32 n]? with
 | none=>exact⟨_,5,rfl,λh=>by cases h⟩
 | some f=>
  simp only;by_cases Q:f= -1
  .rw[qac Q];exact⟨_,5,rfl,λh=>by cases h⟩
  rw[qaa Q];have ap:=e.tb f (qai P);have af:f.toNat<E.fs.length:=by
   obtain h | h:=ap
   .exact absurd h Q
   exact h.2
  obtain⟨H,ag⟩:∃H,E.fs[f.toNat]?=some H:=⟨_,qab af⟩;have aq:E.tys[i.2.2.num.1.toNat]?=some t:=by
   rw[e.tys];unfold iH fE at K;split at K
   .cases K
   rename_i q R;split at R
   .rename_i hlt;cases R;cases K;by_cases ar:i.2.2.num.1.toNat<m.dx.length
    .rw[qag,qab ar];rfl
    exfalso
    have:=b.nn;omega
   cases R
  rw[ag,show(stepOf i bk).num=i.2.2.num.1.toNat from rfl,aq];simp only;split
  .rename_i hty;exact Ic e p L b.tb rfl (t:=t) (by rw[<-e.fl];exact af) (λF3 h=>by rw[ag]at h;cases h;exact hty) qt (by simp[fJ];omega)
  exact⟨_,6,rfl,λh=>by cases h⟩
theorem Et{z a:Bd}{q:Nat}(hc:z.dJ.cut=false)(hf:z.dJ.dK<=z.dB.length)(h:fe z=.ok (q,a)):z.dJ.dK+1<=z.dB.length/\a={z with dB:=z.dB.take (z.dB.length - 1)}:=by
 unfold fe iR at h;rw[hc]at h;split at h
 .cases h
 rename_i k stk X;split at X
 .simp at X
 cases X;cases h;exact⟨qo,rfl⟩
theorem FM(T:vH m E s fr r F ls I iB Z op base k):uT s=some base:=by
 obtain⟨a,-⟩:=T.last;obtain⟨-,-,-,b⟩:=T.outer;unfold uT;simp only[a,b];rfl
theorem yg{x:Int×Nat}{n q:Nat}(h0:0<=x.1)(h:fE x n=.ok q):q=x.1.toNat/\x.1.toNat<n:=by
 unfold fE at h;split at h
 .cases h;exact⟨rfl,qo⟩
 cases h
theorem EK(s:Rn)(n:Int):(s.put n).stk.length=s.stk.length+1:=by simp[Rn.put]
theorem AQ(z:Bd)(ks:qM):(fJ z ks).dB.length=z.dB.length+ks.length:=by simp[fJ]
theorem Rx(T:vH m E s fr r F ls I iB Z op base k)(hn:fr.nx=k+1)(u:s.stk.length=base+(F.ty.ins.length+F.loc)+Z.dB.length)(Aq:VH m F ls iB Z op k i J op' bk)(hx:¬i.2.1<=17)(C:i.2.1<=36):
  ∃s' w,tu (stepOf i bk) s=some (s',w)/\(w=0->nT m E s'):=by
 have e:=oO T;have l:=uF Aq.fl T.ne;have D:dS i.2.1=false:=by unfold dS;simp;omega
 obtain rfl:=Aq.VZ D qo;have hc:=Aq.chk;unfold chk iG at hc;rw[qaa qo,qaa hx,qac C]at hc;have R:J.dn=Z.dn:=yS (Z:={Z with at_:=i.1}) hc;unfold eF at hc;have G:=T.ft.ll;unfold tu;show ∃s' w,(if i.2.1=26 then _ else if i.2.1=27 then _ else if i.2.1=32 then _ else if i.2.1=33 then _ else if i.2.1=34 then _ else if i.2.1=35 then _ else if i.2.1=36 then _ else _)=_/\_;have X:=Aq.kn;unfold IV at X;simp only[qby,qaz,qcd,qcn]at X;by_cases v:i.2.1=26
 .rw[qac v]at hc ⊢;split at hc
  .cases hc
  rename_i U;cases hc;obtain⟨c,rfl⟩:=Et (z:={Z with at_:=i.1}) e l U;obtain⟨n,hp⟩:=kI (s:=s) (by have:Z.dJ.dK+1<=Z.dB.length:=c;omega);rw[hp];have o:Z.dJ.dK+1<=Z.dB.length:=c;exact⟨_,0,rfl,λ_=>uJ (T.stk s.stk.dropLast) hn Aq.tb rfl rfl rfl rfl qt⟩
 rw[qaa v]at hc ⊢;by_cases x:i.2.1=27
 .rw[qac x]at hc ⊢;unfold fH at hc;split at hc
  .cases hc
  rename_i st1 U;obtain⟨c,rfl⟩:=gK (Z:={Z with at_:=i.1}) e l U;have o:Z.dJ.dK+1<=Z.dB.length:=c;split at hc
  .cases hc
  rename_i H;have l1:(Z.dB.take (Z.dB.length - 1)).length=Z.dB.length - 1:=qs;obtain⟨K,rfl⟩:=Et (by exact e) (by show Z.dJ.dK<=(Z.dB.take (Z.dB.length - 1)).length;omega) H;have S:Z.dJ.dK+1<=(Z.dB.take (Z.dB.length - 1)).length:=K;split at hc
  .cases hc
  rename_i L;have l2:((Z.dB.take (Z.dB.length - 1)).take ((Z.dB.take (Z.dB.length - 1)).length - 1)).length=Z.dB.length - 2:=by simp;omega
  obtain⟨M,rfl⟩:=Et (by exact e) (by show Z.dJ.dK<=((Z.dB.take (Z.dB.length - 1)).take ((Z.dB.take (Z.dB.length - 1)).length - 1)).length;omega) L;have V:Z.dJ.dK+1<=((Z.dB.take (Z.dB.length - 1)).take ((Z.dB.take (Z.dB.length - 1)).length - 1)).length:=M;obtain rfl:=Q5 hc;obtain⟨n,hp⟩:=kI (s:=s) qo;obtain⟨b,N⟩:=kI (s:={s with stk:=s.stk.dropLast}) qt;obtain⟨a,O⟩:=kI (s:={s with stk:=s.stk.dropLast.dropLast}) qt;simp only[hp,N,O];exact OW
 rw[qaa x]at hc ⊢;by_cases p:i.2.1=35
 .rw[qaa qo,qaa qo,qaa qo,qac p];rw[qac p]at hc;unfold gD at hc;split at hc
  .cases hc
  rename_i g f;split at f
  .cases f
  rename_i q d;obtain⟨-,j⟩:=yg Aq.nn d;cases hc;obtain⟨y,this⟩:∃y,s.dW[i.2.2.num.1.toNat]?=some y:=⟨_,qab (by rw[T.gl];exact j)⟩;show ∃s' w,Option.map _ s.dW[i.2.2.num.1.toNat]?=_/\_;rw[this];exact OW
 by_cases t:i.2.1=36
 .rw[qaa qo,qaa qo,qaa qo,qaa qo,qac t];rw[qaa qo,qac t]at hc;unfold gD at hc;split at hc
  .cases hc
  rename_i g f;split at f
  .cases f
  rename_i q d;obtain⟨-,j⟩:=yg Aq.nn d;split at hc
  .obtain⟨c,rfl⟩:=gK (Z:={Z with at_:=i.1}) e l hc;have o:Z.dJ.dK+1<=Z.dB.length:=c;obtain⟨n,hp⟩:=kI (s:=s) qo;simp only[hp];show ∃s' w,(if i.2.2.num.1.toNat<s.dW.length then _ else _)=_/\_;rw[qac (by rw[T.gl];exact j)];exact⟨_,0,rfl,λ_=>uJ T hn Aq.tb rfl rfl rfl qs qt⟩
  cases hc
 rw[qaa p,qaa t]at hc;unfold fT at hc;split at hc
 .cases hc
 rename_i q d;obtain⟨-,j⟩:=yg Aq.nn d;rw[G]at j;by_cases A:i.2.1=32
 .rw[qac A]at hc ⊢;simp only[qaa (show ¬i.2.1=33 by omega)]at hc;cases hc;rw[FM T];have:s.stk[base+i.2.2.num.1.toNat]?=some (s.stk[base+i.2.2.num.1.toNat]' qo):=qab qo;show ∃s' w,Option.map _ s.stk[base+i.2.2.num.1.toNat]?=_/\_;rw[this];exact OW
 rw[qaa A]at hc ⊢;split at hc
 .cases hc
 rename_i st1 U;obtain⟨c,rfl⟩:=gK (Z:={Z with at_:=i.1}) e l U;have o:Z.dJ.dK+1<=Z.dB.length:=c;by_cases B:i.2.1=33
 .rw[qac B]at hc ⊢;cases hc;obtain⟨n,hp⟩:=kI (s:=s) qo;simp only[hp];rw[FM (T.stk s.stk.dropLast)];show ∃s' w,(if base+i.2.2.num.1.toNat<s.stk.dropLast.length then _ else _)=_/\_;rw[qac qt];exact⟨_,0,rfl,λ_=>uJ T hn Aq.tb rfl rfl rfl rfl qt⟩
 have Q:i.2.1=34:=qo;rw[qaa B]at hc ⊢;rw[qac Q];cases hc;obtain⟨n,hl⟩:∃n,s.stk.getLast?=some n:=by
  cases d:s.stk.getLast? with
  | none=>rw[List.getLast?_eq_none_iff]at d;rw[d]at u;simp at u;omega
  | some n=>exact⟨n,rfl⟩
 rw[FM T,hl];show ∃s' w,(if base+i.2.2.num.1.toNat<s.stk.length then _ else _)=_/\_;rw[qac qo];exact⟨_,0,rfl,λ_=>uJ T hn Aq.tb rfl rfl rfl rfl (by simp[fJ];omega)⟩
theorem Vb{x:Nat}{z a:Bd}(X:IV x=true)(hx:¬x<=66)(h:gG x z=.ok a):∃q ts,gy q ts z=.ok a/\ts.length=(if x=172 then 1 else zQ x):=by
 unfold IV at X;simp only[qby,qaz,qcd,qcn]at X;unfold gG at h;unfold zQ;rw[qaa qo,qaa qo]at h;by_cases U:x=69
 .rw[qac U]at h;exact⟨_,_,h,by rw[qaa qo,qac qo];rfl⟩
 rw[qaa U]at h;by_cases b:x<=79
 .rw[qac b]at h;exact⟨_,_,h,by rw[qaa qo,qaa qo];rfl⟩
 rw[qaa b]at h;by_cases c:x=80
 .rw[qac c]at h;exact⟨_,_,h,by rw[qaa qo,qac qo];rfl⟩
 rw[qaa c]at h;by_cases d:x<=90
 .rw[qac d]at h;exact⟨_,_,h,by rw[qaa qo,qaa qo];rfl⟩
 rw[qaa d]at h;by_cases e:x<=105
 .rw[qac e]at h;exact⟨_,_,h,by rw[qaa qo,qac qo];rfl⟩
 rw[qaa e]at h;by_cases f:x<=120
 .rw[qac f]at h;exact⟨_,_,h,by rw[qaa qo,qaa qo];rfl⟩
 rw[qaa f]at h;by_cases g:x<=123
 .rw[qac g]at h;exact⟨_,_,h,by rw[qaa qo,qac qo];rfl⟩
 rw[qaa g]at h;by_cases j:x<=138
 .rw[qac j]at h;exact⟨_,_,h,by rw[qaa qo,qaa qo];rfl⟩
 rw[qaa j]at h;by_cases l:x=167
 .rw[qac l]at h;exact⟨_,_,h,by rw[qaa qo,qac qo];rfl⟩
 rw[qaa l]at h;by_cases n:x=172
 .exact⟨_,_,h,by rw[qac n];rfl⟩
 exact⟨_,_,h,by rw[qaa n,qac qo];rfl⟩
theorem Iu{z b:Bd}{q:Nat}{ts:qM}(hc:z.dJ.cut=false)(hf:z.dJ.dK<=z.dB.length)(h:gy q ts z=.ok b):z.dJ.dK+ts.length<=z.dB.length/\b.dB.length=z.dB.length - ts.length+1:=by
 unfold gy at h;split at h
 .cases h
 rename_i U;cases h;obtain⟨a,rfl⟩:=gK hc hf U;exact⟨a,by simp[fJ]⟩
theorem RF(T:vH m E s fr r F ls I iB Z op base k)(hn:fr.nx=k+1)(y:s.stk.length=base+(F.ty.ins.length+F.loc)+Z.dB.length)(Aq:VH m F ls iB Z op k i J op' bk)(hx:¬i.2.1<=36)(p:i.2.1<=64):
  ∃s' w,lD E (stepOf i bk) s=some (s',w)/\(w=0->nT m E s'):=by
 have b:=oO T;have c:=uF Aq.fl T.ne;have t:dS i.2.1=false:=by unfold dS;simp;omega
 obtain rfl:=Aq.VZ t qo;have hc:=Aq.chk;unfold chk iG at hc;rw[qaa qo,qaa qo,qaa hx,qac p]at hc;have hbl:J.dn=Z.dn:=DN (Z:={Z with at_:=i.1}) hc;unfold eG at hc;have X:=Aq.kn;unfold IV at X;simp only[qby,qaz,qcd,qcn]at X;split at hc
 .cases hc
 have d:∀{q:Nat},kN i.2.1 q i.2.2 {Z with at_:=i.1}=.ok J->Z.dJ.dK+1<=Z.dB.length/\J.dB.length=Z.dB.length:=λ{q} h=>by
  unfold kN at h;split at h
  .cases h
  split at h
  .cases h
  rename_i U;cases h;obtain⟨a,rfl⟩:=gK (Z:={Z with at_:=i.1}) b c U;have u:Z.dJ.dK+1<=Z.dB.length:=a;exact⟨u,by simp[fJ];omega⟩
 have e:∀{q:Nat},jq i.2.1 q i.2.2 {Z with at_:=i.1}=.ok J->Z.dJ.dK+2<=Z.dB.length/\J.dB.length=Z.dB.length - 2:=λ{q} h=>by
  unfold jq at h;split at h
  .cases h
  obtain⟨a,rfl⟩:=gK (Z:={Z with at_:=i.1}) b c h;exact⟨a,qs⟩
 unfold lD;show ∃s' w,(if i.2.1=63 then _ else if i.2.1=64 then _ else if i.2.1=54\/i.2.1=55\/i.2.1=58 then _ else _)=_/\_;by_cases f:i.2.1=63
 .rw[qac f]at hc ⊢;cases hc;exact OW
 rw[qaa f]at hc ⊢;by_cases g:i.2.1=64
 .rw[qac g]at hc ⊢;split at hc
  .cases hc
  rename_i st1 U;cases hc;obtain⟨v,rfl⟩:=gK (Z:={Z with at_:=i.1}) b c U;have z:Z.dJ.dK+1<=Z.dB.length:=v;obtain⟨n,hp⟩:=kI (s:=s) qo;simp only[hp];split
  .exact OW
  exact OW
 rw[qaa g]at hc ⊢;by_cases j:i.2.1=54\/i.2.1=55\/i.2.1=58
 .rw[qac j];have A:Z.dJ.dK+2<=Z.dB.length/\J.dB.length=Z.dB.length - 2:=by
   rw[qaa qo,qaa qo]at hc;by_cases l:i.2.1=55
   .rw[qac l]at hc;exact e hc
   rw[qaa l,qac qo]at hc;exact e hc
  obtain⟨n,hp⟩:=kI (s:=s) qo;obtain⟨a,x⟩:=kI (s:={s with stk:=s.stk.dropLast}) qt;simp only[hp,x];split
  .exact⟨_,0,rfl,λ_=>uJ T hn Aq.tb hbl rfl rfl rfl qt⟩
  exact⟨_,4,rfl,λh=>by cases h⟩
 rw[qaa j];have U:Z.dJ.dK+1<=Z.dB.length/\J.dB.length=Z.dB.length:=by
  by_cases o:i.2.1=41
  .rw[qac o]at hc;exact d hc
  rw[qaa o,qac qo]at hc;exact d hc
 obtain⟨n,hp⟩:=kI (s:=s) qo;simp only[hp];split
 .exact UK
 exact⟨_,4,rfl,λh=>by cases h⟩
theorem Rz(T:vH m E s fr r F ls I iB Z op base k)(hn:fr.nx=k+1)(v:s.stk.length=base+(F.ty.ins.length+F.loc)+Z.dB.length)(Aq:VH m F ls iB Z op k i J op' bk)(hx:¬i.2.1<=64):
  ∃s' w,ou E (stepOf i bk) s=some (s',w)/\(w=0->nT m E s'):=by
 have j:=oO T;have l:=uF Aq.fl T.ne;have o:dS i.2.1=false:=by unfold dS;simp;omega
 obtain rfl:=Aq.VZ o qo;have hc:=Aq.chk;unfold chk iG at hc;rw[qaa qo,qaa qo,qaa qo,qaa hx]at hc;have hbl:J.dn=Z.dn:=DK (Z:={Z with at_:=i.1}) hc;have p:=hc;unfold gG at hc;have X:=Aq.kn;unfold IV at X;simp only[qby,qaz,qcd,qcn]at X;have cl:∀{q:Nat}{ts:qM},gy q ts {Z with at_:=i.1}=.ok J->Z.dJ.dK+ts.length<=Z.dB.length/\J.dB.length=Z.dB.length - ts.length+1:=λ{q ts} h=>Iu (z:={Z with at_:=i.1}) j l h;unfold ou;show ∃s' w,(if i.2.1=65\/i.2.1=66 then _ else if i.2.1=172 then _ else if zQ i.2.1=1 then _ else _)=_/\_;by_cases f:i.2.1=65\/i.2.1=66
 .rw[qac f];have U:J.dB.length=Z.dB.length+1:=by
   by_cases g:i.2.1=65
   .rw[qac g]at hc;cases hc;exact AQ _ _
   rw[qaa g,qac qo]at hc;cases hc;exact AQ _ _
  exact UK
 rw[qaa f];rw[qaa qo,qaa qo]at hc;have c:Z.dJ.dK+(if i.2.1=172 then 1 else zQ i.2.1)<=Z.dB.length/\J.dB.length=Z.dB.length - (if i.2.1=172 then 1 else zQ i.2.1)+1:=by
  obtain⟨q,ts,U,e⟩:=Vb (z:={Z with at_:=i.1}) Aq.kn qo p;rw[<-e];exact cl U
 by_cases d:i.2.1=172
 .rw[qac d];rw[qac d]at c;exact⟨_,0,rfl,λ_=>uJ T hn Aq.tb hbl rfl rfl rfl qo⟩
 rw[qaa d];rw[qaa d]at c;by_cases b:zQ i.2.1=1
 .rw[qac b];rw[b]at c;obtain⟨n,hp⟩:=kI (s:=s) qo;simp only[hp];exact UL
 rw[qaa b];have e:zQ i.2.1=2:=by
  unfold zQ at b ⊢;split at b
  .omega
  rename_i t;rw[qaa t]
 rw[e]at c;obtain⟨n,hp⟩:=kI (s:=s) qo;obtain⟨a,u⟩:=kI (s:={s with stk:=s.stk.dropLast}) qt;simp only[hp,u];exact UL
end
section
variable {m:dX}{E:Ev}{s:Rn}
theorem Qb{fr:Fr}{r:List Fr}{F:PF}{ls:qM}{I:List Ins}{iB:List (Bd×qM)}{Z:Bd}{a:qM}{base k:Nat}(T:vH m E s fr r F ls I iB Z a base k)(q:Nat):vH m E (mE s q) {fr with nx:=q} r F ls I iB Z a base k:=by
 obtain⟨b,c⟩:=T.last;refine⟨?_,T.fi,T.fn,T.ft,T.tb,T.lv,T.sg,T.re,T.gl,?_⟩
 .simp[mE,b,c]
 have d:s.eY.length=r.length+1:=by
  have:=congrArg List.length T.eY;simpa using this
 have:=T.fl;simp[mE,b,c];omega
theorem Gi(o:sI m E)(h:nT m E s)(hf:s.eY≠[]):∃s' w,rH E s=some (s',w)/\(w=0->nT m E s'):=by
 obtain⟨g,p,q⟩:=h;obtain⟨fr,r,j⟩:∃fr r,s.eY.reverse=fr::r:=by
  cases k:s.eY.reverse with
  | nil=>simp at k;exact absurd k hf
  | cons a b=>exact⟨a,b,rfl⟩
 rw[j]at g;obtain⟨t,F,ls,I,iB,Z,u,base,U,l,n,v,x,y,z⟩:=g;have T:vH m E s fr r F ls I iB Z u base fr.nx:=⟨j,t,U,l,n,v,x,z,p,q⟩;obtain⟨A,-⟩:=T.last;unfold rH;simp only[A,T.fs];obtain (⟨c,D⟩ | ⟨c,-⟩) | ⟨i,J,G,H,c,d⟩:=TR l n
 .rw[c];simp only;obtain⟨s',B,C⟩:=Bc T qo;rw[B];exact⟨s',0,rfl,λ_=>C⟩
 .rw[oO T]at c;cases c
 rw[c];simp only;have e:=Qb T (fr.nx+1);have f:(mE s (fr.nx+1)).stk.length=base+(F.ty.ins.length+F.loc)+Z.dB.length:=y;unfold TK;show ∃s' w,(if i.2.1<=11 then _ else if i.2.1<=17 then _ else if i.2.1<=36 then _ else if i.2.1<=64 then _ else _)=_/\_;by_cases c1:i.2.1<=11
 .rw[qac c1];exact Kk e rfl f d c1
 rw[qaa c1];by_cases c2:i.2.1<=17
 .rw[qac c2];exact Oy o e rfl f d c1 c2
 rw[qaa c2];by_cases c3:i.2.1<=36
 .rw[qac c3];exact Rx e rfl f d c2 c3
 rw[qaa c3];by_cases c4:i.2.1<=64
 .rw[qac c4];exact RF e rfl f d c3 c4
 rw[qaa c4];exact Rz e rfl f d c4
end
def Ki(E:Ev)(s:Rn):Bool:=match s.eY.getLast? with
 | none=>true
 | some f=>(E.fs.getD f.f PF.none).ss[f.nx]?.isNone
def lI(E:Ev):Nat->Nat->Rn->Option (Rn×Nat×Nat)
 | 0,_,_=>none
 | n+1,fu,s=>if s.eY=[] then some (s,0,fu) else if Ki E s=true then(match rH E s with
   | none=>none
   | some (s',_)=>lI E n fu s')
  else if fu=0 then some (s,8,0) else match rH E s with
   | none=>none
   | some (s',w)=>if w≠0 then some (s',w,fu - 1) else lI E n (fu - 1) s'
theorem Jo{E:Ev}:∀{n a:Nat}{s:Rn}{x:Rn×Nat×Nat}(k:Nat),lI E n a s=some x->lI E (n+k) a s=some x
 | 0,_,_,_,_,h=>by cases h
 | n+1,a,s,x,k,h=>by
  rw[show n+1+k=n+k+1 by omega];unfold lI at h ⊢;split at h
  .rename_i U;rw[qac U];exact h
  rename_i U;rw[qaa U];split at h
  .rename_i b;rw[qac b];split at h
   .cases h
   exact Jo k h
  rename_i b;rw[qaa b];split at h
  .rename_i c;rw[qac c];exact h
  rename_i c;rw[qaa c];split at h
  .cases h
  rename_i s' w _;split at h
  .rename_i d;rw[qac d];exact h
  rename_i d;rw[qaa d];exact Jo k h
theorem yA{E:Ev}(p:Nat):∀{n a:Nat}{s s':Rn}{w l:Nat},lI E n a s=some (s',w,l)->w≠8->lI E n (a+p) s=some (s',w,l+p)
 | 0,_,_,_,_,_,h,_=>by cases h
 | n+1,a,s,s',w,l,h,hw=>by
  unfold lI at h ⊢;split at h
  .rename_i U;rw[qac U];cases h;rfl
  rename_i U;rw[qaa U];split at h
  .rename_i b;rw[qac b];split at h
   .cases h
   exact yA p h hw
  rename_i b;rw[qaa b];split at h
  .cases h;exact absurd rfl hw
  rename_i d;rw[qaa qo];split at h
  .cases h
  rename_i e f _;split at h
  .rename_i c;rw[qac c];cases h;congr 3
   omega
  rename_i c;rw[qaa c,show a+p - 1=a - 1+p by omega];exact yA p h hw
section
variable {m:dX}{E:Ev}
theorem JS{s s':Rn}(h:jH E s=some s'):s'.eY.length=s.eY.length - 1:=by
 unfold jH at h;split at h
 .cases h
 split at h
 .cases h
 split at h
 .cases h
 cases h;simp
theorem EF(g:sI m E):∀{n e:Nat}{s:Rn},nT m E s->51*e+s.eY.length<n->∃x,lI E n e s=some x
 | 0,_,_,_,h=>qo
 | n+1,e,s,hs,hn=>by
  unfold lI;by_cases U:s.eY=[]
  .rw[qac U];exact⟨_,rfl⟩
  rw[qaa U];obtain⟨s',w,i,j⟩:=Gi g hs U;have p:0<s.eY.length:=by
   cases c:s.eY with
   | nil=>exact absurd c U
   | cons a b=>simp
  by_cases d:Ki E s=true
  .rw[qac d,i];simp only;have hl:ok0 (jH E s)=some (s',w):=by
    rw[<-i];unfold rH;unfold Ki at d;split at d
    .rename_i c;rw[List.getLast?_eq_none_iff]at c;exact absurd c U
    rename_i f c;rw[Option.isNone_iff_eq_none]at d;simp only[c,d]
   cases c:jH E s with
   | none=>rw[c]at hl;cases hl
   | some q=>rw[c]at hl;cases hl;have:=JS c;exact EF g (j rfl) qo
  rw[qaa d];by_cases k:e=0
  .rw[qac k];exact⟨_,rfl⟩
  rw[qaa k,i];simp only;by_cases l:w≠0
  .rw[qac l];exact⟨_,rfl⟩
  rw[qaa l];have o:=j qo;exact EF g o (by have:=o.fl;omega)
end
theorem GA{w:qW}{B g n A sz:Nat}{E:TypeId}{xs:qV}(h:w.ownsRow B E sz (qL g n A) n xs){n':Nat}(b:n'<=n):w.ownsRow B E sz (qL g n' A) n' (xs.take (n'*sz)):=by
 obtain⟨U,c⟩:=h;have hm:n'*sz<=n*sz:=Nat.mul_le_mul_right sz b;refine⟨by rw[qca];omega,?_⟩;obtain⟨a,_⟩ | ⟨l,m,d,a,e,f,o,i,j,k⟩:=c
 .cases a
 cases a;refine .inr ⟨g,A,d,rfl,e,f,qo,i,j,?_⟩;rw[<-k,qcg,qcj hm]
theorem Sx.cut{w0 w:qW}{l:List It}(h:Sx w0 w l)(k:Nat){E:TypeId}{sz n A a:Nat}{xs:qV}{n':Nat}(b:n'<=n)(X:l[k]?=some (.r E sz (qL a n A) n xs):=by rfl):Sx w0 w (l.set k (.r E sz (qL a n' A) n' (xs.take (n'*sz)))):=
 h.upd (S:=λ_=>False) X qr (λ_ c=>c.elim) (GA (h.row k X) b) (λi e=>.inl e)
structure Gm where
 fg:Nat
 bg:Nat->Nat
 sg:Nat->Nat
def yD(G:Gm)(l:Lb):List Value:=[.pointer (some ⟨G.bg l.f,l.b*5,none⟩),qJ l.fl]
def Rj(G:Gm)(f:Fr):List Value:=[.pointer (some ⟨G.fg,f.f*5,none⟩),qJ f.nx,qJ f.fi]
def eD(l:List Int):List Value:=l.map λn=>qJ n
def jr(l:List Nat):List Value:=l.map λ(n:Nat)=>qB (n:Int)
structure Rv where
 s:Value
 l:Value
 f:Value
 m:Value
 g:Value
abbrev LM(G:Gm)(rb Y fu:Nat)(tv fv ev bv:Value)(most:Nat)(v:Rv)(s:Rn)(Xq:List It):List It:=
 .b rb [qP Y,qJ fu,v.s,v.l,v.f]::.r 2 1 v.s s.stk.length (eD s.stk)::.r 245 2 v.l s.lab.length (s.lab.flatMap (yD G))::.r 242 3 v.f s.eY.length (s.eY.flatMap (Rj G))::
 .b Y [tv,fv,ev,bv,v.m,qJ most,v.g]::.r 5 1 v.m s.mem.length (jr s.mem)::.r 2 1 v.g s.dW.length (eD s.dW)::Xq
def RA(w0:World)(G:Gm)(rb Y fu:Nat)(tv fv ev bv:Value)(most:Nat)(Xq:List It)(s:Rn)(w:World):Prop:=∃v,Sx w0 w (LM G rb Y fu tv fv ev bv most v s Xq)
theorem Tryz.Lu:(prog.info? 2).map (λi=>(i.zero,i.size,i.bytes))=some (some (qJ 0),1,8):=qk
section
variable {w0 w:qW}{G:Gm}{rb Y fu most:Nat}{tv fv ev bv:qv}{Xq:List It}{s:Rn}
theorem iw(h:RA w0 G rb Y fu tv fv ev bv most Xq s w)(hl:s.stk.length<=300000)(n:Int):qC 80 #[qP rb,qJ n] w λe w'=>qU e/\RA w0 G rb Y fu tv fv ev bv most Xq (s.put n) w':=by
 obtain⟨k,l,m,q,r⟩:=qap Tryz.Lu;obtain⟨v,h⟩:=h;obtain⟨p,c,hv⟩:=Row.shape (h.isRow 1 rfl);obtain⟨vs,t,x,y,z⟩:=v;simp only at hv;subst hv;obtain⟨D,E⟩:=h.c 0 2;have F:=h.lt 0;have B:=qH ((h.alloc (.cells #[qJ n] 2)).row 1 rfl);have H:=qH h;clear h;go_enter func80,ntmps80;go_wp2_with (at_builtin;refine wpList_append_lies _ rfl _ _ 29 rfl w0.heap.size 2 k (qJ 0) 1 8 qk l m q r rfl qx _ _ _ rfl B.o ⟨_,0,none⟩ 1 1 [_] rfl rfl (cells_at qs rfl) ?c2 qo ?c3 ?c4 ?c5 (w.heap.size+1) qs ?_)
 case c2=>first | rfl | (intro u b;simp at b;subst b;rfl)
 case c3=>unfold maxLen;omega
 case c4=>omega
 case c5=>have:=H.o.kept.size;simp;omega
 intro d A I f g i J;have a:=(H.o.alloc (.cells #[qJ n] 2)).app 1 f g (by obtain c | c:=i;exact .inl c;exact .inr qt) rfl;obtain⟨K,L⟩:=a.c 0 2 rfl rfl;have M:=a.lt 0 rfl;have j:=a.set 0 2 (qL d (s.stk.length+1) A) rfl;have C:=qH j;clear f g i a j;go_wp2;go_end0;refine⟨rfl,⟨qL d (s.stk.length+1) A,t,x,y,z⟩,?_⟩;have:=C.o;simpa [LM,Rn.put,eD] using this
theorem uH{l:List Int}{j:Nat}(h:j<l.length):(eD l)[j]?=some (qJ l[j]):=by unfold eD;rw[qbk,qab h];rfl
theorem Hl(l:List Int):(eD l).length=l.length:=by simp[eD]
theorem um{v:Rv}(h:Sx w0 w (LM G rb Y fu tv fv ev bv most v s Xq))(hl:s.stk.length<=300000){n:Int}{s':Rn}(hp:s.pop=some (n,s')):qC 256 #[qP rb] w λe w'=>e=.returned (qJ n)/\∃vs,Sx w0 w' (LM G rb Y fu tv fv ev bv most ⟨vs,v.l,v.f,v.m,v.g⟩ s' Xq):=by
 obtain⟨z,a⟩:∃z,s.stk=z++[n]:=by
  unfold Rn.pop at hp;split at hp
  .cases hp
  rename_i q b;cases hp;have d:s.stk≠[]:=by rintro e;rw[e]at b;simp at b
  refine⟨s.stk.dropLast,?_⟩;rw[List.getLast?_eq_some_getLast d]at b;have:=qcx d;rw[Option.some.inj b]at this;exact this.symm
 have r:s'={s with stk:=z}:=by
  unfold Rn.pop at hp;rw[a]at hp;simp at hp;exact hp.symm
 subst r;clear hp;obtain⟨k,X⟩:=qE z.length;have u:s.stk.length=k+1:=by rw[a,X];simp
 obtain⟨g,A,hv,-,x,y,i⟩:=Row.cells (h.isRow 1 rfl) (show 0<s.stk.length by omega);obtain⟨vs,B,C,D,E⟩:=v;simp only at hv;subst hv;have F:(k:Int)<(s.stk.length:Int):=qo;have c0:w.cell? (qA g k)=some (qJ n):=(i k qo).trans (by rw[a];simp[eD,X]);obtain⟨H,I⟩:=h.c 0 2;have J:=h.lt 0;have K:IntKind.i64.wrap ((s.stk.length:Int) - 1)=(k:Int):=by rw[show(s.stk.length:Int) - 1=(k:Int) by omega];exact qaf _ ⟨qo,qo⟩
 have j:=(h.cut 1 (n:=s.stk.length) (n':=k) qo rfl).set 0 2 (qL g k A) rfl;have t:=qH j;have p:qh (s.stk=z++[n]/\k=z.length):=⟨a,X⟩;have L:(k:Int)<=(A:Int):=qo;clear h j a X i;go_enter func256,ntmps256;go_wp2;go_ret;refine⟨rfl,qL g k A,?_⟩;have:=t.o;rw[p.o.1]at this;rw[p.o.2]at this ⊢;simpa [LM,eD] using this
theorem fI(h:RA w0 G rb Y fu tv fv ev bv most Xq s w)(hl:s.stk.length<=300000){n:Int}{s':Rn}(hp:s.pop=some (n,s')):qC 256 #[qP rb] w λe w'=>e=.returned (qJ n)/\RA w0 G rb Y fu tv fv ev bv most Xq s' w':=by
 obtain⟨v,h⟩:=h;refine(um h hl hp).mono ?_;rintro e w'⟨a,vs,h'⟩;exact⟨a,_,h'⟩
theorem rX{v:Rv}{gf cf:Nat}(h:Sx w0 w (LM G rb Y fu tv fv ev bv most v s Xq))(hv:v.f=qL gf s.eY.length cf)(hl:s.eY.length<=50)(h0:0<s.eY.length):qC 140 #[qP rb] w λe w'=>e=.returned (.pointer (some ⟨gf,(s.eY.length - 1)*3,none⟩))/\Sx w0 w' (LM G rb Y fu tv fv ev bv most v s Xq):=by
 obtain⟨vs,a,b,d,g⟩:=v;simp only at hv;subst hv;obtain⟨i,j⟩:=h.c 0 4;have l:=h.lt 0;obtain⟨k,X⟩:=qE (s.eY.length - 1);have m:IntKind.i64.wrap ((s.eY.length:Int) - 1)=(k:Int):=by rw[show(s.eY.length:Int) - 1=(k:Int) by omega];exact qaf _ ⟨qo,qo⟩
 have n:(k:Int)<(s.eY.length:Int):=qo;rw[<-X];have H:=qH h;clear h X;go_enter func140,ntmps140;go_wp2_with fail
 go_quiet (fail)
 go_wp2;go_ret;exact⟨rfl,H.o.drewN nq⟩
end
theorem Kept.setRow(w:qW)(g:Nat)(cs:Array qv):Kept (λk=>k=g) w (w.setRow g cs):=⟨rfl,rfl,rfl,qs,λk _ X=>setRow_other w g k cs X⟩
theorem AV{w:qW}{B g n A:Nat}{E:TypeId}{xs:qV}(h:w.ownsRow B E 1 (qL g n A) n xs):∃a:Array qv,w.heap[g]?=some (.cells a E (0,0))/\n<=a.size/\xs=a.toList.take n/\∀(o:Nat)(cs:qV),o+cs.length<=n->(w.setRow g (a.toList.take o++cs++a.toList.drop (o+cs.length)).toArray).ownsRow B E 1 (qL g (o+cs.length) A) (o+cs.length) (xs.take o++cs):=by
 obtain⟨U,f⟩:=h;obtain⟨b,_⟩ | ⟨m,p,a,b,i,d,q,j,k,c⟩:=f
 .cases b
 cases b;simp only[qck]at k c U;refine⟨a,d,qo,c.symm,λo cs ho=>⟨?_,.inr ⟨g,A,_,rfl,i,setRow_heap w g a _ E (0,0) d,qo,j,?_,?_⟩⟩⟩
 .simp;omega
 .simp;omega
 simp only[qck];have e:a.toList.take o=xs.take o:=by rw[<-c,qcg,qcj qo]
 have hl:(a.toList.take o++cs).length=o+cs.length:=by simp;omega
 rw[<-e,<-hl,List.take_left]
section
variable {w0 w:qW}{G:Gm}{E:Ev}{rb Y fu most:Nat}{tv fv ev bv:qv}{Xq:List It}{s s':Rn}{l:Lb}
theorem AP{v:Rv}(h:Sx w0 w (LM G rb Y fu tv fv ev bv most v s Xq))(hl:s.stk.length<=300000)(hc:l9 E l s=some s')(ad:w.cell? ⟨G.bg l.f,l.b*5+2,none⟩=some (qJ ((nI E l).ca:Nat)))(ar:G.bg l.f<w.heap.size):qC 193 #[qP rb,.agg (yD G l).toArray] w λe w'=>qU e/\∃D,D.l=v.l/\D.f=v.f/\D.m=v.m/\D.g=v.g/\Sx w0 w' (LM G rb Y fu tv fv ev bv most D s' Xq):=by
 rw[show(yD G l).toArray= #[.pointer (some ⟨G.bg l.f,l.b*5,none⟩),qJ l.fl] from rfl];unfold l9 at hc;split at hc
 .rename_i hle;cases hc;obtain⟨c,N⟩:=qE ((nI E l).ca);rw[<-N]at ad hle ⊢;obtain⟨d,O⟩:=qE l.fl;rw[<-O]at hle ⊢;obtain⟨p,i,hv⟩:=Row.shape (h.isRow 1 rfl);obtain⟨vs,R,T,W,Z⟩:=v;simp only at hv;subst hv;have ae:IntKind.i64.wrap ((s.stk.length:Int) - (c:Int))=((s.stk.length - c:Nat):Int):=by rw[show(s.stk.length:Int) - (c:Int)=((s.stk.length - c:Nat):Int) by omega];exact qaf _ ⟨qo,qo⟩
  have af:IntKind.i64.wrap ((d:Int)+(c:Int))=(d:Int)+(c:Int):=qaf _ ⟨qo,qo⟩;have ag:((d:Int)+(c:Int)).toNat=d+c:=qo;obtain⟨a2,b2⟩:=h.c 0 2;have au:=h.lt 0;have ah:(c:Int)<=(s.stk.length:Int):=qo;have ai:(d:Int)<=(s.stk.length:Int):=qo;have aj:((s.stk.length - c:Nat):Int)<=(s.stk.length:Int):=qo;obtain _ | ⟨g,o,sp⟩:=p
  .have F:s.stk=[]:=by
    rcases(h.row 1 rfl).2 with⟨_,h4⟩ | ⟨g',aa,A,t,_⟩
    .exact qao h4
    cases t
   have ak:i=0:=by
    rcases(h.row 1 rfl).2 with⟨t,_⟩ | ⟨g',aa,A,t,_⟩
    .simp at t;exact t.2
    cases t
   subst ak;have hz:s.stk.length=0:=by rw[F];rfl
   obtain rfl:d=0:=qo;obtain rfl:c=0:=qo;rw[hz]at a2;have al:{s with stk:=s.stk.take 0++s.stk.drop (s.stk.length - 0)}=s:=by rw[F];simp[F];cases s;simp at F;simp[F]
   rw[al];have aw:(Value.slice (none:qO) s.stk.length 0)=qN:=by rw[hz]
   have H:=qH ((h.set 0 2 (qN) rfl).alloc (.cells #[.pointer (some ⟨G.bg l.f,l.b*5,none⟩),qJ 0] 245)).drew.drew;have ax:IntKind.i64.wrap 0=0:=qx;clear h N O af ag ae ah ai aj hle hl;go_enter func193,ntmps193;go_wp2_with fail
   have I:(λV:qW=>V.cell? (qA rb 2)=some (qN)/\V.cell? (qA w.heap.size 1)=some (qJ 0)) (w.alloc (.cells #[.pointer (some ⟨G.bg l.f,l.b*5,none⟩),qJ 0] 245)).drew:=by
    refine⟨?_,?_⟩
    .go_simp
    go_simp
   refine jU (λV:qW=>V.cell? (qA rb 2)=some (qN)/\V.cell? (qA w.heap.size 1)=some (qJ 0)) 19 ?_;iterate 19 refine nE I ?_ (hy:=qQ)
   refine iU (λK y=>?_);go_simp;rw[run_copy_none (P:=prog) _ 29 29 3 2 _ _ _ _ _ _ qk qk qs];simp only[Result.andThen];rw[Oper.upon_value];refine y _ _ ?_;clear y K I;go_wp2_with fail
   have J:(λV:qW=>V.cell? (qA rb 2)=some (qN)/\V.cell? (qA w.heap.size 1)=some (qJ 0)) ((w.alloc (.cells #[.pointer (some ⟨G.bg l.f,l.b*5,none⟩),qJ 0] 245)).drew).drew:=by
    refine⟨?_,?_⟩
    .go_simp
    go_simp
   refine jU (λV:qW=>V.cell? (qA rb 2)=some (qN)/\V.cell? (qA w.heap.size 1)=some (qJ 0)) 12 ?_;iterate 12 refine nE J ?_ (hy:=qQ)
   refine iU (λK y=>?_);go_simp;refine y _ _ ?_;clear y K J;go_wp2;go_end0;refine⟨rfl,⟨qN,R,T,W,Z⟩,rfl,rfl,rfl,rfl,?_⟩;have:=H.o;simp only[LM,qz,qw]at this ⊢;rw[hz]at this ⊢;exact this
  have ab:=h.row 1 rfl;obtain⟨rfl,rfl⟩:o=0/\sp=none:=by
   obtain⟨t,_⟩ | ⟨g',aa,A,t,_⟩:=ab.2
   .cases t
   cases t;exact⟨rfl,rfl⟩
  have ay:(s.stk.length:Int)<=(i:Int):=by
   obtain⟨t,_⟩ | ⟨g',aa,A,t,_,_,h6,_⟩:=ab.2
   .cases t
   cases t;omega
  obtain⟨z,L⟩:=qE ((w.alloc (.cells #[.pointer (some ⟨G.bg l.f,l.b*5,none⟩),qJ d] 245)).drew);have U:=(h.alloc (.cells #[.pointer (some ⟨G.bg l.f,l.b*5,none⟩),qJ d] 245)).drew;rw[<-L]at U;have ac:z.cell? (qA w.heap.size 1)=some (qJ d):=by rw[L];simp[go_sem]
  have am:w.heap.size<z.heap.size:=by rw[L];simp
  have an:∃B,(Builtin.copy_ #[29,29] 3 #[.slice (if i=d then some (qA g 0) else some (qA g d)) (s.stk.length - d) (i - d),.slice (if i=s.stk.length - c then some (qA g 0) else some ⟨g,s.stk.length - c,none⟩) (s.stk.length - (s.stk.length - c)) (i - (s.stk.length - c))]).run prog z=.ok (goInt c) B/\Kept (λk=>k=g) z B/\
    Sx w0 B ((LM G rb Y fu tv fv ev bv most ⟨qL g s.stk.length i,R,T,W,Z⟩ s Xq).set 1 (.r 2 1 (qL g (d+c) i) (d+c) (eD (s.stk.take d++s.stk.drop (s.stk.length - c))))):=by
   have ao:d+c<=s.stk.length:=qo;by_cases h0:c=0
   .subst h0;refine⟨z,run_copy_none z 29 29 3 2 _ _ _ _ _ _ qk qk qs,Kept.refl _ _,?_⟩;have:=U.cut 1 (n:=s.stk.length) (n':=d) qo rfl;simpa [eD] using this
   obtain⟨A,e1,e2,e3,e4⟩:=AV (U.row 1 rfl);have M:((eD s.stk).drop (s.stk.length - c)).length=c:=by rw[qcb,Hl];omega
   rw[qaa qo,qaa qo];refine⟨_,(run_copy_row (P:=prog) z 29 29 3 2 g d _ _ ⟨g,s.stk.length - c,none⟩ _ _ A 2 ((eD s.stk).drop (s.stk.length - c)) qk qk e1 (by rw[M];show c=min _ _;omega) (λj u C=>?_) (by rw[M];omega) (λu C=>?_)).trans (by rw[M]),Kept.setRow _ _ _,?_⟩
   .rw[qbr]at C;have hj:s.stk.length - c+j<s.stk.length:=by have:=(qae.1 C).1;rw[Hl]at this;exact this
    rw[qdm];unfold World.cell?;simp only[e1];have:(eD s.stk)[s.stk.length - c+j]?=A.toList[s.stk.length - c+j]?:=by
     show(eD s.stk)[_]?=_;rw[e3,qcs hj]
    rw[this]at C;simpa using C
   .have:=List.mem_of_mem_drop C;unfold eD at this;obtain⟨q,_,rfl⟩:=List.mem_map.1 this;rfl
   have h5:=e4 d ((eD s.stk).drop (s.stk.length - c)) (by rw[M];exact ao);have e5:(eD s.stk).take d++(eD s.stk).drop (s.stk.length - c)=eD (s.stk.take d++s.stk.drop (s.stk.length - c)):=by unfold eD;simp
   rw[M]at h5;refine U.upd (S:=λk=>k=g) rfl (Kept.setRow _ _ _) (λk X=>by rw[X];rfl) (p2:=.r 2 1 (qL g (d+c) i) (d+c) (eD (s.stk.take d++s.stk.drop (s.stk.length - c)))) (by rw[<-e5];exact h5) (λk X=>.inl X)
  obtain⟨B,c1,c2,c3⟩:=an;have aA:rb≠g:=λe=>U.ne (a:=0) (b:=1) (g:=g) rfl rfl qx (by rw[e];rfl) rfl;have ap:w.heap.size≠g:=λe=>by
   have:=(h.row 1 rfl).lt g rfl;omega
  have HC:=qH c1;have H2:=qH c3;have HW:=qH L;have d1:B.cell? (qA w.heap.size 1)=some (qJ d):=(c2.cell (p:=(qA w.heap.size 1)) am ap).trans ac;clear h U N O ab c1 c2 c3 ac L;go_enter func193,ntmps193;go_wp2_with fail
  have I:(λV:qW=>V.cell? (qA rb 2)=some (qL g s.stk.length i)/\V.cell? (qA w.heap.size 1)=some (qJ d)) (w.alloc (.cells #[.pointer (some ⟨G.bg l.f,l.b*5,none⟩),qJ d] 245)).drew:=by
   refine⟨?_,?_⟩
   .go_simp
   go_simp
  refine jU (λV:qW=>V.cell? (qA rb 2)=some (qL g s.stk.length i)/\V.cell? (qA w.heap.size 1)=some (qJ d)) 19 ?_;iterate 19 refine nE I ?_ (hy:=qQ)
  refine iU (λK y=>?_);go_simp;rw[<-HW.o,HC.o];simp only[Result.andThen];rw[Oper.upon_value];refine y _ _ ?_;clear y K I HC HW;obtain⟨f2,k2⟩:=H2.o.c 0 2 rfl rfl;have aB:=H2.o.lt 0 rfl;generalize (if i=d then some (⟨g,0,none⟩:Addr) else some (qA g d))=q1;generalize (if i=s.stk.length - c then some (⟨g,0,none⟩:Addr) else some ⟨g,s.stk.length - c,none⟩)=q2;have aC:(d:Int)+(c:Int)<=(i:Int):=qo;have aD:(0:Int)<=(d:Int)+(c:Int):=qo;have h6:=(H2.o.set 0 2 (qL g (d+c) i) rfl).drew;have H6:=qH h6;clear h6;go_wp2_with fail
  have J:(λV:qW=>V.cell? (qA rb 2)=some (qL g s.stk.length i)/\V.cell? (qA w.heap.size 1)=some (qJ d)) B.drew:=⟨f2,d1⟩;refine jU (λV:qW=>V.cell? (qA rb 2)=some (qL g s.stk.length i)/\V.cell? (qA w.heap.size 1)=some (qJ d)) 12 ?_;iterate 12 refine nE J ?_ (hy:=qQ)
  refine iU (λK y=>?_);go_simp;refine y _ _ ?_;clear y K J;go_wp2;go_end0;have aq:(s.stk.take d++s.stk.drop (s.stk.length - c)).length=d+c:=by simp;omega
  refine⟨rfl,⟨qL g (d+c) i,R,T,W,Z⟩,rfl,rfl,rfl,rfl,?_⟩;have:=H6.o;simp only[LM]at this ⊢;rw[aq];simpa using this
 cases hc
end
def uu(b:PB):List Value:=[.bool b.lp,qJ b.tk,qJ b.ca,qJ b.tg,qJ b.el]
structure Gf where
 iv:Value
 ov:Value
 bc:Nat
 sv:Value
 lv:Nat->Value
def Gv(p:PS)(lv:Value):List Value:=[qB p.wd,qJ p.bk,qI p.num,lv,qJ p.val]
def VM(G:Gm)(f:Nat)(F:PF)(q:Gf):List Value:=[q.iv,q.ov,qJ F.loc,.slice (some ⟨G.bg f,0,none⟩) F.bs.length q.bc,q.sv]
def jC(l:List Nat):List Value:=l.map λ(n:Nat)=>qI (n:Int)
structure jg(Xq:List It)(G:Gm)(E:Ev)(Q:Nat->Gf)(fv:Value):Prop where
 row:∃A,fv=qL G.fg E.fs.length A/\jl Xq 104 5 fv E.fs.length ((List.range E.fs.length).flatMap λf=>VM G f (E.fs.getD f PF.none) (Q f))
 bl:∀f F,E.fs[f]?=some F->jl Xq 230 5 (.slice (some ⟨G.bg f,0,none⟩) F.bs.length (Q f).bc) F.bs.length (F.bs.flatMap uu)
 Z:∀f F,E.fs[f]?=some F->jl Xq 234 5 (Q f).sv F.ss.length ((List.range F.ss.length).flatMap λk=>Gv (F.ss.getD k ⟨0,0,0,[],0⟩) ((Q f).lv k))/\(0<F.ss.length->∃A,(Q f).sv=.slice (some ⟨G.sg f,0,none⟩) F.ss.length A)
 lb:∀f F,E.fs[f]?=some F->∀k p,F.ss[k]?=some p->jl Xq 85 1 ((Q f).lv k) p.zz.length (jC p.zz)
 ki:∀f F,E.fs[f]?=some F->jl Xq 80 1 (Q f).iv F.ty.ins.length (kindCells F.ty.ins)/\jl Xq 80 1 (Q f).ov F.ty.outs.length (kindCells F.ty.outs)
section
variable {w0 w:qW}{G:Gm}{E:Ev}{Q:Nat->Gf}{fv:qv}{Xq l:List It}
theorem jg.blk(h:jg Xq G E Q fv)(a:Sx w0 w l)(c:∀p∈Xq,p∈l){f b o:Nat}{F:PF}(d:E.fs[f]?=some F)(hb:b<F.bs.length)(ho:o<5):w.cell? ⟨G.bg f,b*5+o,none⟩=(uu (F.bs.getD b PB.none))[o]?/\G.bg f<w.heap.size:=by
 obtain⟨g,A,hv,-,e,-,i⟩:=Row.cells ((h.bl f F d).row a c) qo;cases hv;refine⟨(i (b*5+o) qo).trans ?_,e⟩;have hx:F.bs[b]?=some (F.bs.getD b PB.none):=by rw[qag,qab hb];rfl
 exact flat_get (m:=5) (o:=o) (λ_=>rfl) hx ho
theorem jg.fn(h:jg Xq G E Q fv)(b:Sx w0 w l)(c:∀p∈Xq,p∈l){f o:Nat}{F:PF}(a:E.fs[f]?=some F)(ho:o<5):w.cell? ⟨G.fg,f*5+o,none⟩=(VM G f F (Q f))[o]?/\G.fg<w.heap.size:=by
 obtain⟨A,rfl,hm⟩:=h.row;have d:=(qae.1 a).1;obtain⟨g,A,hv,-,e,-,i⟩:=Row.cells (hm.row b c) qo;cases hv;refine⟨(i (f*5+o) qo).trans ?_,e⟩;have:=flat_get (f:=λf=>VM G f (E.fs.getD f PF.none) (Q f)) (xs:=List.range E.fs.length) (m:=5) (o:=o) (λ_=>rfl) (List.getElem?_range d) ho;rw[this,qag,a];rfl
end
section
variable {w0 w:qW}{G:Gm}{E:Ev}{Q:Nat->Gf}{rb Y fu most:Nat}{tv fv ev bv:qv}{Xq:List It}{s s':Rn}
theorem fG{v:Rv}:∀p∈Xq,p∈LM G rb Y fu tv fv ev bv most v s Xq:=λp hp=>by simp[LM,hp]
theorem nQ{a:Type}{f:a->qV}{m:Nat}(hf:∀x,(f x).length=m):∀{n:Nat}{l:List a},(l.take n).flatMap f=(l.flatMap f).take (n*m)
 | 0,l=>qs
 | n+1,[]=>qs
 | n+1,x::l=>by
  have e:(n+1)*m=(f x).length+n*m:=by rw[hf x,Nat.add_mul];omega
  rw[qdp,qci,qci,nQ hf (n:=n) (l:=l),e,List.take_length_add_append]
def ny(E:Ev)(s:Rn):Prop:=∀l∈s.lab,∃F,E.fs[l.f]?=some F/\l.b<F.bs.length
theorem wh{v:Rv}(h:Sx w0 w (LM G rb Y fu tv fv ev bv most v s Xq))(hF:jg Xq G E Q fv)(hL:ny E s)(hl:s.stk.length<=300000)(ai:s.lab.length<=100000)(ab:s.eY.length<=50)(hc:jH E s=some s'):qC 141 #[qP rb] w λe w'=>qU e/\RA w0 G rb Y fu tv fv ev bv most Xq s' w':=by
 unfold jH at hc;cases hf:s.eY.getLast? with
 | none=>rw[hf]at hc;cases hc
 | some f=>
  rw[hf]at hc;simp only at hc;cases g:s.lab[f.fi]? with
  | none=>rw[g]at hc;cases hc
  | some d=>
   rw[g]at hc;simp only at hc;cases q:l9 E d s with
   | none=>rw[q]at hc;cases hc
   | some H=>
    rw[q]at hc;cases hc;obtain⟨F,I,ac⟩:=hL d (qai g);have aj:f.fi<s.lab.length:=(qae.1 g).1;have B:0<s.eY.length:=by
     exact T9
    obtain⟨gf,cf,r,-,J,ak,t⟩:=Row.cells (h.isRow 3 rfl) B;obtain⟨j,cl,u,-,L,al,p⟩:=Row.cells (h.isRow 2 rfl) (show 0<s.lab.length by omega);obtain⟨k,X⟩:=qE (s.eY.length - 1);have M:s.eY[k]?=some f:=by rw[X,<-qbm];exact hf
    obtain⟨vs,vl,vf,vm,vg⟩:=v;simp only at r u;subst r u;have ad:(nI E d)=F.bs.getD d.b PB.none:=by unfold nI;rw[qag (l:=E.fs),I];rfl
    have C:=qH (rX h rfl ab B);have i:qh (s.lab[f.fi]?=some d/\l9 E d s=some H/\s.eY[k]?=some f/\k=s.eY.length - 1):=⟨g,q,M,X⟩;have am:(k:Int)<(s.eY.length:Int):=qo;have an:IntKind.i64.wrap ((s.eY.length:Int) - 1)=(k:Int):=by rw[show(s.eY.length:Int) - 1=(k:Int) by omega];exact qaf _ ⟨qo,qo⟩
    rw[<-X]at C;clear h t p g q M hf J L X;go_enter func141,ntmps141;go_wp2_with fail
    refine C.o.mono ?_;rintro e D⟨rfl,U⟩;obtain⟨ao,ap,r,-,J,aq,t⟩:=Row.cells (U.isRow 3 rfl) B;obtain⟨ar,au,u,-,L,aw,p⟩:=Row.cells (U.isRow 2 rfl) (show 0<s.lab.length by omega);cases r;cases u;have c1:D.cell? ⟨gf,k*3+2,none⟩=some (qJ f.fi):=(t (k*3+2) qo).trans (flat_get (m:=3) (o:=2) (λ_=>rfl) i.o.2.2.1 qo);have c2:D.cell? ⟨j,f.fi*2,none⟩=some (.pointer (some ⟨G.bg d.f,d.b*5,none⟩)):=(p (f.fi*2) qo).trans (flat_get (m:=2) (o:=0) (λ_=>rfl) i.o.1 qo);have c3:D.cell? ⟨j,f.fi*2+1,none⟩=some (qJ d.fl):=(p (f.fi*2+1) qo).trans (flat_get (m:=2) (o:=1) (λ_=>rfl) i.o.1 qo);obtain⟨c4,ae⟩:=hF.blk U fG I ac (o:=2) qo;obtain⟨a3,b3⟩:=U.c 0 3;have ax:=U.lt 0;have ay:(f.fi:Int)<(s.lab.length:Int):=qo;have N:=qH (AP U hl i.o.2.1 (c4.trans (by rw[ad];rfl)) ae);clear C t p U c4;go_wp2_with fail
    refine N.o.mono ?_;rintro e w2⟨rfl,⟨af,aA,aB,ag,ah⟩,O,R,T,W,y⟩;simp only at O R T W;subst O R T W;obtain⟨z,rfl⟩:∃z,H={s with stk:=z}:=by
     have:=i.o.2.1;unfold l9 at this;split at this
     .cases this;exact⟨_,rfl⟩
     cases this
    have A:=(y.cut 2 (n:=s.lab.length) (n':=f.fi) qo rfl).set 0 3 (qL j f.fi cl) rfl;obtain⟨x3,y3⟩:=y.c 0 3 rfl rfl;obtain⟨x4,y4⟩:=A.c 0 4 rfl rfl;have aC:=y.lt 0 rfl;have aD:=A.lt 0 rfl;have aE:(f.fi:Int)<=(cl:Int):=qo;have aF:(k:Int)<=(cf:Int):=qo;have Z:=((A.cut 3 (n:=s.eY.length) (n':=k) qo rfl).set 0 4 (qL gf k cf) rfl).drew;have H4:=qH Z;clear y A Z N c1 c2 c3;go_wp2_with fail
    have aa:(λV:qW=>V.cell? (qA rb 4)=some (qL gf s.eY.length cf)) (w2.setCell (qA rb 3) (qL j f.fi cl)).drew:=x4;refine jU (λV:qW=>V.cell? (qA rb 4)=some (qL gf s.eY.length cf)) 14 ?_;iterate 14 refine nE aa ?_ (hy:=qu)
    refine iU (λK hK=>?_);go_simp;refine hK _ _ ?_;clear hK K aa;go_wp2;go_end0;refine⟨rfl,⟨af,qL j f.fi cl,qL gf k cf,ag,ah⟩,?_⟩;have:=H4.o;have q1:(s.lab.take f.fi).length=f.fi:=by simp;omega
    have q2:s.eY.dropLast=s.eY.take k:=by rw[qde,i.o.2.2.2]
    have q3:(s.eY.take k).length=k:=by simp;omega
    simp only[LM,qz,qw]at this ⊢;rw[q2,q1,q3,nQ (m:=2) (λ_=>rfl),nQ (m:=3) (λ_=>rfl)];exact this
end
theorem Tryz.EY:(prog.info? 245).map (λi=>(i.zero,i.size,i.bytes))=some (some (.agg #[.pointer none,qJ 0]),2,16):=qk
section
variable {w0 w:qW}{G:Gm}{E:Ev}{Q:Nat->Gf}{rb Y fu most:Nat}{tv fv ev bv:qv}{Xq:List It}{s s':Rn}
theorem DC{v:Rv}{which:Nat}(h:Sx w0 w (LM G rb Y fu tv fv ev bv most v s Xq))(L:jg Xq G E Q fv)(hl:s.stk.length<=300000)(an:s.lab.length<=100000)(ae:s.eY.length<=50)(hc:oG E which s=some s'):qC 253 #[qP rb,qJ which] w λe w'=>qU e/\RA w0 G rb Y fu tv fv ev bv most Xq s' w':=by
 obtain⟨i0,af,ag,ah,ai⟩:=qap Tryz.EY;unfold oG at hc;cases hf:s.eY.getLast? with
 | none=>rw[hf]at hc;cases hc
 | some f=>
  rw[hf]at hc;simp only at hc;cases hb:(E.fs.getD f.f PF.none).bs[which]? with
  | none=>rw[hb]at hc;cases hc
  | some b=>
   rw[hb]at hc;simp only at hc;split at hc
   .cases hc
   rename_i ao;cases hc;have A:0<s.eY.length:=by
    exact T9
   obtain⟨F,M,aj⟩:∃F,E.fs[f.f]?=some F/\E.fs.getD f.f PF.none=F:=by
    exact WA
   rw[aj]at hb;have hw:which<F.bs.length:=(qae.1 hb).1;have ak:F.bs.getD which PB.none=b:=sW hb;obtain⟨gf,cf,q,-,al,ap,y⟩:=Row.cells (h.isRow 3 rfl) A;obtain⟨k,X⟩:=qE (s.eY.length - 1);have N:s.eY[k]?=some f:=by rw[X,<-qbm];exact hf
   obtain⟨pl,cl,O⟩:=Row.shape (h.isRow 2 rfl);obtain⟨ps,cs,R⟩:=Row.shape (h.isRow 1 rfl);obtain⟨vs,vl,vf,B,C⟩:=v;simp only at q O R;subst q O R;have D:=qH (rX h rfl ae A);rw[<-X]at D;have aq:(k:Int)<(s.eY.length:Int):=qo;have ar:(which:Int)<(F.bs.length:Int):=qo;have HK:qh (s.eY[k]?=some f):=N;have au:IntKind.i64.wrap ((s.stk.length:Int) - (b.tk:Int))=((s.stk.length - b.tk:Nat):Int):=by rw[show(s.stk.length:Int) - (b.tk:Int)=((s.stk.length - b.tk:Nat):Int) by omega];exact qaf _ ⟨qo,qo⟩
   clear h y hf X N;go_enter func253,ntmps253;go_wp2_with fail
   refine D.o.mono ?_;rintro e g⟨rfl,U⟩;obtain⟨aw,ax,q,-,al,ay,y⟩:=Row.cells (U.isRow 3 rfl) A;cases q;have c1:g.cell? ⟨gf,k*3,none⟩=some (.pointer (some ⟨G.fg,f.f*5,none⟩)):=(y (k*3) qo).trans (flat_get (m:=3) (o:=0) (λ_=>rfl) HK.o qo);obtain⟨c2,aA⟩:=L.fn U fG M (o:=3) qo;replace c2:g.cell? ⟨G.fg,f.f*5+3,none⟩=some (.slice (some ⟨G.bg f.f,0,none⟩) F.bs.length (Q f.f).bc):=c2
   have T:=qH U;clear D y U;go_wp2_with fail
   have H:∀(V:qW)(p2:It),Sx w0 V (.b rb [qP Y,qJ fu,qX ps s.stk cs,qX pl s.lab cl,qL gf s.eY.length cf]::.r 2 1 (qX ps s.stk cs) s.stk.length (eD s.stk)::p2::.r 242 3 (qL gf s.eY.length cf) s.eY.length (s.eY.flatMap (Rj G))::.b Y [tv,fv,ev,bv,B,qJ most,C]::.r 5 1 B s.mem.length (jr s.mem)::.r 2 1 C s.dW.length (eD s.dW)::Xq)->
     V.cell? (qA rb 3)=some (qX pl s.lab cl)/\V.cell? (qA rb 2)=some (qX ps s.stk cs)/\V.cell? ⟨G.bg f.f,which*5+1,none⟩=some (qJ b.tk):=λV p2 I=>by
    refine⟨(I.c 0 3 rfl rfl).1,(I.c 0 2 rfl rfl).1,?_⟩;have:=(L.blk I (λp hp=>by simp[hp]) M hw (o:=1) qo).1;rw[ak]at this;exact this
   have W:=H _ _ T.o.drew;refine jU (λV:qW=>V.cell? (qA rb 3)=some (qX pl s.lab cl)/\V.cell? (qA rb 2)=some (qX ps s.stk cs)/\V.cell? ⟨G.bg f.f,which*5+1,none⟩=some (qJ b.tk)) 21 ?_;iterate 17 refine nE W ?_ (hy:=qY)
   have i:=(T.o.alloc (.cells #[.pointer (some ⟨G.bg f.f,which*5,none⟩),qJ ((s.stk.length - b.tk:Nat):Int)] 245)).drew;refine jO (λK d=>?_);go_simp;refine d _ _ (.inr (H _ _ i)) ?_;clear d K;have Z:=i.row 2 rfl;refine jO (λK d=>?_);refine step_append_lies _ (by rfl) (.tmp 19) (.tmp 32) 168 (by rfl) w0.heap.size 245 i0 (.agg #[.pointer none,qJ 0]) 2 16 qk af ag ah ai rfl qx (qX pl s.lab cl) s.lab.length (s.lab.flatMap (yD G)) (by rfl) Z ⟨g.heap.size,0,none⟩ 1 1 [.pointer (some ⟨G.bg f.f,which*5,none⟩),qJ ((s.stk.length - b.tk:Nat):Int)] (by rfl) rfl (λj u z=>?c1) ?c2 qo ?c3 ?c4 ?c5 (g.heap.size+1) qs ?_
   case c1=>exact cells_at (w:=g) (c:= #[.pointer (some ⟨G.bg f.f,which*5,none⟩),qJ ((s.stk.length - b.tk:Nat):Int)]) (t:=245) rfl rfl j u z
   case c2=>intro u z;simp at z;obtain rfl | rfl:=z<;>rfl
   case c3=>unfold maxLen;omega
   case c4=>omega
   case c5=>exact i.kept.size
   intro gg cp w2 aa ab ac aB;have n:=i.app 2 aa ab (by obtain c | c:=ac;exact .inl c;exact .inr qt) rfl;have J:=H _ _ n;refine d _ _ (.inr J) ?_;clear d K W;simp only[Act.put,qy,qz,qw];iterate 2 refine nE J ?_
   obtain⟨x3,y3⟩:=n.c 0 3 rfl rfl;have mm:=n.lt 0 rfl;have ad:=n.set 0 3 (qL gg (s.lab.length+1) cp) rfl;have am:=qH ad;clear i n ad Z aa ab ac;refine iU (λK d=>?_);go_simp;refine d _ _ ?_;clear d K J;go_wp2;go_end0;refine⟨rfl,⟨qX ps s.stk cs,qL gg (s.lab.length+1) cp,qL gf s.eY.length cf,B,C⟩,?_⟩;have:=am.o;simp only[LM,qz,qw]at this ⊢;simpa [yD] using this
end
theorem Gy{w:qW}{B g n A sz j:Nat}{E:TypeId}{xs:qV}(h:w.ownsRow B E sz (qL g n A) n xs)(u:qv):(w.setCell (qA g j) u).ownsRow B E sz (qL g n A) n (xs.set j u):=by
 refine⟨by simp[h.1],?_⟩;obtain⟨hv,_⟩ | ⟨i,k,a,hv,hb,b,c,d,e,f⟩:=h.2
 .cases hv
 cases hv;refine .inr ⟨g,A,a.setIfInBounds j u,rfl,hb,?_,c,d,by simpa using e,?_⟩
 .simp[World.setCell,Array.getElem?_modify,b]
 rw[<-f];simp[List.take_set]
theorem Sx.EG{w0 w:qW}{l:List It}(h:Sx w0 w l)(k j:Nat)(u:qv){E:TypeId}{sz n A a:Nat}{xs:qV}(X:l[k]?=some (.r E sz (qL a n A) n xs):=by rfl):Sx w0 (w.setCell (qA a j) u) (l.set k (.r E sz (qL a n A) n (xs.set j u))):=
 h.upd (S:=λi=>i=a) X ((Kept.refl (λi=>i=a) w).setCell (p:=(qA a j)) (λ_=>rfl) u) (λi e=>by rw[e];rfl) (Gy (h.row k X) u) (λi e=>.inl e)
theorem Sx.perm{w0 w:qW}{l l':List It}(h:Sx w0 w l)(hp:l.Perm l'):Sx w0 w l':=
 ⟨h.kept,λp c=>h.it p (hp.symm.subset c),(hp.pairwise_iff (λ{a b} d g f e=>d g e f)).1 h.nd⟩
theorem Sx.vM{w0 w:qW}{l:List It}(h:Sx w0 w l)(k j:Nat){E:TypeId}{sz n A a:Nat}{xs:qV}(X:l[k]?=some (.r E sz (qL a n A) n xs):=by rfl):w.frozen? (qA a j)=false:=Row.free (h.isRow k X) j
section
variable {w0 w:qW}{G:Gm}{E:Ev}{Q:Nat->Gf}{rb Y fu most:Nat}{tv fv ev bv:qv}{Xq:List It}{s s':Rn}
theorem xJ{s:Rn}{f:Fr}{k q:Nat}(hf:s.eY.getLast?=some f)(X:k=s.eY.length - 1):(s.eY.flatMap (Rj G)).set (k*3+1) (qJ q)=(mE s q).eY.flatMap (Rj G)/\(mE s q).eY.length=s.eY.length:=by
 have c:s.eY≠[]:=by rintro e;rw[e]at hf;simp at hf
 obtain⟨z,d⟩:∃z,s.eY=z++[f]:=by
  refine⟨s.eY.dropLast,?_⟩;have:=qcx c;rw[List.getLast?_eq_some_getLast c]at hf;rw[Option.some.inj hf]at this;exact this.symm
 have hl:(z.flatMap (Rj G)).length=k*3:=by
  have:k=z.length:=by rw[X,d];simp
  rw[this];clear d X hf c this;induction z with
  | nil=>rfl
  | cons a b g=>simp[qci,g,Rj];omega
 unfold mE;simp only[hf,d];refine⟨?_,qs⟩;rw[List.flatMap_append,qcp _ _ qo,hl];simp[Rj]
theorem oM{v:Rv}{j:Nat}(h:Sx w0 w (LM G rb Y fu tv fv ev bv most v s Xq))(hF:jg Xq G E Q fv)(hL:ny E s)(hl:s.stk.length<=300000)(aI:s.lab.length<=100000)(au:s.eY.length<=50)(hc:mQ E j s=some s'):qC 255 #[qP rb,qI j] w λe w'=>qU e/\RA w0 G rb Y fu tv fv ev bv most Xq s' w':=by
 obtain⟨i0,aJ,aK,aL,aM⟩:=qap Tryz.EY;unfold mQ at hc;cases hf:s.eY.getLast? with
 | none=>rw[hf]at hc;cases hc
 | some f=>
  rw[hf]at hc;simp only at hc;split at hc
  .cases hc
  rename_i hj;have aa:0<s.eY.length:=by
   exact T9
  obtain⟨gf,cf,I,-,aw,aV,B⟩:=Row.cells (h.isRow 3 rfl) aa;obtain⟨g,cl,ab,-,ax,aW,M⟩:=Row.cells (h.isRow 2 rfl) (show 0<s.lab.length by omega);obtain⟨k,X⟩:=qE (s.eY.length - 1);have ay:s.eY[k]?=some f:=by rw[X,<-qbm];exact hf
  obtain⟨at_,aj⟩:=qE (s.lab.length - 1 - j);rw[<-aj]at hc;obtain⟨vs,vl,vf,vm,vg⟩:=v;simp only at I ab;subst I ab;have HC:=qH (rX h rfl au aa);rw[<-X]at HC;have aX:(k:Int)<(s.eY.length:Int):=qo;have aY:IntKind.i64.wrap ((s.lab.length:Int) - 1)=(s.lab.length:Int) - 1:=qaf _ ⟨qo,qo⟩;have aZ:IntKind.i64.wrap (j:Int)=(j:Int):=qaf _ ⟨qo,qo⟩;have a0:IntKind.i64.wrap ((s.lab.length:Int) - 1 - (j:Int))=(at_:Int):=by rw[show(s.lab.length:Int) - 1 - (j:Int)=(at_:Int) by omega];exact qaf _ ⟨qo,qo⟩
  have J:qh (s.eY[k]?=some f/\k=s.eY.length - 1/\s.eY.getLast?=some f):=⟨ay,X,hf⟩;have a1:(at_:Int)<(s.lab.length:Int):=qo;have a2:=qH aj;clear aj;have ak:qh (∀e',jH E s=some e'->∀i,Sx w0 i (LM G rb Y fu tv fv ev bv most ⟨vs,qL g s.lab.length cl,qL gf s.eY.length cf,vm,vg⟩ s Xq)->qC 141 #[qP rb] i λe w'=>qU e/\RA w0 G rb Y fu tv fv ev bv most Xq e' w'):=λe' he i hw=>wh hw hF hL hl aI au he;clear h B M hf X ay aw ax;go_enter func255,ntmps255;go_wp2_with fail
  refine HC.o.mono ?_;rintro e i⟨rfl,U⟩;obtain⟨a4,a5,I,-,aw,a6,B⟩:=Row.cells (U.isRow 3 rfl) aa;cases I;have c1:i.cell? ⟨gf,k*3+2,none⟩=some (qJ f.fi):=(B (k*3+2) qo).trans (flat_get (m:=3) (o:=2) (λ_=>rfl) J.o.1 qo);obtain⟨a3,b3⟩:=U.c 0 3 rfl rfl;have aN:=U.lt 0 rfl;by_cases al:at_=f.fi
  .rw[qac al]at hc;have t1:((at_:Int)==(f.fi:Int))=true:=by simp;omega
   have HV:=qH (ak.o s' hc i U);clear ak HC B U hc al;go_wp2_with fail
   refine HV.o.mono ?_;rintro e N⟨rfl,y⟩;have H2:=qH y;clear y HV;go_wp2;refine qal (v:=.tuple #[]) ?_ rfl ?_
   .simp[results,results255]
   exact⟨rfl,H2.o⟩
  rw[qaa al]at hc;have t1:((at_:Int)==(f.fi:Int))=false:=by simp;omega
  cases C:s.lab[at_]? with
  | none=>rw[C]at hc;cases hc
  | some d=>
   rw[C]at hc;simp only at hc;cases O:l9 E d s with
   | none=>rw[O]at hc;cases hc
   | some s1=>
    rw[O]at hc;have HS:=qH (Option.some.inj hc);clear hc;obtain⟨F,ac,am⟩:=hL d (qai C);have ad:(nI E d)=F.bs.getD d.b PB.none:=by unfold nI;rw[qag (l:=E.fs),ac];rfl
    obtain⟨a7,a8,ab,-,ax,a9,M⟩:=Row.cells (U.isRow 2 rfl) (show 0<s.lab.length by omega);cases ab;have c2:i.cell? ⟨g,at_*2,none⟩=some (.pointer (some ⟨G.bg d.f,d.b*5,none⟩)):=(M (at_*2) qo).trans (flat_get (m:=2) (o:=0) (λ_=>rfl) C qo);have c3:i.cell? ⟨g,at_*2+1,none⟩=some (qJ d.fl):=(M (at_*2+1) qo).trans (flat_get (m:=2) (o:=1) (λ_=>rfl) C qo);have an:Sx w0 (i.alloc (.cells #[.pointer (some ⟨G.bg d.f,d.b*5,none⟩),qJ d.fl] 245)) (LM G rb Y fu tv fv ev bv most ⟨vs,qL g s.lab.length cl,qL gf s.eY.length cf,vm,vg⟩ s (.b i.heap.size [.pointer (some ⟨G.bg d.f,d.b*5,none⟩),qJ d.fl]::Xq)):=by
     refine(U.new #[.pointer (some ⟨G.bg d.f,d.b*5,none⟩),qJ d.fl] 245).perm ?_;simp only[LM,qax];iterate 7 refine List.Perm.cons _ ?_
     exact qbi (l₂:=[_])
    have ae:∀p∈Xq,p∈LM G rb Y fu tv fv ev bv most ⟨vs,qL g s.lab.length cl,qL gf s.eY.length cf,vm,vg⟩ s (.b i.heap.size [.pointer (some ⟨G.bg d.f,d.b*5,none⟩),qJ d.fl]::Xq):=λp hp=>by simp[LM,hp]
    obtain⟨c4,aA⟩:=hF.blk an ae ac am (o:=2) qo;have aB:=qH (AP an hl O (c4.trans (by rw[ad];rfl)) aA);have aO:=qH O;have ba:=qH C;clear ak HC B M U an c4 ae O C;go_wp2_with fail
    refine aB.o.mono ?_;rintro e N⟨rfl,⟨af,bb,bc,ag,ah⟩,e1,e2,e3,e4,y⟩;simp only at e1 e2 e3 e4;subst e1 e2 e3 e4;obtain⟨z,rfl⟩:∃z,s1={s with stk:=z}:=by
     have:=aO.o;unfold l9 at this;split at this
     .cases this;exact⟨_,rfl⟩
     cases this
    have ae:∀(q:Rn)(v:Rv)(bx:Nat),∀p∈Xq,p∈LM G rb Y fu tv fv ev bv most v q (.b bx [.pointer (some ⟨G.bg d.f,d.b*5,none⟩),qJ d.fl]::Xq):=λq v bx p hp=>by simp[LM,hp]
    clear aB c1 c2 c3 a3 b3 aN aA;generalize i.heap.size=bx at*;obtain⟨m0,n0⟩:=y.c 7 0 rfl rfl;obtain⟨m1,n1⟩:=y.c 7 1 rfl rfl;obtain⟨tg,ao⟩:=qE ((nI E d).tg);obtain⟨lp,ap⟩:=qE ((nI E d).lp);obtain⟨k3,-⟩:=hF.blk y (ae _ _ _) ac am (o:=3) qo;replace k3:N.cell? ⟨G.bg d.f,d.b*5+3,none⟩=some (qJ tg):=k3.trans (by rw[ao,ad];rfl)
    have aP:qh (∀V l,Sx w0 V l->(∀p∈Xq,p∈l)->V.cell? ⟨G.bg d.f,d.b*5,none⟩=some (.bool lp)):=λV l R hl=>(hF.blk R hl ac am (o:=0) qo).1.trans (by rw[ap,ad];rfl);have ai:qh (tg=(nI E d).tg/\lp=(nI E d).lp):=⟨ao,ap⟩;have aQ:=y.vM 3 (k*3+1) rfl;obtain⟨aR,bd,aS⟩:gf<N.heap.size/\∃c,N.cell? ⟨gf,k*3+1,none⟩=some c:=by
     obtain⟨be,bf,I,-,hq,_,B⟩:=Row.cells (y.isRow 3 rfl) aa;cases I;exact⟨hq,_,(B (k*3+1) (by show _<s.eY.length*3;omega)).trans (flat_get (m:=3) (o:=1) (λ_=>rfl) J.o.1 qo)⟩
    have D:=y.EG 3 (k*3+1) (qJ tg) rfl;have H3:=qH D;clear y D ad ao ap;go_upto_region 7 with fail
    have D:=H3.o;generalize N.setCell ⟨gf,k*3+1,none⟩ (qJ tg)=w3 at*;clear H3 m0 n0 m1 n1 k3 aQ aS aR;obtain⟨x3,y3⟩:=D.c 0 3 rfl rfl;have aT:=D.lt 0 rfl;have bi:(at_:Int)<=(cl:Int):=qo;have H:=(D.cut 2 (n:=s.lab.length) (n':=at_) qo rfl).set 0 3 (qL g at_ cl) rfl;have L:=qH H;clear D H;go_upto_region 8 with fail
    have H:=L.o;generalize w3.setCell (qA rb 3) (qL g at_ cl)=w4 at*;clear L x3 y3 aT;have k0:=aP.o w4 _ H (λp hp=>by simp[hp]);obtain⟨m0,n0⟩:=H.c 7 0 rfl rfl;have L:=qH H;clear H;cases lp with
    | false=>
     go_wp2;go_end0;obtain⟨f1,f2⟩:=xJ (G:=G) (s:={s with stk:=z}) (q:=tg) J.o.2.2 J.o.2.1;refine⟨rfl,⟨af,qL g at_ cl,qL gf s.eY.length cf,ag,ah⟩,?_⟩;have T:=L.o.rm 7;rw[<-HS.o,<-ai.o.1,<-ai.o.2];have q1:(s.lab.take at_).length=at_:=by simp;omega
     simp only[LM,qz,qw,List.eraseIdx_cons_succ,List.eraseIdx_cons_zero,qbu,qct,qbt]at T ⊢;rw[q1,nQ (m:=2) (λ_=>rfl),f2,<-f1];exact T
    | true=>
     go_wp2_with fail
     have aq:∀(V:qW)(p2 p3:It),Sx w0 V (.b rb [qP Y,qJ fu,af,qL g at_ cl,qL gf s.eY.length cf]::.r 2 1 af z.length (eD z)::p2::p3::.b Y [tv,fv,ev,bv,ag,qJ most,ah]::.r 5 1 ag s.mem.length (jr s.mem)::.r 2 1 ah s.dW.length (eD s.dW)::.b bx [.pointer (some ⟨G.bg d.f,d.b*5,none⟩),qJ d.fl]::Xq)->
       V.cell? (qA rb 3)=some (qL g at_ cl)/\V.cell? (qA bx 0)=some (.pointer (some ⟨G.bg d.f,d.b*5,none⟩))/\V.cell? (qA bx 1)=some (qJ d.fl):=λV p2 p3 R=>⟨(R.c 0 3 rfl rfl).1,(R.c 7 0 rfl rfl).1,(R.c 7 1 rfl rfl).1⟩
     have aC:=aq _ _ _ L.o.drew;refine jU (λV:qW=>V.cell? (qA rb 3)=some (qL g at_ cl)/\V.cell? (qA bx 0)=some (.pointer (some ⟨G.bg d.f,d.b*5,none⟩))/\V.cell? (qA bx 1)=some (qJ d.fl)) 10 ?_;iterate 6 refine nE aC ?_ (hy:=qY)
     have W:=(L.o.alloc (.cells #[.pointer (some ⟨G.bg d.f,d.b*5,none⟩),qJ d.fl] 245)).drew;refine jO (λK A=>?_);go_simp;refine A _ _ (.inr (aq _ _ _ W)) ?_;clear A K;have aD:=W.row 2 rfl;have bj:(s.lab.flatMap (yD G)).take (at_*2)=(s.lab.take at_).flatMap (yD G):=(nQ (m:=2) (λ_=>rfl)).symm;refine jO (λK A=>?_);refine step_append_lies _ (by rfl) (.tmp 62) (.tmp 64) 168 (by rfl) w0.heap.size 245 i0 (.agg #[.pointer none,qJ 0]) 2 16 qk aJ aK aL aM rfl qx (qL g at_ cl) at_ ((s.lab.flatMap (yD G)).take (at_*2)) (by rfl) aD ⟨w4.heap.size,0,none⟩ 1 1 [.pointer (some ⟨G.bg d.f,d.b*5,none⟩),qJ d.fl] (by rfl) rfl (λj u hu=>?c1) ?c2 qo ?c3 ?c4 ?c5 (w4.heap.size+1) qs ?_
     case c1=>exact cells_at (w:=w4) (c:= #[.pointer (some ⟨G.bg d.f,d.b*5,none⟩),qJ d.fl]) (t:=245) rfl rfl j u hu
     case c2=>intro u hu;simp at hu;obtain rfl | rfl:=hu<;>rfl
     case c3=>unfold maxLen;omega
     case c4=>omega
     case c5=>exact W.kept.size
     intro gg cp w5 aE aF aG bk;have Z:=W.app 2 aE aF (by obtain c | c:=aG;exact .inl c;exact .inr qt) rfl;have ar:=aq _ _ _ Z;refine A _ _ (.inr ar) ?_;clear A K aC;simp only[Act.put,qy,qz,qw];iterate 2 refine nE ar ?_
     obtain⟨x3,y3⟩:=Z.c 0 3 rfl rfl;have mm:=Z.lt 0 rfl;have aH:=Z.set 0 3 (qL gg (at_+1) cp) rfl;have aU:=qH (aH.rm 7);clear W Z aH aD aE aF aG;refine iU (λK A=>?_);go_simp;refine A _ _ ?_;clear A K ar;go_wp2;go_end0;obtain⟨f1,f2⟩:=xJ (G:=G) (s:={s with stk:=z}) (q:=tg) J.o.2.2 J.o.2.1;refine⟨rfl,⟨af,qL gg (at_+1) cp,qL gf s.eY.length cf,ag,ah⟩,?_⟩;have T:=aU.o;rw[<-HS.o,<-ai.o.1,<-ai.o.2];have q1:(s.lab.take at_++[d]).length=at_+1:=by simp;omega
     simp only[LM,qz,qw,List.eraseIdx_cons_succ,List.eraseIdx_cons_zero,qda]at T ⊢;rw[q1,List.flatMap_append,nQ (m:=2) (λ_=>rfl),f2,<-f1,show[d].flatMap (yD G)=[.pointer (some ⟨G.bg d.f,d.b*5,none⟩),qJ d.fl] from rfl];exact T
end
end Go.Proofs.YtfkcodlceoghpaaGreatDoor
