import Derived.Test.YtdaafkmhfedkiaaGreatX29
namespace Go.Proofs.YtdaafkmhfedkiaaGreat
set_option maxHeartbeats 6400000
set_option maxRecDepth 100000
open Go.RowKit Go.Proofs.Tryz
def OL(fs:Bk):List (qS×qS):=fs.opn.map (fun b=>(b.fo,b.word))
section
variable {s:qS} {m:fE} {r:RM} {ls outs:qM} {c:FC} {Z:Bd} {fs:Bk} {j x n:Nat} {y:ic} {i:fA} {e:Err}
theorem yu{a b:Nat}:OL (fF a b fs)=OL fs:=by unfold OL;rw[vD]
theorem lY{ks:qS}:OL (dS ks fs).2=OL fs:=by unfold OL;rw[nM]
theorem KN:OL (jg fs).2=OL fs:=by unfold OL;rw[zZ]
theorem wC{g:qS}:OL (iF g fs)=OL fs:=rfl
theorem Ic:OL (sG fs)=OL fs:=by
 unfold OL sG;cases a:fs.opn with
 | nil=>rw[a]
 | cons b d=>rfl
theorem SY{w a b:qS}:OL (nZ w a b fs)=(b,w)::OL fs:=rfl
theorem KO:OL (iq fs)=(OL fs).tail:=by
 unfold OL iq;cases a:fs.opn with
 | nil=>rw[a];rfl
 | cons b d=>rfl
theorem xZ{q:Nat×Nat}{many:Nat}:OL (fu q many fs)=OL fs:=by
 unfold fu;split
 .exact yu
 rfl
theorem WO{many:Nat}:∀(l:List (Nat×Nat)) (fs:Bk),OL (l.foldl (fun s q=>fu q many s) fs)=OL fs
 | [],_=>rfl
 | q::l,fs=>by
  rw[List.foldl_cons,WO l,xZ]
theorem afg:OL (eY r c i fs)=OL fs:=by
 have U:OL (lS r c i fs)=OL fs:=by
  unfold lS;split
  .split
   .exact xZ
   rfl
  split
  .rw[xZ,WO]
  split
  .exact xZ
  split
  .exact xZ
  split
  .exact xZ
  split
  .rw[xZ];split
   .rfl
   exact yu
  rfl
 unfold eY;split
 .rw[yu,U]
 exact U
theorem ac5{a:qS×qS}:OL (yf i a fs)=OL fs:=by
 unfold yf;rw[wC,lY];unfold pG;split
 .exact yu
 rfl
theorem aa4:OL (kD r c i fs)=OL fs:=by
 unfold kD;split
 .unfold yt;rw[wC,lY]
 split
 .unfold yt;rw[wC,lY,lY]
 split
 .exact KN
 split
 .unfold uo aeu;rw[wC];split
  .rw[yu,KN,KN,lY]
  rw[KN,KN,lY]
 split
 .rfl
 split
 .exact lY
 split
 .rw[wC,lY]
 split
 .rfl
 split
 .unfold Dy;rw[lY];split
  .rfl
  exact yu
 exact ac5
theorem VA{last:qS}:∀(l:List (Nat×Nat)) (fs:Bk),OL (zU last l fs).1=OL fs
 | [],_=>rfl
 | q::l,fs=>by
  unfold zU;split
  .exact yu
  rw[VA l,wC,lY]
theorem Z4(L:i.op=5\/i.op=11->2<=fs.opn.length)(U:1<=fs.opn.length):(OL (oq r c i fs)).getLast?=(OL fs).getLast?:=by
 have p:OL {fs with now:=i.at_}=OL fs:=rfl;have f:OL (eY r c i {fs with now:=i.at_})=OL fs:=by rw[afg,p]
 have k:(OL (eY r c i {fs with now:=i.at_})).length=fs.opn.length:=by rw[f];simp[OL]
 unfold oq;split
 .rw[f]
 split
 .generalize eY r c i {fs with now:=i.at_}=f1 at*;have o:f1.opn.length=fs.opn.length:=by rw[<-k];simp[OL]
  have hpush:∀{q:qS×qS} {l:List (qS×qS)},l≠[]->(q::l).getLast?=l.getLast?:=by
   intro q l t;cases l with
   | nil=>exact absurd rfl t
   | cons a l=>simp[List.getLast?_cons]
  have hne:OL f1≠[]:=fun d=>by
   have:=congrArg List.length d;rw[k] at this;simp at this;rw[this] at U;simp at U
  unfold jw;split
  .rw[Ic,f]
  split
  .rw[f]
  split
  .unfold zC;have u:OL (ifF i f1)=OL f1:=by
    unfold ifF;split
    .exact lY
    rfl
   rw[SY,lY,u,hpush hne,f]
  split
  .rename_i h5;have v:=L (.inl h5);have htl:(OL f1).tail≠[]:=fun d=>by
    have:=congrArg List.length d;simp[k] at this;omega
   cases g:f1.opn with
   | nil=>rw[g] at o;simp at o;omega
   | cons b w=>rw[else_eq g,SY,KO,hpush htl,<-f];exact ad4
  split
  .rename_i h5;have v:=L (.inr h5);have htl:(OL f1).tail≠[]:=fun d=>by
    have:=congrArg List.length d;simp[k] at this;omega
   cases g:f1.opn with
   | nil=>rw[g] at o;simp at o;omega
   | cons b w=>
    have z:OL (LM f1)=(OL f1).tail:=by
     rw[UO g,wC];split
     .rw[yu,KO]
     exact KO
    rw[z,<-f];exact ad4
  split
  .rw[Ic,lY,f]
  split
  .unfold Og;rw[wC,lY,lY,f]
  split
  .unfold uJ EH;split
   .rw[Ic,lY,VA,lY,f]
   rw[VA,lY,f]
  rw[Ic,lY,f]
 rw[aa4,f]
def rR(fs:Bk):Prop:=fs.di.size<=200000/\fs.opn.length<=51/\fs.opn≠[]/\∀b∈fs.opn,b.l7.size<=8/\b.fo.size<=8
def adA(i:fA):Prop:=0<=i.xn/\i.dF.length<=20/\i.op<256/\(i.op∈iL\/rF i.op=true)
def YM(r:RM)(c:FC):List fA->Bk->Prop
 | [],fs=>fs.err=none->rR fs
 | i::is,fs=>fs.err=none->rR fs/\adA i/\(i.op=5->2<=fs.opn.length)/\YM r c is (oq r c i fs)
theorem ZC(h:fs.err≠none):∀l,YM r c l fs
 | []=>fun d=>absurd d h
 | _::_=>fun d=>absurd d h
theorem Bn(h:fs.err≠none):∀l,lX r c l fs=fs
 | []=>rfl
 | i::is=>by
  unfold lX;rw[if_pos h]
theorem Wp(h:zI Z fs)(g:Tidy Z)(l:Z.di.length<=200000)(hb:Z.dh≠[])(o:Z.dh.length<=51):rR fs:=by
 refine⟨by rw[h.size];exact l,by rw[vQ h];exact o,fun d=>?_,fun b p=>?_⟩
 .have:=vQ h;rw[d] at this;exact hb (List.eq_nil_of_length_eq_zero this.symm)
 obtain⟨k,X,q⟩:=List.getElem_of_mem p;obtain⟨U,L⟩ | ⟨a,f,U,L,h3⟩:=h.blk.get k
 .rw[List.getElem?_eq_getElem X] at L;cases L
 rw[List.getElem?_eq_getElem X,q] at L;cases L;have t:=g.short a (List.mem_of_getElem? U);rw[h3.l7.size,h3.fo.size];exact t
theorem aaF{N:Nat}(W:uN s m r)(Y:mK N m)(I:n<=N)(hN:N<=5000)(aa:KR ls c.kinds)(K:KR outs c.dH):∀(v:List fA) (fuel:Nat) (os:qM) (j:Nat) (Z:Bd) (fs:Bk) (b e:Nat) (w:qS),Str s n v os j b e->n - j<=fuel->j<=n->os.length<=50->zI Z fs->Tidy Z->Z.dh.length=os.length+1->(OL fs).getLast?=some (c.dH,w)->w≠YT->Z.di.length<=16*j->
  (match tu m ls s n fuel os j Z with
  | .ok _=>(oL b (lX r c v fs)).err=none
  | .error er=>(oL b (lX r c v fs)).err=some er)/\YM r c v fs:=by
 intro v;induction v with
 | nil=>
  intro fuel os j Z fs b e w C ab hj M h t k o hw X;obtain⟨U,L,rfl,rfl,-⟩:=C;obtain⟨g,rfl⟩:∃g,fuel=g+1:=⟨fuel - 1,qo⟩;have u:Z.dh≠[]:=fun d=>by rw[d] at k;simp at k
  refine⟨?_,fun _=>Wp h t qo u (by rw[k];simp)⟩;have hb:jc b (bt s b) s n (b+1)=.ok (ic.none,b+1):=by rw[L];rfl
  have hI:tu m ls s n (g+1) [] b Z=match fI m ls 11 ic.none {Z with at_:=b} with
   | .error e=>.error e
   | .ok _=>.ok ():=by
   unfold tu;rw[eB U];simp only;rw[if_pos ⟨L,trivial⟩];simp only;rw[hb];simp only;rw[L];rcases fI m ls 11 ic.none {Z with at_:=b} with e|q
   .rfl
   rfl
  rw[hI];have hC:fI m ls 11 ic.none {Z with at_:=b}=(match jX {Z with at_:=b} with
   | .error e=>.error e
   | .ok (left,st1)=>if left.word=4/\left.takes≠left.dH then .error (4,b) else .ok (gQ st1 left.dH)):=rfl
  rw[hC];have hE:oL b (lX r c [] fs)=iq {fs with now:=b}:=by
   show(if fs.err=none then iq {fs with now:=b} else fs)=_;rw[if_pos h.err]
  rw[hE];have D:zI {Z with at_:=b} {fs with now:=b}:=⟨h.stk,h.blk,h.err,rfl⟩;have A:=Fb D u t.dK;rcases hq:jX {Z with at_:=b} with e|⟨left,st1⟩
  .rw[hq] at A;exact A
  rw[hq] at A;obtain⟨rfl,ac⟩:=A;have ad:¬({Z with at_:=b}:Bd).dJ.word=4:=by
   obtain⟨f,E,O,hf,aA⟩:=D.head u;intro d;have ae:E=[]:=by
    have:=vQ D;rw[O] at this;simp only[List.length_cons] at this;have h3:({Z with at_:=b}:Bd).dh.length=1:=by simpa using k
    have h4:E.length+1=1:=this.trans h3;exact List.eq_nil_of_length_eq_zero qo
   have af:OL fs=[(f.fo,f.word)]:=by
    show fs.opn.map _=_;have:fs.opn=f::E:=O;rw[this,ae];rfl
   rw[af] at o;simp at o;exact hw (o.2▸hf.w4.1 d)
  simp only;rw[if_neg (fun d=>ad d.1)];exact ac.err
 | cons i is ih=>
  intro fuel os j Z fs b e w C ab hj M h t k o hw X;obtain⟨U,L,os',y,P,F,B,p,g4⟩:=C;obtain⟨g,rfl⟩:∃g,fuel=g+1:=⟨fuel - 1,qo⟩;have u:Z.dh≠[]:=fun d=>by rw[d] at k;simp at k
  have ag:=xg s j;have ah:=(sI j (bt s j)).ok qo qo B;obtain⟨b1,b2,b3,b4,b5,b6,b7⟩:=ah;have ai:wB N y:=⟨b3.le I,b4,fun x hx=>(b5 x hx).le I,b6,b7⟩;have Q:bt s j∈iL\/rF (bt s j)=true:=by
   by_cases hf:bt s j∈iL
   .exact .inl hf
   refine .inr (Decidable.of_not_not (fun hb=>?_));have aj:jc j (bt s j) s n (j+1)=.error (2,j):=by
    simp only[iL,List.mem_cons,List.not_mem_nil,or_false,not_or] at hf;unfold jc;simp[hf,hb]
   rw[aj] at B;cases B
  have R:KL os (some os') j (bt s j):=.inr ⟨L,os',F,rfl⟩;have aB:=BV R;have G:bt s j=5\/bt s j=11->1<=os.length:=by
   rintro(h5 | h11)
   .exact Iw R h5
   cases os with
   | nil=>exact absurd ⟨h11,rfl⟩ L
   | cons a l=>simp
  have ak:rU s m r ls outs c Z fs j (bt s j) y i:=by
   refine⟨W,aa,K,p,⟨h.stk,h.blk,h.err,p.at_.symm⟩,u,t,?_,fun h5=>by rw[k];have:=G (.inl h5);omega⟩;have am:Z.dh.length - 1<Z.dh.length:=qo;obtain⟨f,an,ao⟩:=Kz h am;have ap:(OL fs)[Z.dh.length - 1]?=some (f.fo,f.word):=by
    unfold OL;rw[List.getElem?_map,an];rfl
   have aq:(OL fs).length=Z.dh.length:=by simp[OL,vQ h]
   rw[List.getLast?_eq_getElem?,aq,ap] at o;simp at o;exact(KR.inj ao.fo K).2 o.1
  have z:=Zm Q ak;have S:adA i:=⟨p.nn,p.few,by rw[p.op];exact ag,by rw[p.op];exact Q⟩;have T:=Wp h t qo u qo;have ar:Tidy {Z with at_:=j}:=⟨t.rZ,t.short⟩;have au:=(zu (ls:=ls) Y ai (bt s j)) {Z with at_:=j} ar u (show j<=N by omega);have hI:tu m ls s n (g+1) os j Z=match fI m ls (bt s j) y {Z with at_:=j} with
   | .error e=>.error e
   | .ok J=>tu m ls s n g os' P J:=by
   conv=>lhs;unfold tu
   rw[eB U];simp only;rw[if_neg L,F];simp only;rw[B];simp only;rcases fI m ls (bt s j) y {Z with at_:=j} with e|q
   .rfl
   simp only;rw[if_neg L]
  rw[hI];have av:lX r c (i::is) fs=lX r c is (oq r c i fs):=by
   conv=>lhs;unfold lX
   rw[if_neg (fun d=>d h.err)]
  rw[av];have V:i.op=5->2<=fs.opn.length:=fun h5=>by
   rw[vQ h,k];have:=G (.inl (by rw[<-p.op];exact h5));omega
  rcases hq:fI m ls (bt s j) y {Z with at_:=j} with er|J
  .rw[hq] at z;have H:(oq r c i fs).err≠none:=by
    intro d;have:(oq r c i fs).err=some er:=z;rw[d] at this;cases this
   refine⟨?_,fun _=>⟨T,S,V,ZC H is⟩⟩;rw[Bn H];show(oL b _).err=some er;unfold oL;rw[if_neg H];exact z
  rw[hq] at z;obtain⟨t1,t2,t3,t4⟩:=au.2 J hq;have aw:(OL (oq r c i fs)).getLast?=some (c.dH,w):=by
   rw[Z4 (fun h5=>?_) (by rw[vQ h];omega)]
   .exact o
   rw[vQ h,k];have:=G (by rw[<-p.op];exact h5);omega
  have ax:os'.length<=50:=Np F M;have ay:({Z with at_:=j}:Bd).di.length=Z.di.length:=rfl;have az:({Z with at_:=j}:Bd).dh.length=Z.dh.length:=rfl;rw[ay] at t3;rw[az] at t4;have:=ih g os' P J (oq r c i fs) b e w g4 qo b2 ax z t1 qo aw hw qo;exact⟨this.1,fun _=>⟨T,S,V,this.2⟩⟩
end
def yG(q:Except Err Unit)(p:Nat×Nat):Prop:=(q=.ok ()/\p=(0,0))\/∃e,q=.error e/\p=e/\e.1≠0
structure Ot(r:RM)(c:FC)(l:List fA)(fs:Bk):Prop where
 o:YM r c l fs
def wm(c:FC):Bk:=nZ Sj ⟨#[]⟩ c.dH ⟨⟨#[]⟩,[],none,0⟩
section
variable {α β:Type} {s:qS} {m:fE} {r:RM} {N:Nat}
theorem yG.of{q:Except Err Unit}{p:Nat×Nat}(h:yG q p):answer q=p:=by
 rcases h with⟨rfl,rfl⟩ | ⟨e,rfl,rfl,-⟩<;>rfl
theorem yG.seq{a b:Except Err Unit}{p q z:Nat×Nat}(h:yG a p)(f:z=if p.1≠0 then p else q)(L:p=(0,0)->yG b q):yG (nI a b) z:=by
 subst f;rcases h with⟨rfl,rfl⟩ | ⟨e,rfl,rfl,c⟩
 .rw[if_neg (fun d=>d rfl)];exact L rfl
 rw[if_pos c];exact .inr ⟨_,rfl,rfl,c⟩
def aas{β:Type}(g:β->Err)(o:Option β):Nat×Nat:=match o with
 | some y=>g y
 | none=>(0,0)
theorem Fw{R:α->β->Prop}{f:α->Except Err Unit}{p:β->Bool}{g:β->Err}(d:∀y,(g y).1≠0)(h:∀x y,R x y->(p y=true->f x=.error (g y))/\(p y=false->f x=.ok ())):∀(xs:List α) (ys:List β),nD R xs ys->yG (dV f xs) (aas g (ys.find? p)):=by
 intro xs;induction xs with
 | nil=>exact adU
 | cons x xs e=>
  intro ys ha;cases ys with
  | nil=>have:=ha.1;simp at this
  | cons y ys=>
   have c:=h x y (ha.2 0 x y rfl rfl);have i:nD R xs ys:=⟨by have:=ha.1;simpa using this,fun k a b U L=>ha.2 (k+1) a b U L⟩;unfold dV;rw[List.find?_cons];cases hp:p y with
   | true=>rw[c.1 hp];exact .inr ⟨_,rfl,rfl,d y⟩
   | false=>rw[c.2 hp];exact e ys i
theorem OI{x:Int×Nat}{y:Nat×Nat}(h:EY x y)(many:Nat):(decide (many<=y.1)=true->iT many x=.error (3,y.2))/\(decide (many<=y.1)=false->iT many x=.ok ()):=by
 unfold iT;rw[h.1,h.2];refine⟨fun d=>?_,fun d=>?_⟩
 .simp at d;rw[if_neg qo]
 simp at d;rw[if_pos qo]
theorem VZ{most:Nat}{xs:List Hf}{o:Option zA}(h:Uc XN xs o):yG (dV (nG (most:Int)) xs) (if jM most o=true then(5,Nv o) else(0,0)):=by
 rcases h with⟨rfl,rfl⟩ | ⟨x,y,rfl,rfl,U,L,h3,h4⟩
 .exact .inl ⟨rfl,rfl⟩
 unfold dV nG;rw[U,L,h3,h4];have a:jM most (some y)=true↔((most:Int)<(y.min:Int)\/(y.has=true/\((y.max:Int)<(y.min:Int)\/(most:Int)<(y.max:Int)))):=by
  have b:jM most (some y)=(decide (most<y.min)||(y.has&&(decide (most<y.max)||decide (y.max<y.min)))):=rfl;rw[b];cases y.has with
  | false=>simp only[Bool.false_and,Bool.or_false,decide_eq_true_eq,Bool.false_eq_true,false_and,or_false];omega
  | true=>simp only[Bool.true_and,Bool.or_eq_true,decide_eq_true_eq,true_and];omega
 by_cases hc:(most:Int)<(y.min:Int)\/(y.has=true/\((y.max:Int)<(y.min:Int)\/(most:Int)<(y.max:Int)))
 .rw[if_pos hc,if_pos (a.2 hc)];exact .inr ⟨_,rfl,rfl,qs⟩
 rw[if_neg hc,if_neg (fun d=>hc (a.1 d))];exact .inl ⟨rfl,rfl⟩
theorem aeE{a b:Nat}(c:a=127\/a=126)(hb:b=127\/b=126):kl a=kl b↔a=b:=by
 rcases c with rfl | rfl<;>rcases hb with rfl | rfl<;>simp[kl]
theorem aaq{xs:List MF}{ys:List sJ}(h:nD aar xs ys):yG (dV (fun g=>kE g.kind g.first) xs) (aas (fun g=>(4,g.init.at_)) (ys.find? (fun g=>decide (g.init.kind≠g.kind)))):=by
 refine Fw (R:=aar) (g:=fun g=>(4,g.init.at_)) (fun _=>qs) (fun x y b=>?_) xs ys h;obtain⟨U,-,h3,h4⟩:=b;unfold kE;have a:x.first.kind=x.kind↔y.init.kind=y.kind:=by rw[h4.2,U.2,aeE h4.1 U.1]
 refine⟨fun d=>?_,fun d=>?_⟩
 .simp at d;rw[if_neg (fun e=>d (a.1 e)),h3]
 simp at d;rw[if_pos (a.2 d)]
theorem ab2(h:uN s m r){k:Nat}(X:k<=3):uV m k=[r.tys.length,r.table.isSome.toNat,r.memory.isSome.toNat,r.dB.length].getD k 0:=by
 have a:m.tables.length=r.table.isSome.toNat:=by rcases h.tables with⟨U,L⟩ | ⟨x,y,U,L,-⟩<;>rw[U,L]<;>rfl
 have b:m.jT.length=r.memory.isSome.toNat:=by rcases h.jT with⟨U,L⟩ | ⟨x,y,U,L,-⟩<;>rw[U,L]<;>rfl
 rcases(show k=0\/k=1\/k=2\/k=3 by omega) with rfl | rfl | rfl | rfl
 .exact h.funcs.1
 .exact a
 .exact b
 exact h.dB.1
theorem data_inj(a b:qS):a.data.toList=b.data.toList↔a=b:=by
 constructor
 .intro h;cases a;cases b;simp only at h;congr 1
  exact Array.toList_inj.1 h
 rintro rfl;rfl
theorem W9{k:Nat}(h:uN s m r)(t:qS):(m.dw.take k).any (fun d=>decide (d.name.data.toList=t.data.toList))=(r.dw.take k).any (fun q=>decide (q.name=t)):=by
 have e:=h.dw;have:∀(k:Nat) (xs:List Ql) (ys:List qc),nD aau xs ys->(xs.take k).any (fun d=>decide (d.name.data.toList=t.data.toList))=(ys.take k).any (fun q=>decide (q.name=t)):=by
  intro k;induction k with
  | zero=>intro xs ys _;rfl
  | succ k f=>
   intro xs ys c;cases xs with
   | nil=>have:ys=[]:=List.eq_nil_of_length_eq_zero (by rw[<-c.1];rfl);subst this;rfl
   | cons x xs=>
    cases ys with
    | nil=>have:=c.1;simp at this
    | cons y ys=>
     have g:aau x y:=c.2 0 x y rfl rfl;have i:nD aau xs ys:=⟨by have:=c.1;simpa using this,fun k a b U L=>c.2 (k+1) a b U L⟩;rw[List.take_succ_cons,List.take_succ_cons,List.any_cons,List.any_cons,f xs ys i,g.2.1];congr 1
     simp only[data_inj]
 exact this k _ _ e
theorem aeT(h:uN s m r)(f:mK N m):∀(n k:Nat),k+n=m.dw.length->yG (dV (gJ m) (List.range' k n)) (yF [r.tys.length,r.table.isSome.toNat,r.memory.isSome.toNat,r.dB.length] (r.dw.take k) (r.dw.drop k)):=by
 intro n;induction n with
 | zero=>intro k X;have g:=h.dw.1;rw[List.drop_eq_nil_of_le qo];exact .inl ⟨rfl,rfl⟩
 | succ n i=>
  intro k X;have g:=h.dw.1;have j:k<m.dw.length:=qo;obtain⟨a,-⟩ | ⟨x,y,a,d,b⟩:=h.dw.get k
  .rw[List.getElem?_eq_getElem j] at a;cases a
  have hx:=f.dw.2 x (List.mem_of_getElem? a);have l:r.dw.drop k=y::r.dw.drop (k+1):=drop_cons d;have o:r.dw.take k++[y]=r.dw.take (k+1):=by
   rw[List.take_add_one,d];rfl
  rw[List.range'_succ,l];unfold dV gJ yF;rw[a];simp only;rw[W9 h,b.2.1];by_cases c:(r.dw.take k).any (fun q=>decide (q.name=y.name))=true
  .rw[if_pos c,if_pos c,b.1];exact .inr ⟨_,rfl,rfl,qs⟩
  rw[if_neg c,if_neg c,ab2 h hx.2.2,b.2.2.1];have e:=OI b.2.2.2 ([r.tys.length,r.table.isSome.toNat,r.memory.isSome.toNat,r.dB.length].getD y.what 0);by_cases hc:[r.tys.length,r.table.isSome.toNat,r.memory.isSome.toNat,r.dB.length].getD y.what 0<=y.x.1
  .rw[if_pos hc,e.1 (by simpa using hc)];exact .inr ⟨_,rfl,rfl,qs⟩
  rw[if_neg hc,e.2 (by simpa using hc),o];exact i (k+1) qo
theorem acI(h:uN s m r)(a:mK N m):yG (dV (gJ m) (List.range m.dw.length)) (jP r.tys.length r.dB.length r.table.isSome r.memory.isSome r.dw):=by
 have:=aeT h a m.dw.length 0 qo;rw[List.range_eq_range'];exact this
theorem Xe(h:uN s m r){e:Nat×Nat}:e=(0,0)->yG (dV (jk m) m.starts) (wG r e):=by
 rintro rfl;unfold wG;rcases h.starts with⟨U,L⟩ | ⟨x,y,U,L,h3⟩
 .rw[U,L];exact .inl ⟨rfl,rfl⟩
 rw[U,L];simp only;rw[if_neg (fun d=>d rfl)];unfold dV jk fT;rw[h3.1,h3.2,h.funcs.1];by_cases hc:r.tys.length<=y.1
 .rw[if_pos hc,if_neg qo];exact .inr ⟨_,rfl,rfl,qs⟩
 rw[if_neg hc,if_pos qo];simp only;have a:=BR h (f:=y.1) (by rw[h.funcs.1];omega);have c:((y.1:Int)).toNat=y.1:=rfl;rw[c,<-a.1.size,<-a.2.size];by_cases b:(gy r.dm (r.tys.getD y.1 (0,0)).1).1.size=0/\(gy r.dm (r.tys.getD y.1 (0,0)).1).2.size=0
 .rw[if_pos b,if_neg qo];exact .inl ⟨rfl,rfl⟩
 rw[if_neg b,if_pos qo];exact .inr ⟨_,rfl,rfl,qs⟩
theorem aam(h:uN s m r)(v:mK N m){b:Except Err Unit}{z q:Nat×Nat}(w:z=if(mq r).1≠0 then mq r else q)(hb:mq r=(0,0)->yG b q):yG (nI (dV (iT m.dm.length) m.funcs) <|
 nI (dV (nG 20) m.tables) <|
 nI (dV (nG 16) m.jT) <|
 nI (dV (fun g=>kE g.kind g.first) m.dB) <|
 nI (dV (gJ m) (List.range m.dw.length)) <|
 nI (dV (jk m) m.starts) b) z:=by
 subst w;have U:yG (dV (iT m.dm.length) m.funcs) (aas (fun t=>(3,t.2)) (r.tys.find? (fun t=>decide (r.dm.length<=t.1)))):=by
  rw[h.dm.1];exact Fw (R:=EY) (g:=fun t=>(3,t.2)) (fun _=>qs) (fun x y A=>OI A _) _ _ h.funcs
 have c:mq r=match r.tys.find? (fun t=>decide (r.dm.length<=t.1)) with
  | some t=>(3,t.2)
  | none=>Rh r:=rfl
 cases hf:r.tys.find? (fun t=>decide (r.dm.length<=t.1)) with
 | some t=>rw[hf] at U c;rw[c];have j:yG _ (3,t.2):=U;refine yG.seq j (q:=(0,0)) ?_ (fun d=>by simp at d);simp
 | none=>
  rw[hf] at U c;have j:yG _ (0,0):=U;refine yG.seq j (q:=if(mq r).1≠0 then mq r else q) qs (fun _=>?_);have a:mq r=Rh r:=c;rw[a];have L:=VZ (most:=20) h.tables;have h3:=VZ (most:=16) h.jT;unfold Rh at a ⊢;by_cases o:jM 20 r.table=true
  .rw[if_pos o] at L ⊢;refine yG.seq L (q:=(0,0)) ?_ (fun d=>by simp at d);simp
  rw[if_neg o] at L a ⊢;refine yG.seq L (if_neg (fun d=>d rfl)).symm (fun _=>?_);by_cases p:jM 16 r.memory=true
  .rw[if_pos p] at h3 ⊢;refine yG.seq h3 (q:=(0,0)) ?_ (fun d=>by simp at d);simp
  rw[if_neg p] at h3 a ⊢;refine yG.seq h3 (if_neg (fun d=>d rfl)).symm (fun _=>?_);have h4:=aaq h.dB;have f:NL r=match r.dB.find? (fun g=>decide (g.init.kind≠g.kind)) with
   | some g=>(4,g.init.at_)
   | none=>wG r (jP r.tys.length r.dB.length r.table.isSome r.memory.isSome r.dw):=rfl
  cases u:r.dB.find? (fun g=>decide (g.init.kind≠g.kind)) with
  | some g=>rw[u] at h4 f;rw[f];have k:yG _ (4,g.init.at_):=h4;refine yG.seq k (q:=(0,0)) ?_ (fun d=>by simp at d);simp
  | none=>
   rw[u] at h4 f;have B:NL r=wG r (jP r.tys.length r.dB.length r.table.isSome r.memory.isSome r.dw):=f;rw[B] at a ⊢;have k:yG _ (0,0):=h4;refine yG.seq k (if_neg (fun d=>d rfl)).symm (fun _=>?_);have h5:=acI h v;generalize jP r.tys.length r.dB.length r.table.isSome r.memory.isSome r.dw=i at*;by_cases l:i=(0,0)
   .subst l;refine yG.seq h5 (if_neg (fun d=>d rfl)).symm (fun _=>?_);exact yG.seq (Xe h rfl) rfl (fun d=>hb (by rw[a,d]))
   have n:i.1≠0:=by
    rcases h5 with⟨-,d⟩ | ⟨e,-,rfl,d⟩
    .exact absurd d l
    exact d
   have C:wG r i=i:=by
    unfold wG;split
    .rfl
    rw[if_pos n]
   rw[C];refine yG.seq h5 (q:=(0,0)) ?_ (fun d=>absurd d l);rw[if_pos n];simp[n]
theorem Yi{f:α->Except Err Unit}{x:α}{xs:List α}:dV f (x::xs)=nI (f x) (dV f xs):=rfl
def FU(nf:Nat)(there:Bool)(y:lJ):Nat×Nat:=if there=false then(3,y.at_) else if y.place.kind≠105 then(4,y.place.at_) else match y.funcs.find? (fun q=>decide (nf<=q.1)) with
 | some q=>(3,q.2)
 | none=>(0,0)
theorem TZ{nf:Nat}{a:Bool}{y:lJ}{ys:List lJ}:iU nf a (y::ys)=if(FU nf a y).1≠0 then FU nf a y else iU nf a ys:=by
 conv=>lhs;unfold iU
 unfold FU;by_cases U:a=false
 .rw[if_pos U,if_pos U,if_pos qs]
 rw[if_neg U,if_neg U];by_cases L:y.place.kind≠105
 .rw[if_pos L,if_pos L,if_pos qs]
 rw[if_neg L,if_neg L];cases y.funcs.find? (fun q=>decide (nf<=q.1)) with
 | some q=>simp
 | none=>simp
theorem M9{c:Cst}{d:MC}(h:aaC c d):c.kind=127↔d.kind=105:=by
 rw[h.2.2];rcases h.2.1 with hq | hq<;>rw[hq]<;>simp[kl]
theorem aaw(h:uN s m r){x:Qi}{y:lJ}(c:acL x y):yG (lC m x) (FU r.tys.length r.table.isSome y):=by
 have i:=Hq h.tables;have X:=M9 c.2.1;unfold lC FU kE;by_cases e:m.tables.length=0
 .rw[if_pos e,if_pos (by simpa using i.1 e),c.1];exact .inr ⟨_,rfl,rfl,qs⟩
 have j:¬r.table.isSome=false:=fun d=>e (i.2 (by rw[d];decide));rw[if_neg e,if_neg j];by_cases hp:x.place.kind=127
 .rw[if_pos hp,if_neg (fun d=>d (X.1 hp))];have hf:=Fw (R:=EY) (f:=iT m.funcs.length) (p:=fun q=>decide (r.tys.length<=q.1)) (g:=fun q=>(3,q.2)) (fun _=>qs) (fun a b k=>by rw[h.funcs.1];exact OI k _) _ _ c.2.2;cases hq:y.funcs.find? (fun q=>decide (r.tys.length<=q.1)) with
  | some q=>rw[hq] at hf;exact hf
  | none=>rw[hq] at hf;exact hf
 rw[if_neg hp,if_pos (fun d=>hp (X.2 d)),c.2.1.1];exact .inr ⟨_,rfl,rfl,qs⟩
theorem aaz(h:uN s m r){x:Dat}{y:lJ}(a:acO x y):yG (mI m x) (FU r.tys.length r.memory.isSome y):=by
 have c:=Hq h.jT;have X:=M9 a.2.1;unfold mI FU kE;by_cases b:m.jT.length=0
 .rw[if_pos b,if_pos (by simpa using c.1 b),a.1];exact .inr ⟨_,rfl,rfl,qs⟩
 have e:¬r.memory.isSome=false:=fun d=>b (c.2 (by rw[d];decide));rw[if_neg b,if_neg e];by_cases hp:x.place.kind=127
 .rw[if_pos hp,if_neg (fun d=>d (X.1 hp)),a.2.2.2];exact .inl ⟨rfl,rfl⟩
 rw[if_neg hp,if_pos (fun d=>hp (X.2 d)),a.2.1.1];exact .inr ⟨_,rfl,rfl,qs⟩
theorem Nb{R:α->lJ->Prop}{f:α->Except Err Unit}{nf:Nat}{c:Bool}(U:∀x y,R x y->yG (f x) (FU nf c y)):∀(xs:List α) (ys:List lJ),nD R xs ys->yG (dV f xs) (iU nf c ys):=by
 intro xs;induction xs with
 | nil=>exact adU
 | cons x xs d=>
  intro ys ha;cases ys with
  | nil=>have:=ha.1;simp at this
  | cons y ys=>have e:nD R xs ys:=⟨by have:=ha.1;simpa using this,fun k a b U L=>ha.2 (k+1) a b U L⟩;rw[Yi];exact yG.seq (U x y (ha.2 0 x y rfl rfl)) TZ (fun _=>d ys e)
theorem aax(h:uN s m r)(xs:List Qi)(ys:List lJ)(a:nD acL xs ys):yG (dV (lC m) xs) (iU r.tys.length r.table.isSome ys):=Nb (fun _ _ b=>aaw h b) xs ys a
theorem aaA(h:uN s m r)(xs:List Dat)(ys:List lJ)(a:nD acO xs ys):yG (dV (mI m) xs) (iU r.tys.length r.memory.isSome ys):=Nb (fun _ _ b=>aaz h b) xs ys a
theorem XR{a b:qM}{x y:qS}(h:KR a x)(L:KR b y):KR (a++b) (x++y):=by
 refine⟨fun k X=>?_,by rw[AO,h.2,L.2,List.map_append]⟩;rcases List.mem_append.1 X with X | X
 .exact h.1 k X
 exact L.1 k X
theorem Si(h:uN s m r)(hm:mK N m)(v:N<=5000)(w:m.dQ.length=m.funcs.length)(Y:Nat){f:Nat}(hf:f<m.dQ.length):yG (jv s m f) (codeF r Y f)/\YM r (yE r Y f) (r.ds.getD f ⟨⟨#[]⟩,[],0⟩).code (wm (yE r Y f)):=by
 obtain⟨g,-⟩ | ⟨x,d,g,y,z⟩:=h.dQ.get f
 .rw[List.getElem?_eq_getElem hf] at g;cases g
 obtain⟨A,e,B⟩:=z;have hc:=hm.dQ.2 x (List.mem_of_getElem? g);have l:=BR h (f:=f) (by rw[<-w];exact hf);have C:m.dQ.getD f ([],0,0)=x:=by rw[List.getD_eq_getElem?_getD,g];rfl
 have i:r.ds.getD f ⟨⟨#[]⟩,[],0⟩=d:=by rw[List.getD_eq_getElem?_getD,y];rfl
 have D:KR ((fM m f).ins++x.1) (yE r Y f).kinds:=by
  unfold yE;rw[i];exact XR l.1 A
 have n:KR (fM m f).outs (yE r Y f).dH:=l.2;have E:zI ⟨[],[⟨2,[],(fM m f).outs,0,false⟩],0⟩ (wm (yE r Y f)):=by
  refine⟨?_,⟨rfl,fun k a b j hb=>?_⟩,rfl,rfl⟩
  .exact SR.nil.app SR.nil
  cases k with
  | zero=>simp[wm,nZ] at j hb;subst j;subst hb;exact⟨by show(2:Nat)=3↔Sj=BI;decide+kernel,by show(2:Nat)=4↔Sj=YT;decide+kernel,KR.nil,n,rfl,rfl⟩
  | succ k=>simp at j
 have F:Tidy ⟨[],[⟨2,[],(fM m f).outs,0,false⟩],0⟩:=by
  exact adV
 have o:=aaF (c:=yE r Y f) h hm hc.2.2 v D n d.code (x.2.2 - x.2.1) [] x.2.1 _ _ d.end_ e Sj B qR hc.2.1 qs E F qs rfl (by decide+kernel) qs;rw[i];refine⟨?_,o.2⟩;have U:=o.1;have t:jv s m f=tu m ((fM m f).ins++x.1) s x.2.2 (x.2.2 - x.2.1) [] x.2.1 ⟨[],[⟨2,[],(fM m f).outs,0,false⟩],0⟩:=by
  unfold jv;rw[C]
 have G:Ki r Y f=oL d.end_ (lX r (yE r Y f) d.code (wm (yE r Y f))):=by
  unfold Ki;rw[i];rfl
 unfold codeF;rw[G];cases hq:jv s m f with
 | ok u=>rw[<-t,hq] at U;simp only at U;rw[U];exact .inl ⟨rfl,rfl⟩
 | error er=>rw[<-t,hq] at U;simp only at U;rw[U];obtain⟨q,p⟩:=er;have:=Gm hm hf hq;exact .inr ⟨_,rfl,rfl,by have:=this.1;show q≠0;omega⟩
theorem Qb(h:uN s m r)(a:mK N m)(b:N<=5000)(c:m.dQ.length=m.funcs.length)(Y:Nat):∀(n k:Nat),k+n=m.dQ.length->yG (dV (jv s m) (List.range' k n)) (r9 r Y n k (0,0)):=by
 intro n;induction n with
 | zero=>exact fun k _=>.inl ⟨rfl,rfl⟩
 | succ n g=>
  intro k X;rw[List.range'_succ];unfold dV r9;rw[if_neg (fun d=>d rfl)];rcases(Si h a b c Y (f:=k) qo).1 with⟨U,L⟩ | ⟨e,U,L,h3⟩
  .rw[U,L];exact g (k+1) qo
  rw[U,L];refine .inr ⟨e,rfl,?_,h3⟩;cases n with
  | zero=>rfl
  | succ n=>unfold r9;rw[if_pos h3]
theorem N9{Y:Nat}{e:Nat×Nat}(a:e.1≠0):∀n k,r9 r Y n k e=e
 | 0,_=>rfl
 | n+1,k=>by
  unfold r9;rw[if_pos a]
theorem acF(h:uN s m r)(f:mK N m)(j:N<=5000)(g:m.dQ.length=m.funcs.length)(Y:Nat):yG (Px s m) (xU r Y):=by
 unfold Px xU;refine aam h f rfl (fun _=>?_);have a:=aax h m.elems r.elems h.elems;generalize iU r.tys.length r.table.isSome r.elems=i at*;by_cases b:i=(0,0)
 .subst b;refine yG.seq a (if_neg (fun d=>d rfl)).symm (fun _=>?_);have hc:=Qb h f j g Y m.dQ.length 0 qo;rw[List.range_eq_range'];have k:m.dQ.length=r.tys.length:=by rw[g,h.funcs.1]
  rw[k] at hc ⊢;exact yG.seq hc rfl (fun _=>aaA h m.data r.data h.data)
 have c:i.1≠0:=by
  rcases a with⟨-,d⟩ | ⟨e,-,rfl,d⟩
  .exact absurd d b
  exact d
 rw[N9 c,if_pos c];refine yG.seq a (q:=(0,0)) ?_ (fun d=>absurd d b);rw[if_pos c]
theorem aeY(s:qS)(Y:Nat):jo s=DJ s Y:=by
 unfold jo DJ;by_cases b:5000<s.size
 .rw[if_pos b,if_pos b]
 rw[if_neg b,if_neg b];unfold oo;have a:=Jc s;rcases c:nO s with e|⟨m,j⟩
 .rw[c] at a;rw[a.2];simp only[answer];rw[<-a.1]
 rw[c] at a;obtain⟨U,L,h3⟩:=a;rw[U];have:=acF L (DI c).1 qo h3 Y;simp only;rw[this.of];rcases this with⟨-,d⟩ | ⟨e,-,d,f⟩
 .rw[d];rfl
 rw[d,if_pos f]
theorem EP{j:Nat}(b:nO s=.ok (m,j)):(dR s).2.bad=none/\uN s m (dR s).1/\m.dQ.length=m.funcs.length:=by
 have a:=Jc s;rw[b] at a;exact a
theorem QB{e:Err}(b:nO s=.error e):(dR s).2.bad=some e.2:=by
 have a:=Jc s;rw[b] at a;exact a.2
theorem abR(a:uN s m r)(c:mK N m)(d:N<=5000)(b:m.dQ.length=m.funcs.length)(Y f:Nat)(hf:f<r.tys.length):Ot r (yE r Y f) (r.ds.getD f ⟨⟨#[]⟩,[],0⟩).code (wm (yE r Y f)):=
 ⟨(Si a c d b Y (by rw[b,a.funcs.1];exact hf)).2⟩
theorem ZE(s:qS)(a:s.size<=5000)(hb:(dR s).2.bad=none)(Y f:Nat)(hf:f<(dR s).1.tys.length):Ot (dR s).1 (yE (dR s).1 Y f) ((dR s).1.ds.getD f ⟨⟨#[]⟩,[],0⟩).code (wm (yE (dR s).1 Y f)):=
 match hm:nO s with
 | .error _=>absurd (hb.symm.trans (QB hm)) qs
 | .ok (_,_)=>abR (EP hm).2.1 (DI hm).1 a (EP hm).2.2 Y f hf
end
section
variable {S ok Gy:qD} {w w':qW} {x A:Nat} {c:FC} {p:qO} {Z:Bk} {lv:qv} {i:fA} {W:qS} {xx fb:Nat} {ms cs:qV} {pm:qO} {qb nx:Nat} {m:RM} {S9:qD}
theorem Ig{P:Program}{d:Region.Mode}{b:Array Oper}{Q:Exit->Act->qW->Prop}{S:qW->Prop}{x i j fuel:Nat}{e:Array Bool}{a:Act}{w:qW}(g:Region.ready d b e=[i,j])
  (k:wpOp P b Q i (fun f w'=>(i=x\/S w')/\kM P d b Q S x fuel (e.setIfInBounds i true) f w') a w) (l:wpOp P b Q j (fun f w'=>(j=x\/S w')/\kM P d b Q S x fuel (e.setIfInBounds j true) f w') a w):kM P d b Q S x (fuel+1) e a w:=
 ⟨fun h=>(by rw[g] at h;cases h),fun q hq=>by
  rw[g] at hq;simp only[List.mem_cons,List.not_mem_nil,or_false] at hq;rcases hq with rfl | rfl
  .exact k
  exact l⟩
def uP(S9:Nat->Prop)(w:World)(x:Nat)(c:FC)(Z:Bk):Prop:=∃p A,dZ w x c p A Z/\∀g,(Value.slice p Z.opn.length A).ownBlock=some g->S9 g
theorem mZ{n a A b:Nat}:(Value.slice p n A).ownBlock=(Value.slice p a b).ownBlock:=by cases p<;>rfl
theorem uP.of{J:Bk}(h:dZ w' x c p A J)(a:∀g,(Value.slice p Z.opn.length A).ownBlock=some g->S9 g):uP S9 w' x c J:=⟨p,A,h,fun g b=>a g (mZ.trans b)⟩
theorem o7{S':qD}(h:Kept S' w w')(a:∀k,S' k->S9 k):Kept S9 w w':=h.mono (fun k _ d=>a k d)
theorem uT(a:S9 x):∀k,only x k->S9 k:=fun k (e:k=x)=>e▸a
theorem ownB(a:S9 x)(b:∀g,(Value.slice p Z.opn.length A).ownBlock=some g->S9 g):∀k,(k=x\/(Value.slice p Z.opn.length A).ownBlock=some k)->S9 k:=fun k d=>d.elim (fun e=>e▸a) (b k)
theorem Dp(ks:qS):∀(i:Nat) (a:qS) (Z:Bk),(jE ks i a Z).1.size=a.size+i
 | 0,_,_=>rfl
 | i+1,a,Z=>by
  unfold jE;rw[Dp ks i,ByteArray.size_append,strOfNums_size];simp;omega
theorem TH(ks:qS):(dS ks Z).1.size=ks.size:=by
 unfold dS;rw[Dp];show 0+ks.size=ks.size;omega
theorem yU(a:rR Z)(ks:qS):rR (dS ks Z).2:=by
 unfold rR at a ⊢;rw[nM];exact⟨Nat.le_trans (l8 ks) a.1,a.2⟩
theorem zl(a:rR Z)(n:Nat):(ji n Z).size<=8:=by
 unfold ji;cases h:Z.opn[n]? with
 | none=>exact qZ
 | some b=>
  have hb:=a.2.2.2 b (List.mem_of_getElem? h);simp only;split
  .exact hb.1
  exact hb.2
theorem Nw{b:kX}{a:List kX}(d:Z.opn=b::a):(iq Z).di.size<=Z.di.size/\(iq Z).opn=a:=by
 unfold iq;rw[d];simp only;refine⟨?_,trivial⟩;split
 .exact l8 _
 show((dS b.fo Z).2.di.extract 0 b.high).size<=_;rw[ByteArray.size_extract];have:=l8 (Z:=Z) b.fo;omega
end
section
variable {S ok Gy:qD} {w w':qW} {x A:Nat} {c:FC} {p:qO} {Z:Bk} {lv:qv} {i:fA} {W:qS} {xx fb:Nat} {ms cs:qV} {pm:qO} {qb nx:Nat} {m:RM} {S9:qD}
theorem PG(h:dZ w x c p A Z)(b:∀g,(Value.slice p Z.opn.length A).ownBlock=some g->S9 g)(l:S9 x)(d:rR Z)(q:∃p n c,lv=.slice p n c)(F0:(W.toList==[117,110,114,101,97,99,104,97,98,108,101])=true):
  qC 109 #[qP x,.agg (i.cells lv).toArray,.string W] w fun e w'=>e=.returned (.bool true)/\uP S9 w' x c (sG Z)/\Kept S9 w w':=by
 obtain⟨pl,nl,cl,rfl⟩:=q;have hx:=h.lt;have f:=hide h;have j:=hide b;have r:=hide d;unfold fA.cells;clear h b d;go_enter func109,ntmps109;have k:OB (w.alloc (.cells (iC i i.xn (.slice pl nl cl)).toArray 79)) x w.heap.size (iC i i.xn (.slice pl nl cl)):=OB.new (c:=(iC i i.xn (.slice pl nl cl)).toArray) (t:=79) hx rfl;have s:=f.o.alloc (.cells (iC i i.xn (.slice pl nl cl)).toArray 79);have u:Kept S9 w (w.alloc (.cells (iC i i.xn (.slice pl nl cl)).toArray 79)):=qr.alloc _;clear f;obtain⟨B,a⟩:=qE w.heap.size;rw[<-a] at k;go_upto_block 0 with fail
 rw[<-a];clear a hx;generalize (w.alloc (.cells (iC i i.xn (.slice pl nl cl)).toArray 79))=C at*;clear k;go_wp2_with fail
 refine(Bj s r.o.2.2.1).mono ?_;rintro e D ⟨rfl,v,y⟩;have z:=u.trans (o7 y (ownB l j.o));go_wp2;go_ret;exact⟨rfl,uP.of v j.o,z⟩
theorem RI(h:dZ w x c p A Z)(ho:∀g,(Value.slice p Z.opn.length A).ownBlock=some g->S9 g)(_hB:S9 x)(hg:rR Z)(hlv:∃p n c,lv=.slice p n c)(F0:(W.toList==[117,110,114,101,97,99,104,97,98,108,101])=false)(a:(W.toList==[110,111,112])=true):
  qC 109 #[qP x,.agg (i.cells lv).toArray,.string W] w fun e w'=>e=.returned (.bool true)/\uP S9 w' x c (Z)/\Kept S9 w w':=by
 exact agQ
theorem RH(h:dZ w x c p A Z)(f:∀g,(Value.slice p Z.opn.length A).ownBlock=some g->S9 g)(j:S9 x)(a:rR Z)(v:∃p n c,lv=.slice p n c)(F0:(W.toList==[117,110,114,101,97,99,104,97,98,108,101])=false)(I:(W.toList==[110,111,112])=false)(J:(W.toList==[98,108,111,99,107])=false)(K:(W.toList==[108,111,111,112])=false)(L:(W.toList==[105,102])=false)(M:(W.toList==[101,108,115,101])=false)(N:(W.toList==[101,110,100])=false)(O:(W.toList==[98,114])=false)(P:(W.toList==[98,114,95,105,102])=false)(Q:(W.toList==[98,114,95,116,97,98,108,101])=false)(R:(W.toList==[114,101,116,117,114,110])=true)(T:c.dH.size<=8):
  qC 109 #[qP x,.agg (i.cells lv).toArray,.string W] w fun e w'=>e=.returned (.bool true)/\uP S9 w' x c (sG (dS c.dH Z).2)/\Kept S9 w w':=by
 obtain⟨pl,nl,cl,rfl⟩:=v;have hx:=h.lt;have k:=hide h;have y:=hide f;have l:=hide a;unfold fA.cells;clear h f a;go_enter func109,ntmps109;have q:OB (w.alloc (.cells (iC i i.xn (.slice pl nl cl)).toArray 79)) x w.heap.size (iC i i.xn (.slice pl nl cl)):=OB.new (c:=(iC i i.xn (.slice pl nl cl)).toArray) (t:=79) hx rfl;have b:=k.o.alloc (.cells (iC i i.xn (.slice pl nl cl)).toArray 79);have r:Kept S9 w (w.alloc (.cells (iC i i.xn (.slice pl nl cl)).toArray 79)):=qr.alloc _;clear k;obtain⟨U,d⟩:=qE w.heap.size;rw[<-d] at q;go_upto_block 0 with fail
 rw[<-d];clear d hx;generalize (w.alloc (.cells (iC i i.xn (.slice pl nl cl)).toArray 79))=V at*;clear q;obtain⟨-,-,-,-,-,-,-,-,⟨z,-⟩⟩:=b.blk.gI;have B:=b.lt;go_wp2_with fail
 refine(iV b l.o.2.2.1 c.dH qo).mono ?_;rintro e X ⟨rfl,C,s⟩;have D:=r.trans (o7 s (uT j));have E:qh ((dS c.dH Z).2.opn≠[]):=by show _≠_;rw[nM];exact l.o.2.2.1
 have u:qh (∀g,(Value.slice p (dS c.dH Z).2.opn.length A).ownBlock=some g->S9 g):=fun g a=>y.o g (mZ.trans a);clear z B b r s;go_wp2_with fail
 refine(Bj C E.o).mono ?_;rintro e Y ⟨rfl,F,G⟩;have H:=D.trans (o7 G (ownB j u.o));go_wp2;go_ret;exact⟨rfl,uP.of F u.o,H⟩
theorem UN(h:dZ w x c p A Z)(q:∀g,(Value.slice p Z.opn.length A).ownBlock=some g->S9 g)(r:S9 x)(b:rR Z)(H:0<=i.xn)(I:∃p n c,lv=.slice p n c)(F0:(W.toList==[117,110,114,101,97,99,104,97,98,108,101])=false)(V:(W.toList==[110,111,112])=false)(X:(W.toList==[98,108,111,99,107])=false)(Y:(W.toList==[108,111,111,112])=false)(F4:(W.toList==[105,102])=false)(F5:(W.toList==[101,108,115,101])=false)(aa:(W.toList==[101,110,100])=false)(ab:(W.toList==[98,114])=true)(s:i.xn.toNat<Z.opn.length):
  qC 109 #[qP x,.agg (i.cells lv).toArray,.string W] w fun e w'=>e=.returned (.bool true)/\uP S9 w' x c (sG (dS (ji i.xn.toNat Z) Z).2)/\Kept S9 w w':=by
 obtain⟨pl,nl,cl,rfl⟩:=I;obtain⟨a,u⟩:∃a:Nat,i.xn=(a:Int):=⟨i.xn.toNat,qo⟩;have v:i.xn.toNat=a:=qo;have J:=hide v;have hx:=h.lt;have y:=hide h;have K:=hide q;have j:=hide b;unfold fA.cells;rw[u];clear h q b H u v;go_enter func109,ntmps109;have f:OB (w.alloc (.cells (iC i a (.slice pl nl cl)).toArray 79)) x w.heap.size (iC i a (.slice pl nl cl)):=OB.new (c:=(iC i a (.slice pl nl cl)).toArray) (t:=79) hx rfl;have z:=y.o.alloc (.cells (iC i a (.slice pl nl cl)).toArray 79);have B:Kept S9 w (w.alloc (.cells (iC i a (.slice pl nl cl)).toArray 79)):=qr.alloc _;clear y;obtain⟨ib,k⟩:=qE w.heap.size;rw[<-k] at f;go_upto_block 0 with fail
 rw[<-k];clear k hx;generalize (w.alloc (.cells (iC i a (.slice pl nl cl)).toArray 79))=W1 at*;rw[J.o] at s;obtain⟨-,-,⟨L,-⟩,-⟩:=f.blk.nine;have M:=f.lt;go_wp2_with fail
 refine(zn z a s).mono ?_;rintro e w2 ⟨rfl,C,D⟩;have E:=B.trans (D.mono (fun _ _ d=>d.elim));have ac:=zl j.o a;have N:qh (ji ((a:Int)).toNat Z=ji a Z):=rfl;generalize ji a Z=l at*;clear L M f z B D;go_wp2_with fail
 refine(iV C j.o.2.2.1 l qo).mono ?_;rintro e w3 ⟨rfl,O,F⟩;have P:=E.trans (o7 F (uT r));have Q:qh ((dS l Z).2.opn≠[]):=by show _≠_;rw[nM];exact j.o.2.2.1
 have G:qh (∀g,(Value.slice p (dS l Z).2.opn.length A).ownBlock=some g->S9 g):=fun g b=>K.o g (mZ.trans b);clear C E F;go_wp2_with fail
 refine(Bj O Q.o).mono ?_;rintro e w4 ⟨rfl,R,T⟩;have U:=P.trans (o7 T (ownB r G.o));go_wp2;go_ret;rw[N.o];exact⟨rfl,uP.of R G.o,U⟩
theorem PI(h:dZ w x c p A Z)(C:∀g,(Value.slice p Z.opn.length A).ownBlock=some g->S9 g)(l:S9 x)(f:rR Z)(R:0<=i.xn)(T:∃p n c,lv=.slice p n c)(F0:(W.toList==[117,110,114,101,97,99,104,97,98,108,101])=false)(F1:(W.toList==[110,111,112])=false)(F2:(W.toList==[98,108,111,99,107])=false)(F3:(W.toList==[108,111,111,112])=false)(F4:(W.toList==[105,102])=false)(F5:(W.toList==[101,108,115,101])=false)(ae:(W.toList==[101,110,100])=false)(af:(W.toList==[98,114])=false)(ag:(W.toList==[98,114,95,105,102])=true)(q:i.xn.toNat<Z.opn.length):
  qC 109 #[qP x,.agg (i.cells lv).toArray,.string W] w fun e w'=>e=.returned (.bool true)/\uP S9 w' x c (Og i.xn.toNat Z)/\Kept S9 w w':=by
 obtain⟨pl,nl,cl,rfl⟩:=T;obtain⟨a,D⟩:∃a:Nat,i.xn=(a:Int):=⟨i.xn.toNat,qo⟩;have E:i.xn.toNat=a:=qo;have U:=hide E;have hx:=h.lt;have F:=hide h;have G:=hide C;have r:=hide f;unfold fA.cells;rw[D];clear h C f R D E;go_enter func109,ntmps109;have s:OB (w.alloc (.cells (iC i a (.slice pl nl cl)).toArray 79)) x w.heap.size (iC i a (.slice pl nl cl)):=OB.new (c:=(iC i a (.slice pl nl cl)).toArray) (t:=79) hx rfl;have H:=F.o.alloc (.cells (iC i a (.slice pl nl cl)).toArray 79);have I:Kept S9 w (w.alloc (.cells (iC i a (.slice pl nl cl)).toArray 79)):=qr.alloc _;clear F;obtain⟨ib,u⟩:=qE w.heap.size;rw[<-u] at s;go_upto_block 0 with fail
 rw[<-u];clear u hx;generalize (w.alloc (.cells (iC i a (.slice pl nl cl)).toArray 79))=W1 at*;rw[U.o] at q;go_wp2_with fail
 refine(iV H r.o.2.2.1 ⟨#[105]⟩ qx).mono ?_;rintro e w2 ⟨rfl,J,v⟩;have K:=I.trans (o7 v (uT l));have y:=s.call v;have j:=yU r.o ⟨#[105]⟩;have L:(dS ⟨#[105]⟩ Z).2.opn=Z.opn:=nM _;have V:qh (Og ((a:Int)).toNat Z=iF (ji a (dS ⟨#[105]⟩ Z).2) (dS (ji a (dS ⟨#[105]⟩ Z).2) (dS ⟨#[105]⟩ Z).2).2):=rfl;have M:qh (∀g,(Value.slice p (dS ⟨#[105]⟩ Z).2.opn.length A).ownBlock=some g->S9 g):=fun g f=>G.o g (mZ.trans f);rw[<-L] at q;clear L G r H I v s;generalize (dS ⟨#[105]⟩ Z).2=k at*;have X:=hide j;have ah:=zl j a;have ai:=j.1;clear j;obtain⟨-,-,⟨Y,-⟩,-⟩:=y.blk.nine;have lI:=y.lt;go_wp2_with fail
 refine(zn J a q).mono ?_;rintro e w3 ⟨rfl,N,O⟩;have P:=K.trans (O.mono (fun _ _ d=>d.elim));generalize ji a k=b at*;clear Y lI y J K O;go_wp2_with fail
 refine(iV N X.o.2.2.1 b qo).mono ?_;rintro e w4 ⟨rfl,z,Q⟩;have aa:=P.trans (o7 Q (uT l));have aj:=l8 (Z:=k) b;have ab:qh (∀g,(Value.slice p (dS b k).2.opn.length A).ownBlock=some g->S9 g):=fun g f=>M.o g (mZ.trans f);clear M N P Q;generalize (dS b k).2=B at*;obtain⟨-,-,⟨I2,J2⟩,-⟩:=z.blk.gI;have ak:=z.lt;have am:¬9223372036854775807<B.di.size+b.size:=qo;have ac:=hide (z.dH b qo);have ad:=hide (aa.setCell (p:=(qA x 2)) (fun _=>l) (.string (B.di++b)));go_wp2;go_ret;rw[V.o];exact⟨rfl,uP.of (Z:=B) ac.o ab.o,ad.o⟩
end
section
variable {S ok Gy:qD} {w w':qW} {x A:Nat} {c:FC} {p:qO} {Z:Bk} {lv:qv} {i:fA} {W:qS} {xx fb:Nat} {ms cs:qV} {pm:qO} {qb nx:Nat} {m:RM} {S9:qD}
theorem BM(h:dZ w x c p A Z)(H:∀g,(Value.slice p Z.opn.length A).ownBlock=some g->S9 g)(hB:S9 x)(hg:rR Z)(hm:∀V,Kept S9 w V->oU V xx c.Y fb ms cs pm qb m nx)(aa:∃p n c,lv=.slice p n c)(F0:(W.toList==[117,110,114,101,97,99,104,97,98,108,101])=false)(F1:(W.toList==[110,111,112])=false)(hF:(W.toList==[98,108,111,99,107])=true\/((W.toList==[98,108,111,99,107])=false/\(W.toList==[108,111,111,112])=true))(I:0<=i.xn)(J:i.dH=2->i.xn.toNat<m.dm.length)(L:∀k,(gy m.dm k).1.size<=8/\(gy m.dm k).2.size<=8)(M:∀g,w.heap.size<=g->S9 g)(N:i.op=2\/i.op=3)(O:W=dN i.op)(F4:(W.toList==[105,102])=false):
  qC 109 #[qP x,.agg (i.cells lv).toArray,.string W] w fun e w'=>e=.returned (.bool true)/\uP S9 w' x c (zC m i Z)/\Kept S9 w w':=by
 rcases hF with F2 | ⟨F2,F3⟩;all_goals
  obtain⟨pl,nl,cl,rfl⟩:=aa;have ab:(jU m.dm i).1.size<=8:=by
   unfold jU;split
   .exact qZ
   split
   .exact(L _).1
   exact qZ
  have HN9:=hide M;have ac:=hide N;have HWB:=hide O;have HX0:=hide I;have HI2:=hide J;clear N O L I J M;have hx:=h.lt;have R:=hide h;have HO:=hide H;have T:=hide hg;have U:=hide hm;unfold fA.cells;clear h H hg hm;go_enter func109,ntmps109;have z:OB (w.alloc (.cells (iC i i.xn (.slice pl nl cl)).toArray 79)) x w.heap.size (iC i i.xn (.slice pl nl cl)):=OB.new (c:=(iC i i.xn (.slice pl nl cl)).toArray) (t:=79) hx rfl;have r:=R.o.alloc (.cells (iC i i.xn (.slice pl nl cl)).toArray 79);have s:Kept S9 w (w.alloc (.cells (iC i i.xn (.slice pl nl cl)).toArray 79)):=qr.alloc _;clear R;obtain⟨ib,E⟩:=qE w.heap.size;rw[<-E] at z;go_upto_block 0 with fail
  rw[<-E];clear E hx;generalize (w.alloc (.cells (iC i i.xn (.slice pl nl cl)).toArray 79))=b at*;have ad:qh (ifF i Z=Z):=by show _=_;unfold ifF;rw[if_neg (by have:=ac.o;omega)]
  have B:qh (∀V,qK b V->qC 140 #[qP c.Y,.agg (iC i i.xn (.slice pl nl cl)).toArray] V fun e w'=>e=.returned (.agg #[.string (jU m.dm i).1,.string (jU m.dm i).2])/\qK V w'):=fun V hV=>by
   have hm1:=U.o V (s.trans (hV.mono (fun _ _ d=>d.elim)));exact ad2
  clear U;obtain⟨⟨X,-⟩,-⟩:=r.blk.gI;have F:=r.lt;obtain⟨⟨A0,-⟩,⟨A1,-⟩,⟨A2,-⟩,⟨A3,-⟩,⟨A4,-⟩,⟨A5,-⟩,⟨A6,-⟩,⟨A7,-⟩,⟨A8,-⟩⟩:=z.blk.nine;have q:=z.lt;have HOP:qh (zC m i Z=nZ (dN i.op) (jU m.dm i).1 (jU m.dm i).2 (dS (jU m.dm i).1 Z).2):=by show _=_;unfold zC;rw[ad.o]
  generalize jU m.dm i=tt at*;obtain⟨ta,tb⟩:=tt;simp only at ab B HOP;go_upto_region 11 with fail
  go_cut [7] from 30 to 35 (fun v V=>∃gb,v=qP gb/\dZ V x c p A Z/\OB V x gb [.string ta,.string tb]/\Kept S9 w V)
  case first=>
   have nk:=dX F X;have ru:=dX q A0;have uE:=dX q A1;have Wn:=dX q A2;have Wm:=dX q A3;have Wl:=dX q A4;have Wj:=dX q A5;have Wi:=dX q A6;have Wh:=dX q A7;have We:=dX q A8;have G:qK b b.drew:=qr.drew;refine kQ (qK b) 7 ?_;iterate 5 refine pQ G ?_
   refine Ig (i:=5) (j:=6) qk (dn rfl (fun K hK=>?_)) (dn rfl (fun K hK=>?_))
   .refine eG (f:=140) (args:= #[qP c.Y,.agg (iC i i.xn (.slice pl nl cl)).toArray]) (by rfl) (by go_simp) (B.o _ G) ?_;rintro e5 C ⟨rfl,hk5⟩;have D:=G.trans hk5;refine⟨_,rfl,hK _ _ ⟨.inr D,?_⟩⟩;clear hK K;refine dx (i:=6) qk (dn rfl (fun K hK=>?_));go_simp;refine hK _ _ ⟨.inr (D.alloc _),?_⟩;clear hK K;refine dx (i:=7) qk (dn rfl (fun K hK=>?_));go_simp;refine hK _ _ ⟨.inl rfl,?_⟩;clear hK K;refine dM qk ?_ _;clear nk ru uE Wn Wm Wl Wj Wi Wh We;have u:=r.kept D (fun c=>c) (fun _ _ c=>c);have oT:OB (C.alloc (.cells #[.string ta,.string tb] 83)) x C.heap.size [.string ta,.string tb]:=OB.new (c:= #[.string ta,.string tb]) (t:=83) u.lt rfl;have Bh:=u.alloc (.cells #[.string ta,.string tb] 83);have y:=(s.trans (D.mono (fun _ _ d=>d.elim))).alloc (.cells #[.string ta,.string tb] 83);go_wp2;go_meet;exact⟨_,rfl,Bh,oT,y⟩
   go_simp;have hS6:qK b (b.alloc (.cells #[.string ⟨#[]⟩,.string ⟨#[]⟩] 83)).drew:=(qr.alloc _).drew;refine hK _ _ ⟨.inr hS6,?_⟩;clear hK K;have oZ:OB (b.alloc (.cells #[.string ⟨#[]⟩,.string ⟨#[]⟩] 83)).drew x b.heap.size [.string ⟨#[]⟩,.string ⟨#[]⟩]:=(OB.new (c:= #[.string ⟨#[]⟩,.string ⟨#[]⟩]) (t:=83) F rfl).drew;refine dx (i:=5) qk (dn rfl (fun K hK=>?_));refine eG (f:=140) (args:= #[qP c.Y,.agg (iC i i.xn (.slice pl nl cl)).toArray]) (by rfl) (by go_simp) (B.o _ hS6) ?_;rintro e5 C ⟨rfl,hk5⟩;have hS7:=hS6.trans hk5;refine⟨_,rfl,hK _ _ ⟨.inr hS7,?_⟩⟩;clear hK K;have oZ5:=oZ.kept hk5 (fun c=>c);have Hz:=r.kept hS7 (fun c=>c) (fun _ _ c=>c);have Rq:=s.trans (hS7.mono (fun _ _ d=>d.elim));obtain⟨T0,U0⟩:=oZ5.blk 0 qs;obtain⟨T1,U1⟩:=oZ5.blk 1 qs;simp only[List.getD_cons_zero,List.getD_cons_succ] at T0 T1;have lT:=oZ5.lt;have hgB:S9 b.heap.size:=HN9.o _ s.size;have hog:¬(Value.slice p Z.opn.length A).ownBlock=some b.heap.size:=fun e=>by have:=(r.row.own.lt _ e).2;omega
   generalize b.heap.size=gb at*;exact agK
  case rest=>
  obtain⟨gb,rfl,u,oT,hk5⟩:=hcut;obtain⟨C,ae⟩:=qE wc;subst ae;clear X A0 A1 A2 A3 A4 A5 A6 A7 A8 q F B r s z;obtain⟨T0,U0⟩:=oT.blk 0 qs;obtain⟨T1,U1⟩:=oT.blk 1 qs;simp only[List.getD_cons_zero,List.getD_cons_succ] at T0 T1;have lT:=oT.lt;go_wp2_with fail
  refine(iV u T.o.2.2.1 ta qo).mono ?_;rintro e w6 ⟨rfl,Bh,y⟩;have acz:=hk5.trans (o7 y (uT hB));have oT6:=oT.call y;have hg6:=yU T.o ta;have HO6:qh (∀g,(Value.slice p (dS ta Z).2.opn.length A).ownBlock=some g->S9 g):=fun g hg=>HO.o g (mZ.trans hg);clear T0 U0 T1 U1 lT oT u hk5 y;generalize (dS ta Z).2=uj at*;exact agL
theorem UM(h:dZ w x c p A Z)(M:∀g,(Value.slice p Z.opn.length A).ownBlock=some g->S9 g)(hB:S9 x)(hg:rR Z)(hm:∀V,Kept S9 w V->oU V xx c.Y fb ms cs pm qb m nx)(af:∃p n c,lv=.slice p n c)(F0:(W.toList==[117,110,114,101,97,99,104,97,98,108,101])=false)(F1:(W.toList==[110,111,112])=false)(F2:(W.toList==[98,108,111,99,107])=false)(F3:(W.toList==[108,111,111,112])=false)(F4:(W.toList==[105,102])=true)(N:0<=i.xn)(O:i.dH=2->i.xn.toNat<m.dm.length)(R:∀k,(gy m.dm k).1.size<=8/\(gy m.dm k).2.size<=8)(T:∀g,w.heap.size<=g->S9 g)(U:i.op=4)(X:W=dN i.op):
  qC 109 #[qP x,.agg (i.cells lv).toArray,.string W] w fun e w'=>e=.returned (.bool true)/\uP S9 w' x c (zC m i Z)/\Kept S9 w w':=by
 obtain⟨pl,nl,cl,rfl⟩:=af;have ag:(jU m.dm i).1.size<=8:=by
  unfold jU;split
  .exact qZ
  split
  .exact(R _).1
  exact qZ
 have HN9:=hide T;have ah:=hide U;have HWB:=hide X;have HX0:=hide N;have HI2:=hide O;clear U X R N O T;have hx:=h.lt;have HI:=hide h;have HO:=hide M;have E:=hide hg;have aa:=hide hm;unfold fA.cells;clear h M hg hm;go_enter func109,ntmps109;have F:OB (w.alloc (.cells (iC i i.xn (.slice pl nl cl)).toArray 79)) x w.heap.size (iC i i.xn (.slice pl nl cl)):=OB.new (c:=(iC i i.xn (.slice pl nl cl)).toArray) (t:=79) hx rfl;have ab:=HI.o.alloc (.cells (iC i i.xn (.slice pl nl cl)).toArray 79);have ac:Kept S9 w (w.alloc (.cells (iC i i.xn (.slice pl nl cl)).toArray 79)):=qr.alloc _;clear HI;obtain⟨ib,G⟩:=qE w.heap.size;rw[<-G] at F;go_upto_block 0 with fail
 rw[<-G];clear G hx;generalize (w.alloc (.cells (iC i i.xn (.slice pl nl cl)).toArray 79))=W1 at*;go_wp2_with fail
 refine(iV ab E.o.2.2.1 ⟨#[105]⟩ qx).mono ?_;rintro e b ⟨rfl,r,H⟩;have s:=ac.trans (o7 H (uT hB));have I:=F.call H;have ad:=yU E.o ⟨#[105]⟩;have ai:qh (∀g,(Value.slice p (dS ⟨#[105]⟩ Z).2.opn.length A).ownBlock=some g->S9 g):=fun g hg=>HO.o g (mZ.trans hg);have aj:qh (ifF i Z=(dS ⟨#[105]⟩ Z).2):=by show _=_;unfold ifF;rw[if_pos ah.o];rfl
 generalize (dS ⟨#[105]⟩ Z).2=u at*;have ae:=hide ad;clear ad HO E ab ac F H;have B:qh (∀V,qK b V->qC 140 #[qP c.Y,.agg (iC i i.xn (.slice pl nl cl)).toArray] V fun e w'=>e=.returned (.agg #[.string (jU m.dm i).1,.string (jU m.dm i).2])/\qK V w'):=fun V hV=>by
  have hm1:=aa.o V (s.trans (hV.mono (fun _ _ d=>d.elim)));exact ad2
 clear aa;obtain⟨⟨X0,-⟩,-⟩:=r.blk.gI;have J:=r.lt;obtain⟨⟨A0,-⟩,⟨A1,-⟩,⟨A2,-⟩,⟨A3,-⟩,⟨A4,-⟩,⟨A5,-⟩,⟨A6,-⟩,⟨A7,-⟩,⟨A8,-⟩⟩:=I.blk.nine;have q:=I.lt;have HOP:qh (zC m i Z=nZ (dN i.op) (jU m.dm i).1 (jU m.dm i).2 (dS (jU m.dm i).1 u).2):=by show _=_;unfold zC;rw[aj.o]
 generalize jU m.dm i=tt at*;obtain⟨ta,tb⟩:=tt;simp only at ag B HOP;go_upto_region 11 with fail
 go_cut [7] from 30 to 35 (fun v V=>∃gb,v=qP gb/\dZ V x c p A u/\OB V x gb [.string ta,.string tb]/\Kept S9 w V)
 case first=>
  have nk:=dX J X0;have ru:=dX q A0;have uE:=dX q A1;have Wn:=dX q A2;have Wm:=dX q A3;have Wl:=dX q A4;have Wj:=dX q A5;have Wi:=dX q A6;have Wh:=dX q A7;have We:=dX q A8;have L:qK b b.drew:=qr.drew;refine kQ (qK b) 7 ?_;iterate 5 refine pQ L ?_
  refine Ig (i:=5) (j:=6) qk (dn rfl (fun K hK=>?_)) (dn rfl (fun K hK=>?_))
  .refine eG (f:=140) (args:= #[qP c.Y,.agg (iC i i.xn (.slice pl nl cl)).toArray]) (by rfl) (by go_simp) (B.o _ L) ?_;rintro e5 C ⟨rfl,hk5⟩;have D:=L.trans hk5;refine⟨_,rfl,hK _ _ ⟨.inr D,?_⟩⟩;clear hK K;refine dx (i:=6) qk (dn rfl (fun K hK=>?_));go_simp;refine hK _ _ ⟨.inr (D.alloc _),?_⟩;clear hK K;refine dx (i:=7) qk (dn rfl (fun K hK=>?_));go_simp;refine hK _ _ ⟨.inl rfl,?_⟩;clear hK K;refine dM qk ?_ _;clear nk ru uE Wn Wm Wl Wj Wi Wh We;have y:=r.kept D (fun c=>c) (fun _ _ c=>c);have oT:OB (C.alloc (.cells #[.string ta,.string tb] 83)) x C.heap.size [.string ta,.string tb]:=OB.new (c:= #[.string ta,.string tb]) (t:=83) y.lt rfl;have Bh:=y.alloc (.cells #[.string ta,.string tb] 83);have z:=(s.trans (D.mono (fun _ _ d=>d.elim))).alloc (.cells #[.string ta,.string tb] 83);go_wp2;go_meet;exact⟨_,rfl,Bh,oT,z⟩
  go_simp;have hS6:qK b (b.alloc (.cells #[.string ⟨#[]⟩,.string ⟨#[]⟩] 83)).drew:=(qr.alloc _).drew;refine hK _ _ ⟨.inr hS6,?_⟩;clear hK K;have oZ:OB (b.alloc (.cells #[.string ⟨#[]⟩,.string ⟨#[]⟩] 83)).drew x b.heap.size [.string ⟨#[]⟩,.string ⟨#[]⟩]:=(OB.new (c:= #[.string ⟨#[]⟩,.string ⟨#[]⟩]) (t:=83) J rfl).drew;refine dx (i:=5) qk (dn rfl (fun K hK=>?_));refine eG (f:=140) (args:= #[qP c.Y,.agg (iC i i.xn (.slice pl nl cl)).toArray]) (by rfl) (by go_simp) (B.o _ hS6) ?_;rintro e5 C ⟨rfl,hk5⟩;have hS7:=hS6.trans hk5;refine⟨_,rfl,hK _ _ ⟨.inr hS7,?_⟩⟩;clear hK K;have oZ5:=oZ.kept hk5 (fun c=>c);have Hz:=r.kept hS7 (fun c=>c) (fun _ _ c=>c);have Rq:=s.trans (hS7.mono (fun _ _ d=>d.elim));obtain⟨T0,U0⟩:=oZ5.blk 0 qs;obtain⟨T1,U1⟩:=oZ5.blk 1 qs;simp only[List.getD_cons_zero,List.getD_cons_succ] at T0 T1;have lT:=oZ5.lt;have hgB:S9 b.heap.size:=HN9.o _ s.size;have hog:¬(Value.slice p u.opn.length A).ownBlock=some b.heap.size:=fun e=>by have:=(r.row.own.lt _ e).2;omega
  generalize b.heap.size=gb at*;exact agK
 case rest=>
 obtain⟨gb,rfl,y,oT,hk5⟩:=hcut;obtain⟨C,ak⟩:=qE wc;subst ak;clear X0 A0 A1 A2 A3 A4 A5 A6 A7 A8 q J B r s I;obtain⟨T0,U0⟩:=oT.blk 0 qs;obtain⟨T1,U1⟩:=oT.blk 1 qs;simp only[List.getD_cons_zero,List.getD_cons_succ] at T0 T1;have lT:=oT.lt;go_wp2_with fail
 refine(iV y ae.o.2.2.1 ta qo).mono ?_;rintro e w6 ⟨rfl,Bh,z⟩;have acz:=hk5.trans (o7 z (uT hB));have oT6:=oT.call z;have hg6:=yU ae.o ta;have HO6:qh (∀g,(Value.slice p (dS ta u).2.opn.length A).ownBlock=some g->S9 g):=fun g hg=>ai.o g (mZ.trans hg);clear T0 U0 T1 U1 lT oT y hk5 z;generalize (dS ta u).2=uj at*;exact agL
end
section
variable {S ok Gy:qD} {w w':qW} {x A:Nat} {c:FC} {p:qO} {Z:Bk} {lv:qv} {i:fA} {W:qS} {xx fb:Nat} {ms cs:qV} {pm:qO} {qb nx:Nat} {m:RM} {S9:qD}
theorem Uw{b:kX}{a:List kX}(d:Z.opn=b::a):(iq Z).now=Z.now:=by
 unfold iq;rw[d];simp only;split
 .exact AP _
 show(fF 4 (dS b.fo Z).2.now (dS b.fo Z).2).now=Z.now;rw[Bi,AP]
theorem PE(h:dZ w x c p A Z)(y:∀g,(Value.slice p Z.opn.length A).ownBlock=some g->S9 g)(z:S9 x)(a:rR Z)(P:∃p n c,lv=.slice p n c)(F0:(W.toList==[117,110,114,101,97,99,104,97,98,108,101])=false)(F1:(W.toList==[110,111,112])=false)(F2:(W.toList==[98,108,111,99,107])=false)(F3:(W.toList==[108,111,111,112])=false)(F4:(W.toList==[105,102])=false)(F5:(W.toList==[101,108,115,101])=true)(B:∀g,w.heap.size<=g->S9 g):
  qC 109 #[qP x,.agg (i.cells lv).toArray,.string W] w fun e w'=>e=.returned (.bool true)/\uP S9 w' x c (NS Z)/\Kept S9 w w':=by
 obtain⟨pl,nl,cl,rfl⟩:=P;obtain⟨b,d,f⟩:∃b d,Z.opn=b::d:=by
  cases hq:Z.opn with
  | nil=>exact absurd hq a.2.2.1
  | cons b d=>exact⟨b,d,rfl⟩
 have ac:=a.2.2.2 b (by rw[f];simp);have j:=Nw f;have ad:=a.1;have C:=a.2.1;have q:=hide f;clear f;have Q:=hide B;clear B;have hx:=h.lt;have D:=hide h;have R:=hide y;have HG:=hide a;unfold fA.cells;clear h y a;go_enter func109,ntmps109;have E:OB (w.alloc (.cells (iC i i.xn (.slice pl nl cl)).toArray 79)) x w.heap.size (iC i i.xn (.slice pl nl cl)):=OB.new (c:=(iC i i.xn (.slice pl nl cl)).toArray) (t:=79) hx rfl;have F:=D.o.alloc (.cells (iC i i.xn (.slice pl nl cl)).toArray 79);have G:Kept S9 w (w.alloc (.cells (iC i i.xn (.slice pl nl cl)).toArray 79)):=qr.alloc _;clear D;obtain⟨ib,r⟩:=qE w.heap.size;rw[<-r] at E;go_upto_block 0 with fail
 rw[<-r];clear r hx;generalize (w.alloc (.cells (iC i i.xn (.slice pl nl cl)).toArray 79))=W1 at*;have T:qh (NS Z=nZ Wu b.l7 b.fo (iq Z)):=else_eq q.o;clear E;go_wp2_with fail
 refine(CO F q.o qo).mono ?_;rintro e k ⟨rfl,s,H⟩;have I:=G.trans (o7 H (uT z));have J:qh (∀g,(Value.slice p (iq Z).opn.length A).ownBlock=some g->S9 g):=fun g a=>R.o g (mZ.trans a);have U:=s.lt;have l:OB (k.alloc (.cells #[.string b.word,.string b.l7,.string b.fo,qJ b.high,.bool b.dead] 170)) x k.heap.size [.string b.word,.string b.l7,.string b.fo,qJ b.high,.bool b.dead]:=OB.new (c:= #[.string b.word,.string b.l7,.string b.fo,qJ b.high,.bool b.dead]) (t:=170) U rfl;have u:=s.alloc (.cells #[.string b.word,.string b.l7,.string b.fo,qJ b.high,.bool b.dead] 170);have v:=I.alloc (.cells #[.string b.word,.string b.l7,.string b.fo,qJ b.high,.bool b.dead] 170);have ae:=j.1;have af:=hide j.2;have ag:(iq Z).opn.length<=1000:=by
  rw[j.2];have:=q.o;rw[this] at C;simp only[List.length_cons] at C;omega
 clear j F G s H I;generalize iq Z=V at*;go_upto_region 16 with fail
 generalize (k.alloc (.cells #[.string b.word,.string b.l7,.string b.fo,qJ b.high,.bool b.dead] 170))=W3 at*;generalize k.heap.size=gb at*;obtain⟨K,X⟩:=l.blk 1 qs;obtain⟨L,Y⟩:=l.blk 2 qs;simp only[List.getD_cons_zero,List.getD_cons_succ] at K L;have lT:=l.lt;have ah:=u.lt;go_wp2_with fail
 refine(CP u ⟨#[101,108,115,101]⟩ b.l7 b.fo qo qo).mono ?_;rintro e w7 ⟨rfl,⟨p7,aa,M,N⟩,O⟩;have ab:=v.trans (o7 O (ownB z J.o));have HF:qh (uP S9 w7 x c (nZ Wu b.l7 b.fo V)):=⟨p7,aa,M,fun g a=>(N g a).elim (J.o g) (fun h=>Q.o g (Nat.le_trans v.size h))⟩;clear K X L Y lT l u v O M N;go_wp2;go_ret;rw[T.o];exact⟨rfl,HF.o,ab⟩
theorem RJ(h:dZ w x c p A Z)(I:∀g,(Value.slice p Z.opn.length A).ownBlock=some g->S9 g)(hB:S9 x)(f:rR Z)(ab:∃p n c,lv=.slice p n c)(F0:(W.toList==[117,110,114,101,97,99,104,97,98,108,101])=false)(F1:(W.toList==[110,111,112])=false)(F2:(W.toList==[98,108,111,99,107])=false)(F3:(W.toList==[108,111,111,112])=false)(F4:(W.toList==[105,102])=false)(F5:(W.toList==[101,108,115,101])=false)(ah:(W.toList==[101,110,100])=true):
  qC 109 #[qP x,.agg (i.cells lv).toArray,.string W] w fun e w'=>e=.returned (.bool true)/\uP S9 w' x c (LM Z)/\Kept S9 w w':=by
 obtain⟨pl,nl,cl,rfl⟩:=ab;obtain⟨b,s,u⟩:∃b s,Z.opn=b::s:=by
  cases hq:Z.opn with
  | nil=>exact absurd hq f.2.2.1
  | cons b s=>exact⟨b,s,rfl⟩
 have ai:=f.2.2.2 b (by rw[u];simp);have y:=Nw u;have aj:=f.1;have ac:=f.2.1;have z:=hide u;clear u;have hx:=h.lt;have J:=hide h;have HO:=hide I;have HG:=hide f;unfold fA.cells;clear h I f;go_enter func109,ntmps109;have L:OB (w.alloc (.cells (iC i i.xn (.slice pl nl cl)).toArray 79)) x w.heap.size (iC i i.xn (.slice pl nl cl)):=OB.new (c:=(iC i i.xn (.slice pl nl cl)).toArray) (t:=79) hx rfl;have M:=J.o.alloc (.cells (iC i i.xn (.slice pl nl cl)).toArray 79);have N:Kept S9 w (w.alloc (.cells (iC i i.xn (.slice pl nl cl)).toArray 79)):=qr.alloc _;clear J;obtain⟨ib,B⟩:=qE w.heap.size;rw[<-B] at L;go_upto_block 0 with fail
 rw[<-B];clear B hx;generalize (w.alloc (.cells (iC i i.xn (.slice pl nl cl)).toArray 79))=W1 at*;have k:qh (LM Z=iF b.fo (if b.word=YT/\b.l7≠b.fo then fF 4 Z.now (iq Z) else iq Z)):=UO z.o;have O:(iq Z).now=Z.now:=Uw z.o;clear L;go_wp2_with fail
 refine(CO M z.o qo).mono ?_;rintro e v ⟨rfl,C,R⟩;have T:=N.trans (o7 R (uT hB));have D:qh (∀g,(Value.slice p (iq Z).opn.length A).ownBlock=some g->S9 g):=fun g f=>HO.o g (mZ.trans f);have ad:=C.lt;have q:OB (v.alloc (.cells #[.string b.word,.string b.l7,.string b.fo,qJ b.high,.bool b.dead] 170)) x v.heap.size [.string b.word,.string b.l7,.string b.fo,qJ b.high,.bool b.dead]:=OB.new (c:= #[.string b.word,.string b.l7,.string b.fo,qJ b.high,.bool b.dead]) (t:=170) ad rfl;have Td:=C.alloc (.cells #[.string b.word,.string b.l7,.string b.fo,qJ b.high,.bool b.dead] 170);have hk3:=T.alloc (.cells #[.string b.word,.string b.l7,.string b.fo,qJ b.high,.bool b.dead] 170);have ak:=y.1;have am:=hide y.2;clear y M N C R T ac;generalize iq Z=st2 at*;go_upto_region 19 with fail
 generalize (v.alloc (.cells #[.string b.word,.string b.l7,.string b.fo,qJ b.high,.bool b.dead] 170))=W3 at*;generalize v.heap.size=gb at*;obtain⟨U,U0⟩:=q.blk 0 qs;obtain⟨V,U1⟩:=q.blk 1 qs;obtain⟨T2,U2⟩:=q.blk 2 qs;simp only[List.getD_cons_zero,List.getD_cons_succ] at U V T2;have lT:=q.lt;have ae:=Td.lt;obtain⟨-,-,-,-,-,-,⟨X,-⟩,-,-⟩:=Td.blk.gI;rw[O] at X;have Y:(b.word.toList==[105,102])=decide (b.word=YT):=by rw[<-vw,show YT.toList=[105,102] by decide+kernel]
 have ft:(b.l7.toList==b.fo.toList)=decide (b.l7=b.fo):=vw b.l7 b.fo;clear O;by_cases j:b.word=YT
 .rw[decide_eq_true j] at Y;by_cases r:b.l7≠b.fo
  .rw[decide_eq_false r] at ft;have af:qh (LM Z=iF b.fo (fF 4 Z.now st2)):=by show _=_;rw[k.o,if_pos ⟨j,r⟩]
   clear j r k;go_wp2_with fail
   refine(nW Td 4 Z.now qx).mono ?_;rintro e E ⟨rfl,F,G⟩;have ag:=hk3.trans (o7 G (uT hB));have aa:=q.call G;have an:(fF 4 Z.now st2).di.size<=st2.di.size:=by rw[uf];exact qR
   have HO4:qh (∀g,(Value.slice p (fF 4 Z.now st2).opn.length A).ownBlock=some g->S9 g):=fun g f=>D.o g (mZ.trans f);clear U U0 V U1 T2 U2 lT q Td hk3 G X ae;generalize fF 4 Z.now st2=H at*;have HEN:=af;obtain⟨T2,-⟩:=aa.blk 2 qs;simp only[List.getD_cons_zero,List.getD_cons_succ] at T2;have lT:=aa.lt;go_wp2_with fail
   obtain⟨-,-,⟨I2,J2⟩,-⟩:=F.blk.gI;have hxv:=F.lt;have acC:¬9223372036854775807<H.di.size+b.fo.size:=qo;have nk:=dX hxv I2;have ru:=dX lT T2;have hS0:qK E E.drew:=qr.drew;refine kQ (qK E) 11 ?_;iterate 11 refine pQ hS0 ?_
   refine dx (i:=11) qk (dn rfl (fun K hK=>?_));go_simp;refine hK _ _ ⟨.inl rfl,?_⟩;clear hK K;refine dM qk ?_ _;clear nk ru;have hI9:=(F.dH b.fo qo).drew;have hk9:=(ag.setCell (p:=(qA x 2)) (fun _=>hB) (.string (H.di++b.fo))).drew;clear hS0 I2 J2 T2 lT;go_wp2;go_ret;rw[HEN.o];exact⟨rfl,uP.of (Z:=H) hI9 HO4.o,hk9⟩
  rw[decide_eq_true (Decidable.of_not_not r)] at ft;have HEN:qh (LM Z=iF b.fo st2):=by show _=_;rw[k.o,if_neg (fun d=>r d.2)]
  have HO4:=D;clear j r k;exact agO
 rw[decide_eq_false j] at Y;have HEN:qh (LM Z=iF b.fo st2):=by show _=_;rw[k.o,if_neg (fun d=>j d.1)]
 have HO4:=D;clear j k ft;exact agO
end
section
variable {m:RM} {c:FC} {i:fA} {Z:Bk}
theorem tC{r:Nat×Nat}{many:Nat}(h:(fu r many Z).err=none):r.1<many/\fu r many Z=Z:=by
 unfold fu at h ⊢;by_cases hc:many<=r.1
 .rw[if_pos hc] at h;exact absurd h (Fh _ _)
 rw[if_neg hc];exact⟨qo,rfl⟩
theorem NM{many:Nat}:∀(l:List (Nat×Nat)) {Z:Bk},(l.foldl (fun s r=>fu r many s) Z).err=none->(∀r∈l,r.1<many)/\l.foldl (fun s r=>fu r many s) Z=Z
 | [],_,_=>⟨qs,rfl⟩
 | r::l,Z,h=>by
  rw[List.foldl_cons] at h ⊢;obtain⟨U,L⟩:=NM l h;rw[L] at h ⊢;obtain⟨h3,h4⟩:=tC h;refine⟨fun q hq=>?_,h4⟩;simp at hq;rcases hq with rfl | hq
  .exact h3
  exact U q hq
structure agS(m:RM)(c:FC)(i:fA)(Z:Bk):Prop where
 same:eY m c i Z=Z
 blk:i.op=2\/i.op=3\/i.op=4->i.dH=2->i.xn.toNat<m.dm.length
 br:i.op=12\/i.op=13\/i.op=14->i.xn.toNat<Z.opn.length/\∀r∈i.dF,r.1<Z.opn.length
 call:i.op=16->i.xn.toNat<m.tys.length
 ind:i.op=17->i.xn.toNat<m.dm.length
 loc:32<=i.op/\i.op<=34->i.xn.toNat<c.kinds.size
 glb:35<=i.op/\i.op<=36->i.xn.toNat<m.dB.length
theorem aeP(h:(eY m c i Z).err=none):agS m c i Z:=by
 have f:eY m c i Z=lS m c i Z:=by
  unfold eY at h ⊢;split
  .rename_i hc;rw[if_pos hc] at h;exact absurd h (Fh _ _)
  rfl
 have U:(lS m c i Z).err=none:=by rw[<-f];exact h
 unfold lS at f U;by_cases e:i.op=2\/i.op=3\/i.op=4
 .rw[if_pos e] at f U;by_cases g:i.dH=2
  .rw[if_pos g] at f U;obtain⟨a,b⟩:=tC U;exact⟨f.trans b,fun _ _=>a,fun d=>qo,fun d=>qo,fun d=>qo,fun d=>qo,fun d=>qo⟩
  rw[if_neg g] at f;exact⟨f,fun _ d=>absurd d g,fun d=>qo,fun d=>qo,fun d=>qo,fun d=>qo,fun d=>qo⟩
 rw[if_neg e] at f U;by_cases j:i.op=12\/i.op=13\/i.op=14
 .rw[if_pos j] at f U;obtain⟨a,b⟩:=tC U;rw[b] at f U;obtain⟨p,q⟩:=NM _ U;exact⟨f.trans q,fun d=>absurd d e,fun _=>⟨a,p⟩,fun d=>qo,fun d=>qo,fun d=>qo,fun d=>qo⟩
 rw[if_neg j] at f U;by_cases k:i.op=16
 .rw[if_pos k] at f U;obtain⟨a,b⟩:=tC U;exact⟨f.trans b,fun d=>absurd d e,fun d=>absurd d j,fun _=>a,fun d=>qo,fun d=>qo,fun d=>qo⟩
 rw[if_neg k] at f U;by_cases n:i.op=32\/i.op=33\/i.op=34
 .rw[if_pos n] at f U;obtain⟨a,b⟩:=tC U;exact⟨f.trans b,fun d=>absurd d e,fun d=>absurd d j,fun d=>absurd d k,fun d=>qo,fun _=>a,fun d=>qo⟩
 rw[if_neg n] at f U;by_cases o:i.op=35\/i.op=36
 .rw[if_pos o] at f U;obtain⟨a,b⟩:=tC U;exact⟨f.trans b,fun d=>absurd d e,fun d=>absurd d j,fun d=>absurd d k,fun d=>qo,fun d=>qo,fun _=>a⟩
 rw[if_neg o] at f U;by_cases l:i.op=17
 .rw[if_pos l] at f U;obtain⟨a,b⟩:=tC U;rw[b] at f U;refine⟨f.trans ?_,fun d=>absurd d e,fun d=>absurd d j,fun d=>absurd d k,fun _=>a,fun d=>qo,fun d=>qo⟩;by_cases g:m.table.isSome=true
  .rw[if_pos g]
  rw[if_neg g] at U;exact absurd U (Fh _ _)
 rw[if_neg l] at f;exact⟨f,fun d=>absurd d e,fun d=>absurd d j,fun d=>absurd d k,fun d=>absurd d l,fun d=>qo,fun d=>qo⟩
end
end Go.Proofs.YtdaafkmhfedkiaaGreat
