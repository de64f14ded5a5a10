import Derived.Test.YtfkcodlceoghpaaGreatDoorX30
import Derived.Test.YtfkcodlceoghpaaGreatDoorX31
import Derived.Test.YtfkcodlceoghpaaGreatDoorX32
namespace Go.Proofs.YtfkcodlceoghpaaGreatDoor
set_option maxHeartbeats 12800000
set_option maxRecDepth 100000
set_option linter.unusedSimpArgs false
set_option linter.unusedVariables false
open Go.RowKit Go.Proofs.Tryz
theorem CR{w:qW}(l:tZ)(h:0<=l.least/\0<=l.most)(g:l.has=true->l.most<=16):qC 28 #[.agg #[qJ l.at_,qI l.least,qI l.most,.bool l.has]] w λe w'=>e=.returned (qJ (AZ l:Nat))/\w'=w.alloc (.cells #[qJ l.at_,qI l.least,qI l.most,.bool l.has] 87):=by
 obtain⟨r,f⟩:=qE (AZ l);rw[<-f];unfold AZ at f;obtain⟨a,b,c,d⟩:=l;simp only at f h g ⊢;cases d with
 | true=>have i:=g rfl;obtain⟨k,rfl⟩:∃k:Nat,c=k:=⟨c.toNat,qo⟩;simp at f;subst f;have j:IntKind.i64.wrap (r:Int)=(r:Int):=qaf _ ⟨qo,qo⟩;clear h g i;go_enter func28,ntmps28;go_wp2;go_ret;exact⟨rfl,rfl⟩
 | false=>simp at f;subst f;clear h g;go_enter func28,ntmps28;go_wp2;go_ret;exact⟨rfl,rfl⟩
section
variable {w0 w:qW}{G:Gm}{E:Ev}{Q:Nat->Gf}{rb Y most:Nat}{tv fv ev bv vm vg:qv}{Xq:List It}{s s':Rn}{Ti To:Nat->qv}{m:dX}{mem:qM}{dW:List Int}{T:Nat->Int}
theorem TJ(b:jg Xq G E Q fv)(e:EvB E)(g:E.most=most)(i:most<=10000)(j:E.lf=VK)(l:E.sf=Pj):VO 197 w0 G E rb Y tv fv ev bv most Xq 36 (lD E):=λq f k why F p s s' w h a X _ hl hm hc=>
 have d:=((e.loc f F a).2.2 p (qai X)).1;PG h b a X hl hm i g hc (λc=>Jr h b a X d hl hm l hc c) (λn o c=>MH h b a X d hl hm j hc n o c)
theorem TI(d:jg Xq G E Q fv)(e:EvB E)(g:Gz T w0)(i:∀x a b,FQ T x a b (E.nf x a b)):VO 198 w0 G E rb Y tv fv ev bv most Xq 64 (ou E):=λl f k why F p s s' w h c X j hl hm hc=>
 PD h g d c X hl i ((e.loc f F c).2.2 p (qai X)).2 j hc
theorem SK(c:jg Xq G E Q fv)(f:Cf Xq E tv bv Ti To)(g:sI m E)(d:EvB E)(h:E.most=most)(i:most<=10000)(j:E.lf=VK)(k:E.sf=Pj)(l:Gz T w0)(n:∀x a b,FQ T x a b (E.nf x a b)):OX w0 m G E Q Ti To Y tv fv ev bv most Xq:=
 ⟨c,f,g,d,λrb o e=>TJ (c.mono e) d h i j k,λrb o e=>TI (c.mono e) d l n,qo⟩
theorem JL{f n why left:Nat}{F:PF}(h:Sx w0 w (MI Y tv fv ev bv most vm vg mem dW Xq))(hC:OX w0 m G E Q Ti To Y tv fv ev bv most Xq)(i:E.fs[f]?=some F)(j:F.ty.ins=[])(u:dW.length=m.dI.length)(x:mem.length%64=0/\mem.length<=64*E.most)(k:lI E n 1000 (zS F f [] mem dW)=some (s',why,left)):
  qC 31 #[qP Y,qJ f] w λe w'=>KX w0 Xq w'/\(why=0->qU e/\∃a b,Sx w0 w' (MI Y tv fv ev bv most a b s'.mem s'.dW Xq))/\(why≠0->e=fo 11 (why:Nat)):=by
 have l:=qH (GI (av:=qN) h hC i (by rw[j];rfl) (by rw[j];simp) u x qo ⟨none,0,rfl,λh=>by simp at h⟩ k);clear h hC i k;go_enter func31,ntmps31;go_wp2_with fail
 refine l.o.mono ?_;rintro e w1⟨q,a,b,rs,rfl,y,U⟩;obtain⟨B,C,z⟩:=Row.shape (jl.row (tl:=[It.r 2 1 q rs.length (eD rs)]) (E:=2) (sz:=1) (v:=q) (n:=rs.length) (xs:=eD rs) (.inr (.inl qs)) U (λp hp=>by simp at hp;subst hp;simp[MI]));subst z;have t:Sx w0 w1 (MI Y tv fv ev bv most a b s'.mem s'.dW Xq):=U.sub (by simp only[MI];exact .cons_cons _ (.cons_cons _ (.cons_cons _ (qbj _ _))));have d:=qH t;clear l U t y;by_cases h0:why=0
 .have A:(why:Int)=0:=qo;have g:=qH h0;clear h0;go_wp2;go_end0;exact⟨⟨_,d.o.alloc _,λp hp=>by simp[MI,hp]⟩,λ_=>⟨rfl,_,_,d.o.alloc _⟩,λc=>absurd g.o c⟩
 have A:¬(why:Int)=0:=qo;have g:=qH h0;clear h0;go_wp2_with fail
 refine(iK _ _ _).mono ?_;rintro e D⟨rfl,rfl⟩;exact⟨rfl,⟨_,d.o.alloc _,λp hp=>by simp[MI,hp]⟩,λc=>absurd c g.o,λ_=>rfl⟩
end
theorem Pe{w0 w1:qW}{Xq:List It}{K:qD}{ts:List Ty}{tv:qv}(h:gI 100 2 nZ K ts w1 tv)(d:∀g,K g->w0.heap.size<=g)(e:∀g o,w0.heap.size<=g->w1.heap[g]?=some o->It.o g o∈Xq):
  ∃Ti To:Nat->qv,jl Xq 100 2 tv ts.length ((List.range ts.length).flatMap λt=>[Ti t,To t])/\∀(t:Nat)(T:Ty),ts[t]?=some T->jl Xq 80 1 (Ti t) T.ins.length (kindCells T.ins)/\jl Xq 80 1 (To t) T.outs.length (kindCells T.outs):=by
 obtain⟨css,i,f⟩:=h;have j:∀{ts:List Ty}{css:List (qV)},Each (λx cs=>nZ K x w1 cs/\cs.length=2) ts css->css.flatten=(List.range ts.length).flatMap λt=>[(css.getD t []).getD 0 .nilFunc,(css.getD t []).getD 1 .nilFunc]:=by
  intro ts;induction ts with
  | nil=>intro css h;cases css with
   | nil=>rfl
   | cons a b=>exact h.elim
  | cons a r k=>intro css h;cases css with
   | nil=>exact h.elim
   | cons c cs=>obtain⟨⟨⟨n,p,rfl,-,-⟩,-⟩,q⟩:=h;rw[qdy,k q,qbb,List.range_succ_eq_map,qci,List.flatMap_map];rfl
 refine⟨λt=>(css.getD t []).getD 0 .nilFunc,λt=>(css.getD t []).getD 1 .nilFunc,?_,λt T u=>?_⟩
 .rw[<-j f];exact jl.old i d e
 obtain⟨cs,v,⟨⟨n,p,rfl,U,y⟩,-⟩⟩:=f.get u;simp only[qag (l:=css),v];exact⟨jl.old U d e,jl.old y d e⟩
section
variable {w0 w1 w:qW}{K:qD}{X0 Xq Lq:List It}{G:Gm}{E:Ev}{Q:Nat->Gf}{fv:qv}
theorem Vo(h:VG K w1 Lq G E.fs Q)(j:0<E.fs.length)(d:∀g,K g->w0.heap.size<=g)(e:∀g o,w0.heap.size<=g->w1.heap[g]?=some o->It.o g o∈X0)(l:Sx w0 w (.r 104 5 fv E.fs.length (tO G E.fs Q)::Xq))(h0:∀p∈X0,p∈Xq)(n:∀p∈Lq,p∈Xq):
  ∃b,jg (.r 104 5 fv E.fs.length (tO G E.fs Q)::Xq) ⟨b,G.bg,G.sg⟩ E Q fv:=by
 obtain⟨b,A,hv,-⟩:=Row.cells (l.isRow 0 rfl) j;have i:∀p∈X0,p∈It.r 104 5 fv E.fs.length (tO G E.fs Q)::Xq:=λp hp=>qcc _ (h0 p hp);have c:∀p∈Lq,p∈It.r 104 5 fv E.fs.length (tO G E.fs Q)::Xq:=λp hp=>qcc _ (n p hp);exact⟨b,⟨A,hv,.inr (.inl qbz)⟩,λf F a=>(h.bl f F a).mono c,λf F a=>⟨(h.Z f F a).1.mono c,(h.Z f F a).2⟩,λf F a k p X=>(h.lb f F a k p X).mono c,λf F a=>⟨(jl.old (h.ki f F a).1 d e).mono i,(jl.old (h.ki f F a).2 d e).mono i⟩⟩
end
def He(v:Value):Prop:=∃p n c,v=.slice p n c
structure Made(T:Nat->Int)(m:dX)(E:Ev)(xs:List Xp)(tv fv ev bv:Value)(most:Nat)(Xq:List It):Prop where
 run:E.fs≠[]->∃G Q Ti To,∀(W:World)(Y:Nat),Gz T W->OX W m G E Q Ti To Y tv fv ev bv most Xq
 exp:jl Xq 161 3 ev xs.length (xs.flatMap uV)
 sl:He tv/\He fv/\He ev/\He bv
theorem Made.mono{T:Nat->Int}{m:dX}{E:Ev}{xs:List Xp}{tv fv ev bv:qv}{most:Nat}{Xq f:List It}(h:Made T m E xs tv fv ev bv most Xq)(b:∀p∈Xq,p∈f):Made T m E xs tv fv ev bv most f:=by
 refine⟨λg=>?_,h.exp.mono b,h.sl⟩;obtain⟨G,Q,Ti,To,i⟩:=h.run g;exact⟨G,Q,Ti,To,λW j k=>have a:=i W j k;⟨a.fF.mono b,a.tT.mono b,a.eE,a.bB,λc d e=>a.mM c d (λp hp=>e p (b p hp)),λc d e=>a.nN c d (λp hp=>e p (b p hp)),a.mo⟩⟩
section
variable {W0 w W:qW}{s:qS}{m:dX}{K:qD}{X0 Xq Lq:List It}{nf:Nat->Int->Int->Int×Nat}{T:Nat->Int}{G:Gm}{Q:Nat->Gf}{tv fv ev bv:qv}{iL:List Int}{xs:List Xp}
theorem S9(z:VG K w Lq G (ru s m m.dF.length) Q)(A:Sx W0 W (.r 104 5 fv m.dF.length (tO G (ru s m m.dF.length) Q)::(X0++Lq)))(B:gI 100 2 nZ K m.dx w tv)(f:∀g,K g->W0.heap.size<=g)(i:∀g o,W0.heap.size<=g->w.heap[g]?=some o->It.o g o∈X0)
  (C:It.r 3 1 bv iL.length (nY iL)∈Xq) (D:jl Xq 161 3 ev xs.length (xs.flatMap uV)) (k:∀p∈It.r 104 5 fv m.dF.length (tO G (ru s m m.dF.length) Q)::(X0++Lq),p∈Xq)
  (ho:iX s.size m) (c:IP s m) (H:x9 m) (I:s.size<=5000) (hc:m.dF.length=m.funcs.length) (J:sZ 0 m.elems (iM m)=.ok iL) (l:∀x a b,FQ T x a b (nf x a b)/\(nf x a b).2<=7) (L:He tv/\He fv/\He ev/\He bv):
  Made T m (kE nf s m iL) xs tv fv ev bv (eH m) Xq:=by
 refine⟨λM=>?_,D,L⟩;have q:(kE nf s m iL).fs.length=m.dF.length:=by simp[kE]
 have V:(kE nf s m iL).fs=ru s m m.dF.length:=rfl;have d:0<(kE nf s m iL).fs.length:=by
  cases N:(kE nf s m iL).fs with
  | nil=>exact absurd N M
  | cons a b=>simp
 have u:=Ru ho c J;obtain⟨X,O⟩:=Vo (E:=kE nf s m iL) (w0:=W0) (w:=W) (Xq:=X0++Lq) (fv:=fv) (X0:=X0) z d f i (by rw[q];exact A) (λp hp=>by simp[hp]) (λp hp=>by simp[hp]);obtain⟨Ti,To,U,v⟩:=Pe B f i;have e:∀p∈X0,p∈Xq:=λp hp=>k p (by simp[hp]);have P:=Rt (nf:=nf) ho c hc u;have R:=Wn (iL:=iL) (s:=s) ho I (λx a b=>(l x a b).2);have Y:=(EM ho c H).2.2;refine⟨_,Q,Ti,To,λZ aa S=>SK (O.mono (λp hp=>k p (by rw[q]at hp;exact hp))) ⟨.inr (.inl C),U.mono e,λt Ty y=>⟨(v t Ty y).1.mono e,(v t Ty y).2.mono e⟩,λn d=>?_,λj F c=>?_⟩ P R rfl qo rfl rfl S (λx a b=>(l x a b).1)⟩
 .obtain h | h:=u n d<;>omega
 obtain⟨hj,rfl⟩:=xL c;have:=La ho j;exact⟨by show(dM m j).ins.length<=50;omega,by show(dM m j).outs.length<=50;omega⟩
theorem SC{l:tZ}(h:m.tables[0]?=some l):iM m=List.replicate l.least.toNat (-1):=by
 unfold iM;cases c:m.tables with
 | nil=>rw[c]at h;cases h
 | cons a b=>rw[c]at h;cases h;rfl
theorem Pg(c:IP s m):(iM m).length<=20:=by
 unfold iM;cases d:m.tables with
 | nil=>simp
 | cons a b=>have:=c.tables a (by rw[d];exact qbz);simp;omega
theorem SY{l:tZ}(h:m.fP[0]?=some l):jW m=List.replicate (l.least.toNat*64) 0/\eH m=AZ l:=by
 unfold jW eH;cases c:m.fP with
 | nil=>rw[c]at h;cases h
 | cons a b=>rw[c]at h;cases h;exact⟨rfl,rfl⟩
theorem Md{E:Ev}{Z:List (Int×Nat)}{i:Nat}{mem:qM}{dW:List Int}{F:PF}{s':Rn}{why left:Nat}(a:i<Z.length)(b:E.fs[Z[i].1.toNat]?=some F)(c:lI E (51*1000+2) 1000 (zS F Z[i].1.toNat [] mem dW)=some (s',why,left)):vF E (Z.drop i) mem dW=if why=0 then vF E (Z.drop (i+1)) s'.mem s'.dW else .error (11,why):=by
 rw[qan a,vF,b];simp only;rw[c]
end
theorem JB{w:qW}{a n:Nat}{b:qO}{c:Nat}(d:n=0):qC 30 #[qP a,.slice b n c] w λe w'=>qU e/\w'=w:=by
 subst d;go_enter func30,ntmps30;go_wp2_with fail
 go_loopg [4,5,6,9] 0 (λg h i j f wr=>f=qJ 0/\wr=w)
 case atStart=>exact⟨rfl,rfl⟩
 obtain⟨rfl,rfl⟩:=hrel;go_wp2;go_end0;exact⟨rfl,rfl⟩
theorem Sx.SX{w0 w:qW}{l:List It}(h:Sx w0 w l)(cs:Array qv)(E:TypeId)(sz n:Nat)(a:cs.size=n*sz)(b:n<=100000):Sx w0 (w.alloc (.cells cs E)) (l++[.r E sz (qL w.heap.size n n) n cs.toList]):=
 h.add (qr.alloc _) ⟨by simpa using a,.inr ⟨w.heap.size,n,cs,rfl,h.kept.size,World.alloc_heap_new w _,qR,by unfold maxLen;omega,a,by rw[qbo (by simp[a])]⟩⟩ (λg e=>by simp[It.own,Value.ownBlock]at e;omega)
theorem VS{X0 Zq Lq:List It}:((X0++Zq)++Lq).Perm ((X0++Lq)++Zq):=by
 exact FO
theorem SB{P:Program}{c:Region.Mode}{b:Array Oper}{Q:Exit->Act->qW->Prop}{S:qW->Prop}{x i j fuel:Nat}{d:Array Bool}{a:Act}{w:qW}(f:Region.ready c b d=[i,j])
  (U:wpOp P b Q i (λe w'=>(i=x\/S w')/\jo P c b Q S x fuel (d.setIfInBounds i true) e w') a w) (g:wpOp P b Q j (λe w'=>(j=x\/S w')/\jo P c b Q S x fuel (d.setIfInBounds j true) e w') a w):jo P c b Q S x (fuel+1) d a w:=
 ⟨λh0=>(by rw[f]at h0;cases h0),λk X=>(by rw[f]at X;obtain rfl | X:=qav.1 X;exact U;cases qak.1 X;exact g)⟩
section
variable {W0 wm w:qW}{s:qS}{m:dX}{K:qD}{Y:Nat}{X0 Zq:List It}{nf:Nat->Int->Int->Int×Nat}{T:Nat->Int}
theorem PE(bm:qK W0 wm)(hS:Sx W0 w (X0++Zq))(hX:∀g o,W0.heap.size<=g->wm.heap[g]?=some o->It.o g o∈X0)(hM:MV s K wm Y m)(hK:∀g,K g->W0.heap.size<=g)(ho:iX s.size m)(hF:IP s m)(hB:x9 m)(hs:s.size<=5000)(bn:je s m)(hc:m.dF.length=m.funcs.length)(hG:Gz T W0)(bo:∀x a b,FQ T x a b (nf x a b)/\(nf x a b).2<=7):
  qC 14 #[qP Y] w λe w'=>KX W0 Zq w'/\
   (∀E mem dW,rq nf s m=.ok (E,mem,dW)->∃tv fv ev bv vm vg Xq,e=.returned (.agg #[tv,fv,ev,bv,vm,qJ (eH m:Nat),vg])/\Sx W0 w' (.r 5 1 vm mem.length (jr mem)::.r 2 1 vg dW.length (eD dW)::(Xq++Zq))/\Made T m E (gU m.dw) tv fv ev bv (eH m) Xq)/\
   ∀q p:Nat,rq nf s m=.error (q,p)->e=fo (q:Nat) (p:Nat):=by
 obtain⟨N,aL⟩:=qE (X0++Zq);rw[<-aL]at hS;have aY:Old W0 wm N:=(Old.mk bm hX).mono (λp hp=>by rw[aL];simp[hp]);have bp:=aY w N hS (λp hp=>hp);have au:=qH aL;have aj:=hM.lt;have HM:=qH hM;obtain⟨-,f,bq,hH⟩:=hM;obtain⟨⟨⟨M0,-⟩,⟨M1,-⟩,⟨M2,-⟩,⟨M3,-⟩,⟨M4,-⟩,⟨M5,-⟩⟩,⟨M6,-⟩,⟨M7,-⟩,⟨M8,-⟩,⟨M9,-⟩,-⟩:=jf.twelve bq;obtain⟨H,I,e0⟩:∃p c,f.v0=qX p m.dx c:=by obtain⟨css,U,-⟩:=hH.h0;exact Row.shape U
 obtain⟨p2,k2,e2⟩:∃p c,f.v2=qX p m.tables c:=Row.shape hH.L;obtain⟨p3,k3,e3⟩:∃p c,f.v3=qX p m.fP c:=Row.shape hH.h3;obtain⟨p4,k4,e4⟩:∃p c,f.v4=qX p m.dI c:=Row.shape hH.h4;obtain⟨p6,k6,e6⟩:∃p c,f.v6=qX p m.starts c:=Row.shape hH.h6;obtain⟨p7,k7,e7⟩:∃p c,f.v7=qX p m.elems c:=by obtain⟨css,U,-⟩:=hH.h7;exact Row.shape U
 obtain⟨p9,k9,e9⟩:∃p c,f.v9=qX p m.data c:=Row.shape hH.h9;have R0:=hH.h0;have R2:=hH.L;have R3:=hH.h3;have R4:=hH.h4;have R6:=hH.h6;have R7:=hH.h7;have R9:=hH.h9;rw[e0]at M0 R0;rw[e2]at M2 R2;rw[e3]at M3 R3;rw[e4]at M4 R4;rw[e6]at M6 R6;rw[e7]at M7 R7;rw[e9]at M9 R9;have an:qh (gI 100 2 nZ K m.dx wm (qX H m.dx I)/\isRow 87 4 tZ.cells K m.tables wm (qX p2 m.tables k2)/\isRow 87 4 tZ.cells K m.fP wm (qX p3 m.fP k3)/\isRow 84 5 Cn.cells K m.dI wm (qX p4 m.dI k4)/\isRow 93 2 numCells K m.starts wm (qX p6 m.starts k6)/\gI 125 5 kS K m.elems wm (qX p7 m.elems k7)/\isRow 135 5 Dat.cells K m.data wm (qX p9 m.data k9)):=⟨R0,R2,R3,R4,R6,R7,R9⟩;have ah:qh (∀V,qK wm V->Y<V.heap.size/\V.cell? (qA Y 0)=some (qX H m.dx I)/\V.cell? (qA Y 2)=some (qX p2 m.tables k2)/\V.cell? (qA Y 3)=some (qX p3 m.fP k3)/\V.cell? (qA Y 4)=some (qX p4 m.dI k4)/\V.cell? (qA Y 6)=some (qX p6 m.starts k6)/\V.cell? (qA Y 7)=some (qX p7 m.elems k7)/\V.cell? (qA Y 9)=some (qX p9 m.data k9)):=λV hV=>
  ⟨qad aj hV.size,(hV.cell (p:=(qA Y 0)) aj (λc=>c)).trans M0,(hV.cell (p:=(qA Y 2)) aj (λc=>c)).trans M2,(hV.cell (p:=(qA Y 3)) aj (λc=>c)).trans M3,(hV.cell (p:=(qA Y 4)) aj (λc=>c)).trans M4,(hV.cell (p:=(qA Y 6)) aj (λc=>c)).trans M6,(hV.cell (p:=(qA Y 7)) aj (λc=>c)).trans M7,(hV.cell (p:=(qA Y 9)) aj (λc=>c)).trans M9⟩
 have U:=hS.new #[qN,qN,qN,qN,qN,qJ 0,qN] 52;have br:=qH (CW HM.o (bp.alloc (.cells #[qN,qN,qN,qN,qN,qJ 0,qN] 52)) ho hF hs bn hc);have H1:=qH U;have HO:=qH ho;have HF:=qH hF;have HB:=qH hB;have ad:=qH aY;have HX:=qH hX;have ck:=qH hK;have HC:=qH hc;have HG:=qH hG;have cn:=qH bo;have co:=qH hs;clear aL bm bq hH e0 e2 e3 e4 e6 e7 e9 R0 R2 R3 R4 R6 R7 R9 M0 M1 M2 M3 M4 M5 M6 M7 M8 M9 U hS hX bp aY hK ho hF hB hs bn hc hG bo;go_enter func14,ntmps14;go_wp2_with fail
 refine br.o.mono ?_;rintro e w2⟨fv,G,Q,Lq,rfl,ae,hP⟩;obtain⟨R,aZ⟩:=qE w.heap.size;have M:Sx W0 w2 (.b R [qN,qN,qN,qN,qN,qJ 0,qN]::.r 104 5 fv m.dF.length (tO G (ru s m m.dF.length) Q)::(N++Lq)):=by
  rw[aZ];refine(H1.o.join ae).perm ?_;rw[qaj];refine(qbi (l₁:=N)).trans ?_;refine List.Perm.cons _ (List.Perm.cons _ qbi)
 obtain⟨D,cf,rfl⟩:=Row.shape (M.isRow 1 rfl);have HP:=qH hP;have h4:=M.drew;have af:=ad.o _ _ h4 (λp hp=>by simp[hp]);have a7:=qH (zb (HM.o.kept af (λ_ _ _ c=>c)) HO.o (λe he=>by have:=HB.o.BC e he;omega));have bs:(λV:qW=>V.cell? (qA Y 0)=some (qX H m.dx I)) w2.drew:=(ah.o _ af).2.1;have m0:=(ah.o _ af).1;simp only[World.size_drew]at m0;rw[<-aZ];have H4:=qH h4;have H3:=qH M;clear br H1 ae M hP h4 aZ;go_wp2_with fail
 rename_i KK bu;have bw:∀(O:Nat)(z:qO)(B:Nat)(W:qW),qh (Sx W0 W (.b O [qX H m.dx I,qX D m.dF cf,qX z (gU m.dw) B,qN,qN,qJ 0,qN]::It.r 161 3 (qX z (gU m.dw) B) (gU m.dw).length ((gU m.dw).flatMap uV)::.b R [qN,qN,qN,qN,qN,qJ 0,qN]::.r 104 5 (qX D m.dF cf) m.dF.length (tO G (ru s m m.dF.length) Q)::(N++Lq)))->KK ⟨#[Value.pointer (some (qA Y 0)),undef,qP R,qX D m.dF cf,qP O,undef,undef,undef,undef,undef,undef,undef,undef,Value.pointer (some (qA Y 0)),qX D m.dF cf,Value.pointer (some (qA Y 0)),Value.pointer (some (qA Y 0)),Value.pointer (some (qA Y 0)),qX H m.dx I,qX D m.dF cf,Value.pointer (some (qA Y 0)),qX z (gU m.dw) B,.agg #[qX H m.dx I,qX D m.dF cf,qX z (gU m.dw) B,qN,qN,qJ 0,qN],undef,undef,undef,undef,undef,undef,undef,undef,undef,undef,undef,undef,undef,undef,undef,undef,undef,undef,undef,undef,undef,undef,undef,undef,undef,undef,undef,undef,undef,undef,undef,undef,undef,undef,undef,undef,undef,undef,undef,undef,undef,undef,undef,undef,undef,undef,undef,undef,undef,undef,undef,undef,undef,undef,undef,undef,undef,undef,undef,undef,undef,undef,undef,undef,undef,undef,undef,undef,undef,undef,undef,undef,undef,undef,undef,undef,undef,undef],[]⟩ W:=by
  clear bs a7 H4 H3 m0 af;intro O z B W H7;refine bu _ _ ?_;clear bu;have bz:=ad.o _ _ H7.o (λp hp=>by simp[hp]);obtain⟨m0,-,-,-,M4,-⟩:=ah.o _ bz;go_wp2_with fail
  have Z:Sx W0 W (.b O [qX H m.dx I,qX D m.dF cf,qX z (gU m.dw) B,qN,qN,qJ 0,qN]::.r 2 1 (qN) 0 (eD [])::It.r 161 3 (qX z (gU m.dw) B) (gU m.dw).length ((gU m.dw).flatMap uV)::.b R [qN,qN,qN,qN,qN,qJ 0,qN]::It.r 104 5 (qX D m.dF cf) m.dF.length (tO G (ru s m m.dF.length) Q)::(N++Lq)):=(H7.o.nil 2 1).perm (by
   exact TZ)
  have H8:=qH Z;obtain⟨i0,cp,cr,cu,cw⟩:=qap Tryz.Lu;have cU:=HO.o.dI.1;clear Z H7 bz M4 m0;go_loopg [6,28] m.dI.length (λgk u6 cx wr=>∃(i:Nat)(vg:qv),gk=m.dI.length - i/\i<=m.dI.length/\cx=qJ i/\Sx W0 wr (.b O [qX H m.dx I,qX D m.dF cf,qX z (gU m.dw) B,qN,qN,qJ 0,vg]::.r 2 1 vg i (eD ((jK m).take i))::It.r 161 3 (qX z (gU m.dw) B) (gU m.dw).length ((gU m.dw).flatMap uV)::.b R [qN,qN,qN,qN,qN,qJ 0,qN]::It.r 104 5 (qX D m.dF cf) m.dF.length (tO G (ru s m m.dF.length) Q)::(N++Lq)))
  case atStart=>exact⟨0,_,rfl,qZ,rfl,H8.o⟩
  clear H8;obtain⟨i,vg,a8,hi,rfl,C⟩:=hrel;have X:=ad.o _ _ C (λp hp=>by simp[hp]);by_cases aa:i<m.dI.length
  .have t1:(i:Int)<(m.dI.length:Int):=qo;obtain⟨g4,c4,e4,-,bA,cV,bC⟩:=Row.cells an.o.2.2.2.1 qo;cases e4;have hx:m.dI[i]?=some m.dI[i]:=qab aa;have ab:∀o,o<5->wr.cell? ⟨g4,i*5+o,none⟩=(Cn.cells m.dI[i])[o]?:=λo ho=>((X.cell (p:=⟨g4,i*5+o,none⟩) bA (λc=>c)).trans (bC (i*5+o) qo)).trans (flat_get (m:=5) (o:=o) (λ_=>rfl) hx ho);have bD:qh (eD ((jK m).take (i+1))=eD ((jK m).take i)++[qJ m.dI[i].first.val]):=by
    show _=_;rw[qbg (by rw[uI];exact aa)];simp[eD,jK]
   generalize m.dI[i]=x at*;obtain⟨xk,xs,⟨xa,xq,xv⟩⟩:=x;simp only at bD;have C0:=ab 0 qo;have C1:=ab 1 qo;have C2:=ab 2 qo;have C3:=ab 3 qo;have C4:=ab 4 qo;simp only[Cn.cells,qas,qbh,qdz]at C0 C1 C2 C3 C4;have cW:g4<wr.heap.size:=qad bA X.size;obtain⟨pv,cv,aD⟩:=Row.shape (C.isRow 1 rfl);subst aD;obtain⟨a6,-⟩:=C.c 0 6 rfl rfl;have m4:=C.lt 0 rfl;have aM:=qH ((C.alloc (.cells #[qB xk,.bool xs,qJ xa,qB xq,qJ xv] 84)).alloc (.cells #[qJ xv] 2));have HI:=qH aa;clear C ab bC hx X aa;go_wp2_with (at_builtin;refine wpList_append_lies _ rfl _ _ 29 rfl W0.heap.size 2 i0 (qJ 0) 1 8 qk cp cr cu cw rfl qx _ _ _ rfl (aM.o.row 1 rfl) ⟨_,0,none⟩ 1 1 [_] rfl rfl (cells_at qs rfl) ?c2 qo ?c3 ?c4 ?c5 (wr.heap.size+1+1) qs ?_)
   case c2=>first | rfl | (intro u hu;simp at hu;subst hu;rfl)
   case c3=>unfold maxLen;omega
   case c4=>omega
   case c5=>exact aM.o.kept.size
   intro gg A w3 bE bF bG cX;have M:=aM.o.app 1 bE bF (by obtain c | c:=bG;exact .inl c;exact .inr qt) rfl;obtain⟨d2,f2⟩:=M.c 0 6 rfl rfl;have cY:=M.lt 0 rfl;have h4:=M.set 0 6 (qL gg (i+1) A) rfl;have H4:=qH h4;clear bE bF bG M h4 aM;go_wp2;go_roundg (m.dI.length - (i+1))
   case measure=>have:=HI.o;omega
   refine⟨i+1,qL gg (i+1) A,rfl,HI.o,by push_cast;rfl,?_⟩;rw[bD.o];exact H4.o
  have t1:¬(i:Int)<(m.dI.length:Int):=qo;have bH:i=m.dI.length:=qo;have bI:(jK m).take i=jK m:=qbo (by rw[uI];omega);rw[bI,bH]at C;obtain⟨pv,cv,aD⟩:=Row.shape (C.isRow 1 rfl);subst aD;obtain⟨m0,-,M2,-⟩:=ah.o _ X;have HT:=qH C;clear C aa bH bI X;go_wp2_with fail
  have Z:Sx W0 wr (.b O [qX H m.dx I,qX D m.dF cf,qX z (gU m.dw) B,qN,qN,qJ 0,qX pv m.dI cv]::.r 3 1 (qN) (0:Nat) (nY [])::.r 2 1 (qX pv m.dI cv) m.dI.length (eD (jK m))::It.r 161 3 (qX z (gU m.dw) B) (gU m.dw).length ((gU m.dw).flatMap uV)::.b R [qN,qN,qN,qN,qN,qJ 0,qN]::It.r 104 5 (qX D m.dF cf) m.dF.length (tO G (ru s m m.dF.length) Q)::(N++Lq)):=(HT.o.nil 3 1).perm (by
   exact TZ)
  have H8:=qH Z;have cZ:=HO.o.tables.1;clear Z HT M2 m0;go_loopg [8,46] m.tables.length (λgk u8 cy wr=>∃(i:Nat)(bv:qv)(iL:List Int),gk=m.tables.length - i/\i<=m.tables.length/\cy=qJ i/\(i=0->iL=[])/\(0<i->iL=iM m)/\Sx W0 wr (.b O [qX H m.dx I,qX D m.dF cf,qX z (gU m.dw) B,bv,qN,qJ 0,qX pv m.dI cv]::.r 3 1 bv iL.length (nY iL)::.r 2 1 (qX pv m.dI cv) m.dI.length (eD (jK m))::It.r 161 3 (qX z (gU m.dw) B) (gU m.dw).length ((gU m.dw).flatMap uV)::.b R [qN,qN,qN,qN,qN,qJ 0,qN]::It.r 104 5 (qX D m.dF cf) m.dF.length (tO G (ru s m m.dF.length) Q)::(N++Lq)))
  case atStart=>exact⟨0,_,[],rfl,qZ,rfl,λ_=>rfl,λh=>qo,H8.o⟩
  clear H8;obtain⟨i,bv,iL,a8,hi,rfl,ak,ao,C⟩:=hrel;have X:=ad.o _ _ C (λp hp=>by simp[hp]);by_cases aa:i<m.tables.length
  .obtain rfl:i=0:=qo;have t1:((0:Nat):Int)<(m.tables.length:Int):=qo;have cz:(0:Int)<(m.tables.length:Int):=qo;obtain⟨g2,c2,e2,-,aE,c7,bJ⟩:=Row.cells an.o.2.1 qo;cases e2;have hx:m.tables[0]?=some m.tables[0]:=qab aa;have ab:∀o,o<4->wr.cell? ⟨g2,0*4+o,none⟩=(tZ.cells m.tables[0])[o]?:=λo ho=>((X.cell (p:=⟨g2,0*4+o,none⟩) aE (λc=>c)).trans (bJ (0*4+o) qo)).trans (flat_get (m:=4) (o:=o) (λ_=>rfl) hx ho);have aw:=HF.o.tables _ (qai hx);have ai:=HB.o.tables _ (qai hx);have ap:=qH (SC hx);generalize m.tables[0]=x at*;obtain⟨xa,xl,xm,xh⟩:=x;simp only at aw ai ap;obtain⟨n,rfl⟩:∃n:Nat,xl=n:=⟨xl.toNat,qo⟩;have C0:=ab 0 qo;have C1:=ab 1 qo;have C2:=ab 2 qo;have C3:=ab 3 qo;simp only[tZ.cells,qas,qbh,qdz,Nat.zero_mul,qcf]at C0 C1 C2 C3;have c8:g2<wr.heap.size:=qad aE X.size;have m4:=C.lt 0 rfl;have wn:IntKind.i64.wrap (n:Int)=(n:Int):=qaf _ ⟨qo,qo⟩;have ae:=(C.alloc (.cells #[qJ xa,qI n,qI xm,.bool xh] 87)).alloc (.cells #[qJ (-1)] 3);have bK:=qH (Jt (w:=(wr.alloc (.cells #[qJ xa,qI n,qI xm,.bool xh] 87)).alloc (.cells #[qJ (-1)] 3)) (g:=wr.heap.size+1) (n:=n) qs (by simp[go_sem]) qo);have H2:=qH ae;have HI:=qH aa;clear C ab bJ hx X aa ae ak ao;go_wp2_with fail
   refine bK.o.mono ?_;rintro e w3⟨v,rfl,a9⟩;obtain⟨J,L,hv⟩:=Row.shape (a9.isRow 0 rfl);subst hv;have M:=H2.o.join a9;obtain⟨a3,b3⟩:=M.c 0 3 rfl rfl;have m5:=M.lt 0 rfl;have h4:=M.set 0 3 (.slice J n L) rfl;have H4:qh (Sx W0 (w3.setCell (qA O 3) (.slice J n L)) (.b O [qX H m.dx I,qX D m.dF cf,qX z (gU m.dw) B,.slice J n L,qN,qJ 0,qX pv m.dI cv]::.r 3 1 (.slice J n L) n (nY (List.replicate n (-1)))::.r 2 1 (qX pv m.dI cv) m.dI.length (eD (jK m))::It.r 161 3 (qX z (gU m.dw) B) (gU m.dw).length ((gU m.dw).flatMap uV)::.b R [qN,qN,qN,qN,qN,qJ 0,qN]::It.r 104 5 (qX D m.dF cf) m.dF.length (tO G (ru s m m.dF.length) Q)::(N++Lq))):=(h4.sub (.cons_cons _ (.cons _ (qbf _)))).perm (by
    exact TZ)
   clear M h4 a9 H2 bK;go_wp2;go_roundg (m.tables.length - 1)
   case measure=>have:=HI.o;omega
   refine⟨1,.slice J n L,List.replicate n (-1),rfl,HI.o,rfl,λh=>qo,λ_=>by rw[ap.o];simp,?_⟩;rw[qba];exact H4.o
  have t1:¬(i:Int)<(m.tables.length:Int):=qo;have ba:iL=iM m:=by
   by_cases h0:0<i
   .exact ao h0
   rw[ak qo];unfold iM;have:m.tables=[]:=qao qo;rw[this]
  subst ba;obtain⟨J,L,cA⟩:=Row.shape (C.isRow 1 rfl);subst cA;obtain⟨m0,-,-,M3,-⟩:=ah.o _ X;have HT:=qH C;clear C aa ak ao X;go_wp2_with fail
  have Z:Sx W0 wr (.b O [qX H m.dx I,qX D m.dF cf,qX z (gU m.dw) B,qX J (iM m) L,qN,qJ ((0:Nat):Int),qX pv m.dI cv]::.r 5 1 (qN) (0:Nat) (jr [])::.r 3 1 (qX J (iM m) L) (iM m).length (nY (iM m))::.r 2 1 (qX pv m.dI cv) m.dI.length (eD (jK m))::It.r 161 3 (qX z (gU m.dw) B) (gU m.dw).length ((gU m.dw).flatMap uV)::.b R [qN,qN,qN,qN,qN,qJ 0,qN]::It.r 104 5 (qX D m.dF cf) m.dF.length (tO G (ru s m m.dF.length) Q)::(N++Lq)):=(HT.o.nil 5 1).perm (by
   exact TZ)
  have H8:=qH Z;have c9:=HO.o.fP.1;obtain⟨i1,cB,cC,cD,cE⟩:=qap Tryz.info5;clear Z HT M3 m0;go_loopg [10,62] m.fP.length (λgk da cF wr=>∃(i:Nat)(vm:qv)(mem:qM)(most:Nat),gk=m.fP.length - i/\i<=m.fP.length/\cF=qJ i/\(i=0->mem=[]/\most=0)/\(0<i->mem=jW m/\most=eH m/\∃g,vm=qL g mem.length mem.length)/\Sx W0 wr (.b O [qX H m.dx I,qX D m.dF cf,qX z (gU m.dw) B,qX J (iM m) L,vm,qJ most,qX pv m.dI cv]::.r 5 1 vm mem.length (jr mem)::.r 3 1 (qX J (iM m) L) (iM m).length (nY (iM m))::.r 2 1 (qX pv m.dI cv) m.dI.length (eD (jK m))::It.r 161 3 (qX z (gU m.dw) B) (gU m.dw).length ((gU m.dw).flatMap uV)::.b R [qN,qN,qN,qN,qN,qJ 0,qN]::It.r 104 5 (qX D m.dF cf) m.dF.length (tO G (ru s m m.dF.length) Q)::(N++Lq)))
  case atStart=>exact⟨0,_,[],0,rfl,qZ,rfl,λ_=>⟨rfl,rfl⟩,λh=>qo,H8.o⟩
  clear H8;obtain⟨i,vm,mem,most,a8,hi,rfl,ak,ao,C⟩:=hrel;have X:=ad.o _ _ C (λp hp=>by simp[hp]);by_cases aa:i<m.fP.length
  .obtain rfl:i=0:=qo;obtain⟨rfl,rfl⟩:=ak rfl;have t1:((0:Nat):Int)<(m.fP.length:Int):=qo;have cz:(0:Int)<(m.fP.length:Int):=qo;obtain⟨g3,c3,e3,-,bL,db,bM⟩:=Row.cells an.o.2.2.1 qo;cases e3;have hx:m.fP[0]?=some m.fP[0]:=qab aa;have ab:∀o,o<4->wr.cell? ⟨g3,0*4+o,none⟩=(tZ.cells m.fP[0])[o]?:=λo ho=>((X.cell (p:=⟨g3,0*4+o,none⟩) bL (λc=>c)).trans (bM (0*4+o) qo)).trans (flat_get (m:=4) (o:=o) (λ_=>rfl) hx ho);have aw:=HF.o.fP _ (qai hx);have ai:=HB.o.fP _ (qai hx);have ap:=qH (SY hx);have aN:=qH (λW=>CR (w:=W) m.fP[0] ai (λhh=>(aw.2 hh).2));generalize m.fP[0]=x at*;obtain⟨xa,xl,xm,xh⟩:=x;simp only at aw ai ap aN;obtain⟨n,rfl⟩:∃n:Nat,xl=n:=⟨xl.toNat,qo⟩;obtain⟨mo,bN⟩:=qE (AZ ⟨xa,n,xm,xh⟩);rw[<-bN]at ap aN;have C0:=ab 0 qo;have C1:=ab 1 qo;have C2:=ab 2 qo;have C3:=ab 3 qo;simp only[tZ.cells,qas,qbh,qdz,Nat.zero_mul,qcf]at C0 C1 C2 C3;have dc:g3<wr.heap.size:=qad bL X.size;have m4:=C.lt 0 rfl;have wn:IntKind.i64.wrap (n:Int)=(n:Int):=qaf _ ⟨qo,qo⟩;obtain⟨q,hq⟩:=qE (n*64);obtain⟨Mq,hM⟩:=qE (madeCells (Value.int .u8 0).cells (((q:Nat):Int).toNat*i1.size));have bb:Mq.toList=List.replicate q (qB 0):=by
    rw[hM,cD];simp only[Int.toNat_natCast,qck];exact toList_madeCells_one _ _
   have bO:Mq.size=q:=by rw[<-qcw,bb];simp
   have bP:∀W:qW,(Instr.makeSlice 50 (qJ (q:Int)) (qJ (q:Int))).run prog W=.ok (qL W.heap.size q q) (W.alloc (.cells Mq 5)):=λW=>by
    have h:=run_make (P:=prog) W 50 5 i1 (qB 0) qk cB cC .i64 .i64 (q:Int) (q:Int) qo qo (by rw[cE];omega) qo;rw[<-hM]at h;simpa using h
   have dd:∀W:qW,(Instr.makeSlice 50 (qJ ((n:Int)*64)) (qJ ((n:Int)*64))).run prog W=.ok (qL W.heap.size q q) (W.alloc (.cells Mq 5)):=λW=>by rw[show(n:Int)*64=(q:Int) by omega];exact bP W
   have ae:=(C.set 0 4 (.slice (some ⟨wr.heap.size+1,0,none⟩) q q) rfl).alloc (.cells #[qJ xa,qI n,qI xm,.bool xh] 87);have M:=ae.SX Mq 5 1 q (by rw[bO];omega) qo;rw[bb]at M;simp only[qbn,World.size_setCell,qz,qw]at M;have h5:Sx W0 _ (.b O [qX H m.dx I,qX D m.dF cf,qX z (gU m.dw) B,qX J (iM m) L,.slice (some ⟨wr.heap.size+1,0,none⟩) q q,qJ ((0:Nat):Int),qX pv m.dI cv]::.r 5 1 (.slice (some ⟨wr.heap.size+1,0,none⟩) q q) q (jr (List.replicate q 0))::.r 3 1 (qX J (iM m) L) (iM m).length (nY (iM m))::.r 2 1 (qX pv m.dI cv) m.dI.length (eD (jK m))::It.r 161 3 (qX z (gU m.dw) B) (gU m.dw).length ((gU m.dw).flatMap uV)::.b R [qN,qN,qN,qN,qN,qJ 0,qN]::It.r 104 5 (qX D m.dF cf) m.dF.length (tO G (ru s m m.dF.length) Q)::(N++Lq)):=(M.sub (.cons_cons _ (.cons _ (qbf _)))).perm (by
    refine List.Perm.cons _ ?_;have e:jr (List.replicate q 0)=List.replicate q (qB 0):=by unfold jr;simp
    rw[e];exact(qbc _ _))
   obtain⟨a4,de⟩:=C.c 0 4 rfl rfl;have H5:=qH h5;have HI:=qH aa;have HQ:=qH hq;clear C ab bM hx X aa ae M h5 ak ao hM bb bO bN bP hq;go_wp2_with fail
   refine(aN.o _).mono ?_;rintro e w5⟨rfl,bQ⟩;have h6:=H5.o.alloc (.cells #[qJ xa,qI n,qI xm,.bool xh] 87);rw[<-bQ]at h6;clear bQ aN H5;obtain⟨a5,df⟩:=h6.c 0 5 rfl rfl;have m5:=h6.lt 0 rfl;have h7:=h6.set 0 5 (qJ mo) rfl;have H7:=qH h7;clear h6 h7;go_wp2;go_roundg (m.fP.length - 1)
   case measure=>have:=HI.o;omega
   have hq:=HQ.o;refine⟨1,.slice (some ⟨wr.heap.size+1,0,none⟩) q q,List.replicate q 0,mo,rfl,HI.o,rfl,λh=>qo,λ_=>⟨by rw[ap.o.1,hq];simp,by rw[ap.o.2],⟨wr.heap.size+1,by rw[qba]⟩⟩,?_⟩;rw[qba];exact H7.o
  have t1:¬(i:Int)<(m.fP.length:Int):=qo;have ba:mem=jW m/\most=eH m/\(m.fP≠[]->∃g,vm=qL g (jW m).length (jW m).length):=by
   by_cases h0:0<i
   .obtain⟨U,ae,M⟩:=ao h0;rw[U]at M;exact⟨U,ae,λ_=>M⟩
   obtain⟨U,ae⟩:=ak qo;have:m.fP=[]:=qao qo;refine⟨?_,?_,λh=>absurd this h⟩
   .rw[U];unfold jW;rw[this]
   rw[ae];unfold eH;rw[this]
  obtain⟨rfl,rfl,bR⟩:=ba;obtain⟨pm,cm,bc⟩:=Row.shape (C.isRow 1 rfl);subst bc;obtain⟨m0,-,-,-,-,-,M7,M9⟩:=ah.o _ X;have HT:=qH C;have cG:=qH bR;clear C aa ak ao X bR;go_wp2_with fail
  have bS:Sx W0 wr (TE O (qX H m.dx I) (qX D m.dF cf) (qX z (gU m.dw) B) (qX J (iM m) L) (qX pm (jW m) cm) (eH m) (qX pv m.dI cv) (iM m).length (iM m) (.r 5 1 (qX pm (jW m) cm) (jW m).length (jr (jW m))::.r 2 1 (qX pv m.dI cv) m.dI.length (eD (jK m))::It.r 161 3 (qX z (gU m.dw) B) (gU m.dw).length ((gU m.dw).flatMap uV)::.b R [qN,qN,qN,qN,qN,qJ 0,qN]::It.r 104 5 (qX D m.dF cf) m.dF.length (tO G (ru s m m.dF.length) Q)::(N++Lq))):=HT.o.perm (List.Perm.cons _ (List.Perm.swap _ _ _));have bT:=qH (JA bS (ad.o.mono (λp hp=>by simp[hp])) an.o.2.2.2.2.2.1 HO.o.elems.1 (λe he=>by
   have:=HO.o.elems.2 e he;unfold Ii at this;exact⟨this.2.2.1,λy hy=>⟨(this.2.2.2 y hy).1,(this.2.2.2 y hy).2.1⟩⟩) (Pg HF.o))
  clear bS HT;refine bT.o.mono ?_;rintro e w3⟨aF,al,am⟩;clear bT;rcases ax:sZ 0 m.elems (iM m) with⟨q,p⟩|iL
  .obtain rfl:=am q p ax;exact⟨rfl,aF.sub (λp hp=>by simp[au.o,hp]),λE mem dW h=>by(unfold rq at h;rw[ax]at h;cases h),λq' p' h=>by(unfold rq at h;rw[ax]at h;cases h;rfl)⟩
  obtain⟨rfl,M⟩:=al iL ax;have aG:Sx W0 w3 (TM O (qX H m.dx I) (qX D m.dF cf) (qX z (gU m.dw) B) (qX J (iM m) L) (qX pm (jW m) cm) (eH m) (qX pv m.dI cv) (jW m).length (jW m) (.r 3 1 (qX J (iM m) L) (iM m).length (nY iL)::.r 2 1 (qX pv m.dI cv) m.dI.length (eD (jK m))::It.r 161 3 (qX z (gU m.dw) B) (gU m.dw).length ((gU m.dw).flatMap uV)::.b R [qN,qN,qN,qN,qN,qJ 0,qN]::It.r 104 5 (qX D m.dF cf) m.dF.length (tO G (ru s m m.dF.length) Q)::(N++Lq))):=M.perm (List.Perm.cons _ (List.Perm.swap _ _ _));have af:=ad.o _ _ aG (λp hp=>by simp[hp]);have bU:=EM HO.o HF.o HB.o;have bV:qh (qC 30 #[qP O,qX p9 m.data k9] w3 λe w'=>KX W0 (.r 3 1 (qX J (iM m) L) (iM m).length (nY iL)::.r 2 1 (qX pv m.dI cv) m.dI.length (eD (jK m))::It.r 161 3 (qX z (gU m.dw) B) (gU m.dw).length ((gU m.dw).flatMap uV)::.b R [qN,qN,qN,qN,qN,qJ 0,qN]::It.r 104 5 (qX D m.dF cf) m.dF.length (tO G (ru s m m.dF.length) Q)::(N++Lq)) w'/\(∀t,uO 0 m.data (jW m)=.ok t->qU e/\Sx W0 w' (TM O (qX H m.dx I) (qX D m.dF cf) (qX z (gU m.dw) B) (qX J (iM m) L) (qX pm (jW m) cm) (eH m) (qX pv m.dI cv) (jW m).length t (.r 3 1 (qX J (iM m) L) (iM m).length (nY iL)::.r 2 1 (qX pv m.dI cv) m.dI.length (eD (jK m))::It.r 161 3 (qX z (gU m.dw) B) (gU m.dw).length ((gU m.dw).flatMap uV)::.b R [qN,qN,qN,qN,qN,qJ 0,qN]::It.r 104 5 (qX D m.dF cf) m.dF.length (tO G (ru s m m.dF.length) Q)::(N++Lq))))/\∀q p:Nat,uO 0 m.data (jW m)=.error (q,p)->e=fo (q:Nat) (p:Nat)):=by
   by_cases hd:m.data=[]
   .refine(JB (by rw[hd];rfl)).mono ?_;rintro e w4⟨rfl,rfl⟩;rw[hd];exact⟨⟨_,aG,λp hp=>by simp[hp]⟩,λt h=>by cases h;exact⟨rfl,aG⟩,λq p h=>by cases h⟩
   obtain⟨d,cH⟩:∃d,d∈m.data:=by
    cases hq:m.data with
    | nil=>exact absurd hq hd
    | cons a b=>exact⟨a,qbz⟩
   have bW:=HF.o.data d cH;obtain⟨g,hg⟩:=cG.o (λc=>by rw[c]at bW;simp at bW);simp only[Value.slice.injEq]at hg;obtain⟨rfl,-,rfl⟩:=hg;exact JC aG (ad.o.mono (λp hp=>by simp[hp])) an.o.2.2.2.2.2.2 HO.o.data.1 HB.o.data qo qR
  obtain⟨cI,-,-,-,-,-,cJ,cK⟩:=ah.o _ af;have aH:=qH ax;have bX:=qH bU;clear al am ax M aG aF bU M7 M9 m0 af;go_wp2_with fail
  refine bV.o.mono ?_;rintro e w4⟨aF,al,am⟩;clear bV;rcases aq:uO 0 m.data (jW m) with⟨q,p⟩|ag
  .obtain rfl:=am q p aq;exact⟨rfl,aF.sub (λp hp=>by simp[au.o,hp]),λE mem dW h=>by(unfold rq at h;rw[aH.o]at h;simp only at h;rw[aq]at h;cases h),λq' p' h=>by(unfold rq at h;rw[aH.o]at h;simp only at h;rw[aq]at h;cases h;rfl)⟩
  obtain⟨rfl,M⟩:=al ag aq;have bd:=BI aq;have cL:=Ig aH.o;have aO:Sx W0 w4 (MI O (qX H m.dx I) (qX D m.dF cf) (qX z (gU m.dw) B) (qX J (iM m) L) (eH m) (qX pm (jW m) cm) (qX pv m.dI cv) ag (jK m) (.r 3 1 (qX J (iM m) L) (iM m).length (nY iL)::It.r 161 3 (qX z (gU m.dw) B) (gU m.dw).length ((gU m.dw).flatMap uV)::.b R [qN,qN,qN,qN,qN,qJ 0,qN]::It.r 104 5 (qX D m.dF cf) m.dF.length (tO G (ru s m m.dF.length) Q)::(N++Lq))):=by
   have h5:=M.perm (List.Perm.cons _ (List.Perm.cons _ (List.Perm.swap _ _ _)));simp only[MI];rw[bd,uI];exact h5
  have be:Made T m (kE nf s m iL) (gU m.dw) (qX H m.dx I) (qX D m.dF cf) (qX z (gU m.dw) B) (qX J (iM m) L) (eH m) (.r 3 1 (qX J (iM m) L) (iM m).length (nY iL)::It.r 161 3 (qX z (gU m.dw) B) (gU m.dw).length ((gU m.dw).flatMap uV)::It.r 104 5 (qX D m.dF cf) m.dF.length (tO G (ru s m m.dF.length) Q)::(X0++Lq)):=by
   refine S9 (W:=w4) (X0:=X0) (Lq:=Lq) HP.o ?_ an.o.1 ck.o HX.o ?_ ?_ ?_ HO.o HF.o HB.o co.o HC.o aH.o cn.o ⟨⟨_,_,_,rfl⟩,⟨_,_,_,rfl⟩,⟨_,_,_,rfl⟩,⟨_,_,_,rfl⟩⟩
   .have h5:=aO.sub (.cons _ (.cons _ (.cons _ (.cons _ (.cons _ (.cons _ (qbf _)))))));rw[au.o]at h5;exact h5.sub (.cons_cons _ (List.Sublist.append_right (qbj X0 Zq) Lq))
   .rw[cL];exact qbz
   .exact .inr (.inl (qcc _ qbz))
   intro p hp;exact qcc _ (qcc _ hp)
  have bY:Made T m (kE nf s m iL) (gU m.dw) (qX H m.dx I) (qX D m.dF cf) (qX z (gU m.dw) B) (qX J (iM m) L) (eH m) (.r 3 1 (qX J (iM m) L) (iM m).length (nY iL)::It.r 161 3 (qX z (gU m.dw) B) (gU m.dw).length ((gU m.dw).flatMap uV)::.b R [qN,qN,qN,qN,qN,qJ 0,qN]::It.r 104 5 (qX D m.dF cf) m.dF.length (tO G (ru s m m.dF.length) Q)::(N++Lq)):=be.mono (λp hp=>by
   simp only[qav]at hp ⊢;obtain h | h | h | h:=hp
   .exact .inl h
   .exact .inr (.inl h)
   .exact .inr (.inr (.inr (.inl h)))
   exact .inr (.inr (.inr (.inr (by rw[au.o];simp only[qar]at h ⊢;obtain h | h:=h;exact .inl (.inl h);exact .inr h)))))
  have bZ:ag.length%64=0/\ag.length<=64*(kE nf s m iL).most:=by
   rw[bd];exact⟨bX.o.1,bX.o.2.1⟩
  have af:=ad.o _ _ aO (λp hp=>by simp[hp]);obtain⟨m0,-,-,-,-,M6,-⟩:=ah.o _ af;have b0:=qH aO;have cM:=qH be;have cN:=qH bY;have b1:=qH bZ;have bf:qh (rq nf s m=match vF (kE nf s m iL) m.starts ag (jK m) with | .error e=>.error e | .ok x=>.ok ((kE nf s m iL),x)):=by
   show _=_;unfold rq;rw[aH.o];simp only;rw[aq];rfl
  have dg:=HO.o.starts.1;clear al am aq M aO be bY bZ aF cJ cK cI af bd;go_wp2_with fail
  go_loopg [12,91] m.starts.length (λgk dh cO wr=>∃(i:Nat)(mem:qM)(dW:List Int)(vm vg:qv),gk=m.starts.length - i/\i<=m.starts.length/\cO=qJ i/\vF (kE nf s m iL) m.starts ag (jK m)=vF (kE nf s m iL) (m.starts.drop i) mem dW/\dW.length=m.dI.length/\(mem.length%64=0/\mem.length<=64*(kE nf s m iL).most)/\Sx W0 wr (MI O (qX H m.dx I) (qX D m.dF cf) (qX z (gU m.dw) B) (qX J (iM m) L) (eH m) vm vg mem dW (.r 3 1 (qX J (iM m) L) (iM m).length (nY iL)::It.r 161 3 (qX z (gU m.dw) B) (gU m.dw).length ((gU m.dw).flatMap uV)::.b R [qN,qN,qN,qN,qN,qJ 0,qN]::It.r 104 5 (qX D m.dF cf) m.dF.length (tO G (ru s m m.dF.length) Q)::(N++Lq))))
  case atStart=>exact⟨0,ag,jK m,_,_,rfl,qZ,rfl,rfl,uI,b1.o,b0.o⟩
  clear b0 b1 M6 m0;obtain⟨i,mem,dW,vm,vg,a8,hi,rfl,aP,aI,aQ,C⟩:=hrel;by_cases aa:i<m.starts.length
  .have t1:(i:Int)<(m.starts.length:Int):=qo;have X:=ad.o _ _ C (λp hp=>by simp[MI,hp]);obtain⟨g6,c6,e6,-,bg,di,bi⟩:=Row.cells an.o.2.2.2.2.1 qo;cases e6;have hx:m.starts[i]?=some m.starts[i]:=qab aa;have C0:wr.cell? ⟨g6,i*2,none⟩=some (qI m.starts[i].1):=((X.cell (p:=⟨g6,i*2,none⟩) bg (λc=>c)).trans (bi (i*2) qo)).trans (flat_get (m:=2) (o:=0) (λ_=>rfl) hx qo);have C1:wr.cell? ⟨g6,i*2+1,none⟩=some (qJ (m.starts[i].2:Nat)):=((X.cell (p:=⟨g6,i*2+1,none⟩) bg (λc=>c)).trans (bi (i*2+1) qo)).trans (flat_get (m:=2) (o:=1) (λ_=>rfl) hx qo);have dj:g6<wr.heap.size:=qad bg X.size;obtain⟨aw,ai⟩:=HF.o.starts _ (qai hx);have cP:=(HO.o.starts.2 _ (qai hx)).1;have aR:=λF s' why left=>Md (E:=(kE nf s m iL)) (mem:=mem) (dW:=dW) (F:=F) (s':=s') (why:=why) (left:=left) aa;generalize m.starts[i]=x at*;obtain⟨xn,xa⟩:=x;simp only at aw ai cP C0 C1 aR;obtain⟨k,rfl⟩:∃k:Nat,xn=k:=⟨xn.toNat,qo⟩;simp only[Int.toNat_natCast]at ai aR;have cQ:k<m.dF.length:=by rw[HC.o];omega
   have ay:(kE nf s m iL).fs[k]?=some (wz s m k):=Rq cQ;have b5:(kE nf s m iL).fs≠[]:=λc=>by rw[c]at ay;cases ay
   obtain⟨G2,Q2,Ti,To,aS⟩:=cN.o.run b5;have b6:=(aS W0 O HG.o).eE;have b7:=(aS W0 O HG.o).bB;have bj:(wz s m k).ty.ins=[]:=ai;obtain⟨⟨s',why,left⟩,hr⟩:=Aw (fuel:=1000) (mem:=mem) b6 ay (az:=[]) (by rw[bj];rfl) aI;have aJ:=aP.trans (aR _ _ _ _ ay hr);obtain⟨b8,aE⟩:=rV b7 hr;have b9:=b8 aQ;have cc:s'.dW.length=m.dI.length:=aE.trans aI;have cd:=C.alloc (.cells #[qI k,qJ xa] 93);have ch:=qH (JL cd (aS W0 O HG.o) ay bj aI aQ hr);have m4:=C.lt 0 rfl;have dk:=HO.o.dF.1;have wk:IntKind.i64.wrap (k:Int)=(k:Int):=qaf _ ⟨qo,qo⟩;have HI:=qH aa;have bk:=qH aJ;have cR:=qH b9;have cS:=qH cc;clear C bi hx X aa aP aJ aR hr b8 aE aQ b9 aI cc cd aS b6 b7 ay b5 bj ai;go_wp2_with fail
   refine ch.o.mono ?_;rintro e w5⟨aK,al,am⟩;clear ch;by_cases hw:why=0
   .obtain⟨rfl,vB,vC,h6⟩:=al hw;have cT:qh (vF (kE nf s m iL) m.starts ag (jK m)=vF (kE nf s m iL) (m.starts.drop (i+1)) s'.mem s'.dW):=by show _=_;rw[bk.o,qac hw]
    have H6:=qH h6;clear al am h6 aK hw bk;go_wp2;go_roundg (m.starts.length - (i+1))
    case measure=>have:=HI.o;omega
    exact⟨i+1,s'.mem,s'.dW,vB,vC,rfl,HI.o,by push_cast;rfl,cT.o,cS.o,cR.o,H6.o⟩
   obtain rfl:=am hw;have ci:vF (kE nf s m iL) m.starts ag (jK m)=.error (11,why):=by rw[bk.o,qaa hw]
   exact⟨rfl,aK.sub (λp hp=>by simp[au.o,hp]),λE mem dW h=>by(rw[bf.o,ci]at h;cases h),λq' p' h=>by(rw[bf.o,ci]at h;cases h;rfl)⟩
  have t1:¬(i:Int)<(m.starts.length:Int):=qo;have aJ:vF (kE nf s m iL) m.starts ag (jK m)=.ok (mem,dW):=by rw[aP,qbq qo];rfl
  obtain⟨aT,aU,bc⟩:=Row.shape (C.isRow 1 rfl);obtain⟨aV,aW,aD⟩:=Row.shape (C.isRow 2 rfl);subst bc;subst aD;obtain⟨a0,-⟩:=C.c 0 0 rfl rfl;obtain⟨a1,-⟩:=C.c 0 1 rfl rfl;obtain⟨a2,-⟩:=C.c 0 2 rfl rfl;obtain⟨a3,-⟩:=C.c 0 3 rfl rfl;obtain⟨a4,-⟩:=C.c 0 4 rfl rfl;obtain⟨a5,-⟩:=C.c 0 5 rfl rfl;obtain⟨a6,-⟩:=C.c 0 6 rfl rfl;obtain⟨y0,x0⟩:=C.c 5 0 rfl rfl;obtain⟨y1,x1⟩:=C.c 5 1 rfl rfl;obtain⟨y2,x2⟩:=C.c 5 2 rfl rfl;obtain⟨y3,x3⟩:=C.c 5 3 rfl rfl;obtain⟨y4,x4⟩:=C.c 5 4 rfl rfl;obtain⟨y5,x5⟩:=C.c 5 5 rfl rfl;obtain⟨y6,x6⟩:=C.c 5 6 rfl rfl;have m1:=C.lt 0 rfl;have m2:=C.lt 5 rfl;have Z:=(((((((C.set 5 0 (qX H m.dx I) rfl).set 5 1 (qX D m.dF cf) rfl).set 5 2 (qX z (gU m.dw) B) rfl).set 5 3 (qX J (iM m) L) rfl).set 5 4 (qX aT mem aU) rfl).set 5 5 (qJ (eH m:Nat)) rfl).set 5 6 (qX aV dW aW) rfl);obtain⟨r0,-⟩:=Z.c 5 0 rfl rfl;obtain⟨r1,-⟩:=Z.c 5 1 rfl rfl;obtain⟨r2,-⟩:=Z.c 5 2 rfl rfl;obtain⟨r3,-⟩:=Z.c 5 3 rfl rfl;obtain⟨r4,-⟩:=Z.c 5 4 rfl rfl;obtain⟨r5,-⟩:=Z.c 5 5 rfl rfl;obtain⟨r6,-⟩:=Z.c 5 6 rfl rfl;have h9:=Z.sub (l':=.r 5 1 (qX aT mem aU) mem.length (jr mem)::.r 2 1 (qX aV dW aW) dW.length (eD dW)::.r 3 1 (qX J (iM m) L) (iM m).length (nY iL)::It.r 161 3 (qX z (gU m.dw) B) (gU m.dw).length ((gU m.dw).flatMap uV)::It.r 104 5 (qX D m.dF cf) m.dF.length (tO G (ru s m m.dF.length) Q)::(N++Lq)) (.cons _ (.cons_cons _ (.cons_cons _ (.cons_cons _ (.cons_cons _ (.cons _ (qbf _)))))));have H9:qh (Sx W0 _ (.r 5 1 (qX aT mem aU) mem.length (jr mem)::.r 2 1 (qX aV dW aW) dW.length (eD dW)::((.r 3 1 (qX J (iM m) L) (iM m).length (nY iL)::It.r 161 3 (qX z (gU m.dw) B) (gU m.dw).length ((gU m.dw).flatMap uV)::It.r 104 5 (qX D m.dF cf) m.dF.length (tO G (ru s m m.dF.length) Q)::(X0++Lq))++Zq))):=h9.perm (by
   rw[au.o];refine List.Perm.cons _ (List.Perm.cons _ (List.Perm.cons _ (List.Perm.cons _ (List.Perm.cons _ ?_))));exact VS)
  have cj:qh (rq nf s m=.ok ((kE nf s m iL),mem,dW)):=by show _=_;rw[bf.o,aJ]
  clear C aa aP aJ Z h9 aI aQ;go_wp2;refine qal (v:=.agg #[qX H m.dx I,qX D m.dF cf,qX z (gU m.dw) B,qX J (iM m) L,qX aT mem aU,qJ (eH m:Nat),qX aV dW aW]) ?_ rfl ?_
  .simp[results,results14,go_sem,r0,r1,r2,r3,r4,r5,r6]
  refine⟨⟨_,H9.o,λp hp=>by simp[hp]⟩,λE dl dm h=>?_,λq p h=>by(rw[cj.o]at h;cases h)⟩;rw[cj.o]at h;cases h;exact⟨_,_,_,_,_,_,rfl,_,H9.o,cM.o⟩
 refine jU (λV:qW=>V.cell? (qA Y 0)=some (qX H m.dx I)) 9 ?_;iterate 6 refine nE bs ?_ (hy:=qu)
 unfold jh;have aA:∀V Yq,Sx W0 V (.b R [qN,qN,qN,qN,qN,qJ 0,qN]::.r 104 5 (qX D m.dF cf) m.dF.length (tO G (ru s m m.dF.length) Q)::(N++Lq)++Yq)->(λV:qW=>V.cell? (qA Y 0)=some (qX H m.dx I)) V:=λV Yq hV=>(ah.o _ (ad.o _ _ hV (λp hp=>by simp[hp]))).2.1;have aX:qh (∀V,qK wm V->qC 26 #[qP Y] V λe w'=>∃ev,e=.returned ev/\Sx V w' [.r 161 3 ev (gU m.dw).length ((gU m.dw).flatMap uV)]):=λV hV=>zb (HM.o.kept hV (λ_ _ _ c=>c)) HO.o (λe he=>by have:=HB.o.BC e he;omega);refine SB (i:=6) (j:=8) qk (jm rfl (λK' ac=>?_)) (jm rfl (λK' ac=>?_))
 .refine dP (f:=26) (args:= #[qP Y]) (by rfl) (by go_simp) (aX.o _ af) ?_;rintro e V1⟨ev,rfl,ar⟩;have h5:=H4.o.join ar;obtain⟨z,B,rfl⟩:=Row.shape (ar.isRow 0 rfl);have aB:=aA _ _ h5;refine⟨_,rfl,ac _ _ ⟨.inr aB,?_⟩⟩;clear ac K' ar;simp only[Act.put,qy,qz,qw];refine jb 7 aB ?_;have h6:=h5.alloc (.cells #[qN,qN,qN,qN,qN,qJ 0,qN] 52);have aC:=aA _ _ h6;refine oJ 8 (λK' ac=>?_);go_simp;refine ac _ _ (.inr aC) ?_;clear ac K';have h7:=h5.new #[qX H m.dx I,qX D m.dF cf,qX z (gU m.dw) B,qN,qN,qJ 0,qN] 52;have H7:qh (Sx W0 (V1.alloc (.cells #[qX H m.dx I,qX D m.dF cf,qX z (gU m.dw) B,qN,qN,qJ 0,qN] 52)) (.b V1.heap.size [qX H m.dx I,qX D m.dF cf,qX z (gU m.dw) B,qN,qN,qJ 0,qN]::.r 161 3 (qX z (gU m.dw) B) (gU m.dw).length ((gU m.dw).flatMap uV)::.b R [qN,qN,qN,qN,qN,qJ 0,qN]::.r 104 5 (qX D m.dF cf) m.dF.length (tO G (ru s m m.dF.length) Q)::(N++Lq))):=h7.perm (by
   rw[qaj];exact(qbi (l₂:=[It.r 161 3 (qX z (gU m.dw) B) (gU m.dw).length ((gU m.dw).flatMap uV),It.b V1.heap.size [qX H m.dx I,qX D m.dF cf,qX z (gU m.dw) B,qN,qN,qJ 0,qN]])).trans (List.Perm.swap _ _ _))
  clear h5 h6 h7 aB aC aA H4 H3 a7 aX;refine xE (λK' ac=>?_);go_simp;refine ac _ _ ?_;exact bw _ _ _ _ H7
 have h5:=(H3.o.new #[qN,qN,qN,qN,qN,qJ 0,qN] 52).drew;have aB:=aA _ _ h5;have aK:=ad.o _ _ h5 (λp hp=>by simp[hp]);go_simp;refine ac _ _ ⟨.inr aB,?_⟩;clear ac K';refine oJ 6 (λK' ac=>?_);refine dP (f:=26) (args:= #[qP Y]) (by rfl) (by go_simp) (aX.o _ aK) ?_;rintro e V1⟨ev,rfl,ar⟩;have h6:=h5.join ar;rw[qaj]at h6;obtain⟨z,B,rfl⟩:=Row.shape (ar.isRow 0 rfl);have aC:=aA _ _ h6;refine⟨_,rfl,ac _ _ (.inr aC) ?_⟩;clear ac K' ar h5 aB aK;simp only[Act.put,qy,qz,qw];refine jb 7 aC ?_;generalize w2.heap.size=O at*;have h7:Sx W0 V1 (.b O [qN,qN,qN,qN,qN,qJ 0,qN]::It.r 161 3 (qX z (gU m.dw) B) (gU m.dw).length ((gU m.dw).flatMap uV)::.b R [qN,qN,qN,qN,qN,qJ 0,qN]::.r 104 5 (qX D m.dF cf) m.dF.length (tO G (ru s m m.dF.length) Q)::(N++Lq)):=h6.perm qbi;have Z:=(((((((h7.set 0 0 (qX H m.dx I) rfl).set 0 1 (qX D m.dF cf) rfl).set 0 2 (qX z (gU m.dw) B) rfl).set 0 3 (qN) rfl).set 0 4 (qN) rfl).set 0 5 (qJ 0) rfl).set 0 6 (qN) rfl);obtain⟨y0,x0⟩:=h7.c 0 0 rfl rfl;obtain⟨y1,x1⟩:=h7.c 0 1 rfl rfl;obtain⟨y2,x2⟩:=h7.c 0 2 rfl rfl;obtain⟨y3,x3⟩:=h7.c 0 3 rfl rfl;obtain⟨y4,x4⟩:=h7.c 0 4 rfl rfl;obtain⟨y5,x5⟩:=h7.c 0 5 rfl rfl;obtain⟨y6,x6⟩:=h7.c 0 6 rfl rfl;have m4:=h7.lt 0 rfl;have H7:qh (Sx W0 _ (.b O [qX H m.dx I,qX D m.dF cf,qX z (gU m.dw) B,qN,qN,qJ 0,qN]::It.r 161 3 (qX z (gU m.dw) B) (gU m.dw).length ((gU m.dw).flatMap uV)::.b R [qN,qN,qN,qN,qN,qJ 0,qN]::.r 104 5 (qX D m.dF cf) m.dF.length (tO G (ru s m m.dF.length) Q)::(N++Lq))):=Z;clear h6 h7 Z aC aA H4 H3 a7 aX;refine xE (λK' ac=>?_);go_simp;refine ac _ _ ?_;exact bw _ _ _ _ H7
end
def sD(nf:Nat->Int->Int->Int×Nat)(s:qS):Except Err (dX×Ev×List Nat×List Int):=match nR s with
 | .error e=>.error e
 | .ok _=>match kH s with
  | .error e=>.error e
  | .ok (m,_)=>match rq nf s m with
   | .error e=>.error e
   | .ok x=>.ok (m,x)
def UZ{α:Type}:Except Err α->Except Err Unit
 | .error e=>.error e
 | .ok _=>.ok ()
theorem Ih{q p:Nat}:∀{a:List Cm}{k:Nat}{t:List Int},sZ k a t=.error (q,p)->q≠0
 | [],k,t,h=>by cases h
 | e::r,k,t,h=>by
  unfold sZ at h;split at h
  .exact Ih h
  cases h;omega
theorem Io{q p:Nat}:∀{a:List Dat}{k:Nat}{t:qM},uO k a t=.error (q,p)->q≠0
 | [],k,t,h=>by cases h
 | e::r,k,t,h=>by
  unfold uO at h;split at h
  .exact Io h
  cases h;omega
theorem F9{q p:Nat}{E:Ev}:∀{Z:List (Int×Nat)} {mem:qM} {dW:List Int},vF E Z mem dW=.error (q,p)->q≠0
 | [],mem,dW,h=>by cases h
 | x::r,mem,dW,h=>by
  unfold vF at h;split at h
  .cases h;omega
  split at h
  .cases h;omega
  split at h
  .exact F9 h
  cases h;omega
theorem Qd{nf:Nat->Int->Int->Int×Nat}{s:qS}{m:dX}{q p:Nat}(h:rq nf s m=.error (q,p)):q≠0:=by
 unfold rq at h;split at h
 .rename_i he;cases h;exact Ih he
 split at h
 .rename_i he;cases h;exact Io he
 split at h
 .rename_i he;cases h;exact F9 he
 cases h
theorem BA{s:qS}{q p:Nat}(h:nR s=.error (q,p)):q≠0:=by
 unfold nR at h;split at h
 .cases h;omega
 unfold fitAll at h;split at h
 .rename_i a;cases h;have:=(DD a).1;omega
 rename_i a;have:=(Rl (xg a).1 h).1;omega
theorem P6{l:List It}{a:It}(h:a∈l):∃r,l.Perm (a::r):=by
 obtain⟨x,y,rfl⟩:=List.append_of_mem h;exact⟨x++y,qdn⟩
section
variable {W0 wm w:qW}{s:qS}{m:dX}{Y b5 b8:Nat}{X0 Zq:List It}{nf:Nat->Int->Int->Int×Nat}{T:Nat->Int}
theorem MN(D:qK W0 wm)(n:Sx W0 w (X0++(.b b5 [qP Y]::.b b8 [.pointer none]::Zq)))(F:∀g o,W0.heap.size<=g->wm.heap[g]?=some o->It.o g o∈X0)(G:MV s (λk=>W0.heap.size<=k) wm Y m)(hF:Fits s m)(hs:s.size<=5000)(hG:Gz T W0)(aa:∀x a b,FQ T x a b (nf x a b)/\(nf x a b).2<=7):
  qC 13 #[qP b5,qP b8] w λe w'=>
   (∀E mem dW,rq nf s m=.ok (E,mem,dW)->qU e/\∃ib v fv y z H I Xq,Sx W0 w' (.b b8 [qP ib]::(MI ib v fv y z (eH m) H I mem dW Xq++Zq))/\Made T m E (gU m.dw) v fv y z (eH m) Xq)/\
   ∀q p:Nat,rq nf s m=.error (q,p)->e=fo (q:Nat) (p:Nat)/\KX W0 (.b b8 [.pointer none]::Zq) w':=by
 obtain⟨⟨j,t⟩,J⟩:=hF;obtain⟨K,L⟩:=xg t;have M:=(AO t).1;have N:=yV t;have O:=D9 J;obtain⟨P,A⟩:=qbx.1 (show It.b b5 [qP Y]∈X0++(.b b5 [qP Y]::.b b8 [.pointer none]::Zq) by simp);obtain⟨C5,-⟩:=n.c P 0 A rfl;have l5:=n.lt P A;have Q:=qH (PE D n F G (λg h=>h) K O M hs N L hG aa);clear D n F G K O M N L A t J;go_enter func13,ntmps13;go_wp2_with fail
 refine Q.o.mono ?_;rintro e B⟨R,S,V⟩;clear Q;rcases d:rq nf s m with⟨q,p⟩|⟨E,mem,dW⟩
 .obtain rfl:=V q p d;exact⟨rfl,λE mem dW h=>by(rw[d]at h;cases h),λq' p' h=>by(rw[d]at h;cases h;exact⟨rfl,R.sub (λp hp=>qcc _ hp)⟩)⟩
 obtain⟨v,fv,y,z,H,I,Xq,rfl,U,C⟩:=S _ _ _ d;have ab:=qH C;obtain⟨⟨W,X,c0,rfl⟩,⟨Z,n1,c1,rfl⟩,⟨p2,n2,c2,rfl⟩,⟨p3,n3,c3,rfl⟩⟩:=C.sl;obtain⟨f,i,ac⟩:=Row.shape (U.isRow 0 rfl);obtain⟨pg,cg,ad⟩:=Row.shape (U.isRow 1 rfl);subst ac;subst ad;have u:Sx W0 B (.b b8 [.pointer none]::.r 5 1 (qX f mem i) mem.length (jr mem)::.r 2 1 (qX pg dW cg) dW.length (eD dW)::(Xq++Zq)):=by
  have l:=U.perm (l':=.b b5 [qP Y]::.b b8 [.pointer none]::.r 5 1 (qX f mem i) mem.length (jr mem)::.r 2 1 (qX pg dW cg) dW.length (eD dW)::(Xq++Zq)) (by
   have e1:(It.r 5 1 (qX f mem i) mem.length (jr mem)::.r 2 1 (qX pg dW cg) dW.length (eD dW)::(Xq++(.b b5 [qP Y]::.b b8 [.pointer none]::Zq)))=(It.r 5 1 (qX f mem i) mem.length (jr mem)::.r 2 1 (qX pg dW cg) dW.length (eD dW)::Xq)++(.b b5 [qP Y]::.b b8 [.pointer none]::Zq):=rfl;rw[e1];refine qdn.trans (List.Perm.cons _ ?_);exact qdn)
  exact l.sub (.cons _ (qbf _))
 obtain⟨C8,D8⟩:=u.c 0 0 rfl rfl;have l8:=u.lt 0 rfl;have l:=(u.set 0 0 (qP B.heap.size) rfl).new #[.slice W X c0,.slice Z n1 c1,.slice p2 n2 c2,.slice p3 n3 c3,qX f mem i,qJ (eH m:Nat),qX pg dW cg] 55;simp only[World.size_setCell]at l;have H3:=qH l;have HR:=qH d;clear S V d U u l R C;go_wp2;go_end0;refine⟨λE' ae af h=>?_,λq p h=>by(rw[HR.o]at h;cases h)⟩;rw[HR.o]at h;cases h;refine⟨rfl,B.heap.size,.slice W X c0,.slice Z n1 c1,.slice p2 n2 c2,.slice p3 n3 c3,qX f mem i,qX pg dW cg,Xq,?_,ab.o⟩;refine H3.o.perm ?_;simp only[qz];refine List.Perm.cons _ ?_;exact qbc _ _
theorem Ia:Enters 13:=enters_of func13 qk qk
theorem Vd{W:qW}{l:List It}{a b:Nat}{x y:qV}(h:Sx W0 W (l++[.b a x,.b b y])):¬FL W0 l a/\¬FL W0 l b:=by
 have d:=h.nd;rw[qdj]at d;have e:=(h.it (.b a x) qs).1;have hb:=(h.it (.b b y) qs).1;refine⟨?_,?_⟩
 .rintro(c | ⟨p,hp,c⟩)
  .omega
  exact d.2.2 p hp (.b a x) qs a c rfl
 rintro(c | ⟨p,hp,c⟩)
 .omega
 exact d.2.2 p hp (.b b y) qs b c rfl
theorem FI{W:qW}{l:List It}{a:Nat}{x:qV}(h:Sx W0 W l)(c:It.b a x∈l):jf W a x:=(h.it _ c).2.2
def XY(W0:World)(T:Nat->Int)(nf:Nat->Int->Int->Int×Nat)(s:qS)(m:dX)(b8 pe pa:Nat)(W:World):Prop:=
 (∀E mem dW,rq nf s m=.ok (E,mem,dW)->∃ib tv fv ev bv vm vg Xq,Sx W0 W (.b b8 [qP ib]::MI ib tv fv ev bv (eH m) vm vg mem dW Xq)/\Made T m E (gU m.dw) tv fv ev bv (eH m) Xq/\¬FL W0 (.b b8 [qP ib]::MI ib tv fv ev bv (eH m) vm vg mem dW Xq) pe/\¬FL W0 (.b b8 [qP ib]::MI ib tv fv ev bv (eH m) vm vg mem dW Xq) pa)/\
 ∀q p:Nat,rq nf s m=.error (q,p)->Sx W0 W [.b b8 [.pointer none]]
theorem uz(hz:s.size<=9223372036854775807)(hG:Gz T W0)(ab:∀x a b,FQ T x a b (nf x a b)/\(nf x a b).2<=7):
  qC 5 #[.string s] W0 λe w'=>qK W0 w'/\
   (∀m E mem dW,sD nf s=.ok (m,E,mem,dW)->∃ib g fv i n z B Xq,e=.returned (.tuple #[qP ib,qJ 0,qJ 0])/\Sx W0 w' (MI ib g fv i n (eH m) z B mem dW Xq)/\Made T m E (gU m.dw) g fv i n (eH m) Xq)/\
   ∀q p:Nat,sD nf s=.error (q,p)->e=.returned (.tuple #[.pointer none,qJ q,qJ p]):=by
 have ak:∀(fn:Fn)(first A:Array qv)(w:qW),(Instr.makeFunc fn first A).run prog w=.ok (.func fn first A) w:=λ_ _ _ _=>rfl;have S:=qH (Ht (w:=W0) hz);go_enter func5,ntmps5;go_wp2_with fail
 refine S.o.mono ?_;rintro e f⟨L,t,v⟩;clear S;rcases C:nR s with⟨q,p⟩|u
 .obtain⟨o,rfl⟩:=v q p C;have hq:=BA C;have t1:¬(q:Int)=0:=qo;have H:qh (sD nf s=.error (q,p)):=by show _=_;unfold sD;rw[C]
  clear t v C hq;go_wp2;go_ret3
  exact⟨L.alloc _,λm E mem dW h=>by(rw[H.o]at h;cases h),λF G h=>by(rw[H.o]at h;cases h;rfl)⟩
 obtain⟨Y,m,rfl,Q,ac,U⟩:=t u C;obtain⟨X0,Z,hX⟩:=Sx.olds L;have M:=(Z.new #[qP Y] 41).new #[.pointer none] 24;simp only[qbn]at M;rw[qaj]at M;have H:qh (sD nf s=match rq nf s m with | .error e=>.error e | .ok x=>.ok (m,x)):=by
  show _=_;obtain⟨j,hj⟩:=Q.1;unfold sD;rw[C];simp only;rw[hj]
 have H2:=qH M;have HX:=qH hX;have ad:=qH U;have ae:=qH Q;have R:=qH L;clear t v C Z M hX U Q L;go_wp2_with fail
 refine(y9 (V:=XY W0 T nf s m (f.heap.size+1) (f.heap.size+2) (f.heap.size+2+1)) (r:=UZ (rq nf s m)) Ia ?_ ?_).mono ?_
 .intro W X aa hb1 hb2;simp only[qbn]at aa hb1 hb2;have al:=R.o.size;have af:Sx ((f.alloc (.cells #[qP Y] 41)).alloc (.cells #[.pointer none] 24)) W [.b (f.heap.size+2) [qJ 0],.b (f.heap.size+2+1) [qJ 0]]:=by
   refine⟨X,λp hp=>?_,?_⟩
   .simp at hp;obtain rfl | rfl:=hp
    .exact⟨qs,qo,hb1⟩
    exact⟨qs,qo,hb2⟩
   simp[It.own]
  have h4:=H2.o.join af;rw[qaj]at h4;refine(MN (Zq:=[.b (f.heap.size+2) [qJ 0],.b (f.heap.size+2+1) [qJ 0]]) R.o h4 HX.o ad.o ae.o ac hG ab).mono ?_;rintro e W'⟨t,v⟩;simp only[qbn];rcases d:rq nf s m with⟨q,p⟩|x
  .obtain⟨D,Lq,hL,hs⟩:=v q p d;refine⟨⟨FI hL (hs _ qs),FI hL (hs _ qs)⟩,⟨λE mem dW h=>by(rw[d]at h;cases h),λF G h=>?_⟩,λx h=>by(cases h),λF G h=>by(cases h;exact D)⟩;obtain⟨r,hp⟩:=P6 (hs (.b (f.heap.size+1) [.pointer none]) qs);exact(hL.perm hp).sub (.cons_cons _ (List.nil_sublist _))
  obtain⟨E,mem,dW⟩:=x;obtain⟨D,ib,g,fv,i,n,z,B,Xq,N,ag⟩:=t E mem dW d;have h6:=Vd (l:=.b (f.heap.size+1) [qP ib]::MI ib g fv i n (eH m) z B mem dW Xq) N;refine⟨⟨FI N qs,FI N qs⟩,⟨λE' ah ai h=>?_,λF G h=>by(rw[d]at h;cases h)⟩,λx h=>D,λF G h=>by(cases h)⟩;rw[d]at h;cases h;exact⟨ib,g,fv,i,n,z,B,Xq,N.sub (.cons_cons _ (qbj _ _)),ag,h6.1,h6.2⟩
 .rintro W W'⟨I,J⟩ X;simp only[qbn]at X;refine⟨λE mem dW h=>?_,λq p h=>?_⟩
  .obtain⟨ib,g,fv,i,n,z,B,Xq,q1,O,q3,q4⟩:=I E mem dW h;exact⟨ib,g,fv,i,n,z,B,Xq,q1.still X (λk _ c=>by obtain rfl | rfl:=c;exact q3;exact q4),O,q3,q4⟩
  refine(J q p h).still X (λk _ c=>?_);have aa:=R.o.size;rintro(c2 | ⟨p,hp,c2⟩)
  .omega
  simp at hp;subst hp;cases c2;omega
 rintro e w2⟨⟨I,J⟩,t,v⟩;rcases d:rq nf s m with⟨q,p⟩|⟨E,mem,dW⟩
 .have D:=v q p (by rw[d];rfl);subst D;have y:=J q p d;obtain⟨C8,-⟩:=y.c 0 0 rfl rfl;have l8:=y.lt 0 rfl;have K:qh (sD nf s=.error (q,p)):=by show _=_;rw[H.o,d]
  have P:=qH y;clear t v d I J y;go_wp2;go_ret3
  exact⟨P.o.kept,λm E mem dW h=>by(rw[K.o]at h;cases h),λF G h=>by(rw[K.o]at h;cases h;rfl)⟩
 have D:=t () (by rw[d];rfl);subst D;obtain⟨ib,g,fv,i,n,z,B,Xq,y,O,-,-⟩:=I E mem dW d;obtain⟨C8,-⟩:=y.c 0 0 rfl rfl;have l8:=y.lt 0 rfl;have K:qh (sD nf s=.ok (m,E,mem,dW)):=by show _=_;rw[H.o,d]
 have P:=qH y;have aj:=qH O;clear t v d I J y O;go_wp2;go_ret3
 refine⟨P.o.kept,λm' E' ah ai h=>?_,λF G h=>by(rw[K.o]at h;cases h)⟩;rw[K.o]at h;cases h;exact⟨ib,g,fv,i,n,z,B,Xq,rfl,P.o.sub (.cons _ (qbf _)),aj.o⟩
end
theorem Dw{E:Ev}(e:EvB E):∀{Z:List (Int×Nat)} {mem c:qM} {dW d:List Int},vF E Z mem dW=.ok (c,d)->(mem.length%64=0/\mem.length<=64*E.most)->d.length=dW.length/\(c.length%64=0/\c.length<=64*E.most)
 | [],mem,c,dW,d,h,hm=>by cases h;exact⟨rfl,hm⟩
 | x::r,mem,c,dW,d,h,hm=>by
  unfold vF at h;split at h
  .cases h
  split at h
  .cases h
  rename_i f;split at h
  .obtain⟨k1,k2⟩:=rV e f;obtain⟨a,b⟩:=Dw e h (k1 hm);exact⟨a.trans k2,b⟩
  cases h
structure Eh(m:dX)(E:Ev)(xs:List Xp)(mem:List Nat)(dW:List Int):Prop where
 gl:dW.length=m.dI.length
 me:mem.length%64=0/\mem.length<=64*E.most
 mo:E.most<=16
 h8:∀(f:Nat)(F:PF),E.fs[f]?=some F->F.ty.ins.length<=8
 xp:∀x∈xs,x.2.1=0->x.2.2<E.fs.length
 xl:xs.length<=1000
 en:sI m E
 eb:EvB E
theorem JV{nf:Nat->Int->Int->Int×Nat}{s:qS}{m:dX}{E:Ev}{mem:qM}{dW:List Int}(r:∀x a b,(nf x a b).2<=7)(h:sD nf s=.ok (m,E,mem,dW)):Eh m E (gU m.dw) mem dW:=by
 unfold sD at h;split at h
 .cases h
 rename_i g;split at h
 .cases h
 rename_i H j k;split at h
 .cases h
 rename_i x c;cases h;have o:s.size<=5000/\zC s m=.ok ():=by
  unfold nR at g;split at g
  .cases g
  unfold fitAll at g;rw[k]at g;exact⟨qo,g⟩
 obtain⟨d,p⟩:=xg k;have t:=(AO k).1;have i:=D9 o.2;unfold rq at c;split at c
 .cases c
 rename_i iL u;split at c
 .cases c
 rename_i I v;split at c
 .cases c
 rename_i y w;obtain⟨J,K⟩:=y;cases c;have hb:=Wn (nf:=nf) (s:=s) (iL:=iL) d o.1 r;have l:=EM d i t;have z:=BI v;obtain⟨A,B⟩:=Dw hb w (by rw[z];exact⟨l.1,l.2.1⟩);refine⟨A.trans uI,B,l.2.2,λf F C=>?_,λx hx h0=>?_,?_,Rt d i p (Ru d i u),hb⟩
 .obtain⟨hj,rfl⟩:=xL C;exact(La d f).1
 .unfold gU at hx;obtain⟨e,q,n⟩:=qdc.1 hx;split at n
  .cases n;have U:=i.dw e q;have L:=(d.dw.2 e q).2.1.1;have D:e.AX=0:=h0;rw[D]at U;have G:mO m 0=m.funcs.length:=rfl;rw[G,<-p]at U;show e.idx.1.toNat<(kE nf s m iL).fs.length;simp only[kE,qdu,List.length_range];omega
  cases n
 have:=KY m.dw;have:=d.dw.1;omega
theorem Oi{nf:Nat->Int->Int->Int×Nat}{s:qS}{q p:Nat}(h:sD nf s=.error (q,p)):q≠0:=by
 unfold sD at h;split at h
 .rename_i he;cases h;exact BA he
 rename_i a;split at h
 .rename_i hr;cases h;have:=(DD hr).1;omega
 split at h
 .rename_i he;cases h;exact Qd he
 cases h
theorem Eh.next{m:dX}{E:Ev}{xs:List Xp}{mem:qM}{dW:List Int}(h:Eh m E xs mem dW){nm:qS}{az:List Int}{fuel:Nat}{r:VN}(a:oH E xs nm az fuel mem dW r):Eh m E xs r.mem r.dW:=by
 obtain⟨b,c,-⟩:=BV (λ_=>h.eb) h.h8 a h.me;exact⟨b.trans h.gl,c,h.mo,h.h8,h.xp,h.xl,h.en,h.eb⟩
end Go.Proofs.YtfkcodlceoghpaaGreatDoor
