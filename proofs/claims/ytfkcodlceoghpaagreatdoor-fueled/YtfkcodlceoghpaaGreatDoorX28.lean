import Derived.Test.YtfkcodlceoghpaaGreatDoorX27
namespace Go.Proofs.YtfkcodlceoghpaaGreatDoor
set_option maxHeartbeats 3200000
set_option maxRecDepth 100000
set_option linter.unusedSimpArgs false
set_option linter.unusedVariables false
open Go.RowKit Go.Proofs.Tryz
section
variable {K:qD}{w:qW}{Y:Nat}{s:qS}{m:dX}
theorem BJ{ts:List O4}{v:qv}(h:gI 131 2 (kC s) K ts w v){k:Nat}(X:k<ts.length):
  ∃g A a fv,v=qL g ts.length A/\g<w.heap.size/\ts.length<=A/\dH K ts[k].1 w a/\kP K s ts[k].2.1 ts[k].2.2 w fv/\w.cell? ⟨g,k*2,none⟩=some a/\w.cell? ⟨g,k*2+1,none⟩=some fv:=by
 obtain⟨css,e,b⟩:=h;obtain⟨g,A,hv,-,f,hc,c⟩:=Row.cells e qo;have hy:ts[k]?=some ts[k]:=qab X;obtain⟨cs,d,⟨⟨a,fv,rfl,U,i⟩,-⟩⟩:=b.get hy;exact⟨g,A,a,fv,hv,f,hc,U,i,(c (k*2) qo).trans (Each.flat (o:=0) b d qo),(c (k*2+1) qo).trans (Each.flat (o:=1) b d qo)⟩
theorem MV.code(h:MV s K w Y m){k:Nat}(X:k<m.dF.length):∃g A a fv,w.cell? (qA Y 8)=some (qL g m.dF.length A)/\g<w.heap.size/\m.dF.length<=A/\dH K m.dF[k].1 w a/\kP K s m.dF[k].2.1 m.dF[k].2.2 w fv/\w.cell? ⟨g,k*2,none⟩=some a/\w.cell? ⟨g,k*2+1,none⟩=some fv:=by
 obtain⟨e,f,b,c⟩:=h;obtain⟨g,A,a,fv,hv,d⟩:=BJ c.h8 X;have:=(b 8 (by simp[Fields.cells])).1;refine⟨g,A,a,fv,?_,d⟩;rw[this,<-hv];rfl
theorem gI.mono{b:Type}{E:TypeId}{d:Nat}{a:(qD)->b->qW->qV->Prop}{ok ok':qD}{xs:List b}{v:qv}(h:gI E d a ok xs w v)(hm:∀g,g<w.heap.size->ok g->ok' g)
  (e:∀x cs,a ok x w cs->a ok' x w cs):gI E d a ok' xs w v:=by
 obtain⟨css,U,f⟩:=h;exact⟨css,U.mono hm,f.to (λx cs c=>⟨e x cs c.1,c.2⟩)⟩
theorem MV.mono{K':qD}(h:MV s K w Y m)(hm:∀g,g<w.heap.size->K g->K' g):MV s K' w Y m:=by
 have hl:=h.lt;obtain⟨i,f,j,H⟩:=h;refine⟨hm Y hl i,f,j,H.h0.mono hm ?_,Row.mono H.U hm,Row.mono H.L hm,Row.mono H.h3 hm,Row.mono H.h4 hm,Row.mono H.h5 hm,Row.mono H.h6 hm,H.h7.mono hm ?_,H.h8.mono hm ?_,Row.mono H.h9 hm,Row.mono H.h10 hm,H.h11.mono hm ?_,H.wC,H.wB,H.o6⟩
 .rintro x cs⟨a,b,e,c,d⟩;exact⟨a,b,e,Row.mono c hm,Row.mono d hm⟩
 .exact TU
 .rintro x cs⟨a,b,e,c,d⟩;exact⟨a,b,e,Row.mono c hm,d.mono hm⟩
 exact TU
end
theorem nJ.up{n N:Nat}{y:fO}(h:nJ n y)(b:n<=N):nJ N y:=
 ⟨⟨h.1.1,h.1.2.1,qam h.1.2.2 b⟩,h.2.1,λz a=>⟨(h.2.2.1 z a).1,(h.2.2.1 z a).2.1,qam (h.2.2.1 z a).2.2 b⟩,h.2.2.2⟩
theorem Jg{os:qM}{b:Option (qM)}{j x:Nat}(h:x8 os b j x)(hx:x=5):1<=os.length:=by
 subst hx;obtain⟨h,_⟩ | ⟨_,d,c,_⟩:=h
 .omega
 cases os with
 | nil=>simp[gp]at c
 | cons a l=>simp
theorem Df{m:dX}{ls:qM}{s:qS}{n j:Nat}{a:Except Err Unit}{os:qM}{Z:Bd}(h:Ci m ls s n a (some os) j Z):Z.dn.length=os.length+1/\Z.dB.length<=16*j:=⟨h.1,h.2.1⟩
section
variable {K0 F hand:qD}{w W W2:qW}{Y vb bb l:Nat}{s:qS}{m:dX}
theorem Gone.check{ls os:qM}{N:Option (qM)}{n d t x:Nat}{E:Except Err Unit}{y:fO}{v pg pq:qO}{c0 cg cq:Nat}
  (hG:Gone K0 w m ls s n E vb bb (qP Y) (qX v ls c0) (some os) d F W) (aj:MV s K0 w Y m) (ak:dH K0 ls w (qX v ls c0)) (al:¬K0 bb)
  (ho:iX s.size m) (hs:s.size<=5000) (O:n<=s.size) (am:∀x∈m.funcs,0<=x.1/\x.1<(m.dx.length:Int))
  (aL:os.length<=50) (P:x8 os N d x) (hx:x=bt s d) (Q:d<n) (an:d<t) (R:iE d x s n (d+1)=.ok (y,t))
  (ao:dH hand y.dL W (qX pg y.dL cg)) (ap:isRow 93 2 numCells hand y.dA W (qX pq y.dA cq))
  (hh:∀k,hand k->k<W.heap.size/\¬F k) (G:¬F l) (aq:¬hand l) (A:Kept (only l) W W2):
  qC 133 #[qP bb,.agg (yC d t x y (qX pg y.dL cg) (qX pq y.dA cq)).toArray]
   (W2.setCell (qA bb 4) (qJ d)) λe o=>
    (qU e/\∃S,Gone K0 w m ls s n E vb bb (qP Y) (qX v ls c0) N t S o/\Kept F W2 o/\∀k,S k->F k\/hand k\/W.heap.size<=k)\/
    (∃q p:Nat,e=fo q p/\E=.error (q,p)/\Kept (λk=>¬K0 k) w o/\Kept F W2 o):=by
 obtain⟨K,B,Z,U,j,h3,H,h5,T,r,I,h9,ar,V⟩:=hG;obtain⟨aa,aM⟩:=Df V;have au:¬B l:=λc=>G ((j l).2 (.inr (.inl c)));have ab:¬K l:=λc=>G ((j l).2 (.inl c));have aw:l≠vb:=λc=>G ((j l).2 (.inr (.inr c)));have ac:B bb:=r.own;have ad:F bb:=(j bb).2 (.inr (.inl ac));have ax:bb≠vb:=λc=>H (c▸ac);have ae:=A.size;have C:∀u,(W2.setCell (qA bb 4) u).heap.size=W2.heap.size:=λu=>qs;have b2:gZ K B W2 bb (qP Y) (qX v ls c0) Z:=r.keep A (λk _ (e:k=l)=>e▸⟨au,ab⟩);have af:∀k,K k\/hand k->k<W2.heap.size:=λk X=>qad (X.elim (r.kb k) (λc=>(hh k c).1)) ae;have b3:=(b2.V6 (K':=λk=>K k\/hand k) (λk=>.inl) (λk X c=>c.elim (r.pY k X) (λc=>(hh k c).2 ((j k).2 (.inr (.inl X))))) af).place d;have L:Kept (λk=>¬K0 k) w (W2.setCell (qA bb 4) (qJ d)):=(h9.fresh A (λi hi (e:i=l) c=>ab (e▸U i c))).fresh (S':=only bb) (qr.own _) (λi _ (e:i=bb)=>e▸al);have kp:Kept (λk=>k=l\/k=bb) W (W2.setCell (qA bb 4) (qJ d)):=(A.mono (λk _ (e:k=l)=>.inl e)).fresh (S':=only bb) (qr.own _) (λi _ (e:i=bb)=>.inr e);have ay:¬hand bb:=λc=>(hh bb c).2 ad;have hno:∀g,g<W.heap.size->hand g->¬(g=l\/g=bb):=λg _ f c=>c.elim (λe=>aq (e▸f)) (λe=>ay (e▸f));have aA:MV s (λk=>K k\/hand k) (W2.setCell (qA bb 4) (qJ d)) Y m:=(aj.kept L (λg _ f c=>c f)).mono (λg _ f=>.inl (U g f));have aB:dH (λk=>K k\/hand k) ls (W2.setCell (qA bb 4) (qJ d)) (qX v ls c0):=Row.mono (Row.kept ak L (λg _ f c=>c f)) (λg _ f=>.inl (U g f));have aC:dH (λk=>K k\/hand k) y.dL (W2.setCell (qA bb 4) (qJ d)) (qX pg y.dL cg):=Row.mono (Row.kept ao kp hno) (λg _ f=>.inr f);have aD:isRow 93 2 numCells (λk=>K k\/hand k) y.dA (W2.setCell (qA bb 4) (qJ d)) (qX pq y.dA cq):=Row.mono (Row.kept ap kp hno) (λg _ f=>.inr f);have hy:=(FK Q R).up O;have ag:=V.step ho O I P hx Q an R;have V2:jf (W2.setCell (qA bb 4) (qJ d)) vb [qP bb]:=(ar.kept A T (λ(e:vb=l)=>aw e.symm)).dD ax _;have aE:Kept F W2 (W2.setCell (qA bb 4) (qJ d)):=((Kept.refl (only bb) _).own _).mono (λk _ (e:k=bb)=>e▸ad);have aF:vb<W2.heap.size:=qad T ae;refine(RP (At.new b3 ⟨I.kR,I.short⟩ qt qt) (by simp;intro c;rw[c]at aa;simp at aa) aA aB d t x y ⟨hy.1.1,hy.1.2.1⟩ (λz hz=>⟨(hy.2.2.1 z hz).1,(hy.2.2.1 z hz).2.1⟩) hy.2.1 aD aC qt qt (λh=>by have:=Jg P h;simp;omega) am (sG ho hy).2 (rG ho hy.1).2 (nU ho)).mono ?_;rintro e o⟨aG,aH,D,-⟩;have aI:=D.size;rw[C]at aI;have ah:Kept F W2 o:=aE.fresh D (λi _ M=>(j i).2 (.inr (.inl M)));have ai:Kept (λk=>¬K0 k) w o:=L.fresh D (λi _ M c=>r.pY i M (U i c));rcases hc:iG m ls x y {Z with at_:=d} with⟨q,p⟩|J
 .exact .inr ⟨q,p,aH _ _ hc,ag.1 _ _ hc,ai,ah⟩
 obtain⟨rfl,hA⟩:=aG _ hc;obtain⟨aJ,aK⟩:=ag.2 _ hc;obtain⟨sv,bv,hB⟩:=hA.body;refine .inl ⟨rfl,λk=>(K k\/hand k)\/((B k\/W2.heap.size<=k)/\k<o.heap.size)\/k=vb,⟨λk=>K k\/hand k,λk=>(B k\/W2.heap.size<=k)/\k<o.heap.size,J,λk X=>.inl (U k X),λk=>Iff.rfl,λk X=>X.2,?_,?_,qo,?_,aK,ai,V2.kept D (by rw[C];exact aF) H,aJ⟩,ah,?_⟩
 .rintro⟨c | c,-⟩
  .exact H c
  omega
 .rintro(c | c)
  .exact h5 c
  exact(hh vb c).2 ((j vb).2 (.inr (.inr rfl)))
 .refine⟨sv,bv,hB.more (λk X=>?_) (λk X c=>?_)⟩
  .obtain⟨a,b⟩:=X;rw[C]at b;refine⟨a.imp id (λc=>by rwa[C]at c),qo⟩
  obtain⟨a | a,-⟩:=X
  .exact c.elim (r.pY k a) (λc=>(hh k c).2 ((j k).2 (.inr (.inl a))))
  have:=af k c;omega
 rintro k ((c | c) | ⟨c | c,-⟩ | c)
 .exact .inl ((j k).2 (.inl c))
 .exact .inr (.inl c)
 .exact .inl ((j k).2 (.inr (.inl c)))
 .exact .inr (.inr qo)
 exact .inl ((j k).2 (.inr (.inr c)))
end
section
attribute [local go_sem] Oper.semAt_some
section
variable {K:qD}{w:qW}{Y:Nat}{s:qS}{m:dX}
theorem Kept.sharp{S:qD}{a b:qW}(h:Kept S a b)(c:∀k,k<a.heap.size->b.heap[k]?=a.heap[k]?):qK a b:=
 ⟨h.os,h.tape,h.output,h.size,λk X _=>c k X⟩
theorem Dj{f:Nat}(hm:MV s K w Y m)(ho:iX s.size m)(hs:s.size<=5000)(hr:je s m)(aA:∀x∈m.funcs,0<=x.1/\x.1<(m.dx.length:Int))(hf:f<m.funcs.length)(hc:m.dF.length=m.funcs.length):
  qC 73 #[qP Y,qJ f] w (Looks w (gJ s m f)):=by
 have bs:=hm.lt;have HM:=qH hm;have aV:=aA _ (qaw hf);refine(qbl (n:=10)).1 ?_;refine KJ func73 rfl trivial ?_ ?_
 .simp only[ntmps73,List.size_toArray,qbb,qbs,Nat.reduceAdd,Nat.reduceSub,qdh,qdi,qdx,qdo,qay,qax];refine rQ ?_;gi_wp2_with fail
  refine⟨trivial,(callsIn_wide.2 (vS f hm hf aV)).mono ?_⟩;rintro e r⟨aa,v,rfl,hv⟩;obtain⟨vi,vo,rfl,aj,ak⟩:=hv;obtain⟨Q,R,rfl⟩:=Row.shape aj;obtain⟨E,G,rfl⟩:=Row.shape ak;have al:=hm.kept aa (λ_ _ _ c=>c);have ab:f<m.dF.length:=qo;obtain⟨g,A,lv,fv,F8,H,bu,D,aW,G0,G1⟩:=al.code ab;obtain⟨fb,rfl,-,am⟩:=aW;have aX:fb<r.heap.size:=(qah.1 am).1;have aY:=qH am;clear am;obtain⟨pl,cl,rfl⟩:=Row.shape D;have bw:=aa.size;have bz:Y<r.heap.size:=qo;have aZ:=qH aj;have a0:=qH ak;have a1:=qH D;have a2:=qH al;have aB:=qH aa;have bA:(f:Int)<(m.dF.length:Int):=qo;clear aj ak D hm al aa;have HF:qh (gJ s m f=rO m ((dM m f).ins++(m.dF[f]).1) s (m.dF[f]).2.2 ((m.dF[f]).2.2 - (m.dF[f]).2.1) [] (m.dF[f]).2.1 ⟨[],[⟨2,[],(dM m f).outs,0,false⟩],0⟩):=by
   show _=_;have a3:m.dF.getD f ([],0,0)=m.dF[f]:=by simp[ab]
   unfold gJ;rw[a3]
  have a4:=nU ho f;have an:Ed s.size m.dF[f]:=ho.dF.2 _ (qaw ab);have a5:=qH (hr _ (qaw ab));generalize m.dF[f]=cd at*;obtain⟨ls,ac,J⟩:=cd;have a6:ls.length<=50:=an.1;have a7:ac<=J:=an.2.1;have aC:J<=s.size:=an.2.2;generalize dM m f=ty at*;gi_wp2
  refine rQ ?_;gi_wp2
  refine rQ ?_;gi_wp2_with fail
  refine⟨trivial,(callsIn_wide.2 (KA (ok:=K) (us:=ty.ins) (vs:=ls) (pa:=Q) (pb:=pl) (ca:=R) (cb:=cl) ?c0 ?c1 ?c2 ?c3 ?c4 qo a6)).mono ?_⟩
  case c0=>simp[go_sem]
  case c1=>simp[go_sem]
  case c2=>simp
  case c3=>exact Row.alloc (Row.alloc (Row.alloc aZ.o _) _) _
  case c4=>exact Row.alloc (Row.alloc (Row.alloc a1.o _) _) _
  rintro e d⟨v2,rfl,z,ao⟩;obtain⟨p2,c2,rfl⟩:=Row.shape ao;have a8:=z.size;simp at a8;have T:qK r d:=(((qr.alloc _).alloc _).alloc _).trans z;have aD:=qH ao;have V:=qH T;have kB:qK (r.alloc (.cells #[.slice Q ty.ins.length R,.slice E ty.outs.length G] 100)) d:=((qr.alloc _).alloc _).trans z;have B0:d.cell? (qA r.heap.size 0)=some (.slice Q ty.ins.length R):=(kB.cell (p:=(qA r.heap.size 0)) qs (λc=>c)).trans (by simp[go_sem]);have B1:d.cell? (qA r.heap.size 1)=some (.slice E ty.outs.length G):=(kB.cell (p:=(qA r.heap.size 1)) qs (λc=>c)).trans (by simp[go_sem]);have C0:d.cell? ⟨r.heap.size+1,0,none⟩=some (.slice pl ls.length cl):=(z.cell (p:=⟨r.heap.size+1,0,none⟩) qs (λc=>c)).trans (by simp[go_sem]);have C1:d.cell? ⟨r.heap.size+1,1,none⟩=some (.func (.func 316) #[] #[qP fb]):=(z.cell (p:=⟨r.heap.size+1,1,none⟩) qs (λc=>c)).trans (by simp[go_sem]);have aE:r.heap.size+1<d.heap.size:=qo;have bB:r.heap.size<d.heap.size:=qo;clear z ao T kB F8 G0 G1;gi_wp2
  refine rQ ?_;gi_wp2_with fail
  have aF:gZ (λk=>k<d.heap.size) (λk=>k=d.heap.size) ((d.alloc (.cells #[(qP Y),(.slice p2 (ty.ins.length+ls.length) c2),qN,qN,qJ 0] 225)).alloc (.cells #[qP d.heap.size] 221)) d.heap.size (qP Y) (.slice p2 (ty.ins.length+ls.length) c2) ⟨[],[],0⟩:=
   ⟨qN,qN,(jf.new d #[(qP Y),(.slice p2 (ty.ins.length+ls.length) c2),qN,qN,qJ 0] 225).kept ((Kept.refl (λ_=>False) _).alloc _) qs (λc=>c),rfl,Row.nil _ _ _ _,⟨[],Row.nil _ _ _ _,trivial⟩,λk X c=>qo,λk X=>by simp;omega⟩
  have ap:∀o1 o2,qK d ((d.alloc o1).alloc o2):=λo1 o2=>(qr.alloc _).alloc _;have aG:dH (λk=>k<d.heap.size) ty.outs d (.slice E ty.outs.length G):=Row.mono (Row.kept a0.o V.o (λ_ _ _ c=>c)) (λg H _=>H);refine⟨trivial,(callsIn_wide.2 (enter_at (t:=⟨[],ty.outs⟩) 2 (At.new aF ⟨trivial,qs⟩ qs qs) (λc=>absurd rfl c) (Row.nil _ _ _ _) (Row.kept aG (ap _ _) (λ_ _ _ c=>c)) qs a4.2 qs qs)).mono ?_⟩;rintro e L⟨aH,-,ad,-⟩;obtain⟨rfl,aI⟩:=aH _ rfl;have ae:qK d L:=(ap _ _).fresh ad (λi hi (c:i=d.heap.size)=>qo);have a9:=ad.size;simp at a9;have D0:L.cell? ⟨r.heap.size+1,0,none⟩=some (.slice pl ls.length cl):=(ae.cell (p:=⟨r.heap.size+1,0,none⟩) aE (λc=>c)).trans C0;have D1:L.cell? ⟨r.heap.size+1,1,none⟩=some (.func (.func 316) #[] #[qP fb]):=(ae.cell (p:=⟨r.heap.size+1,1,none⟩) aE (λc=>c)).trans C1;have V4:jf L (d.heap.size+1) [qP d.heap.size]:=(jf.new' (w:=d.alloc (.cells #[(qP Y),(.slice p2 (ty.ins.length+ls.length) c2),qN,qN,qJ 0] 225)) (c:= #[qP d.heap.size]) (t:=221) qs).kept ad qs (λ(c:d.heap.size+1=d.heap.size)=>qo);have aJ:=qH aI;have aK:=qH V4;have aL:=qH ae;clear aH aI ad aF aG ap C0 C1 B0 B1 ae V4;gi_wp2
  refine rQ ?_;gi_wp2
  refine IY ?_;have aq:=aJ.o;have M:=aL.o;have V5:=aK.o;have aM:=(aL.o.block fb qo (λc=>c)).trans ((V.o.block fb aX (λc=>c)).trans aY.o);refine IX (m:=8) (fb:=fb) (s:=s) (i:=ac) (n:=J) (yf:=λq p W=>gJ s m f=.error (q,p)/\Kept (λk=>¬k<d.heap.size) d W) (I:=Gone (λk=>k<d.heap.size) d m (ty.ins++ls) s J (gJ s m f) (d.heap.size+1) d.heap.size (qP Y) (.slice p2 (ty.ins++ls).length c2)) (F0:=λk=>k<d.heap.size\/(k=d.heap.size\/d.heap.size+2<=k/\k<L.heap.size)\/k=d.heap.size+1) ⟨_,func73⟩ (by rfl) uN ?hf ?hI ?hw ?hdone ?hstop ?hbad
  case hf=>exact wu aM a7 aC hs
  case hI=>rw[qaq];obtain⟨sv,bv,hB⟩:=aq.body;refine⟨λk=>k<d.heap.size,λk=>k=d.heap.size\/d.heap.size+2<=k/\k<L.heap.size,⟨[],[⟨2,[],ty.outs,0,false⟩],0⟩,λk h=>h,λk=>Iff.rfl,λk X=>qo,qo,qo,qo,⟨sv,bv,hB.more (λk X=>?_) (λk X c=>qo)⟩,aq.tidy,M.mono (λ_ _ c=>c.elim),V5,rfl,qZ,J - ac,qR,HF.o⟩;obtain⟨U,N⟩:=X;simp[More]at U N;omega
  case hw=>
   have ba:qh (MV s (λk=>k<d.heap.size) d Y m):=(a2.o.kept V.o (λ_ _ _ c=>c)).mono (λg H _=>H);have bb:qh (dH (λk=>k<d.heap.size) (ty.ins++ls) d (.slice p2 (ty.ins++ls).length c2)):=Row.mono aD.o (λg H _=>H);clear aq M V5 aJ aK aD D0 D1 aM;refine⟨λo j F W Z S h X hs=>h.still X hs,λo j F W k h X=>h.lt X,?_⟩;rintro l os o' O F W P x y gv bC bD hG he hj bc hT aN bd aO ar D hh af bE aP;obtain⟨pg,cg,rfl⟩:=Row.shape ar;obtain⟨pq,cq,rfl⟩:=Row.shape D;have aQ:=qH (λC (ag:Kept (only l) W C)=>hG.check (l:=l) ba.o bb.o (qcv _) ho hs aC aA bc hT aN bd hj aO ar D hh af aP ag);obtain⟨T,O2,be,U,N,-,-,-,h6,h7,-,-,aR,-⟩:=hG;have bf:l≠d.heap.size+1:=λc=>af ((N l).2 (.inr (.inr c)));have bg:¬O2 l:=λc=>af ((N l).2 (.inr (.inl c)));have bi:¬T l:=λc=>af ((N l).2 (.inl c));clear hT aN aO ar D hh aP U N;refine⟨W.alloc (.cells (yC O P x y (.slice pg y.dL.length cg) (.slice pq y.dA.length cq)).toArray 195),{tmps:= #[qP Y,qJ f,undef,undef,qP r.heap.size,.pointer (some ⟨r.heap.size+1,0,none⟩),.pointer (some ⟨d.heap.size+1,0,none⟩),qP W.heap.size,qP Y,qJ f,.agg #[.slice Q ty.ins.length R,.slice E ty.outs.length G],qP Y,qP Y,.pointer (some (qA Y 8)),qL g m.funcs.length A,qJ f,.pointer (some ⟨g,f*2,none⟩),.agg #[.slice pl ls.length cl,.func (.func 316) #[] #[qP fb]],qP Y,qP r.heap.size,.slice Q ty.ins.length R,.pointer (some ⟨r.heap.size+1,0,none⟩),.slice pl ls.length cl,.slice (some ⟨r.heap.size+1+1,0,none⟩) 2 2,.slice p2 (ty.ins.length+ls.length) c2,.agg #[qP Y,.slice p2 (ty.ins.length+ls.length) c2,qN,qN,qJ 0],qP d.heap.size,qP d.heap.size,.pointer (some (qA r.heap.size 1)),.slice E ty.outs.length G,.agg #[qN,.slice E ty.outs.length G],.tuple #[],.pointer (some ⟨r.heap.size+1,1,none⟩),.func (.func 316) #[] #[qP fb],.agg (yC O P x y (.slice pg y.dL.length cg) (.slice pq y.dA.length cq)).toArray,undef,undef,undef,undef,undef,undef,undef,undef],defers:=[]},λKK hK=>?_,qr.alloc _,λC z=>?_⟩
   .simp only[lM];gi_wp2
    exact hK
   have aS:jf C W.heap.size (yC O P x y (.slice pg y.dL.length cg) (.slice pq y.dA.length cq)):=(jf.new W (yC O P x y (.slice pg y.dL.length cg) (.slice pq y.dA.length cq)).toArray 195).kept z qs (λ(e:W.heap.size=l)=>qo);have aT:=(h7.alloc (.cells (yC O P x y (.slice pg y.dL.length cg) (.slice pq y.dA.length cq)).toArray 195)).keep z (λk _ (e:k=l)=>e▸⟨bg,bi⟩);have V2:=(aR.alloc h6 (.cells (yC O P x y (.slice pg y.dL.length cg) (.slice pq y.dA.length cq)).toArray 195)).kept z qt (λe=>bf e.symm);have ag:Kept (only l) W C:=(qr.alloc _).trans z;have bF:=h7.lt;have bG:d.heap.size+1<C.heap.size:=qad h6 ag.size;have bH:d.heap.size<C.heap.size:=qo;have bI:¬W.heap.size=d.heap.size:=qo;obtain⟨⟨I0,J0⟩,⟨I1,J1⟩,⟨I2,J2⟩,⟨I3,J3⟩,⟨I4,J4⟩,⟨I5,J5⟩,⟨I6,J6⟩,⟨I7,J7⟩,⟨I8,J8⟩,⟨I9,J9⟩⟩:=aS.ten;obtain⟨P0,P1⟩:=V2.rJ;obtain⟨Q4,R4⟩:∃u,C.cell? (qA d.heap.size 4)=some u/\C.frozen? (qA d.heap.size 4)=false:=by
    obtain⟨sv,bv,bj⟩:=aT;obtain⟨-,-,-,-,⟨a,b⟩⟩:=bj.blk.five;exact⟨_,a,b⟩
   obtain⟨R4,S4⟩:=R4;have bk:=qH (aQ.o C ag);clear aT aS V2 h7 aR aQ;dsimp only;gi_wp2_with fail
   refine⟨trivial,(CallsIn.inRound l (callsIn_wide.2 bk.o)).mono ?_⟩;rintro e W3 (⟨rfl,F',bm,au,bn⟩ | ⟨q,p,rfl,hw,bo,au⟩)
   .gi_wp2
    exact⟨F',bm,au,bn⟩
   exact⟨q,p,rfl,⟨hw,bo.mono (λk _ c=>qo)⟩,au⟩
  case hdone=>
   intro B j2 F' Z aw bp hD ah ai;obtain⟨T,O2,be,-,-,-,-,-,-,-,-,bq,-,ax⟩:=bp;have ax:gJ s m f=.ok ():=ax;have br:d.heap.size<=B:=by have:=M.size;omega
   have ay:qK w (Z.putObj B (.deferred none)):=((aB.o.trans V.o).trans (((M.mono (λ_ _ c=>c.elim)).trans ai).sharp (λk X=>bq.block k X (λc=>c X)))).fresh Kept.putObj (λk X (e:k=B)=>qo);refine⟨qs,.inl ⟨B,_,rfl,run_takeDeferred ah,?_⟩⟩;exact⟨_,results_none rfl _ _ _,Says.dN ax ay rfl⟩
  case hstop=>intro B q p chain Z aw aU hD ah ai;obtain⟨j,hj⟩:=a5.o;have hj:o8 s J ac=.ok j:=hj;rw[hj]at aw;cases aw
  intro B q p chain Z hb aU hD ah ai;have br:d.heap.size<=B:=by have:=M.size;omega
  have ay:qK w (Z.putObj B (.deferred none)):=((aB.o.trans V.o).trans (((M.mono (λ_ _ c=>c.elim)).trans ai).sharp (λk X=>hb.2.block k X (λc=>c X)))).fresh Kept.putObj (λk X (e:k=B)=>qo);refine⟨qs,.inl ⟨B,_,rfl,run_takeDeferred ah,?_⟩⟩;show Looks _ _ (Ending.panicked chain) _;rw[aU];exact Says.dG hb.1 ay
 intro w' h;rcases hr:gJ s m f with qp|x
 .have:=h.err qp.1 qp.2 hr;cases this
 obtain⟨v,e,-⟩:=h.ok _ hr;cases e
end
end
end Go.Proofs.YtfkcodlceoghpaaGreatDoor
