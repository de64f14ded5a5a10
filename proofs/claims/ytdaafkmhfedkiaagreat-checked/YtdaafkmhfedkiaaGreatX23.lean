import Derived.Test.YtdaafkmhfedkiaaGreatX12
import Derived.Test.YtdaafkmhfedkiaaGreatX13
import Derived.Test.YtdaafkmhfedkiaaGreatX22
namespace Go.Proofs.YtdaafkmhfedkiaaGreat
set_option maxHeartbeats 6400000
set_option maxRecDepth 100000
open Go.RowKit Go.Proofs.Tryz
section
variable {K:qD} {w:qW} {Y:Nat} {s:qS} {m:fE}
theorem Va{ts:List YQ}{v:qv}(h:gu 205 2 (pV s) K ts w v){k:Nat}(X:k<ts.length):
  ∃g A lv a,v=.slice (some (qA g 0)) ts.length A/\g<w.heap.size/\ts.length<=A/\dG K ts[k].1 w lv/\rY K s ts[k].2.1 ts[k].2.2 w a/\w.cell? ⟨g,k*2,none⟩=some lv/\w.cell? ⟨g,k*2+1,none⟩=some a:=by
 obtain⟨css,e,b⟩:=h;obtain⟨g,A,f,-,i,hc,c⟩:=Row.cells e qo;have hy:ts[k]?=some ts[k]:=List.getElem?_eq_getElem X;obtain⟨cs,d,⟨⟨lv,a,rfl,U,L⟩,-⟩⟩:=b.get hy;exact⟨g,A,lv,a,f,i,hc,U,L,(c (k*2) qo).trans (Each.flat (o:=0) b d qo),(c (k*2+1) qo).trans (Each.flat (o:=1) b d qo)⟩
theorem MV.code(h:MV s K w Y m){k:Nat}(X:k<m.dQ.length):∃g A lv a,w.cell? (qA Y 8)=some (.slice (some (qA g 0)) m.dQ.length A)/\g<w.heap.size/\m.dQ.length<=A/\dG K m.dQ[k].1 w lv/\rY K s m.dQ[k].2.1 m.dQ[k].2.2 w a/\w.cell? ⟨g,k*2,none⟩=some lv/\w.cell? ⟨g,k*2+1,none⟩=some a:=by
 obtain⟨i,f,b,c⟩:=h;obtain⟨g,A,lv,a,d,e⟩:=Va c.h8 X;have:=(b 8 (by simp[Fields.cells])).1;refine⟨g,A,lv,a,?_,e⟩;rw[this,<-d];rfl
theorem gu.mono{b:Type}{E:TypeId}{d:Nat}{a:(qD)->b->qW->qV->Prop}{ok ok':qD}{xs:List b}{v:qv}(h:gu E d a ok xs w v)(e:∀g,g<w.heap.size->ok g->ok' g)
  (f:∀x cs,a ok x w cs->a ok' x w cs):gu E d a ok' xs w v:=by
 obtain⟨css,U,L⟩:=h;exact⟨css,U.mono e,L.to (fun x cs c=>⟨f x cs c.1,c.2⟩)⟩
theorem MV.mono{K':qD}(h:MV s K w Y m)(hm:∀g,g<w.heap.size->K g->K' g):MV s K' w Y m:=by
 have i:=h.lt;obtain⟨j,f,k,H⟩:=h;refine⟨hm Y i j,f,k,H.h0.mono hm ?_,Row.mono H.U hm,Row.mono H.L hm,Row.mono H.h3 hm,Row.mono H.h4 hm,Row.mono H.h5 hm,Row.mono H.h6 hm,H.h7.mono hm ?_,H.h8.mono hm ?_,Row.mono H.h9 hm,Row.mono H.h10 hm,H.h11.mono hm ?_,H.Cj,H.Ci,H.xR⟩
 .rintro x cs ⟨a,b,e,c,d⟩;exact⟨a,b,e,Row.mono c hm,Row.mono d hm⟩
 .exact WJ
 .rintro x cs ⟨a,b,e,c,d⟩;exact⟨a,b,e,Row.mono c hm,d.mono hm⟩
 exact WJ
end
theorem wB.up{n N:Nat}{y:ic}(h:wB n y)(b:n<=N):wB N y:=
 ⟨⟨h.1.1,h.1.2.1,Nat.le_trans h.1.2.2 b⟩,h.2.1,fun z a=>⟨(h.2.2.1 z a).1,(h.2.2.1 z a).2.1,Nat.le_trans (h.2.2.1 z a).2.2 b⟩,h.2.2.2⟩
theorem Iw{os:qM}{b:Option (qM)}{j x:Nat}(h:KL os b j x)(hx:x=5):1<=os.length:=by
 subst hx;rcases h with⟨h,_⟩ | ⟨_,c,L,_⟩
 .omega
 cases os with
 | nil=>simp[je] at L
 | cons a l=>simp
theorem LV{m:fE}{ls:qM}{s:qS}{n j:Nat}{a:Except Err Unit}{os:qM}{Z:Bd}(h:KM m ls s n a (some os) j Z):Z.dh.length=os.length+1/\Z.di.length<=16*j:=⟨h.1,h.2.1⟩
section
variable {K0 F hand:qD} {w W W2:qW} {Y vb bb l:Nat} {s:qS} {m:fE}
theorem Gone.check{ls os:qM}{P:Option (qM)}{n d r x:Nat}{E:Except Err Unit}{y:ic}{t pg G:qO}{c0 cg H:Nat}
  (hG:Gone K0 w m ls s n E vb bb (qP Y) (.slice t ls.length c0) (some os) d F W) (aj:MV s K0 w Y m) (ak:dG K0 ls w (.slice t ls.length c0)) (am:¬K0 bb)
  (B:mK s.size m) (hs:s.size<=5000) (Q:n<=s.size) (an:∀x∈m.funcs,0<=x.1/\x.1<(m.dm.length:Int))
  (aK:os.length<=50) (R:KL os P d x) (hx:x=bt s d) (S:d<n) (ao:d<r) (T:jc d x s n (d+1)=.ok (y,r))
  (ap:dG hand y.dH W (.slice pg y.dH.length cg)) (aq:isRow 152 2 numCells hand y.dF W (.slice G y.dF.length H))
  (hh:∀k,hand k->k<W.heap.size/\¬F k) (I:¬F l) (ar:¬hand l) (v:Kept (only l) W W2):
  qC 131 #[qP bb,.agg (yC d r x y (.slice pg y.dH.length cg) (.slice G y.dF.length H)).toArray]
   (W2.setCell (qA bb 4) (qJ d)) fun e j=>
    (qU e/\∃V,Gone K0 w m ls s n E vb bb (qP Y) (.slice t ls.length c0) P r V j/\Kept F W2 j/\∀k,V k->F k\/hand k\/W.heap.size<=k)\/
    (∃q p:Nat,e=iK q p/\E=.error (q,p)/\Kept (fun k=>¬K0 k) w j/\Kept F W2 j):=by
 obtain⟨K,A,Z,U,L,h3,h4,h5,h6,o,M,h9,au,h11⟩:=hG;obtain⟨aa,aL⟩:=LV h11;have av:¬A l:=fun c=>I ((L l).2 (.inr (.inl c)));have ab:¬K l:=fun c=>I ((L l).2 (.inl c));have aw:l≠vb:=fun c=>I ((L l).2 (.inr (.inr c)));have ac:A bb:=o.own;have ad:F bb:=(L bb).2 (.inr (.inl ac));have ax:bb≠vb:=fun c=>h4 (c▸ac);have ae:=v.size;have C:∀u,(W2.setCell (qA bb 4) u).heap.size=W2.heap.size:=fun u=>qs;have b2:jJ K A W2 bb (qP Y) (.slice t ls.length c0) Z:=o.keep v (fun k _ (e:k=l)=>e▸⟨av,ab⟩);have af:∀k,K k\/hand k->k<W2.heap.size:=fun k X=>Nat.lt_of_lt_of_le (X.elim (o.kb k) (fun c=>(hh k c).1)) ae;have b3:=(b2.afN (K':=fun k=>K k\/hand k) (fun k=>.inl) (fun k X c=>c.elim (o.x8 k X) (fun c=>(hh k c).2 ((L k).2 (.inr (.inl X))))) af).place d;have N:Kept (fun k=>¬K0 k) w (W2.setCell (qA bb 4) (qJ d)):=(h9.fresh v (fun i hi (e:i=l) c=>ab (e▸U i c))).fresh (S':=only bb) (qr.own _) (fun i _ (e:i=bb)=>e▸am);have kp:Kept (fun k=>k=l\/k=bb) W (W2.setCell (qA bb 4) (qJ d)):=(v.mono (fun k _ (e:k=l)=>.inl e)).fresh (S':=only bb) (qr.own _) (fun i _ (e:i=bb)=>.inr e);have ay:¬hand bb:=fun c=>(hh bb c).2 ad;have hno:∀g,g<W.heap.size->hand g->¬(g=l\/g=bb):=fun g _ f c=>c.elim (fun e=>ar (e▸f)) (fun e=>ay (e▸f));have az:MV s (fun k=>K k\/hand k) (W2.setCell (qA bb 4) (qJ d)) Y m:=(aj.kept N (fun g _ f c=>c f)).mono (fun g _ f=>.inl (U g f));have aA:dG (fun k=>K k\/hand k) ls (W2.setCell (qA bb 4) (qJ d)) (.slice t ls.length c0):=Row.mono (Row.kept ak N (fun g _ f c=>c f)) (fun g _ f=>.inl (U g f));have aB:dG (fun k=>K k\/hand k) y.dH (W2.setCell (qA bb 4) (qJ d)) (.slice pg y.dH.length cg):=Row.mono (Row.kept ap kp hno) (fun g _ f=>.inr f);have aC:isRow 152 2 numCells (fun k=>K k\/hand k) y.dF (W2.setCell (qA bb 4) (qJ d)) (.slice G y.dF.length H):=Row.mono (Row.kept aq kp hno) (fun g _ f=>.inr f);have hy:=(WC S T).up Q;have ag:=h11.step B Q M R hx S ao T;have V2:kY (W2.setCell (qA bb 4) (qJ d)) vb [qP bb]:=(au.kept v h6 (fun(e:vb=l)=>aw e.symm)).dA ax _;have aD:Kept F W2 (W2.setCell (qA bb 4) (qJ d)):=((Kept.refl (only bb) _).own _).mono (fun k _ (e:k=bb)=>e▸ad);have aE:vb<W2.heap.size:=Nat.lt_of_lt_of_le h6 ae;refine(aaH (At.new b3 ⟨M.rZ,M.short⟩ qt qt) (by simp;intro c;rw[c] at aa;simp at aa) az aA d r x y ⟨hy.1.1,hy.1.2.1⟩ (fun z hz=>⟨(hy.2.2.1 z hz).1,(hy.2.2.1 z hz).2.1⟩) hy.2.1 aC aB qt qt (fun h=>by have:=Iw R h;simp;omega) an (yZ B hy).2 (yx B hy.1).2 (vN B)).mono ?_;rintro e j ⟨aF,aG,D,-⟩;have aH:=D.size;rw[C] at aH;have ah:Kept F W2 j:=aD.fresh D (fun i _ O=>(L i).2 (.inr (.inl O)));have ai:Kept (fun k=>¬K0 k) w j:=N.fresh D (fun i _ O c=>o.x8 i O (U i c));rcases hc:fI m ls x y {Z with at_:=d} with⟨q,p⟩|J
 .exact .inr ⟨q,p,aG _ _ hc,ag.1 _ _ hc,ai,ah⟩
 obtain⟨rfl,hA⟩:=aF _ hc;obtain⟨aI,aJ⟩:=ag.2 _ hc;obtain⟨sv,bv,hB⟩:=hA.body;refine .inl ⟨rfl,fun k=>(K k\/hand k)\/((A k\/W2.heap.size<=k)/\k<j.heap.size)\/k=vb,⟨fun k=>K k\/hand k,fun k=>(A k\/W2.heap.size<=k)/\k<j.heap.size,J,fun k X=>.inl (U k X),fun k=>Iff.rfl,fun k X=>X.2,?_,?_,qo,?_,aJ,ai,V2.kept D (by rw[C];exact aE) h4,aI⟩,ah,?_⟩
 .rintro⟨c | c,-⟩
  .exact h4 c
  omega
 .rintro(c | c)
  .exact h5 c
  exact(hh vb c).2 ((L vb).2 (.inr (.inr rfl)))
 .refine⟨sv,bv,hB.more (fun k X=>?_) (fun k X c=>?_)⟩
  .obtain⟨a,b⟩:=X;rw[C] at b;refine⟨a.imp id (fun c=>by rwa[C] at c),qo⟩
  rcases X with⟨a | a,-⟩
  .exact c.elim (o.x8 k a) (fun c=>(hh k c).2 ((L k).2 (.inr (.inl a))))
  have:=af k c;omega
 rintro k ((c | c) | ⟨c | c,-⟩ | c)
 .exact .inl ((L k).2 (.inl c))
 .exact .inr (.inl c)
 .exact .inl ((L k).2 (.inr (.inl c)))
 .exact .inr (.inr qo)
 exact .inl ((L k).2 (.inr (.inr c)))
end
attribute [local go_sem] Oper.semAt_some
section
variable {K:qD} {w:qW} {Y:Nat} {s:qS} {m:fE}
theorem Kept.sharp{S:qD}{a b:qW}(h:Kept S a b)(c:∀k,k<a.heap.size->b.heap[k]?=a.heap[k]?):qK a b:=
 ⟨h.os,h.tape,h.output,h.size,fun k X _=>c k X⟩
theorem LY{f:Nat}(V:MV s K w Y m)(ho:mK s.size m)(hs:s.size<=5000)(hr:nL s m)(aA:∀x∈m.funcs,0<=x.1/\x.1<(m.dm.length:Int))(hf:f<m.funcs.length)(hc:m.dQ.length=m.funcs.length):
  qC 90 #[qP Y,qJ f] w (Looks w (jv s m f)):=by
 have bs:=V.lt;have HM:=hide V;have aW:=aA _ (List.getElem_mem hf);refine(callsIn_wide (n:=10)).1 ?_;refine Vg func90 rfl trivial ?_ ?_
 .simp only[ntmps90,List.size_toArray,List.length_cons,List.length_nil,Nat.reduceAdd,Nat.reduceSub,Array.replicate_succ,Array.replicate_zero,List.push_toArray,List.append_toArray,List.nil_append,List.cons_append];refine yH ?_;gi_wp2_with fail
  refine⟨trivial,(callsIn_wide.2 (BU f V hf aW)).mono ?_⟩;rintro e r ⟨ab,v,rfl,hv⟩;obtain⟨vi,vo,rfl,ak,am⟩:=hv;obtain⟨Z,ci,rfl⟩:=Row.shape ak;obtain⟨G,H,rfl⟩:=Row.shape am;have an:=V.kept ab (fun _ _ _ c=>c);have ac:f<m.dQ.length:=qo;obtain⟨g,A,lv,fv,F8,J,bu,E,aX,G0,G1⟩:=an.code ac;obtain⟨fb,rfl,-,ao⟩:=aX;have aY:fb<r.heap.size:=(Array.getElem?_eq_some_iff.1 ao).1;have aZ:=hide ao;clear ao;obtain⟨pl,cl,rfl⟩:=Row.shape E;have bw:=ab.size;have bz:Y<r.heap.size:=qo;have a0:=hide ak;have a1:=hide am;have a2:=hide E;have a3:=hide an;have aB:=hide ab;have bA:(f:Int)<(m.dQ.length:Int):=qo;clear ak am E V an ab;have HF:qh (jv s m f=tu m ((fM m f).ins++(m.dQ[f]).1) s (m.dQ[f]).2.2 ((m.dQ[f]).2.2 - (m.dQ[f]).2.1) [] (m.dQ[f]).2.1 ⟨[],[⟨2,[],(fM m f).outs,0,false⟩],0⟩):=by
   show _=_;have a4:m.dQ.getD f ([],0,0)=m.dQ[f]:=by simp[ac]
   unfold jv;rw[a4]
  have a5:=vN ho f;have ap:Wz s.size m.dQ[f]:=ho.dQ.2 _ (List.getElem_mem ac);have a6:=hide (hr _ (List.getElem_mem ac));generalize m.dQ[f]=cd at*;obtain⟨ls,ad,M⟩:=cd;have a7:ls.length<=50:=ap.1;have a8:ad<=M:=ap.2.1;have aC:M<=s.size:=ap.2.2;generalize fM m f=ty at*;gi_wp2
  refine yH ?_;gi_wp2
  refine yH ?_;gi_wp2_with fail
  refine⟨trivial,(callsIn_wide.2 (U7 (ok:=K) (us:=ty.ins) (vs:=ls) (pa:=Z) (pb:=pl) (ca:=ci) (cb:=cl) ?c0 ?c1 ?c2 ?c3 ?c4 qo a7)).mono ?_⟩
  case c0=>simp[go_sem]
  case c1=>simp[go_sem]
  case c2=>simp
  case c3=>exact Row.alloc (Row.alloc (Row.alloc a0.o _) _) _
  case c4=>exact Row.alloc (Row.alloc (Row.alloc a2.o _) _) _
  rintro e d ⟨v2,rfl,z,aq⟩;obtain⟨D,c2,rfl⟩:=Row.shape aq;have a9:=z.size;simp at a9;have K2:qK r d:=(((qr.alloc _).alloc _).alloc _).trans z;have aD:=hide aq;have aa:=hide K2;have kB:qK (r.alloc (.cells #[.slice Z ty.ins.length ci,.slice G ty.outs.length H] 198)) d:=((qr.alloc _).alloc _).trans z;have B0:d.cell? (qA r.heap.size 0)=some (.slice Z ty.ins.length ci):=(kB.cell (p:=(qA r.heap.size 0)) qs (fun c=>c)).trans (by simp[go_sem]);have B1:d.cell? (qA r.heap.size 1)=some (.slice G ty.outs.length H):=(kB.cell (p:=(qA r.heap.size 1)) qs (fun c=>c)).trans (by simp[go_sem]);have C0:d.cell? ⟨r.heap.size+1,0,none⟩=some (.slice pl ls.length cl):=(z.cell (p:=⟨r.heap.size+1,0,none⟩) qs (fun c=>c)).trans (by simp[go_sem]);have C1:d.cell? ⟨r.heap.size+1,1,none⟩=some (.func (.func 236) #[] #[qP fb]):=(z.cell (p:=⟨r.heap.size+1,1,none⟩) qs (fun c=>c)).trans (by simp[go_sem]);have aE:r.heap.size+1<d.heap.size:=qo;have bB:r.heap.size<d.heap.size:=qo;clear z aq K2 kB F8 G0 G1;gi_wp2
  refine yH ?_;gi_wp2_with fail
  have aF:jJ (fun k=>k<d.heap.size) (fun k=>k=d.heap.size) ((d.alloc (.cells #[(qP Y),(.slice D (ty.ins.length+ls.length) c2),qN,qN,qJ 0] 210)).alloc (.cells #[qP d.heap.size] 206)) d.heap.size (qP Y) (.slice D (ty.ins.length+ls.length) c2) ⟨[],[],0⟩:=
   ⟨qN,qN,(kY.new d #[(qP Y),(.slice D (ty.ins.length+ls.length) c2),qN,qN,qJ 0] 210).kept ((Kept.refl (fun _=>False) _).alloc _) qs (fun c=>c),rfl,Row.nil _ _ _ _,⟨[],Row.nil _ _ _ _,trivial⟩,fun k X c=>qo,fun k X=>by simp;omega⟩
  have ar:∀o1 o2,qK d ((d.alloc o1).alloc o2):=fun o1 o2=>(qr.alloc _).alloc _;have aG:dG (fun k=>k<d.heap.size) ty.outs d (.slice G ty.outs.length H):=Row.mono (Row.kept a1.o aa.o (fun _ _ _ c=>c)) (fun g J _=>J);refine⟨trivial,(callsIn_wide.2 (enter_at (t:=⟨[],ty.outs⟩) 2 (At.new aF ⟨trivial,qs⟩ qs qs) (fun c=>absurd rfl c) (Row.nil _ _ _ _) (Row.kept aG (ar _ _) (fun _ _ _ c=>c)) qs a5.2 qs qs)).mono ?_⟩;rintro e N ⟨aH,-,ae,-⟩;obtain⟨rfl,aI⟩:=aH _ rfl;have af:qK d N:=(ar _ _).fresh ae (fun i hi (c:i=d.heap.size)=>qo);have ba:=ae.size;simp at ba;have D0:N.cell? ⟨r.heap.size+1,0,none⟩=some (.slice pl ls.length cl):=(af.cell (p:=⟨r.heap.size+1,0,none⟩) aE (fun c=>c)).trans C0;have D1:N.cell? ⟨r.heap.size+1,1,none⟩=some (.func (.func 236) #[] #[qP fb]):=(af.cell (p:=⟨r.heap.size+1,1,none⟩) aE (fun c=>c)).trans C1;have V4:kY N (d.heap.size+1) [qP d.heap.size]:=(kY.new' (w:=d.alloc (.cells #[(qP Y),(.slice D (ty.ins.length+ls.length) c2),qN,qN,qJ 0] 210)) (c:= #[qP d.heap.size]) (t:=206) qs).kept ae qs (fun(c:d.heap.size+1=d.heap.size)=>qo);have aJ:=hide aI;have aK:=hide V4;have aL:=hide af;clear aH aI ae aF aG ar C0 C1 B0 B1 af V4;gi_wp2
  refine yH ?_;gi_wp2
  refine Tj ?_;have au:=aJ.o;have O:=aL.o;have V5:=aK.o;have aM:=(aL.o.block fb qo (fun c=>c)).trans ((aa.o.block fb aY (fun c=>c)).trans aZ.o);refine Ti (m:=8) (fb:=fb) (s:=s) (i:=ad) (n:=M) (Hl:=fun q p W=>jv s m f=.error (q,p)/\Kept (fun k=>¬k<d.heap.size) d W) (I:=Gone (fun k=>k<d.heap.size) d m (ty.ins++ls) s M (jv s m f) (d.heap.size+1) d.heap.size (qP Y) (.slice D (ty.ins++ls).length c2)) (F0:=fun k=>k<d.heap.size\/(k=d.heap.size\/d.heap.size+2<=k/\k<N.heap.size)\/k=d.heap.size+1) ⟨_,func90⟩ (by rfl) Gh ?hf ?hI ?hw ?hdone ?hstop ?hbad
  case hf=>exact Jd aM a8 aC hs
  case hI=>rw[List.length_append];obtain⟨sv,bv,hB⟩:=au.body;refine⟨fun k=>k<d.heap.size,fun k=>k=d.heap.size\/d.heap.size+2<=k/\k<N.heap.size,⟨[],[⟨2,[],ty.outs,0,false⟩],0⟩,fun k h=>h,fun k=>Iff.rfl,fun k X=>qo,qo,qo,qo,⟨sv,bv,hB.more (fun k X=>?_) (fun k X c=>qo)⟩,au.tidy,O.mono (fun _ _ c=>c.elim),V5,rfl,qZ,M - ad,qR,HF.o⟩;obtain⟨U,L⟩:=X;simp[More] at U L;omega
  case hw=>
   have bb:qh (MV s (fun k=>k<d.heap.size) d Y m):=(a3.o.kept aa.o (fun _ _ _ c=>c)).mono (fun g J _=>J);have bc:qh (dG (fun k=>k<d.heap.size) (ty.ins++ls) d (.slice D (ty.ins++ls).length c2)):=Row.mono aD.o (fun g J _=>J);clear au O V5 aJ aK aD D0 D1 aM;refine⟨fun o j F W W' S h X hs=>h.still X hs,fun o j F W k h X=>h.lt X,?_⟩;rintro l os o' P F W Q x y gv bC bD hG he hj bd hT aN be aO av E hh ag bE aP;obtain⟨pg,cg,rfl⟩:=Row.shape av;obtain⟨R,T,rfl⟩:=Row.shape E;have aQ:=hide (fun C (ah:Kept (only l) W C)=>hG.check (l:=l) bb.o bc.o (Nat.lt_irrefl _) ho hs aC aA bd hT aN be hj aO av E hh ag aP ah);obtain⟨K2,O2,bf,U,L,-,-,-,h6,h7,-,-,aR,-⟩:=hG;have bg:l≠d.heap.size+1:=fun c=>ag ((L l).2 (.inr (.inr c)));have bh:¬O2 l:=fun c=>ag ((L l).2 (.inr (.inl c)));have bi:¬K2 l:=fun c=>ag ((L l).2 (.inl c));clear hT aN aO av E hh aP U L;refine⟨W.alloc (.cells (yC P Q x y (.slice pg y.dH.length cg) (.slice R y.dF.length T)).toArray 213),{tmps:= #[qP Y,qJ f,undef,undef,qP r.heap.size,.pointer (some ⟨r.heap.size+1,0,none⟩),.pointer (some ⟨d.heap.size+1,0,none⟩),qP W.heap.size,qP Y,qJ f,.agg #[.slice Z ty.ins.length ci,.slice G ty.outs.length H],qP Y,qP Y,.pointer (some (qA Y 8)),.slice (some (qA g 0)) m.funcs.length A,qJ f,.pointer (some ⟨g,f*2,none⟩),.agg #[.slice pl ls.length cl,.func (.func 236) #[] #[qP fb]],qP Y,qP r.heap.size,.slice Z ty.ins.length ci,.pointer (some ⟨r.heap.size+1,0,none⟩),.slice pl ls.length cl,.slice (some ⟨r.heap.size+1+1,0,none⟩) 2 2,.slice D (ty.ins.length+ls.length) c2,.agg #[qP Y,.slice D (ty.ins.length+ls.length) c2,qN,qN,qJ 0],qP d.heap.size,qP d.heap.size,.pointer (some (qA r.heap.size 1)),.slice G ty.outs.length H,.agg #[qN,.slice G ty.outs.length H],.tuple #[],.pointer (some ⟨r.heap.size+1,1,none⟩),.func (.func 236) #[] #[qP fb],.agg (yC P Q x y (.slice pg y.dH.length cg) (.slice R y.dF.length T)).toArray,undef,undef,undef,undef,undef,undef,undef,undef],defers:=[]},fun KK hK=>?_,qr.alloc _,fun C z=>?_⟩
   .simp only[uD];gi_wp2
    exact hK
   have aS:kY C W.heap.size (yC P Q x y (.slice pg y.dH.length cg) (.slice R y.dF.length T)):=(kY.new W (yC P Q x y (.slice pg y.dH.length cg) (.slice R y.dF.length T)).toArray 213).kept z qs (fun(e:W.heap.size=l)=>qo);have aT:=(h7.alloc (.cells (yC P Q x y (.slice pg y.dH.length cg) (.slice R y.dF.length T)).toArray 213)).keep z (fun k _ (e:k=l)=>e▸⟨bh,bi⟩);have V2:=(aR.alloc h6 (.cells (yC P Q x y (.slice pg y.dH.length cg) (.slice R y.dF.length T)).toArray 213)).kept z qt (fun e=>bg e.symm);have ah:Kept (only l) W C:=(qr.alloc _).trans z;have bF:=h7.lt;have bG:d.heap.size+1<C.heap.size:=Nat.lt_of_lt_of_le h6 ah.size;have bH:d.heap.size<C.heap.size:=qo;have bI:¬W.heap.size=d.heap.size:=qo;obtain⟨⟨I0,J0⟩,⟨I1,J1⟩,⟨I2,J2⟩,⟨I3,J3⟩,⟨I4,J4⟩,⟨I5,J5⟩,⟨I6,J6⟩,⟨I7,J7⟩,⟨I8,J8⟩,⟨I9,J9⟩⟩:=aS.ten;obtain⟨P0,P1⟩:=V2.yB;obtain⟨Q4,R4⟩:∃u,C.cell? (qA d.heap.size 4)=some u/\C.frozen? (qA d.heap.size 4)=false:=by
    obtain⟨sv,bv,bj⟩:=aT;obtain⟨-,-,-,-,⟨a,b⟩⟩:=bj.blk.five;exact⟨_,a,b⟩
   obtain⟨R4,S4⟩:=R4;have bk:=hide (aQ.o C ah);clear aT aS V2 h7 aR aQ;dsimp only;gi_wp2_with fail
   refine⟨trivial,(CallsIn.inRound l (callsIn_wide.2 bk.o)).mono ?_⟩;rintro e W3 (⟨rfl,F',bm,aw,bn⟩ | ⟨q,p,rfl,hw,bo,aw⟩)
   .gi_wp2
    exact⟨F',bm,aw,bn⟩
   exact⟨q,p,rfl,⟨hw,bo.mono (fun k _ c=>qo)⟩,aw⟩
  case hdone=>
   intro B j2 F' W' ax bp hD ai aj;obtain⟨K2,O2,bf,-,-,-,-,-,-,-,-,bq,-,ay⟩:=bp;have ay:jv s m f=.ok ():=ay;have br:d.heap.size<=B:=by have:=O.size;omega
   have az:qK w (W'.putObj B (.deferred none)):=((aB.o.trans aa.o).trans (((O.mono (fun _ _ c=>c.elim)).trans aj).sharp (fun k X=>bq.block k X (fun c=>c X)))).fresh Kept.putObj (fun k X (e:k=B)=>qo);refine⟨qs,.inl ⟨B,_,rfl,run_takeDeferred ai,?_⟩⟩;exact⟨_,results_none rfl _ _ _,Says.dW ay az rfl⟩
  case hstop=>intro B q p aU W' ax aV hD ai aj;obtain⟨j,hj⟩:=a6.o;have hj:zk s M ad=.ok j:=hj;rw[hj] at ax;cases ax
  intro B q p aU W' hb aV hD ai aj;have br:d.heap.size<=B:=by have:=O.size;omega
  have az:qK w (W'.putObj B (.deferred none)):=((aB.o.trans aa.o).trans (((O.mono (fun _ _ c=>c.elim)).trans aj).sharp (fun k X=>hb.2.block k X (fun c=>c X)))).fresh Kept.putObj (fun k X (e:k=B)=>qo);refine⟨qs,.inl ⟨B,_,rfl,run_takeDeferred ai,?_⟩⟩;show Looks _ _ (Ending.panicked aU) _;rw[aV];exact Says.dD hb.1 az
 intro w' h;rcases hr:jv s m f with qp|x
 .have:=h.err qp.1 qp.2 hr;cases this
 obtain⟨v,e,-⟩:=h.ok _ hr;cases e
end
theorem NT{a:Type}{f:a->Except Err Unit}:∀{xs:List a},dV f xs=.ok ()->∀x∈xs,f x=.ok ()
 | [],_,x,hx=>by simp at hx
 | y::ys,h,x,hx=>by
  simp only[dV] at h;rcases hy:f y with e|u
  .rw[hy] at h;cases h
  rw[hy] at h;rcases List.mem_cons.1 hx with rfl | hx
  .exact hy
  exact NT h x hx
section
variable {K:qD} {w:qW} {Y:Nat} {s:qS} {m:fE}
def OX(s:qS)(m:fE):Except Err Unit:=
 nI (dV (nG 20) m.tables) <|
 nI (dV (nG 16) m.jT) <|
 nI (dV (fun g=>kE g.kind g.first) m.dB) <|
 nI (dV (gJ m) (List.range m.dw.length)) <|
 nI (dV (jk m) m.starts) <|
 nI (dV (lC m) m.elems) <|
 nI (dV (jv s m) (List.range m.dQ.length)) <|
 dV (mI m) m.data
theorem NP:Px s m=nI (dV (iT m.dm.length) m.funcs) (OX s m):=rfl
theorem tN{a b:Except Err Unit}{e:Err}(h:a=.error e):nI a b=.error e:=by rw[h];rfl
theorem qf{a b:Except Err Unit}(h:a=.ok ()):nI a b=b:=by rw[h];rfl
theorem MV.adt(h:MV s K w Y m):kC s K w (Y+1) Y m:=by
 have a:=h.lt;obtain⟨-,f,U,L⟩:=h;exact⟨f,⟨U,a,qo⟩,L⟩
theorem MV.lists(h:MV s K w Y m):∃e c0 b c1 c c2 d c3 g i,w.cell? (qA Y 0)=some (.slice e m.dm.length c0)/\w.cell? (qA Y 1)=some (.slice b m.funcs.length c1)/\w.cell? (qA Y 2)=some (.slice c m.tables.length c2)/\w.cell? (qA Y 3)=some (.slice d m.jT.length c3)/\w.cell? (qA Y 8)=some (.slice g m.dQ.length i)/\
  isRow 152 2 numCells K m.funcs w (.slice b m.funcs.length c1)/\isRow 186 4 Hf.cells K m.tables w (.slice c m.tables.length c2)/\isRow 186 4 Hf.cells K m.jT w (.slice d m.jT.length c3):=by
 obtain⟨-,f,j,a⟩:=h;obtain⟨⟨F0,-⟩,⟨k,-⟩,⟨l,-⟩,⟨n,-⟩,-,-⟩:=j.twelve.1;obtain⟨o,-⟩:=j.twelve.2.2.2.1;obtain⟨B,t,-⟩:=a.h0;obtain⟨C,u,-⟩:=a.h8;obtain⟨e,c0,v⟩:=Row.shape t;obtain⟨b,c1,x⟩:=Row.shape a.U;obtain⟨c,c2,y⟩:=Row.shape a.L;obtain⟨d,c3,z⟩:=Row.shape a.h3;obtain⟨g,i,A⟩:=Row.shape u;have p:=a.U;have q:=a.L;have r:=a.h3;rw[v] at F0;rw[x] at k p;rw[y] at l q;rw[z] at n r;rw[A] at o;exact⟨e,c0,b,c1,c,c2,d,c3,g,i,F0,k,l,n,o,p,q,r⟩
theorem Py(R:MV s K w Y m)(I:mK s.size m)(hs:s.size<=5000)(an:nL s m)(hc:m.dQ.length=m.funcs.length):
  qC 56 #[qP Y] w (Looks w (Px s m)):=by
 have D:=R.lt;have G:=hide R;obtain⟨p0,c0,p1,c1,p2,c2,p3,c3,p8,c8,F0,F1,F2,F3,F8,hr,r2,r3⟩:=R.lists;have aD:=hide r2;have aE:=hide r3;have l:=hide I;have aF:=hide an;have ao:=hide hc;have aM:=I.funcs.1;have aN:m.dQ.length<=20:=qo;have HX:qh (∀x∈m.funcs,0<=x.1/\x.1<=4294967295):=fun x hx=>⟨(I.funcs.2 x hx).1,(I.funcs.2 x hx).2.1⟩;clear R r2 r3 I an hc;have J:qh (dV (iT m.dm.length) m.funcs=dV (iT m.dm.length) (m.funcs.drop 0)):=by show _=_;simp
 go_enter func56,ntmps56;go_wp2;go_loopw [10] (fun q h=>∃k:Nat,k<=m.funcs.length/\q=qJ k/\qK w h/\dV (iT m.dm.length) m.funcs=dV (iT m.dm.length) (m.funcs.drop k)) (fun q _=>m.funcs.length - (intOf q).toNat)
 case atStart=>exact⟨0,qZ,rfl,Kept.refl _ _,J.o⟩
 obtain⟨k,X,rfl,z,L⟩:=hrel;obtain⟨h,aG⟩:∃x,x=wr:=⟨wr,rfl⟩;subst aG;have n:=hide L;clear L J;by_cases M:k<m.funcs.length
 .have hlt':(k:Int)<(m.funcs.length:Int):=qo;have ap:isRow 152 2 numCells K m.funcs h (.slice p1 m.funcs.length c1):=Row.kept hr z (fun _ _ _ hc=>hc);obtain⟨g,A,hv,-,aO,aP,aa⟩:=Row.cells ap qo;cases hv;have hy:m.funcs[k]?=some m.funcs[k]:=List.getElem?_eq_getElem M;have E:=hide (fun e=>rP (f:=iT m.dm.length) (e:=e) M);have F:=hide (uG (f:=iT m.dm.length) M);have d0:h.cell? ⟨g,k*2,none⟩=some (.int .u32 m.funcs[k].1):=(aa (k*2) qo).trans (flat_get (m:=2) (o:=0) (fun _=>rfl) hy qo);have d1:h.cell? ⟨g,k*2+1,none⟩=some (qJ (m.funcs[k].2:Nat)):=(aa (k*2+1) qo).trans (flat_get (m:=2) (o:=1) (fun _=>rfl) hy qo);have aq:=HX.o _ (List.getElem_mem M);have aH:=(z.cell (p:=(qA Y 0)) D (fun c=>c)).trans F0;have ar:Y<h.heap.size:=Nat.lt_of_lt_of_le D z.size;clear aa ap hy;generalize m.funcs[k]=x at*;obtain⟨r,t⟩:=x;simp only at d0 d1 aq E F;obtain⟨au,av⟩:=aq;have B:qK w ((h.alloc (.cells #[.int .u32 r,qJ t] 152)).drew):=(z.alloc _).drew;have aI:qK h ((h.alloc (.cells #[.int .u32 r,qJ t] 152)).drew):=(qr.alloc _).drew;have aw:h.heap.size<((h.alloc (.cells #[.int .u32 r,qJ t] 152)).drew).heap.size:=qs;have HS:qh (∀w',qK ((h.alloc (.cells #[.int .u32 r,qJ t] 152)).drew) w'->(fun w':qW=>w'.cell? (qA h.heap.size 0)=some (.int .u32 r)/\w'.cell? (qA h.heap.size 1)=some (qJ t)/\w'.cell? (qA Y 0)=some (.slice p0 m.dm.length c0)) w'):=fun w' X=>⟨(X.cell (p:=(qA h.heap.size 0)) aw (fun c=>c)).trans qs,(X.cell (p:=(qA h.heap.size 1)) aw (fun c=>c)).trans qs,((aI.trans X).cell (p:=(qA Y 0)) ar (fun c=>c)).trans aH⟩;have j:=hide (HS.o _ qr);by_cases ab:r<(m.dm.length:Int)
  .have C:=hide (n.o.trans (F.o (by simp[iT,ab])));clear E F n;go_wp2_with fail
   refine wp_region_held_drew (S:=fun w':qW=>w'.cell? (qA h.heap.size 0)=some (.int .u32 r)/\w'.cell? (qA h.heap.size 1)=some (qJ t)/\w'.cell? (qA Y 0)=some (.slice p0 m.dm.length c0)) qk j.o (fun _=>?_);refine jK 0 j.o ?_;refine jK 1 j.o ?_;refine jK 2 j.o ?_;refine jK 3 j.o ?_;refine jK 4 j.o ?_;refine jK 5 j.o ?_;refine wpAnyH_all (rs:=[6]) qk qs ?_;intro i N;rw[List.mem_singleton] at N;subst N;refine jH (f:=84) (args:= #[.agg #[.int .u32 r,qJ t],qJ m.dm.length]) rfl rfl qk (su _ ab au av) ?_;rintro ee w2 ⟨rfl,rfl⟩;refine .inl ⟨_,rfl,HS.o _ (qr.alloc _),?_⟩;refine wpAnyH_done qk ?_ _;dsimp only[Act.put,qy,qz,qw];clear j HS;go_wp2;go_roundw
   case rel=>exact⟨k+1,qo,by go_num,B.alloc _,C.o⟩
   simp[intOf];omega
  have C:=hide (NP.trans (tN (b:=OX s m) (n.o.trans (E.o (3,t) (by simp[iT,ab])))));have aJ:(m.dm.length:Int)<=r:=qo;clear E F n;go_wp2_with fail
  refine wp_region_held_drew (S:=fun w':qW=>w'.cell? (qA h.heap.size 0)=some (.int .u32 r)/\w'.cell? (qA h.heap.size 1)=some (qJ t)/\w'.cell? (qA Y 0)=some (.slice p0 m.dm.length c0)) qk j.o (fun _=>?_);refine jK 0 j.o ?_;refine jK 1 j.o ?_;refine jK 2 j.o ?_;refine jK 3 j.o ?_;refine jK 4 j.o ?_;refine jK 5 j.o ?_;refine wpAnyH_all (rs:=[6]) qk qs ?_;intro i N;rw[List.mem_singleton] at N;subst N;refine rH (f:=84) (args:= #[.agg #[.int .u32 r,qJ t],qJ m.dm.length]) rfl rfl qk (pI _ aJ au av) ?_;rintro e w2 ⟨rfl,rfl⟩;refine⟨_,rfl,?_⟩;exact⟨rfl,Says.dD C.o (B.alloc _)⟩
 have C:=n.o.trans (xX M);have ax:qh (∀x∈m.funcs,0<=x.1/\x.1<(m.dm.length:Int)):=fun x hx=>⟨(HX.o x hx).1,by
  have:=NT C x hx;unfold iT at this;split at this
  .assumption
  cases this⟩
 have ac:=hide (NP.trans (qf (b:=OX s m) C));clear n C hr;have aQ:=(z.cell (p:=(qA Y 2)) D (fun c=>c)).trans F2;have ar:Y<h.heap.size:=Nat.lt_of_lt_of_le D z.size;go_wp2_with fail
 refine(zG 20 (Row.kept aD.o z (fun _ _ _ c=>c)) (by have:=l.o.tables.1;omega)).mono ?_;rintro e w1 ⟨ay,a,d⟩;have B:=z.trans ay;rcases hq:dV (nG 20) m.tables with⟨q,p⟩|u
 .obtain rfl:=d _ _ hq;exact⟨rfl,Says.dD (ac.o.trans (tN hq)) B⟩
 obtain⟨v,rfl,rfl⟩:=a u hq;have ad:=hide (ac.o.trans (qf hq));clear a d hq ac ay;have aR:=(B.cell (p:=(qA Y 3)) D (fun c=>c)).trans F3;have aS:Y<w1.heap.size:=Nat.lt_of_lt_of_le D B.size;go_wp2_with fail
 refine(zG 16 (Row.kept aE.o B (fun _ _ _ c=>c)) (by have:=l.o.jT.1;omega)).mono ?_;rintro e w2 ⟨ae,a,d⟩;have T:=B.trans ae;rcases hq:dV (nG 16) m.jT with⟨q,p⟩|u
 .obtain rfl:=d _ _ hq;exact⟨rfl,Says.dD (ad.o.trans (tN hq)) T⟩
 obtain⟨v,rfl,rfl⟩:=a u hq;have af:=hide (ad.o.trans (qf hq));clear a d hq ad ae;go_wp2_with fail
 refine(FI (G.o.kept T (fun _ _ _ c=>c)).adt (by have:=l.o.dB.1;omega)).mono ?_;rintro e w3 ⟨az,a,d⟩;have U:=T.trans az;rcases hq:dV (fun g=>kE g.kind g.first) m.dB with⟨q,p⟩|u
 .obtain rfl:=d _ _ hq;exact⟨rfl,Says.dD (af.o.trans (tN hq)) U⟩
 obtain⟨v,rfl,rfl⟩:=a u hq;have ag:=hide (af.o.trans (qf hq));clear a d hq af az;go_wp2_with fail
 refine(FJ (G.o.kept U (fun _ _ _ c=>c)) (by have:=l.o.dw.1;omega) (fun x hx=>⟨(l.o.dw.2 x hx).2.1.1,(l.o.dw.2 x hx).2.1.2.1⟩)).mono ?_;rintro e w4 ⟨aA,a,d⟩;have V:=U.trans aA;rcases hq:dV (gJ m) (List.range m.dw.length) with⟨q,p⟩|u
 .obtain rfl:=d _ _ hq;exact⟨rfl,Says.dD (ag.o.trans (tN hq)) V⟩
 obtain⟨v,rfl,rfl⟩:=a u hq;have ah:=hide (ag.o.trans (qf hq));clear a d hq ag aA;go_wp2_with fail
 refine(Km (G.o.kept V (fun _ _ _ c=>c)) (by have:=l.o.starts.1;omega) (fun x hx=>⟨(l.o.starts.2 x hx).1,(l.o.starts.2 x hx).2.1⟩) ax.o).mono ?_;rintro e w5 ⟨aB,a,d⟩;have W:=V.trans aB;rcases hq:dV (jk m) m.starts with⟨q,p⟩|u
 .obtain rfl:=d _ _ hq;exact⟨rfl,Says.dD (ah.o.trans (tN hq)) W⟩
 obtain⟨v,rfl,rfl⟩:=a u hq;have ai:=hide (ah.o.trans (qf hq));clear a d hq ah aB;go_wp2_with fail
 refine(Ep (G.o.kept W (fun _ _ _ c=>c)) (by have:=l.o.elems.1;omega) (fun x hx=>l.o.elems.2 x hx)).mono ?_;rintro e w6 ⟨aC,a,d⟩;have O:=W.trans aC;rcases hq:dV (lC m) m.elems with⟨q,p⟩|u
 .obtain rfl:=d _ _ hq;exact⟨rfl,Says.dD (ai.o.trans (tN hq)) O⟩
 obtain⟨v,rfl,rfl⟩:=a u hq;have aj:=hide (ai.o.trans (qf hq));clear a d hq ai aC;have aK:=(O.cell (p:=(qA Y 8)) D (fun c=>c)).trans F8;have aT:Y<w6.heap.size:=Nat.lt_of_lt_of_le D O.size;have J:qh (dV (jv s m) (List.range m.dQ.length)=dV (jv s m) ((List.range m.dQ.length).drop 0)):=by show _=_;simp
 go_wp2;go_loopw [45] (fun q wr=>∃k:Nat,k<=m.dQ.length/\q=qJ k/\qK w wr/\dV (jv s m) (List.range m.dQ.length)=dV (jv s m) ((List.range m.dQ.length).drop k)) (fun q _=>m.dQ.length - (intOf q).toNat)
 case atStart=>exact⟨0,qZ,rfl,O,J.o⟩
 obtain⟨y,ae,rfl,H,L⟩:=hrel;have n:=hide L;clear L J aK O W V U T B z;by_cases Z:y<m.dQ.length
 .have afY:(y:Int)<(m.dQ.length:Int):=qo;have ak:(List.range m.dQ.length)[y]'(by simpa using Z)=y:=qs;have E:qh (∀e,jv s m y=.error e->dV (jv s m) (List.range m.dQ.length)=.error e):=fun e he=>n.o.trans (rP (by simpa using Z) (by rw[ak];exact he));have F:qh (jv s m y=.ok ()->dV (jv s m) (List.range m.dQ.length)=dV (jv s m) ((List.range m.dQ.length).drop (y+1))):=fun he=>n.o.trans (uG (by simpa using Z) (by rw[ak];exact he));clear ak n;go_wp2_with fail
  refine(LY (f:=y) (G.o.kept H (fun _ _ _ c=>c)) l.o hs aF.o ax.o (by have:=ao.o;omega) ao.o).mono ?_;rintro e w7 ⟨P,a,d⟩;have Q:=H.trans P;rcases hq:jv s m y with⟨q,p⟩|u
  .obtain rfl:=d _ _ hq;exact⟨rfl,Says.dD (aj.o.trans (tN (E.o _ hq))) Q⟩
  obtain⟨v,rfl,rfl⟩:=a u hq;have C:=hide (F.o hq);clear a d hq F E P H;go_wp2;go_roundw
  case rel=>exact⟨y+1,qo,by go_num,Q,C.o⟩
  simp[intOf];omega
 have am:=hide (aj.o.trans (qf (n.o.trans (xX (by simpa using Z)))));clear n aj;go_wp2_with fail
 refine(LX (G.o.kept H (fun _ _ _ c=>c)).adt (by have:=l.o.data.1;omega)).mono ?_;rintro e w7 ⟨P,a,d⟩;have Q:=H.trans P;rcases hq:dV (mI m) m.data with⟨q,p⟩|u
 .obtain rfl:=d _ _ hq;exact⟨rfl,Says.dD (am.o.trans hq) Q⟩
 obtain⟨v,rfl,rfl⟩:=a u hq;have aL:=hide (am.o.trans hq);clear a d hq am P H;go_wp2;go_end0;exact Says.dW aL.o Q rfl
end
theorem uO.mono{s:qS}{K K':qD}{w:qW}{f:Fields}{m:fE}(H:uO s K w f m)(hm:∀g,g<w.heap.size->K g->K' g):uO s K' w f m:=by
 refine⟨H.h0.mono hm ?_,Row.mono H.U hm,Row.mono H.L hm,Row.mono H.h3 hm,Row.mono H.h4 hm,Row.mono H.h5 hm,Row.mono H.h6 hm,H.h7.mono hm ?_,H.h8.mono hm ?_,Row.mono H.h9 hm,Row.mono H.h10 hm,H.h11.mono hm ?_,H.Cj,H.Ci,H.xR⟩
 .rintro x cs ⟨a,b,e,c,d⟩;exact⟨a,b,e,Row.mono c hm,Row.mono d hm⟩
 .exact WJ
 .rintro x cs ⟨a,b,e,c,d⟩;exact⟨a,b,e,Row.mono c hm,d.mono hm⟩
 exact WJ
theorem Es{s:qS}{e:Err}(h:nO s=.error e):oo s=.error e:=by simp[oo,h]
theorem Sq{s:qS}{m:fE}{j:Nat}(h:nO s=.ok (m,j)):oo s=Px s m:=by simp[oo,h]
theorem LG{w:qW}{bx mx:Nat}{s:qS}{o:qO}(hb:w.cell? (qA bx 0)=some (.string s))(y:kY w mx [.pointer o])(z:s.size<=5000):
  qC 54 #[qP bx,qP mx] w fun e w'=>Kept (only mx) w w'/\(∃o,w'.cell? (qA mx 0)=some (.pointer o))/\(∀x,oo s=.ok x->qU e)/\∀q p,oo s=.error (q,p)->e=iK q p:=by
 have r:=y.lt;obtain⟨A,N⟩:=y.ZQ;go_enter func54,ntmps54;go_wp2_with fail
 refine(ZG s _ z).mono ?_;rintro e i ⟨d,l,n⟩;rcases a:nO s with⟨q,p⟩|⟨m,j⟩
 .obtain rfl:=n _ _ a;exact⟨rfl,d.mono (fun _ _ c=>c.elim),⟨o,(d.cell (p:=(qA mx 0)) r (fun c=>c)).trans A⟩,fun x h=>by(rw[Es a] at h;cases h),fun C p' h=>by rw[Es a] at h;cases h;rfl⟩
 obtain⟨b,Y,B,rfl,U,L,h3,h4,f,D,E⟩:=l _ _ a;obtain⟨O,P⟩:=DI a;have Q:=QC a;have R:=(d.cell (p:=(qA mx 0)) r (fun c=>c)).trans A;have C1:=(d.frozen (p:=(qA mx 0)) r (fun c=>c)).trans N;have F:MV s (fun k=>w.heap.size<=k) i Y m:=⟨U,f,D.blk,E.mono (fun g _ T=>qo)⟩;have G:MV s (fun k=>w.heap.size<=k) (i.setCell (qA mx 0) (qP Y)) Y m:=F.kept (S:=only mx) (qr.own _) (fun g _ T (e:g=mx)=>qo);have V:=hide G;have t:=hide (Sq a);have H:Kept (only mx) w (i.setCell (qA mx 0) (qP Y)):=(d.mono (fun _ _ c=>c.elim)).own _;have I:(i.setCell (qA mx 0) (qP Y)).cell? (qA mx 0)=some (qP Y):=World.cell?_setCell_same _ _ _ R;have W:mx<(i.setCell (qA mx 0) (qP Y)).heap.size:=by simpa using Nat.lt_of_lt_of_le r d.size
 have X:=hide I;have Z:=hide H;clear l n a E D F G d I H;go_wp2_with fail
 refine(Py V.o O z Q P).mono ?_;rintro e w2 ⟨J,l,n⟩;have K:Kept (only mx) w w2:=Z.o.trans (J.mono (fun _ _ c=>c.elim));have M:=(J.cell (p:=(qA mx 0)) W (fun c=>c)).trans X.o;rcases hq:Px s m with⟨q,p⟩|u
 .obtain rfl:=n _ _ hq;exact⟨rfl,K,⟨_,M⟩,fun x h=>by(rw[t.o,hq] at h;cases h),fun C p' h=>by rw[t.o,hq] at h;cases h;rfl⟩
 obtain⟨v,rfl,rfl⟩:=l u hq;have HQ:=hide (t.o.trans hq);clear l n hq;go_wp2;go_end0;exact⟨K,⟨_,M⟩,fun _ _=>rfl,fun C p' h=>by(rw[HQ.o] at h;cases h)⟩
theorem Fv:Enters 54:=enters_of func54 qk qk
def jo(s:qS):Nat×Nat:=if 5000<s.size then(1,0) else answer (oo s)
theorem Ry(s:qS)(w:qW)(C:s.size<=9223372036854775807):
  qC 35 #[.string s] w fun e w'=>(∃o,e=.returned (.tuple #[.pointer o,qJ ((jo s).1:Nat),qJ ((jo s).2:Nat)]))/\qK w w':=by
 have D:∀(fn:Fn) (first A:Array qv) (w:qW),(Instr.makeFunc fn first A).run prog w=.ok (.func fn first A) w:=fun _ _ _ _=>rfl;by_cases a:5000<s.size
 .have x:decide ((5000:Int)<(s.size:Int))=true:=decide_eq_true qo;have b:qh (jo s=(1,0)):=by show _=_;simp[jo,a]
  clear a;go_enter func35,ntmps35;go_wp2;go_ret3
  exact⟨⟨none,by rw[b.o];rfl⟩,qr.alloc _⟩
 have x:decide ((5000:Int)<(s.size:Int))=false:=qd;have b:qh (jo s=answer (oo s)):=by show _=_;simp[jo,a]
 have l:s.size<=5000:=qo;have y:=hide l;clear a l;go_enter func35,ntmps35;go_wp2_with fail
 refine(Rw (S:=only (w.heap.size+1)) (V:=fun W=>w.heap.size+1<W.heap.size/\∃o,W.cell? ⟨w.heap.size+1,0,none⟩=some (.pointer o)) (r:=oo s) Fv ?_ ?_ ?_).mono ?_
 .rintro k rfl;simp
 .intro W X;have m:=(kY.new' (w:=w.alloc (.cells #[.string s] 9)) (g:=w.heap.size+1) (c:= #[.pointer none]) (t:=89) qs).kept X qs (fun c=>c);refine(LG (bx:=w.heap.size) (mx:=w.heap.size+1) (s:=s) ?_ m y.o).mono ?_
  .exact(X.cell (p:=(qA w.heap.size 0)) qt (fun c=>c)).trans (by simp[go_sem])
  rintro e z ⟨U,L,h3,h4⟩;exact⟨U,⟨Nat.lt_of_lt_of_le m.lt U.size,L⟩,h3,h4⟩
 .rintro W z ⟨a,o,n⟩ X;exact⟨Nat.lt_of_lt_of_le a X.size,o,(X.cell (p:=⟨w.heap.size+1,0,none⟩) a (fun(c:_<=_)=>by simp at c;omega)).trans n⟩
 rintro e B ⟨X,⟨a,o,n⟩,f,h⟩;have v:qK w B:=((qr.alloc _).alloc _).fresh X (fun i E (c:i=_)=>qo);rcases d:oo s with⟨q,p⟩|u
 .obtain rfl:=h q p d;have j:qh (jo s=(q,p)):=by show _=_;rw[b.o,d];rfl
  clear f h d b;go_wp2;go_ret3
  exact⟨⟨o,by rw[j.o];rfl⟩,v⟩
 obtain rfl:=f u d;have j:qh (jo s=(0,0)):=by show _=_;rw[b.o,d];rfl
 clear f h d b;go_wp2;go_ret3
 exact⟨⟨o,by rw[j.o];rfl⟩,v⟩
theorem check_any(s:qS)(w:qW)(a:s.size<=9223372036854775807):
  qC 10 #[.string s] w fun e w'=>e=.returned (.tuple #[qJ ((jo s).1:Nat),qJ ((jo s).2:Nat)])/\qK w w':=by
 go_enter func10,ntmps10;go_wp2_with fail
 refine(Ry s _ a).mono ?_;rintro e b ⟨⟨o,rfl⟩,X⟩;go_wp2;go_ret2
 exact⟨rfl,X⟩
def Ib{β:Type}(f:RS->β×RS):Prop:=∀Z p,Z.bad=some p->(f Z).2.bad=some p
def yc{α β:Type}(s:qS)(R:α->β->Prop)(m:qS->Nat->Nat->Except Err (α×Nat))(f:RS->β×RS):Prop:=
 ∀n i,i<=n->n<=s.size->match m s n i with
  | .ok (x,j)=>∃y,f ⟨i,n,none⟩=(y,⟨j,n,none⟩)/\R x y/\i<=j/\j<=n
  | .error e=>e.1=2/\(f ⟨i,n,none⟩).2.bad=some e.2
section
variable {α β γ:Type} {s:qS} {R:α->β->Prop} {m:qS->Nat->Nat->Except Err (α×Nat)} {f:RS->β×RS} {n i j:Nat} {x:α} {e:Err}
theorem yc.ok(h:yc s R m f)(a:i<=n)(b:n<=s.size)(c:m s n i=.ok (x,j)):∃y,f ⟨i,n,none⟩=(y,⟨j,n,none⟩)/\R x y/\i<=j/\j<=n:=by
 have:=h n i a b;rw[c] at this;exact this
theorem yc.err(h:yc s R m f)(a:i<=n)(b:n<=s.size)(c:m s n i=.error e):e.1=2/\(f ⟨i,n,none⟩).2.bad=some e.2:=by
 have:=h n i a b;rw[c] at this;exact this
theorem yc.mono{c:α->β->Prop}(h:yc s R m f)(l:∀a b,R a b->c a b):yc s c m f:=by
 intro n i d g;cases k:m s n i with
 | ok q=>obtain⟨x,j⟩:=q;obtain⟨y,U,L,h3⟩:=h.ok d g k;exact⟨y,U,l _ _ L,h3⟩
 | error e=>exact h.err d g k
theorem iy{Z:RS}{p q:Nat}(h:Z.bad=some p):(dL Z q).bad=some p:=by
 unfold dL;rw[h];exact h
theorem acH{a n q:Nat}:dL ⟨a,n,none⟩ q=⟨a,n,some q⟩:=rfl
theorem vO:Ib (dO s):=by
 intro Z p h;unfold dO;rw[h];exact h
theorem l9(h:i<n):dO s ⟨i,n,none⟩=(bt s i,⟨i+1,n,none⟩):=by simp[dO,h]
theorem sN(h:¬i<n):dO s ⟨i,n,none⟩=(0,⟨i,n,some n⟩):=by simp[dO,h]
theorem agX:yc s (fun a b=>a=b) lD (dO s):=by
 intro n i c d;by_cases h:i<n
 .rw[eB h,l9 h];exact⟨_,rfl,rfl,qo,qo⟩
 rw[iW h,sN h];exact⟨rfl,rfl⟩
theorem XP:∀x:Fin 256,lastB x.val=decide (x.val<128):=by decide+kernel
theorem Ag{x:Nat}(h:x<256):lastB x=decide (x<128):=XP ⟨x,h⟩
theorem aaK:∀x:Fin 256,bits BinOp.and IntKind.u8 (x.val:Int) 127=((x.val%128:Nat):Int):=by decide+kernel
theorem wraps_u32(n:Int)(a:0<=n)(b:n<2 ^ 32):IntKind.u32.wrap n=n:=by rw[IntKind.wrap_u32];omega
theorem Ub(z y k:Nat)(h:z<2 ^ k):z|||y*2 ^ k=z+y*2 ^ k:=by
 have:=Nat.two_pow_add_eq_or_of_lt h y;rw[Nat.or_comm,Nat.mul_comm y];omega
theorem YY{z x k:Nat}(hx:x<256)(X:k<=4)(a:z<2 ^ (7*k))(h4:k=4->x<16):wW (z:Int) x k=((z+x%128*2 ^ (7*k):Nat):Int):=by
 unfold wW;rw[aaK ⟨x,hx⟩];have hp:(2:Int) ^ (7*k)=((2 ^ (7*k):Nat):Int):=qs;have hb:x%128*2 ^ (7*k)<2 ^ 32/\2 ^ (7*k)<=2 ^ 32:=by
  have:k=0\/k=1\/k=2\/k=3\/k=4:=qo;rcases this with rfl | rfl | rfl | rfl | rfl
  .omega
  .omega
  .omega
  .omega
  have:=h4 rfl;omega
 rw[hp];generalize g:x%128=y at hb;have b:((y:Nat):Int)%4294967296=(y:Int):=qo;rw[b];have c:((y:Nat):Int)*((2 ^ (7*k):Nat):Int)=((y*2 ^ (7*k):Nat):Int):=qs;rw[c];have d:((y*2 ^ (7*k):Nat):Int)%4294967296=((y*2 ^ (7*k):Nat):Int):=by
  have:=hb.1;generalize y*2 ^ (7*k)=P at*;omega
 rw[d,(bits_nat .u32 32 qx wraps_u32 z (y*2 ^ (7*k)) qo hb.1).2,Ub z y _ a]
theorem ZK(k:Nat):128 ^ k=2 ^ (7*k):=by rw[show(128:Nat)=2 ^ 7 by decide,<-Nat.pow_mul]
theorem abl{start:Nat}:∀(m k z j:Nat),m+1+k=5->z<128 ^ k->j<=n->match yw s n start (m+1) k (z:Int) j with
  | .ok ((v,a),d)=>∃y:Nat,v=(y:Int)/\a=start/\vv s (m+1) k z (128 ^ k) ⟨j,n,none⟩=(y,⟨d,n,none⟩)/\j<=d/\d<=n
  | .error e=>e.1=2/\(vv s (m+1) k z (128 ^ k) ⟨j,n,none⟩).2.bad=some e.2:=by
 intro m;induction m with
 | zero=>
  intro k z j X o r;obtain rfl:k=4:=qo;by_cases h:j<n
  .by_cases hg:bt s j<16
   .have hx:((bt s j:Int) / 16 !=0)=false:=by simp;omega
    have g:=ND hx;have l:=YY (z:=z) (k:=4) (xg s j) qo (by rw[<-ZK];exact o) (fun _=>hg);have b:yw s n start 1 4 (z:Int) j=.ok ((wW z (bt s j) 4,start),j+1):=Di (k:=4) qo h (fun c=>by rw[hx] at c;exact absurd c.2 qx) g;show match yw s n start 1 4 (z:Int) j with
     | .ok ((v,a),d)=>_
     | .error e=>_
    rw[b];refine⟨z+bt s j%128*2 ^ (7*4),l,rfl,?_,qo,qo⟩;have c1:¬15<bt s j:=qo;have c2:bt s j<128:=qo;simp[vv,l9 h,c1,c2]
   have hx:((bt s j:Int) / 16 !=0)=true:=by simp;omega
   have b:yw s n start 1 4 (z:Int) j=.error (2,j):=MJ (k:=4) rfl h hx;show match yw s n start 1 4 (z:Int) j with
    | .ok ((v,a),d)=>_
    | .error e=>_
   rw[b];refine⟨rfl,?_⟩;have c1:15<bt s j:=qo;simp[vv,l9 h,c1,acH]
  have b:yw s n start 1 4 (z:Int) j=.error (2,n):=OD (k:=4) qo h;show match yw s n start 1 4 (z:Int) j with
   | .ok ((v,a),d)=>_
   | .error e=>_
  rw[b];refine⟨rfl,?_⟩;unfold vv;rw[sN h];simp
 | succ m t=>
  intro k z j X o r;by_cases h:j<n
  .have l:=YY (z:=z) (k:=k) (xg s j) qo (by rw[<-ZK];exact o) (fun c=>qo);have q:m+1+1=5 - k:=qo;have u:vv s (m+1+1) k z (128 ^ k) ⟨j,n,none⟩=if bt s j<128 then(z+bt s j%128*128 ^ k,⟨j+1,n,none⟩) else vv s (m+1) (k+1) (z+bt s j%128*128 ^ k) (128 ^ k*128) ⟨j+1,n,none⟩:=by
    conv=>lhs;unfold vv
    have c1:¬k=4:=qo;simp[l9 h,c1]
   rw[u];by_cases g:bt s j<128
   .have p:lastB (bt s j)=true:=by rw[Ag (xg s j)];simpa using g
    have b:yw s n start (m+1+1) k (z:Int) j=.ok ((wW z (bt s j) k,start),j+1):=by rw[q];exact Di qo h (fun c=>qo) p
    rw[b,if_pos g];exact⟨z+bt s j%128*128 ^ k,by rw[l,ZK],rfl,rfl,qo,qo⟩
   have p:lastB (bt s j)=false:=by rw[Ag (xg s j)];simpa using g
   have b:yw s n start (m+1+1) k (z:Int) j=yw s n start (m+1) (k+1) ((z+bt s j%128*2 ^ (7*k):Nat):Int) (j+1):=by
    rw[q,Qq qo h p,l,show 5 - (k+1)=m+1 by omega]
   rw[b,if_neg g];have w:z+bt s j%128*2 ^ (7*k)<128 ^ (k+1):=by
    rw[<-ZK,Nat.pow_succ];have:bt s j%128*128 ^ k<=127*128 ^ k:=Nat.mul_le_mul qo qR;generalize bt s j%128*128 ^ k=P at*;omega
   have:=t (k+1) (z+bt s j%128*2 ^ (7*k)) (j+1) qo w qo;rw[Nat.pow_succ] at this;rw[<-ZK] at this ⊢;revert this
   rcases yw s n start (m+1) (k+1) ((z+bt s j%128*128 ^ k:Nat):Int) (j+1) with e|⟨⟨v,a⟩,d⟩
   .exact fun h=>h
   rintro⟨y,U,L,h3,h4,h5⟩;exact⟨y,U,L,h3,qo,h5⟩
  have b:yw s n start (m+1+1) k (z:Int) j=.error (2,n):=by rw[show m+1+1=5 - k by omega];exact OD qo h
  rw[b];refine⟨rfl,?_⟩;unfold vv;rw[sN h];simp
def uR(s:qS)(Z:RS):(Nat×Nat)×RS:=(((uS s Z).1,Z.at_),(uS s Z).2)
def EY(x:Int×Nat)(y:Nat×Nat):Prop:=x.1=(y.1:Int)/\x.2=y.2
theorem VJ:yc s EY uM (uR s):=by
 intro n i d g;have h':match yw s n i 5 0 0 i with
  | .ok ((v,a),b)=>∃y:Nat,v=(y:Int)/\a=i/\vv s 5 0 0 1 ⟨i,n,none⟩=(y,⟨b,n,none⟩)/\i<=b/\b<=n
  | .error e=>e.1=2/\(vv s 5 0 0 1 ⟨i,n,none⟩).2.bad=some e.2:=abl (start:=i) 4 0 0 i rfl qx d
 unfold uM;rcases c:yw s n i 5 0 0 i with e|⟨⟨v,a⟩,b⟩
 .rw[c] at h';exact h'
 rw[c] at h';obtain⟨y,U,L,h3,h4,h5⟩:=h';exact⟨(y,i),by unfold uR uS;rw[h3],⟨U,L⟩,h4,h5⟩
end
def nD{α β:Type}(R:α->β->Prop)(xs:List α)(ys:List β):Prop:=xs.length=ys.length/\∀(k:Nat) x y,xs[k]?=some x->ys[k]?=some y->R x y
def GI{β:Type}(f:RS->β×RS):Nat->List β->RS->List β×RS
 | 0,M,Z=>(M,Z)
 | k+1,M,Z=>if Z.bad≠none then(M,Z) else GI f k (M++[(f Z).1]) (f Z).2
section
variable {α β γ:Type} {s:qS} {R:α->β->Prop} {m:qS->Nat->Nat->Except Err (α×Nat)} {f:RS->β×RS} {n i j:Nat} {x:α} {e:Err}
theorem nD.nil:nD R [] []:=⟨rfl,fun k x y h=>by simp at h⟩
theorem nD.push{xs:List α}{ys:List β}{y:β}(h:nD R xs ys)(l:R x y):nD R (xs++[x]) (ys++[y]):=by
 refine⟨by simp[h.1],fun k a b c hb=>?_⟩;by_cases X:k<xs.length
 .rw[List.getElem?_append_left X] at c;rw[List.getElem?_append_left (by rw[<-h.1];exact X)] at hb;exact h.2 k a b c hb
 rw[List.getElem?_append_right qo] at c;rw[List.getElem?_append_right (by rw[<-h.1];omega)] at hb;rw[<-h.1] at hb;cases g:k - xs.length with
 | zero=>rw[g] at c hb;simp at c hb;subst c;subst hb;exact l
 | succ d=>rw[g] at c;simp at c
theorem CJ{Z:RS}(h:Z.bad≠none):∀(k:Nat) (M:List β),GI f k M Z=(M,Z)
 | 0,_=>rfl
 | k+1,M=>by
  unfold GI;rw[if_pos h]
theorem aeR{k:Nat}{M:List β}{Z:RS}(h:Z.bad=none):GI f (k+1) M Z=GI f k (M++[(f Z).1]) (f Z).2:=by
 conv=>lhs;unfold GI
 rw[if_neg (fun c=>c h)]
theorem Zn(h:yc s R m f)(g:n<=s.size):∀(k:Nat) (xs:List α) (ys:List β) (j:Nat),nD R xs ys->j<=n->match eO m s n k xs j with
  | .ok (l,a)=>∃ys',GI f k ys ⟨j,n,none⟩=(ys',⟨a,n,none⟩)/\nD R l ys'/\j<=a/\a<=n
  | .error e=>e.1=2/\(GI f k ys ⟨j,n,none⟩).2.bad=some e.2:=by
 intro k;induction k with
 | zero=>exact fun xs ys j b d=>⟨ys,rfl,b,qo,qo⟩
 | succ k r=>
  intro xs ys j b d;rw[aeR rfl];unfold eO;rcases o:m s n j with e|q
  .obtain⟨U,L⟩:=h.err d g o;refine⟨U,?_⟩;rw[CJ (by rw[L];exact fun c=>by cases c)];exact L
  obtain⟨x,p⟩:=q;obtain⟨y,U,L,h3,h4⟩:=h.ok d g o;rw[U];simp only;have:=r (xs++[x]) (ys++[y]) p (b.push L) h4;revert this
  rcases eO m s n k (xs++[x]) p with e|⟨l,a⟩
  .exact fun h=>h
  exact WK
theorem ahZ{Z:RS}:uS s Z=((uR s Z).1.1,(uR s Z).2):=rfl
theorem wV(b:i<=n)(c:n<=s.size){v:Int×Nat}(h:uM s n i=.ok (v,j)):∃y:Nat,v=((y:Int),i)/\uS s ⟨i,n,none⟩=(y,⟨j,n,none⟩)/\i<=j/\j<=n:=by
 obtain⟨⟨y,a⟩,U,⟨L,h3⟩,h4,h5⟩:=VJ.ok b c h;unfold uR at U;obtain⟨rfl,rfl⟩:(uS s ⟨i,n,none⟩).1=y/\i=a:=by
  have:=congrArg (fun q=>q.1) U;simp only[Prod.mk.injEq] at this;exact this
 have d:(uS s ⟨i,n,none⟩).2=⟨j,n,none⟩:=congrArg (fun q=>q.2) U;refine⟨(uS s ⟨i,n,none⟩).1,?_,?_,h4,h5⟩
 .obtain⟨v1,v2⟩:=v;simp only at L h3;rw[L,h3]
 rw[<-d]
theorem rW(a:i<=n)(b:n<=s.size)(h:uM s n i=.error e):e.1=2/\(uS s ⟨i,n,none⟩).2.bad=some e.2:=VJ.err a b h
theorem abq:∀(k a z b:Nat),Ib (vv s k a z b)
 | 0,_,_,_=>fun _ _ h=>h
 | k+1,a,z,b=>fun Z p h=>by
  have U:(dO s Z).2.bad=some p:=vO Z p h;have L:(if a=4/\15<(dO s Z).1 then dL (dO s Z).2 Z.at_ else(dO s Z).2).bad=some p:=by
   split
   .exact iy U
   exact U
  unfold vv;simp only;rw[if_pos (.inr (by rw[L];exact fun c=>by cases c))];exact L
theorem rQ:Ib (uS s):=abq 5 0 0 1
theorem oW(most:Nat):yc s (fun a b=>a=b) (eZ most) (dU s most):=by
 intro n i c d;unfold eZ dU;rcases g:uM s n i with e|⟨v,j⟩
 .obtain⟨U,L⟩:=rW c d g;refine⟨U,?_⟩;simp only;split
  .exact iy L
  exact L
 obtain⟨y,rfl,L,h3,h4⟩:=wV c d g;rw[L];simp only;by_cases h:most<y
 .rw[if_pos (show(most:Int)<(y:Int) by omega),if_pos h];exact⟨rfl,rfl⟩
 rw[if_neg (show ¬(most:Int)<(y:Int) by omega),if_neg h];simp only[ne_eq,not_true,if_false];exact⟨y,rfl,qo,h3,h4⟩
theorem mY(most:Nat):Ib (dU s most):=fun Z p h=>by
 unfold dU;simp only;split
 .exact iy (rQ Z p h)
 exact rQ Z p h
def Ls(s:qS)(most:Nat)(f:RS->β×RS)(Z:RS):List β×RS:=GI f (dU s most Z).1 [] (dU s most Z).2
theorem yM(h:yc s R m f)(most:Nat):yc s (nD R) (dY most m) (Ls s most f):=by
 intro n i b a;unfold dY Ls;rcases d:eZ most s n i with e|q
 .obtain⟨U,L⟩:=(oW most).err b a d;refine⟨U,?_⟩;rw[CJ (by rw[L];exact fun c=>by cases c)];exact L
 obtain⟨k,j⟩:=q;obtain⟨y,U,rfl,h3,h4⟩:=(oW most).ok b a d;rw[U];simp only;have:=Zn h a k [] [] j nD.nil h4;revert this
 rcases eO m s n k [] j with e|⟨g,l⟩
 .exact fun h=>h
 exact WK
theorem yK(most:Nat):Ib (Ls s most f):=fun Z p h=>by
 unfold Ls;rw[CJ (by rw[mY most Z p h];exact fun c=>by cases c)];exact mY most Z p h
theorem nN(b:Nat):∀Z p,Z.bad=some p->(gY s b Z).bad=some p:=fun Z p h=>by
 unfold gY;split
 .exact vO Z p h
 exact iy (vO Z p h)
theorem xq(h:i<n)(b:Nat)(hb:bt s i=b):gY s b ⟨i,n,none⟩=⟨i+1,n,none⟩:=by
 unfold gY;rw[l9 h,if_pos hb]
theorem uA{b:Nat}(h:iO [b] s n i=.error e):e.1=2/\(gY s b ⟨i,n,none⟩).bad=some e.2:=by
 unfold iO at h;unfold gY;by_cases a:i<n
 .rw[if_pos a] at h;rw[l9 a];by_cases hb:bt s i=b
  .rw[if_pos (by simp[hb])] at h;cases h
  rw[if_neg (by simp[hb])] at h;cases h;rw[if_neg hb];exact⟨rfl,rfl⟩
 rw[if_neg a] at h;cases h;rw[sN a];split
 .exact⟨rfl,rfl⟩
 exact⟨rfl,rfl⟩
theorem uy{l:qM}{v:Nat}(h:iO l s n i=.ok (v,j)):i<n/\v∈l/\bt s i=v/\j=i+1:=by
 unfold iO at h;by_cases a:i<n
 .rw[if_pos a] at h;by_cases hb:bt s i∈l
  .rw[if_pos hb] at h;cases h;exact⟨a,hb,rfl,rfl⟩
  rw[if_neg hb] at h;cases h
 rw[if_neg a] at h;cases h
theorem O4{l:qM}(h:iO l s n i=.error e):(i<n/\bt s i∉l/\e=(2,i))\/(¬i<n/\e=(2,n)):=by
 unfold iO at h;by_cases a:i<n
 .rw[if_pos a] at h;by_cases hb:bt s i∈l
  .rw[if_pos hb] at h;cases h
  rw[if_neg hb] at h;cases h;exact .inl ⟨a,hb,rfl⟩
 rw[if_neg a] at h;cases h;exact .inr ⟨a,rfl⟩
def kl(k:Nat):Nat:=if k=127 then 105 else 108
def Rl(k c:Nat):Prop:=(k=127\/k=126)/\c=kl k
theorem yN:yc s Rl kJ (jq s):=by
 intro n i b c;unfold kJ jq;cases a:iO [127,126] s n i with
 | ok q=>
  obtain⟨v,j⟩:=q;obtain⟨U,L,h3,rfl⟩:=uy a;rw[l9 U,h3];simp at L;rcases L with rfl | rfl
  .exact⟨105,rfl,⟨.inl rfl,rfl⟩,qo,qo⟩
  exact⟨108,rfl,⟨.inr rfl,rfl⟩,qo,qo⟩
 | error e=>
  rcases O4 a with⟨U,L,rfl⟩ | ⟨U,rfl⟩
  .rw[l9 U];simp at L;simp[L.1,L.2,dL]
  rw[sN U];simp[dL]
theorem Zg:Ib (jq s):=fun Z p h=>by
 unfold jq;split
 .exact vO Z p h
 split
 .exact vO Z p h
 exact iy (vO Z p h)
def KR(ks:List Nat)(b:qS):Prop:=(∀k∈ks,k=127\/k=126)/\tl b 0=ks.map kl
theorem AO(a b:qS):tl (a++b) 0=tl a 0++tl b 0:=by simp[tl]
theorem Y9{c:Nat}(h:c<256):tl (strOfNums [(c:Int)]) 0=[c]:=by
 unfold tl;rw[strOfNums_data];simp;omega
theorem TC(b:qS):(tl b 0).length=b.size:=by simp[tl]
theorem KR.size{ks:qM}{b:qS}(h:KR ks b):b.size=ks.length:=by rw[<-TC,h.2,List.length_map]
theorem KR.nil:KR [] ⟨#[]⟩:=⟨fun k h=>by simp at h,rfl⟩
theorem KR.push{ks:qM}{b:qS}{k c:Nat}(h:KR ks b)(a:Rl k c):KR (ks++[k]) (b++strOfNums [(c:Int)]):=by
 have hc:c<256:=by
  rw[a.2];unfold kl;split<;>decide
 refine⟨fun q hq=>?_,?_⟩
 .simp at hq;rcases hq with hq | rfl
  .exact h.1 q hq
  exact a.1
 rw[AO,Y9 hc,h.2,List.map_append,a.2];rfl
theorem Fe{Z:RS}(h:Z.bad≠none):∀(k:Nat) (M:qS),kI s k M Z=(M,Z)
 | 0,_=>rfl
 | k+1,M=>by
  unfold kI;rw[if_pos h]
theorem Z7(l:n<=s.size):∀(k:Nat) (xs:qM) (b:qS) (j:Nat),KR xs b->j<=n->match eO kJ s n k xs j with
  | .ok (o,a)=>∃p,kI s k b ⟨j,n,none⟩=(p,⟨a,n,none⟩)/\KR o p/\j<=a/\a<=n
  | .error e=>e.1=2/\(kI s k b ⟨j,n,none⟩).2.bad=some e.2:=by
 intro k;induction k with
 | zero=>exact fun xs b j d g=>⟨b,rfl,d,qo,qo⟩
 | succ k u=>
  intro xs b j d g;have v:kI s (k+1) b ⟨j,n,none⟩=kI s k (b++strOfNums [((jq s ⟨j,n,none⟩).1:Int)]) (jq s ⟨j,n,none⟩).2:=by
   conv=>lhs;unfold kI
   rw[if_neg (fun c=>c rfl)]
  rw[v];unfold eO;rcases r:kJ s n j with e|q
  .obtain⟨U,L⟩:=yN.err g l r;refine⟨U,?_⟩;rw[Fe (by rw[L];exact fun c=>by cases c)];exact L
  obtain⟨x,t⟩:=q;obtain⟨y,U,L,h3,h4⟩:=yN.ok g l r;rw[U];simp only;have:=u (xs++[x]) (b++strOfNums [(y:Int)]) t (d.push L) h4;revert this
  rcases eO kJ s n k (xs++[x]) t with e|⟨o,a⟩
  .exact fun h=>h
  exact WK
theorem AV(most:Nat):yc s KR (dY most kJ) (nU s most):=by
 intro n i b a;unfold dY nU;rcases d:eZ most s n i with e|q
 .obtain⟨U,L⟩:=(oW most).err b a d;refine⟨U,?_⟩;rw[Fe (by rw[L];exact fun c=>by cases c)];exact L
 obtain⟨k,j⟩:=q;obtain⟨y,U,rfl,h3,h4⟩:=(oW most).ok b a d;rw[U];simp only;have:=Z7 a k [] ⟨#[]⟩ j KR.nil h4;revert this
 rcases eO kJ s n k [] j with e|⟨g,l⟩
 .exact fun h=>h
 exact WK
theorem EM(most:Nat):Ib (nU s most):=fun Z p h=>by
 unfold nU;rw[Fe (by rw[mY most Z p h];exact fun c=>by cases c)];exact mY most Z p h
end
section
variable {s:qS} {n i j:Nat} {e:Err}
theorem abF:∀x:Fin 256,qI 8 16 7 x.val=!Bt 4 x.val:=by decide+kernel
theorem abE:∀x:Fin 256,qI 16 32 3 x.val=!Bt 5 x.val:=by decide+kernel
theorem abG:∀x:Fin 256,qI 1 2 63 x.val=!Bt 1 x.val:=by decide+kernel
structure aff(K room:Nat)(V:Nat->Int->Int->Prop)(Q:Int->Int->Prop):Prop where
 zero:V 0 0 0
 step:∀k z y x,k<K->x<256->V k z y->V (k+1) (pY z x k) (gm y x k)
 fin:∀k z y x,k<=K->x<128->(k=K->Bt room x=true)->V k z y->Q (Ou (pY z x k) x k) (zN (gm y x k) x k)
theorem OV{K room g l o:Nat}{V:Nat->Int->Int->Prop}{Q:Int->Int->Prop}(hq:aff K room V Q)(A:∀x:Fin 256,qI g l o x.val=!Bt room x.val)(B:∀x:Fin 256,Bt room x.val=true->lastB x.val=true):
  ∀(m k:Nat) (z y:Int) (j:Nat),m+1+k=K+1->V k z y->j<=n->match yO K room s n (m+1) k z j with
  | .ok (v,p)=>∃u,rX s K g l o (m+1) k y ⟨j,n,none⟩=(u,⟨p,n,none⟩)/\Q v u/\j<=p/\p<=n
  | .error e=>e.1=2/\(rX s K g l o (m+1) k y ⟨j,n,none⟩).2.bad=some e.2:=by
 intro m;induction m with
 | zero=>
  intro k z y j X q C;obtain rfl:k=K:=qo;have b:0+1=k+1 - k:=qo;by_cases h:j<n
  .have hlt:=xg s j;have r:=A ⟨bt s j,hlt⟩;have d:=B ⟨bt s j,hlt⟩;simp only at r d;unfold rX;rw[l9 h];simp only[ne_eq,not_true,if_false];cases f:Bt room (bt s j) with
   | false=>
    have a:yO k room s n (0+1) k z j=.error (2,j):=by rw[b];exact AX rfl h f
    rw[a];refine⟨rfl,?_⟩;rw[if_pos ⟨trivial,by rw[r,f];rfl⟩];rfl
   | true=>
    have t:=d f;have a:yO k room s n (0+1) k z j=.ok (Ou (pY z (bt s j) k) (bt s j) k,j+1):=by rw[b];exact vU qo h (fun c=>by rw[f] at c;exact absurd c.2 qx) t
    rw[Ag hlt] at t;have w:bt s j<128:=of_decide_eq_true t;rw[a,if_neg (fun c=>by rw[r,f] at c;exact absurd c.2 qx),if_pos w];exact⟨_,rfl,hq.fin k z y _ qR w (fun _=>f) q,qo,qo⟩
  have a:yO k room s n (0+1) k z j=.error (2,n):=by rw[b];exact OW qo h
  rw[a];refine⟨rfl,?_⟩;unfold rX;rw[sN h];simp
 | succ m D=>
  intro k z y j X q C;have b:m+1+1=K+1 - k:=qo;by_cases h:j<n
  .have hlt:=xg s j;have E:rX s K g l o (m+1+1) k y ⟨j,n,none⟩=if bt s j<128 then(zN (gm y (bt s j) k) (bt s j) k,⟨j+1,n,none⟩) else rX s K g l o (m+1) (k+1) (gm y (bt s j) k) ⟨j+1,n,none⟩:=by
    conv=>lhs;unfold rX
    rw[l9 h];simp only[ne_eq,not_true,if_false];rw[if_neg (fun c=>qo)]
   rw[E];by_cases hb:bt s j<128
   .have d:lastB (bt s j)=true:=by rw[Ag hlt];simpa using hb
    have a:yO K room s n (m+1+1) k z j=.ok (Ou (pY z (bt s j) k) (bt s j) k,j+1):=by rw[b];exact vU qo h (fun c=>qo) d
    rw[a,if_pos hb];exact⟨_,rfl,hq.fin k z y _ qo hb (fun c=>qo) q,qo,qo⟩
   have d:lastB (bt s j)=false:=by rw[Ag hlt];simpa using hb
   have a:yO K room s n (m+1+1) k z j=yO K room s n (m+1) (k+1) (pY z (bt s j) k) (j+1):=by rw[b,DC qo h d,show K+1 - (k+1)=m+1 by omega]
   rw[a,if_neg hb];have:=D (k+1) (pY z (bt s j) k) (gm y (bt s j) k) (j+1) qo (hq.step k z y _ qo hlt q) qo;revert this
   rcases yO K room s n (m+1) (k+1) (pY z (bt s j) k) (j+1) with e|⟨v,p⟩
   .exact fun h=>h
   rintro⟨u,U,L,h3,h4⟩;exact⟨u,U,L,qo,h4⟩
  have a:yO K room s n (m+1+1) k z j=.error (2,n):=by rw[b];exact OW qo h
  rw[a];refine⟨rfl,?_⟩;unfold rX;rw[sN h];simp
theorem VL{K room:Nat}:aff K room (fun _ _ _=>True) (fun _ _=>True):=⟨trivial,fun _ _ _ _ _ _ _=>trivial,fun _ _ _ _ _ _ _ _=>trivial⟩
theorem agc:∀x:Fin 128,(bits BinOp.and IntKind.u8 (x.val:Int) 64 !=0)=decide (64<=x.val):=by decide+kernel
theorem Zz{a x k:Nat}(hx:x<256)(X:k<=4)(d:a<2 ^ (7*k)):pY (a:Int) x k=((a+x%128*2 ^ (7*k):Nat):Int)/\gm (a:Int) x k=((a+x%128*2 ^ (7*k):Nat):Int)/\a+x%128*2 ^ (7*k)<2 ^ (7*k+7):=by
 have hp:(2:Int) ^ (7*k)=((2 ^ (7*k):Nat):Int):=qs;have g:x%128*2 ^ (7*k)<=127*2 ^ (7*k):=Nat.mul_le_mul qo qR;have hb:2 ^ (7*k)<=268435456:=by
  exact acX
 have c:(((x%128:Nat):Int))*((2 ^ (7*k):Nat):Int)=((x%128*2 ^ (7*k):Nat):Int):=qs;refine⟨?_,?_,?_⟩
 .unfold pY;rw[aaK ⟨x,hx⟩,hp,IntKind.wrap_u64,IntKind.wrap_u64];have b:(((x%128:Nat):Int))%18446744073709551616=((x%128:Nat):Int):=qo;simp only;rw[b,c];have f:((x%128*2 ^ (7*k):Nat):Int)%18446744073709551616=((x%128*2 ^ (7*k):Nat):Int):=qo;rw[f,bits_or_u64_nat _ _ qo qo,Ub a _ _ d]
 .unfold gm;rw[hp];have b:(x:Int)%128=((x%128:Nat):Int):=qo;rw[b,c];unfold wrap64;omega
 rw[Nat.pow_add];omega
theorem wrap_small{q:Nat}(h:q<4294967296):wrap64 (q:Int)=(q:Int):=by
 unfold wrap64;omega
theorem YV{q P:Nat}(h:q<P)(c:P<=34359738368):wrap64 ((q+(18446744073709551616 - P):Nat):Int)=(q:Int) - (P:Int)/\wrap64 ((q:Int) - wrap64 (P:Int))=(q:Int) - (P:Int):=by
 have a:wrap64 (P:Int)=(P:Int):=by
  unfold wrap64;omega
 have b:((q+(18446744073709551616 - P):Nat):Int)=(q:Int) - (P:Int)+18446744073709551616:=qo;rw[a,b];constructor
 .unfold wrap64;omega
 unfold wrap64;omega
theorem abH:∀x:Fin 128,x.val<64->Bt 5 x.val=true->x.val<16:=by decide+kernel
theorem Zr:aff 4 5 (fun k z y=>∃a:Nat,z=(a:Int)/\y=(a:Int)/\a<2 ^ (7*k)) (fun z y=>z=y/\z<4294967296):=by
 refine⟨⟨0,rfl,rfl,qx⟩,?_,?_⟩
 .rintro k z y x X hx ⟨a,rfl,rfl,d⟩;obtain⟨U,L,h3⟩:=Zz hx qo d;exact⟨_,U,L,h3⟩
 rintro k z y x X hx f ⟨a,rfl,rfl,d⟩;obtain⟨U,L,h3⟩:=Zz (x:=x) qo X d;have h4:x<64->a+x%128*2 ^ (7*k)<4294967296:=fun m=>by
  by_cases o:k=4
  .subst o;have b:=f rfl;have r:x<16:=by
    have:=abH ⟨x,hx⟩ m b;exact this
   omega
  have:k=0\/k=1\/k=2\/k=3:=qo;rcases this with rfl | rfl | rfl | rfl<;>omega
 rw[U,L];generalize a+x%128*2 ^ (7*k)=q at*;unfold Ou zN;rw[agc ⟨x,hx⟩];have p:7*(k:Int)+7<64:=qo;by_cases b:64<=x
 .rw[if_pos ⟨by simpa using b,p⟩,if_pos ⟨b,qo⟩];have hw:(IntKind.u64.wrap (18446744073709551615*2 ^ (7*k+7)):Int)=((18446744073709551616 - 2 ^ (7*k+7):Nat):Int)/\18446744073709551616 - 2 ^ (7*k+7)=(2 ^ (57 - 7*k) - 1)*2 ^ (7*k+7):=by
   have:k=0\/k=1\/k=2\/k=3\/k=4:=qo;rcases this with rfl | rfl | rfl | rfl | rfl<;>(rw[IntKind.wrap_u64];exact⟨qs,qs⟩)
  have g:2 ^ (7*k+7)<=34359738368:=by
   exact acX
  have t:0<2 ^ (7*k+7):=Nat.two_pow_pos _;have hp:(2:Int) ^ (7*k+7)=((2 ^ (7*k+7):Nat):Int):=qs;rw[hw.1,bits_or_u64_nat _ _ qo qo,hw.2,Ub _ _ _ h3,<-hw.2,hp];generalize 2 ^ (7*k+7)=P at*;have l:=YV h3 g;rw[l.1,l.2];clear h4 hw hp f d U L;exact⟨rfl,qo⟩
 rw[if_neg (fun c=>b (by simpa using c.1)),if_neg (fun c=>b c.1)];have g:2 ^ (7*k+7)<=34359738368:=by
  exact acX
 have h5:=h4 (Nat.lt_of_not_le b);rw[wrap_small h5];clear h4 f d U L g h3;exact⟨rfl,qo⟩
theorem Ht:yc s (fun _ _=>True) (sM 4 4) (sS s 4 8 16 7):=by
 intro n i b _;have h:=OV (s:=s) (n:=n) (VL (room:=4)) abF Nz 4 0 0 0 i rfl trivial b;unfold sM sS;rcases a:yO 4 4 s n (4+1) 0 0 i with e|q
 .rw[a] at h;exact h
 rw[a] at h;exact h
theorem VK:yc s (fun a b=>a=b/\a<4294967296) (sM 4 5) (sS s 4 16 32 3):=by
 intro n i d _;have h:=OV (s:=s) (n:=n) Zr abE Ny 4 0 0 0 i rfl ⟨0,rfl,rfl,qx⟩ d;unfold sM sS;rcases c:yO 4 5 s n (4+1) 0 0 i with e|q
 .rw[c] at h;exact h
 rw[c] at h;exact h
theorem Hr:yc s (fun _ _=>True) (sM 9 1) (sS s 9 1 2 63):=by
 intro n i b _;have h:=OV (s:=s) (n:=n) (VL (room:=1)) abG NC 9 0 0 0 i rfl trivial b;unfold sM sS;rcases a:yO 9 1 s n (9+1) 0 0 i with e|q
 .rw[a] at h;exact h
 rw[a] at h;exact h
theorem abt{K a b d:Nat}:∀(m k:Nat) (z:Int),Ib (rX s K a b d m k z)
 | 0,_,_=>fun _ _ h=>h
 | m+1,k,z=>fun Z p h=>by
  have U:=vO (s:=s) Z p h;unfold rX;rw[if_pos (by rw[U];exact fun c=>by cases c)];exact U
theorem VH{K a b c:Nat}:Ib (sS s K a b c):=abt _ _ _
end
end Go.Proofs.YtdaafkmhfedkiaaGreat
