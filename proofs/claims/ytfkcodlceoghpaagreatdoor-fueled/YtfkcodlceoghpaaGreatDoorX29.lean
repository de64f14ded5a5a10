import Derived.Deep.LoopGhost
import Derived.Laws.MakeOwn
import Derived.Laws.OwnMore
import Derived.OwnWalkIn
import Derived.Test.YtfkcodlceoghpaaGreatDoorX26
import Derived.Test.YtfkcodlceoghpaaGreatDoorX28
namespace Go.Proofs.YtfkcodlceoghpaaGreatDoor
set_option maxHeartbeats 6400000
set_option maxRecDepth 100000
set_option linter.unusedSimpArgs false
set_option linter.unusedVariables false
open Go.RowKit Go.Proofs.Tryz
section
attribute [local go_sem] Oper.semAt_some
def opC(op:List Nat):List Value:=op.reverse.map λ(n:Nat)=>qJ (n:Int)
abbrev PP(fb:Nat)(iv ov lc Sr OY:Value)(bs:List PB)(ss:List PS)(IU:Nat->Value)(b6:Nat)(VY:Value)(op:List Nat)(b3 b4 b5:Nat)(tv:Value)(c5:List Value)(Yq:List It):List It:=
 PL fb iv ov lc Sr OY bs ss IU (.b b6 [VY]::.r 3 1 VY op.length (opC op)::.b b3 [qP fb]::.b b4 [tv]::.b b5 c5::Yq)
def vI(Zq:List It)(ss:List PS)(IU:Nat->Value):Prop:=∀k p,ss[k]?=some p->jl Zq 85 1 (IU k) p.zz.length (jC p.zz)
def NP(Q:Exit->Act->World->Prop):Exit->Act->World->Prop
 | .panic _,_,_=>False
 | .outgrown,_,_=>False
 | .normal,a,w=>Q .normal a w
 | .ret,a,w=>Q .ret a w
 | .exit i,a,w=>Q (.exit i) a w
 | .goto l,a,w=>Q (.goto l) a w
theorem NP.le{Q:Exit->Act->qW->Prop}:∀e a w,NP Q e a w->Q e a w:=λe a w h=>by cases e<;>first | exact h | exact h.elim
theorem XJ{P:Program}{Q:Exit->Act->qW->Prop}{Lq:List Oper}{id:Nat}{a:Act}{w:qW}(S:qW->Prop)(x:Nat)(h:jh P .any Lq (NP Q) S x Lq.length 0 a w.drew)(hm:P.follows .mixedOrders=true:=by kernel_rfl):(Code.region id Lq.toArray true).wp P Q a w:=
 Code.wp_mono NP.le (jU S x h hm)
theorem Sx.newRow{w0 w:qW}{l:List It}(h:Sx w0 w l)(cs:Array qv)(E:TypeId)(sz n:Nat)(a:cs.size=n*sz)(b:n<=1000):Sx w0 (w.alloc (.cells cs E)) (l++[.r E sz (qL w.heap.size n n) n cs.toList]):=
 h.add (qr.alloc _) ⟨by simpa using a,.inr ⟨w.heap.size,n,cs,rfl,h.kept.size,World.alloc_heap_new w _,qR,by unfold maxLen;omega,a,by rw[qbo (by simp[a])]⟩⟩ (λg e=>by simp[It.own,Value.ownBlock]at e;omega)
theorem VV{Yq:List It}{x a b c d e f g:It}:((x::Yq)++[a]++[b]++[c]++[d]++[e]++[f]++[g]).Perm (x::d::g::f::e::a::b::c::Yq):=by
 have h:(x::Yq)++[a]++[b]++[c]++[d]++[e]++[f]++[g]=x::(Yq++([a,b,c]++d::[e,f,g])):=qs;rw[h];refine List.Perm.cons _ ((qbi (l₁:=Yq)).trans ?_);have i:d::g::f::e::a::b::c::Yq=(d::[g,f,e]++[a,b,c])++Yq:=rfl;rw[i];refine List.Perm.append_right _ ((qbi (l₁:=[a,b,c])).trans (List.Perm.append_right _ (List.Perm.cons _ ?_)));exact(List.reverse_perm [e,f,g]).symm
theorem zT(a:List PS)(p:PS)(b:Nat->qv)(c:qv):tK (a++[p]) (λq=>if q=a.length then c else b q)=tK a b++Gv p c:=by
 unfold tK;rw[qaq,qdd,List.range_succ,List.flatMap_append];congr 1
 .rw[List.flatMap_def,List.flatMap_def];refine congrArg List.flatten (List.map_congr_left (λk X=>?_));have X:=List.mem_range.1 X;show Gv _ (if k=a.length then c else b k)=_;rw[qaa qo,qag,qbe X,<-qag]
 simp
theorem vI.app{Zq b:List It}{a:List PS}{c:Nat->qv}{p:PS}{d:qv}(h:vI Zq a c)(e:∀q∈Zq,q∈b)(hp:jl b 85 1 d p.zz.length (jC p.zz)):vI b (a++[p]) (λq=>if q=a.length then d else c q):=by
 intro k q X;simp only;by_cases hl:k=a.length
 .subst hl;simp at X;subst X;rw[qac rfl];exact hp
 rw[qaa hl];have f:=(qae.1 X).1;simp at f;rw[qbe qo]at X;exact(h k q X).mono e
theorem Tryz.info3:(prog.info? 3).map (λi=>(i.zero,i.size,i.bytes))=some (some (qJ 0),1,8):=qk
theorem Tryz.zW:(prog.info? 234).map (λi=>(i.zero,i.size,i.bytes))=some (some (.agg #[qB 0,qJ 0,qI 0,qN,qJ 0]),5,56):=qk
theorem Tryz.Tm:(prog.info? 230).map (λi=>(i.zero,i.size,i.bytes))=some (some (.agg #[.bool false,qJ 0,qJ 0,qJ 0,qJ 0]),5,40):=qk
def XX(w0:World)(dx:List Ty)(s:qS)(n:Nat)(R:List PB×List PS)(fb:Nat)(iv ov lc:Value)(b6 b3 b4 b5:Nat)(tv:Value)(c5:List Value)(Yq:List It)(o:Option (List Nat))(j:Nat)(F:Nat->Prop)(W:World):Prop:=
 ∃op bs ss IU Sr OY VY Xn,Sx w0 W (PP fb iv ov lc Sr OY bs ss IU b6 VY op b3 b4 b5 tv c5 (Yq++Xn))/\vI (Yq++Xn) ss IU/\0<bs.length/\(∀p∈Xn,∃v n xs,p=It.r 85 1 v n xs)/\O0 dx s n R o j op bs ss/\F=FL w0 (PP fb iv ov lc Sr OY bs ss IU b6 VY op b3 b4 b5 tv c5 (Yq++Xn))
theorem TL{w0 W:qW}{Lq:List It}{a:Nat}{x:Option (List Deferred)}(h:Sx w0 W Lq)(d:W.heap[a]?=some (.deferred x))(i:w0.heap.size<=a)(f:∀p∈Lq,(∃g c cs,p=It.b g (c::cs))\/(∃E sz v n xs,p=It.r E sz v n xs)\/(∀k,p.own=some k->k<a)):¬FL w0 Lq a:=by
 rintro(c | ⟨p,hp,c⟩)
 .omega
 have e:=h.it p hp;obtain⟨g,c1,cs,rfl⟩ | ⟨E,sz,v,n,xs,rfl⟩ | q:=f p hp
 .cases c;have:=(e.2.2 0 qs).1;unfold World.cell? at this;rw[d]at this;simp at this
 .obtain⟨hv,-⟩ | ⟨g,A,cur,hv,-,h5,-⟩:=e.2
  .subst hv;cases c
  subst hv;cases c;rw[d]at h5;cases h5
 have:=q a c;omega
abbrev Yh(g7 jj ee x:Nat)(y:fO)(pg:Option Addr)(cg:Nat)(pq:Option Addr)(cq:Nat)(V:World):Prop:=V.cell? (qA g7 0)=some (qJ jj)/\V.cell? (qA g7 1)=some (qJ ee)/\V.cell? (qA g7 2)=some (qB x)/\V.cell? (qA g7 3)=some (.bool y.typed)/\V.cell? (qA g7 4)=some (qX pg y.dL cg)/\V.cell? (qA g7 5)=some (qI y.align)/\V.cell? (qA g7 6)=some (qI y.num.1)/\V.cell? (qA g7 7)=some (qJ y.num.2)/\V.cell? (qA g7 8)=some (qX pq y.dA cq)/\V.cell? (qA g7 9)=some (qJ y.val)
abbrev S2(b3 fb:Nat)(ps:Option Addr)(n cs g7 jj ee x:Nat)(y:fO)(pg:Option Addr)(cg:Nat)(pq:Option Addr)(cq:Nat)(V:World):Prop:=(V.cell? (qA b3 0)=some (qP fb)/\V.cell? (qA fb 4)=some (.slice ps n cs))/\Yh g7 jj ee x y pg cg pq cq V
abbrev S4(b3 fb gb nb cb:Nat)(ps:Option Addr)(n cs:Nat)(pt:Option Addr)(nt ct g7 jj ee x:Nat)(y:fO)(pg:Option Addr)(cg:Nat)(pq:Option Addr)(cq:Nat)(V:World):Prop:=(V.cell? (qA b3 0)=some (qP fb)/\V.cell? (qA fb 3)=some (qL gb nb cb)/\V.cell? (qA fb 4)=some (.slice ps n cs)/\V.cell? ⟨b3+1,0,none⟩=some (.slice pt nt ct))/\Yh g7 jj ee x y pg cg pq cq V
abbrev sF(pl:Option Addr)(kl cl ib:Nat):List Value:=[.slice pl kl cl,.func (.func 316) #[] #[qP ib]]
abbrev B3(b3 fb:Nat)(pt:Option Addr)(nt ct:Nat)(pl:Option Addr)(kl cl ib:Nat)(l:List It):List It:=.b b3 [qP fb]::.b (b3+1) [.slice pt nt ct]::.b (b3+1+1) (sF pl kl cl ib)::l
section
variable {w0 w:qW}{fb:Nat}{iv ov lc:qv}{Yq:List It}{s:qS}{m:dX}{ok:qD}
theorem Gw{T N:qO}{U O i n:Nat}{M:qM}{lv fv:qv}{R:List PB×List PS}(h:Sx w0 w (.b fb [iv,qX T M U,lc,qN,qN]::Yq))(hT:gI 100 2 nZ ok m.dx w0 (qX N m.dx O))(cw:kP ok s i n w0 fv)(cx:∃p k c,lv=.slice p k c)(cy:i<=n)(cz:n<=s.size)(hs:s.size<=5000)(bT:∃j,o8 s n i=.ok j)(ho:M.length<=8)
  (hR:R=iI m.dx (insL s n (n - i) [] i) [0] [⟨false,0,M.length,0,0⟩] []) (bU:∀z∈insL s n (n - i) [] i,dS z.2.1=true->z.2.2.typed=true->z.2.2.num.1<(m.dx.length:Int)):
  qC 75 #[qP fb,qX N m.dx O,.agg #[lv,fv]] w λe w'=>qU e/\∃ad al G J,Sx w0 w' (PL fb iv (qX T M U) lc ad al R.1 R.2 G (Yq++J))/\vI (Yq++J) R.2 G/\0<R.1.length:=by
 obtain⟨pl,Y,cl,rfl⟩:=cx;obtain⟨ib,rfl,-,bp⟩:=cw;have cA:ib<w0.heap.size:=(qah.1 bp).1;obtain⟨a1,d1⟩:=h.c 0 1 rfl rfl;obtain⟨a3,d3⟩:=h.c 0 3 rfl rfl;have cB:=h.lt 0 rfl;have bV:=qH bp;have H:=qH h;clear bp h;refine(qbl (n:=10)).1 ?_;refine callsIn_of_wp_marks func75 rfl trivial ?_;simp only[ntmps75,List.size_toArray,qbb,qbs,Nat.reduceAdd,Nat.reduceSub,qdh,qdi,qdx,qdo,qay,qax];refine wpIn_wide.2 ?_;go_wp2_with fail
 have h3:=((H.o.new #[qP fb] 228).new #[qX N m.dx O] 46).new #[.slice pl Y cl,.func (.func 316) #[] #[qP ib]] 131;simp only[qbn]at h3;obtain⟨B,bW⟩:=qE w.heap.size;rw[<-bW]at h3 ⊢;generalize ((w.alloc (.cells #[qP fb] 228)).alloc (.cells #[qX N m.dx O] 46)).alloc (.cells #[.slice pl Y cl,.func (.func 316) #[] #[qP ib]] 131)=w1 at*;clear H bW a1 a3 d1 d3 cB;have ag:∀V Lq,Sx w0 V (.b fb [iv,qX T M U,lc,qN,qN]::Yq++[.b B [qP fb]]++Lq)->V.cell? (qA B 0)=some (qP fb)/\V.cell? (qA fb 1)=some (qX T M U):=λV Lq hV=>by
  refine⟨?_,(hV.c 0 1 rfl rfl).1⟩;obtain⟨k,X⟩:=qbx.1 (show It.b B [qP fb]∈(.b fb [iv,qX T M U,lc,qN,qN]::Yq++[.b B [qP fb]]++Lq) by simp);exact(hV.c k 0 X rfl).1
 have am:=ag _ _ (by simpa using h3.drew);refine XJ (λV:qW=>V.cell? (qA B 0)=some (qP fb)/\V.cell? (qA fb 1)=some (qX T M U)) 11 ?_;iterate 8 refine nE am ?_ (hy:=qQ)
 have bq:=h3.newRow #[.bool false,qJ 0,qJ M.length,qJ 0,qJ 0] 230 5 1 rfl qo;have h4:=bq.drew;have br:=ag _ _ (by simpa using h4);refine jO (λK L=>?_);go_simp;refine L _ _ (.inr br) ?_;clear L K am;iterate 2 refine nE br ?_ (hy:=qQ)
 obtain⟨x3,y3⟩:=h4.c 0 3 rfl rfl;have mm:=h4.lt 0 rfl;have h5:=(bq.set 0 3 (qL w1.heap.size 1 1) rfl).drew;have H5:=qH h5;clear h3 h4 bq h5 ag;refine iU (λK L=>?_);go_simp;refine L _ _ ?_;clear L K br x3 y3 mm;have h5:=H5.o;obtain⟨g1,bu⟩:=qE w1.heap.size;rw[<-bu]at h5;rw[<-bu];generalize World.drew (World.setCell _ ⟨fb,3,none⟩ (qL g1 1 1))=w2 at*;clear bu H5;have h6:=((h5.newRow #[qJ 0] 3 1 1 rfl qo).new #[qL w2.heap.size 1 1] 49).nil 234 5;simp only[qbn,qax,qz,qw]at h6;have h7:=h6.perm VV;have H7:qh (XX w0 m.dx s n R fb iv (qX T M U) lc (w2.heap.size+1) B (B+1) (B+1+1) (qX N m.dx O) (sF pl Y cl ib) Yq (some []) i (FL w0 (PP fb iv (qX T M U) lc (qL g1 1 1) (qN) [⟨false,0,M.length,0,0⟩] [] (λ_=>qN) (w2.heap.size+1) (qL w2.heap.size 1 1) [0] B (B+1) (B+1+1) (qX N m.dx O) (sF pl Y cl ib) (Yq++[]))) ((w2.alloc (.cells #[qJ 0] 3)).alloc (.cells #[qL w2.heap.size 1 1] 49))):=by
  refine⟨[0],[⟨false,0,M.length,0,0⟩],[],λ_=>qN,qL g1 1 1,qN,qL w2.heap.size 1 1,[],?_,λk p X=>by simp at X,qs,qs,⟨n - i,qR,hR.symm,rfl,qs,bU,qs,qs⟩,rfl⟩;rw[qbt];exact h7
 have HK:qh (qK w0 ((w2.alloc (.cells #[qJ 0] 3)).alloc (.cells #[qL w2.heap.size 1 1] 49))):=h7.kept;obtain⟨z1,-⟩:=h7.c 7 1 rfl rfl;have m7:=h7.lt 7 rfl;clear h5 h6 h7 hR bU;dsimp only[NP];go_wp2_with fail
 refine(wpIn_wide (n:=10)).1 ?_;have bX:Rd ((w2.alloc (.cells #[qJ 0] 3)).alloc (.cells #[qL w2.heap.size 1 1] 49)) ib s i n:=wu ((HK.o.block ib cA (λc=>c)).trans bV.o) cy cz hs;have HY:qh (∀p∈Yq,∀k,p.own=some k->k<w2.heap.size+1+1):=by
  obtain⟨E,C,d,G,ad,al,aJ,J,hS,-⟩:=H7.o;intro p hp k X;have:=((hS.it p (by simp[PP,PL,hp])).lt X).2;simpa using this
 have hfin:∀D j F' W',XX w0 m.dx s n R fb iv (qX T M U) lc (w2.heap.size+1) B (B+1) (B+1+1) (qX N m.dx O) (sF pl Y cl ib) Yq none j F' W'->w2.heap.size+1+1<=D->W'.heap[D]?=some (.deferred (some []))->∃ad al G J,Sx w0 (W'.putObj D (.deferred none)) (PL fb iv (qX T M U) lc ad al R.1 R.2 G (Yq++J))/\vI (Yq++J) R.2 G/\0<R.1.length:=by
  rintro D j F' W'⟨E,C,d,G,ad,al,aJ,J,hS,aL,aF,aM,hP,-⟩ hD hd;obtain rfl:(C,d)=R:=hP;have cC:=TL hS hd (by have:=HK.o.size;simp at this;omega) (λp hp=>by
   simp only[PP,PL,qav,qar]at hp;obtain rfl | rfl | rfl | rfl | rfl | rfl | rfl | rfl | hp | hp:=hp
   .exact .inl ⟨_,_,_,rfl⟩
   .exact .inr (.inl ⟨_,_,_,_,_,rfl⟩)
   .exact .inr (.inl ⟨_,_,_,_,_,rfl⟩)
   .exact .inl ⟨_,_,_,rfl⟩
   .exact .inr (.inl ⟨_,_,_,_,_,rfl⟩)
   .exact .inl ⟨_,_,_,rfl⟩
   .exact .inl ⟨_,_,_,rfl⟩
   .exact .inl ⟨_,_,_,rfl⟩
   .exact .inr (.inr (λk X=>by have:=HY.o p hp k X;omega))
   obtain⟨v,n,xs,rfl⟩:=aM p hp;exact .inr (.inl ⟨_,_,_,_,_,rfl⟩))
  have h9:=hS.still (Kept.putObj (r:=D) (o:=.deferred none)) (λk _ (c:k=D) hF=>cC (c▸hF));refine⟨ad,al,G,J,h9.sub ?_,aL,aF⟩;simp only[PP,PL];exact .cons_cons _ (.cons_cons _ (.cons_cons _ (.cons _ (.cons _ (.cons _ (.cons _ (.cons _ (qbf _))))))))
 refine Dq (mr:=True) (m:=8) (fb:=ib) (s:=s) (i:=i) (n:=n) (yf:=λ_ _ _=>False) (I:=XX w0 m.dx s n R fb iv (qX T M U) lc (w2.heap.size+1) B (B+1) (B+1+1) (qX N m.dx O) (sF pl Y cl ib) Yq) (by rfl) uN bX H7.o ?hw (λ_ _ _ c=>c) ?hdone ?hret ?hstop
 case hdone=>intro D j F' W' ba hI' hD hdef cD;exact WE
 case hret=>intro _ D j F' W' ba hI' hD hdef cD;exact WE
 case hstop=>intro D q p chain W' ba;obtain⟨j,hj⟩:=bT;rw[hj]at ba;cases ba
 clear hfin bX H7 HK bV z1 m7 bT HY;refine⟨?_,?_,?_⟩
 .rintro o j F W W' S⟨E,C,d,G,ad,al,aJ,J,hS,aL,aF,aM,hP,rfl⟩ X hs;exact⟨E,C,d,G,ad,al,aJ,J,hS.still X hs,aL,aF,aM,hP,rfl⟩
 .rintro o j F W k⟨E,C,d,G,ad,al,aJ,J,hS,aL,aF,aM,hP,rfl⟩ X;exact hS.Yd X
 rintro l os o' jj F W ee x y gv c8 cE hG he hj c9 bv bY bw bc bZ bz hh b0 da b1;obtain⟨E,C,d,G,ad,al,aJ,J,hS,aL,aF,aM,hP,rfl⟩:=hG;obtain⟨pg,cg,rfl⟩:=Row.shape bZ;obtain⟨pq,cq,rfl⟩:=Row.shape bz;have b2:=qH bY;clear bY;apply Exists.intro;apply Exists.intro;refine⟨λKK L=>?_,?_,λW2 bd=>?_⟩
 .simp only[lM];gi_wp2
  exact L
 .exact qr.alloc _
 have bA:=(hS.alloc (.cells (yC jj ee x y (qX pg y.dL cg) (qX pq y.dA cq)).toArray 195)).still bd (λk _ (c:k=l) hF=>b0 (c▸hF));have bB:W2.heap[W.heap.size]?=some (.cells (yC jj ee x y (qX pg y.dL cg) (qX pq y.dA cq)).toArray 195):=(bd.block W.heap.size qs (λ(c:W.heap.size=l)=>qo)).trans (World.alloc_heap_new W _);have db:W.heap.size<W2.heap.size:=(qah.1 bB).1;obtain⟨Zq,b4,hZ⟩:=bA.full;have bC:∀k,FL w0 (PP fb iv (qX T M U) lc ad al C d G (w2.heap.size+1) aJ E B (B+1) (B+1+1) (qX N m.dx O) (sF pl Y cl ib) (Yq++J)) k->k<W.heap.size:=λk X=>hS.Yd X;have b5:It.o W.heap.size (.cells (yC jj ee x y (qX pg y.dL cg) (qX pq y.dA cq)).toArray 195)∈Zq:=hZ _ _ (λc=>by have:=bC _ c;omega) bB;have bD:Kept (only l) W W2:=((Kept.refl (only l) W).alloc _).trans bd;have b7:jl Zq 93 2 (qX pq y.dA cq) y.dA.length (y.dA.flatMap numCells):=jl.beside (Row.kept bz bD (λg _ hg (c:g=l)=>b1 (c▸hg))) (λg hg=>(hh g hg).2) hZ;have aG:qh (∀w' L',Sx w0 w' (L'++Zq)->Kept (FL w0 (PP fb iv (qX T M U) lc ad al C d G (w2.heap.size+1) aJ E B (B+1) (B+1+1) (qX N m.dx O) (sF pl Y cl ib) (Yq++J))) W2 w'/\∀k,FL w0 L' k->FL w0 (PP fb iv (qX T M U) lc ad al C d G (w2.heap.size+1) aJ E B (B+1) (B+1+1) (qX N m.dx O) (sF pl Y cl ib) (Yq++J)) k\/cE k\/W.heap.size<=k):=λw' L' h'=>by
  obtain⟨q1,q2⟩:=bA.after hZ h' ⟨W2.heap.size - 1,qo,λc=>by have:=bC _ c;omega⟩;exact⟨q1,λk X=>(q2 k X).imp id (λc=>.inr qo)⟩
 have cF:vI (Yq++J) d G:=aL;have HB:qh (∀V L',Sx w0 V (L'++Zq)->jf V W.heap.size (yC jj ee x y (qX pg y.dL cg) (qX pq y.dA cq))/\W.heap.size<V.heap.size):=λV L' hV=>hV.blk (qar.2 (.inr b5));obtain⟨bE,b8,dc,dd⟩:=hP.facts;have cG:jj+1<=ee:=hj;have aY:=qH (hP.next bw cG b2.o bv bc);have cH:=qH (λh3 ht=>hP.typed bw b2.o bv bc h3 ht);have aD:=(FK bw bc);have be:=qH b7;have aZ:=qH aL;have a0:=qH aM;have ah:qh (Sx w0 W2 (PP fb iv (qX T M U) lc ad al C d G (w2.heap.size+1) aJ E B (B+1) (B+1+1) (qX N m.dx O) (sF pl Y cl ib) (Yq++J++Zq))):=b4;obtain⟨g7,bF⟩:=qE W.heap.size;rw[<-bF]at HB ⊢;obtain⟨Z,bG⟩:=qE (w2.heap.size+1);rw[<-bG]at ah aG ⊢;have a2:=qH bF;have de:=qH bG;clear hS bA bB b4 hZ bC b5 bD b7 bZ bz hh b0 b1 hP bc bv bd aL cF aM bF bG;have b9:E≠[]:=by rintro rfl;simp at bE
 obtain⟨o0,aj,bH⟩:∃a b,E=a::b:=by cases E with
  | nil=>exact absurd rfl b9
  | cons a b=>exact⟨a,b,rfl⟩
 obtain⟨aa,ab,cI,-,bI,df,cc⟩:=Row.cells (ah.o.isRow 4 rfl) qo;subst cI;have c6:=(ah.o.c 3 0 rfl rfl).1;have l6:=ah.o.lt 3 rfl;have bf:W2.cell? ⟨aa,E.length - 1,none⟩=some (qJ o0):=(cc (E.length - 1) qo).trans (by
  unfold opC;rw[qbk,List.getElem?_reverse qo,bH];simp)
 obtain⟨⟨I0,-⟩,⟨I1,-⟩,⟨I2,-⟩,⟨I3,-⟩,⟨I4,-⟩,⟨I5,-⟩,⟨I6,-⟩,⟨I7,-⟩,⟨I8,-⟩,⟨I9,-⟩⟩:=(HB.o W2 (PP fb iv (qX T M U) lc ad al C d G Z (qL aa E.length ab) E B (B+1) (B+1+1) (qX N m.dx O) (sF pl Y cl ib) (Yq++J)) ah.o).1.ten;have l7:=(HB.o W2 (PP fb iv (qX T M U) lc ad al C d G Z (qL aa E.length ab) E B (B+1) (B+1+1) (qX N m.dx O) (sF pl Y cl ib) (Yq++J)) ah.o).2;obtain⟨k0,bJ⟩:=qE (E.length - 1);rw[<-bJ]at bf;have dg:IntKind.i64.wrap ((E.length:Int) - 1)=(k0:Int):=by rw[show(E.length:Int) - 1=(k0:Int) by omega];exact qaf _ ⟨qo,qo⟩
 have k1:(k0:Int)<(E.length:Int):=qo;have aI:=qH bH;have cd:=qH bJ;have cJ:=qH bE;clear bH bJ cc b9 bE;by_cases au:dS x=true
 .have VF:=qH (aY.o.1 au);have cK:=qH (cH.o au);obtain⟨gb,cb,bK,-,bL,cL,bg⟩:=Row.cells (ah.o.isRow 1 rfl) aF;subst bK;obtain⟨ps,cs,bM⟩:=Row.shape (ah.o.isRow 2 rfl);subst bM;obtain⟨a3,-⟩:=ah.o.c 0 3 rfl rfl;obtain⟨a5,-⟩:=ah.o.c 5 0 rfl rfl;have bN:=ah.o.lt 0 rfl;have aN:=ah.o.lt 5 rfl;have bi:=qH (ah.o.alloc (.cells #[qJ C.length] 3));obtain⟨i1,cM,cN,cO,cP⟩:=qap Tryz.info3;have dh:E.length<=60:=by have:=cJ.o;omega
  obtain⟨bO,ce,cQ,ch⟩:∃q2 q3 q4:Bool,((x:Int)==2)=q2/\((x:Int)==3)=q3/\((x:Int)==4)=q4:=⟨_,_,_,rfl,rfl,rfl⟩;have cR:(bO=true)\/(bO=false/\ce=true)\/(bO=false/\ce=false/\cQ=true):=by
   obtain⟨e2,e3,e4⟩:=ch;unfold dS at au;simp only[qby,qcn]at au;obtain (rfl | rfl) | rfl:=au
   .exact .inl (by rw[<-e2];rfl)
   .exact .inr (.inl ⟨by rw[<-e2];rfl,by rw[<-e3];rfl⟩)
   exact .inr (.inr ⟨by rw[<-e2];rfl,by rw[<-e3];rfl,by rw[<-e4];rfl⟩)
  obtain⟨t2,t3,t4⟩:=ch;clear bg au;obtain rfl | ⟨rfl,rfl⟩ | ⟨rfl,rfl,rfl⟩:=cR;all_goals
   gi_wp2_with (gi_at_builtin;refine zV (by rintro⟨_,_,h⟩;exact h) qk _ _ ?_;refine wpList_append_lies _ rfl _ _ 49 rfl w0.heap.size 3 i1 (qJ 0) 1 8 qk cM cN cO cP rfl qx _ _ _ rfl (bi.o.row 4 rfl) ⟨_,0,none⟩ 1 1 [_] rfl rfl (cells_at qs rfl) ?c2 qo ?c3 ?c4 ?c5 (W2.heap.size+1) qs ?_)
   case c2=>first | rfl | (intro u hu;simp at hu;subst hu;rfl)
   case c3=>unfold maxLen;omega
   case c4=>omega
   case c5=>exact bi.o.kept.size
   intro ai A W3 ci ak ar cS;have h3:=bi.o.app 4 ci ak (by obtain c | c:=ar;exact .inl c;exact .inr qt) rfl;obtain⟨d2,f2⟩:=h3.c 3 0 rfl rfl;have cT:=h3.lt 3 rfl;have h4:=h3.set 3 0 (qL ai (E.length+1) A) rfl;have H4:qh (Sx w0 (W3.setCell (qA Z 0) (qL ai (E.length+1) A)) (PP fb iv (qX T M U) lc (qL gb C.length cb) (qX ps d cs) C d G Z (qL ai (E.length+1) A) (C.length::E) B (B+1) (B+1+1) (qX N m.dx O) (sF pl Y cl ib) (Yq++J++Zq))):=by
    have e:opC E++[qJ C.length]=opC (C.length::E):=by unfold opC;simp
    rw[e]at h4;exact h4
   clear ci ak ar h3 h4 bi;go_wp2_with fail
   clear d2 f2 cT cS a3 a5 bN aN bf I0 I1 I2 I3 I4 I5 I6 I7 I8 I9 l7 l6 c6 bI bL;have h5:=H4.o;generalize W3.setCell (qA Z 0) (qL ai (E.length+1) A)=W4 at*;clear H4;have H5:=qH h5;have a5:=(h5.c 5 0 rfl rfl).1;have aN:=h5.lt 5 rfl;clear h5;gi_wp2_with fail
   have ag:∀V Lq,Sx w0 V ((PP fb iv (qX T M U) lc (qL gb C.length cb) (qX ps d cs) C d G Z (qL ai (E.length+1) A) (C.length::E) B (B+1) (B+1+1) (qX N m.dx O) (sF pl Y cl ib) (Yq++J++Zq))++Lq)->(S4 B fb gb C.length cb ps d.length cs N m.dx.length O g7 jj ee x y pg cg pq cq) V:=λV Lq hV=>by
    refine⟨⟨(hV.c 5 0 rfl rfl).1,(hV.c 0 3 rfl rfl).1,(hV.c 0 4 rfl rfl).1,(hV.c 6 0 rfl rfl).1⟩,?_⟩;have hB:=(HB.o V (PP fb iv (qX T M U) lc (qL gb C.length cb) (qX ps d cs) C d G Z (qL ai (E.length+1) A) (C.length::E) B (B+1) (B+1+1) (qX N m.dx O) (sF pl Y cl ib) (Yq++J)++Lq) (hV.perm (by
     have e1:(PP fb iv (qX T M U) lc (qL gb C.length cb) (qX ps d cs) C d G Z (qL ai (E.length+1) A) (C.length::E) B (B+1) (B+1+1) (qX N m.dx O) (sF pl Y cl ib) (Yq++J++Zq))++Lq=(PP fb iv (qX T M U) lc (qL gb C.length cb) (qX ps d cs) C d G Z (qL ai (E.length+1) A) (C.length::E) B (B+1) (B+1+1) (qX N m.dx O) (sF pl Y cl ib) (Yq++J)++Zq)++Lq:=rfl;rw[e1,qaj,qaj];exact RX))).1
    exact Su
   have h9:=H5.o.drew;have am:=ag _ [] (by rw[qbt];exact h9);have hw:IntKind.i64.wrap ((d.length:Int)+1)=(d.length:Int)+1:=qaf _ ⟨qo,qo⟩;refine ML (S4 B fb gb C.length cb ps d.length cs N m.dx.length O g7 jj ee x y pg cg pq cq) 18 ?_ (hQ:=by rintro⟨_,_,h⟩;exact h);iterate 13 refine nE am ?_ (hy:=by(refine Or.inl ⟨by rfl,?_⟩;intro _ d;obtain⟨⟨_,_,_,_⟩,_,_,_,_,_,_,_,_,_,_⟩:=d;go_simp;try with_reducible rfl))
   have bj:=IC (w:=W4.drew) (x:=x) (j:=jj) (e:=ee) (bh:=d.length+1) (y:=y) (pg:=pg) (pq:=pq) (cg:=cg) (cq:=cq) (hT.kept h9.kept (λ_ _ _ c=>c) (λ_ _ e=>e.kept h9.kept (λ_ _ _ c=>c))) (λht=>⟨aD.1.1,cK.o ht⟩);rw[show(((d.length+1:Nat)):Int)=(d.length:Int)+1 by omega]at bj;obtain⟨BB,cj⟩:=qE (nH m.dx x y (d.length+1));rw[<-cj]at bj VF;refine jO (λK L=>?_);refine dP (f:=134) (args:= #[.agg (yC jj ee x y (qX pg y.dL cg) (qX pq y.dA cq)).toArray,qX N m.dx O,qJ ((d.length:Int)+1)]) (by rfl) (by go_simp) bj ?_;rintro e V1⟨rfl,ck⟩;have an:=h9.to ck;have aA:=ag _ [] (by rw[qbt];exact an);refine⟨_,rfl,L _ _ (.inr aA) ?_⟩;clear L K am bj cj;simp only[Act.put,qy,qz,qw,uu];have af:=an.alloc (.cells #[.bool BB.lp,qJ BB.tk,qJ BB.ca,qJ BB.tg,qJ BB.el] 230);have aB:=ag _ [] (by rw[qbt];exact af);refine jO (λK L=>?_);go_simp;refine L _ _ (.inr aB) ?_;clear L K;obtain⟨i2,cU,cV,cW,cX⟩:=qap Tryz.Tm;refine jO (λK L=>?_);refine step_append_lies _ (by rfl) (.tmp 49) (.tmp 59) 101 (by rfl) w0.heap.size 230 i2 (.agg #[.bool false,qJ 0,qJ 0,qJ 0,qJ 0]) 5 40 qk cU cV cW cX rfl qx (qL gb C.length cb) C.length (C.flatMap uu) (by rfl) (af.row 1 rfl) ⟨V1.heap.size,0,none⟩ 1 1 [.bool BB.lp,qJ BB.tk,qJ BB.ca,qJ BB.tg,qJ BB.el] (by rfl) rfl (λj u hu=>?c1) ?c2 qo ?c3 ?c4 ?c5 (V1.heap.size+1) qs ?_
   case c1=>exact cells_at (w:=V1) (c:= #[.bool BB.lp,qJ BB.tk,qJ BB.ca,qJ BB.tg,qJ BB.el]) (t:=230) rfl rfl j u hu
   case c2=>intro u hu;simp at hu;obtain rfl | rfl | rfl | rfl | rfl:=hu<;>rfl
   case c3=>unfold maxLen;omega
   case c4=>omega
   case c5=>exact af.kept.size
   intro ap aq V2 aC ak ar bk;have ae:=af.app 1 aC ak (by obtain c | c:=ar;exact .inl c;exact .inr qt) rfl;obtain⟨ac,aE⟩:=qE (C++[BB]);have a6:0<ac.length:=by rw[aE];simp
   have eb:C.flatMap uu++[.bool BB.lp,qJ BB.tk,qJ BB.ca,qJ BB.tg,qJ BB.el]=ac.flatMap uu:=by rw[aE];simp[uu]
   rw[eb]at ae;rw[<-aE]at VF;have cm:ac.length=C.length+1:=by rw[aE];simp
   have ao:(S4 B fb gb C.length cb ps d.length cs N m.dx.length O g7 jj ee x y pg cg pq cq) V2:=by
    refine⟨⟨(ae.c 5 0 rfl rfl).1,(ae.c 0 3 rfl rfl).1,(ae.c 0 4 rfl rfl).1,(ae.c 6 0 rfl rfl).1⟩,?_⟩;have hB:=(HB.o V2 (.b fb [iv,qX T M U,lc,(qL gb C.length cb),(qX ps d cs)]::.r 230 5 (qL ap (C.length+1) aq) (C.length+1) (ac.flatMap uu)::.r 234 5 (qX ps d cs) d.length (tK d G)::.b Z [(qL ai (E.length+1) A)]::.r 3 1 (qL ai (E.length+1) A) (C.length::E).length (opC (C.length::E))::B3 B fb N m.dx.length O pl Y cl ib (Yq++J)) ae).1;exact Su
   refine L _ _ (.inr ao) ?_;clear L K aA aB;simp only[Act.put,qy,qz,qw];iterate 2 refine nE ao ?_ (hy:=by(refine Or.inl ⟨by rfl,?_⟩;intro _ d;obtain⟨⟨_,_,-⟩,-⟩:=d;go_simp;try with_reducible rfl))
   obtain⟨x3,y3⟩:=ae.c 0 3 rfl rfl;have mm:=ae.lt 0 rfl;have aw:=ae.set 0 3 (qL ap (C.length+1) aq) rfl;have cn:qh (Sx w0 (V2.setCell (qA fb 3) (qL ap (C.length+1) aq)) (PP fb iv (qX T M U) lc (qL ap (C.length+1) aq) (qX ps d cs) ac d G Z (qL ai (E.length+1) A) (C.length::E) B (B+1) (B+1+1) (qX N m.dx O) (sF pl Y cl ib) (Yq++J++Zq))):=by
    simp only[PP,PL,qz,qw]at aw ⊢;rw[cm];exact aw
   clear h9 an af ae aw aC ak ar ag ck aE eb cm;refine iU (λK L=>?_);go_simp;refine L _ _ ?_;clear L K ao x3 y3 mm a5 aN H5;have Vn:=cn.o;generalize V2.setCell (qA fb 3) (qL ap (C.length+1) aq)=W5 at*;have a7:=qH Vn;clear Vn cn;gi_wp2_with fail
   have aK:=qH a7.o;have ag:∀V Lq,Sx w0 V ((PP fb iv (qX T M U) lc (qL ap (C.length+1) aq) (qX ps d cs) ac d G Z (qL ai (E.length+1) A) (C.length::E) B (B+1) (B+1+1) (qX N m.dx O) (sF pl Y cl ib) (Yq++J++Zq))++Lq)->(S2 B fb ps d.length cs g7 jj ee x y pg cg pq cq) V:=λV Lq hV=>by
    refine⟨⟨(hV.c 5 0 rfl rfl).1,(hV.c 0 4 rfl rfl).1⟩,?_⟩;have hB:=(HB.o V (PP fb iv (qX T M U) lc (qL ap (C.length+1) aq) (qX ps d cs) ac d G Z (qL ai (E.length+1) A) (C.length::E) B (B+1) (B+1+1) (qX N m.dx O) (sF pl Y cl ib) (Yq++J)++Lq) (hV.perm (by
     have e1:(PP fb iv (qX T M U) lc (qL ap (C.length+1) aq) (qX ps d cs) ac d G Z (qL ai (E.length+1) A) (C.length::E) B (B+1) (B+1+1) (qX N m.dx O) (sF pl Y cl ib) (Yq++J++Zq))++Lq=(PP fb iv (qX T M U) lc (qL ap (C.length+1) aq) (qX ps d cs) ac d G Z (qL ai (E.length+1) A) (C.length::E) B (B+1) (B+1+1) (qX N m.dx O) (sF pl Y cl ib) (Yq++J)++Zq)++Lq:=rfl;rw[e1,qaj,qaj];exact RX))).1
    exact Su
   have h9:=aK.o.drew;have am:=ag _ [] (by rw[qbt];exact h9);refine ML (S2 B fb ps d.length cs g7 jj ee x y pg cg pq cq) 12 ?_ (hQ:=by rintro⟨_,_,h⟩;exact h);iterate 7 refine nE am ?_ (hy:=by(refine Or.inl ⟨by rfl,?_⟩;intro _ d;obtain⟨⟨_,_⟩,_,_,_,_,_,_,_,_,_,_⟩:=d;go_simp;try with_reducible rfl))
   have aH:=be.o.row h9 (λp hp=>by simp[PP,PL,hp]);refine jO (λK L=>?_);refine dP (f:=136) (args:= #[.agg (yC jj ee x y (qX pg y.dL cg) (qX pq y.dA cq)).toArray,qJ ((C.length:Nat):Int)]) (by rfl) (by go_simp) (sN (b:=C.length) aH (by have:=aD.2.1;omega) aD.1.1 (λz hz=>(aD.2.2.1 z hz).1)) ?_;rintro e V1⟨lv,rfl,ax⟩;have an:=h9.join ax;have aA:=ag _ _ an;refine⟨_,rfl,L _ _ (.inr aA) ?_⟩;clear L K am;simp only[Act.put,qy,qz,qw];obtain⟨pv,cv,aO⟩:=Row.shape (ax.isRow 0 rfl);subst aO;obtain⟨nk,ay⟩:=qE y.num.1.toNat;simp only[Gv,stepOf];rw[<-ay];have aP:=qH ay;clear ay;have af:=(an.alloc (.cells #[qB x,qJ ((C.length:Nat):Int),qI nk,qX pv y.dA cv,qJ y.val] 234));have aB:=ag _ _ af;refine jO (λK L=>?_);go_simp;refine L _ _ (.inr aB) ?_;clear L K;obtain⟨i0,aQ,aR,aS,aT⟩:=qap Tryz.zW;refine jO (λK L=>?_);refine step_append_lies _ (by rfl) (.tmp 95) (.tmp 99) 102 (by rfl) w0.heap.size 234 i0 (.agg #[qB 0,qJ 0,qI 0,qN,qJ 0]) 5 56 qk aQ aR aS aT rfl qx (qX ps d cs) d.length (tK d G) (by rfl) (af.row 2 rfl) ⟨V1.heap.size,0,none⟩ 1 1 [qB x,qJ ((C.length:Nat):Int),qI nk,qX pv y.dA cv,qJ y.val] (by rfl) rfl (λj u hu=>?c1) ?c2 qo ?c3 ?c4 ?c5 (V1.heap.size+1) qs ?_
   case c1=>exact cells_at (w:=V1) (c:= #[qB x,qJ ((C.length:Nat):Int),qI nk,qX pv y.dA cv,qJ y.val]) (t:=234) rfl rfl j u hu
   case c2=>intro u hu;simp at hu;obtain rfl | rfl | rfl | rfl | rfl:=hu<;>rfl
   case c3=>unfold maxLen;omega
   case c4=>omega
   case c5=>exact af.kept.size
   intro gg cp V2 aC ak ar bk;have ae:=af.app 2 aC ak (by obtain c | c:=ar;exact .inl c;exact .inr qt) rfl;have ao:(S2 B fb ps d.length cs g7 jj ee x y pg cg pq cq) V2:=by
    have hg:Kept (λk=>(Value.slice ps d.length cs).ownBlock=some k) _ V2:=Kept.gH ak;refine⟨⟨(ae.c 5 0 rfl rfl).1,(ae.c 0 4 rfl rfl).1⟩,?_⟩;have hB:=(HB.o V2 ((.b fb [iv,qX T M U,lc,(qL ap (C.length+1) aq),qX ps d cs]::.r 230 5 (qL ap (C.length+1) aq) (ac).length ((ac).flatMap uu)::.r 234 5 (qL gg (d.length+1) cp) (d.length+1) (tK d G++[qB x,qJ ((C.length:Nat):Int),qI nk,qX pv y.dA cv,qJ y.val])::.b Z [(qL ai (E.length+1) A)]::.r 3 1 (qL ai (E.length+1) A) ((C.length::E)).length (opC ((C.length::E)))::B3 B fb N m.dx.length O pl Y cl ib (Yq++J))++[.r 85 1 (qX pv y.dA cv) y.dA.length (jC (lC y.dA))]) (ae.perm (by
     show(((.b fb [iv,qX T M U,lc,(qL ap (C.length+1) aq),qX ps d cs]::.r 230 5 (qL ap (C.length+1) aq) (ac).length ((ac).flatMap uu)::.r 234 5 (qL gg (d.length+1) cp) (d.length+1) (tK d G++[qB x,qJ ((C.length:Nat):Int),qI nk,qX pv y.dA cv,qJ y.val])::.b Z [(qL ai (E.length+1) A)]::.r 3 1 (qL ai (E.length+1) A) ((C.length::E)).length (opC ((C.length::E)))::B3 B fb N m.dx.length O pl Y cl ib (Yq++J))++Zq)++[It.r 85 1 (qX pv y.dA cv) y.dA.length (jC (lC y.dA))]).Perm _;exact FO))).1
    exact Su
   refine L _ _ (.inr ao) ?_;clear L K aA aB;simp only[Act.put,qy,qz,qw];iterate 2 refine nE ao ?_ (hy:=by(refine Or.inl ⟨by rfl,?_⟩;intro _ d;obtain⟨⟨_,_⟩,-⟩:=d;go_simp;try with_reducible rfl))
   obtain⟨x3,y3⟩:=ae.c 0 4 rfl rfl;have mm:=ae.lt 0 rfl;have aw:=ae.set 0 4 (qL gg (d.length+1) cp) rfl;have aU:=qH aw;clear h9 an af ae aw aC ak ar ag ax aH;refine iU (λK L=>?_);go_simp;refine L _ _ ?_;clear L K ao x3 y3 mm;have hA:Sx w0 (V2.setCell (qA fb 4) (qL gg (d.length+1) cp)) ((PP fb iv (qX T M U) lc (qL ap (C.length+1) aq) (qL gg (d.length+1) cp) ac (d++[(stepOf (jj,x,y) C.length)]) (λq=>if q=d.length then Value.slice pv y.dA.length cv else G q) Z (qL ai (E.length+1) A) (C.length::E) B (B+1) (B+1+1) (qX N m.dx O) (sF pl Y cl ib) (Yq++(J++[It.r 85 1 (qX pv y.dA cv) y.dA.length (jC (lC y.dA))])))++Zq):=by
    have e1:tK (d++[(stepOf (jj,x,y) C.length)]) (λq=>if q=d.length then Value.slice pv y.dA.length cv else G q)=tK d G++[qB x,qJ ((C.length:Nat):Int),qI nk,qX pv y.dA cv,qJ y.val]:=by
     rw[zT];unfold Gv stepOf;rw[aP.o]
    have Vn:=aU.o.perm (l':=((.b fb [iv,qX T M U,lc,(qL ap (C.length+1) aq),qL gg (d.length+1) cp]::.r 230 5 (qL ap (C.length+1) aq) (ac).length ((ac).flatMap uu)::.r 234 5 (qL gg (d.length+1) cp) (d.length+1) (tK d G++[qB x,qJ ((C.length:Nat):Int),qI nk,qX pv y.dA cv,qJ y.val])::.b Z [(qL ai (E.length+1) A)]::.r 3 1 (qL ai (E.length+1) A) ((C.length::E)).length (opC ((C.length::E)))::B3 B fb N m.dx.length O pl Y cl ib (Yq++J))++[It.r 85 1 (qX pv y.dA cv) y.dA.length (jC (lC y.dA))])++Zq) (by
     show(((.b fb [iv,qX T M U,lc,(qL ap (C.length+1) aq),qL gg (d.length+1) cp]::.r 230 5 (qL ap (C.length+1) aq) (ac).length ((ac).flatMap uu)::.r 234 5 (qL gg (d.length+1) cp) (d.length+1) (tK d G++[qB x,qJ ((C.length:Nat):Int),qI nk,qX pv y.dA cv,qJ y.val])::.b Z [(qL ai (E.length+1) A)]::.r 3 1 (qL ai (E.length+1) A) ((C.length::E)).length (opC ((C.length::E)))::B3 B fb N m.dx.length O pl Y cl ib (Yq++J))++Zq)++[It.r 85 1 (qX pv y.dA cv) y.dA.length (jC (lC y.dA))]).Perm _;exact FO)
    exact Ue
   have aV:It.r 85 1 (qX pv y.dA cv) (stepOf (jj,x,y) C.length).zz.length (jC (stepOf (jj,x,y) C.length).zz)∈Yq++(J++[It.r 85 1 (qX pv y.dA cv) y.dA.length (jC (lC y.dA))]):=by
    have e:It.r 85 1 (qX pv y.dA cv) (stepOf (jj,x,y) C.length).zz.length (jC (stepOf (jj,x,y) C.length).zz)=It.r 85 1 (qX pv y.dA cv) y.dA.length (jC (lC y.dA)):=by simp[stepOf,lC]
    rw[e];simp
   exact⟨_,⟨_,_,_,_,_,_,_,_,hA.sub (qbj _ _),aZ.o.app (λq hq=>by rw[<-qaj];exact qar.2 (.inl hq)) (.inr (.inl aV)),a6,λp hp=>by
    rw[qar,qak]at hp;obtain hp | rfl:=hp
    .exact a0.o p hp
    exact⟨_,_,_,rfl⟩,VF.o,rfl⟩,(aG.o _ _ hA).1,λk X=>((aG.o _ _ hA).2 k X).imp id (λc=>c.imp id (λc=>by rw[a2.o];exact c))⟩
 by_cases a8:x=5
 .have Sj:=qH (aY.o.2.1 a8);rw[aI.o,qds]at Sj;rw[<-aI.o]at Sj;have bP:o0<C.length:=b8 o0 (by rw[aI.o];simp);obtain⟨bb,bm⟩:∃b,C[o0]?=some b:=⟨_,qab bP⟩;rw[Ga bm]at Sj;obtain⟨gb,cb,bK,-,bL,cL,bg⟩:=Row.cells (ah.o.isRow 1 rfl) aF;subst bK;obtain⟨ps,cs,bM⟩:=Row.shape (ah.o.isRow 2 rfl);subst bM;obtain⟨a3,-⟩:=ah.o.c 0 3 rfl rfl;obtain⟨a4,-⟩:=ah.o.c 0 4 rfl rfl;obtain⟨a5,-⟩:=ah.o.c 5 0 rfl rfl;have bN:=ah.o.lt 0 rfl;have aN:=ah.o.lt 5 rfl;have c4:W2.cell? ⟨gb,o0*5+4,none⟩=some (qJ bb.el):=(bg (o0*5+4) qo).trans (flat_get (m:=5) (o:=4) (λ_=>rfl) bm qo);have cY:=ah.o.vM 1 (o0*5+4) rfl;have bD:(o0:Int)<(C.length:Int):=qo;have hw:IntKind.i64.wrap ((d.length:Int)+1)=(d.length:Int)+1:=qaf _ ⟨qo,qo⟩;have h4:=(PL.set (o:=4) (v:=qJ ((d.length:Int)+1)) (b':={bb with el:=d.length+1}) ah.o bm qo (by unfold uu;simp)).drew;obtain⟨ac,aE⟩:=qE (C.set o0 {bb with el:=d.length+1});rw[<-aE]at h4 Sj;have a6:0<ac.length:=by rw[aE];simpa using aF
  have H4:=qH h4;clear h4 bm bg aE;have t2:((x:Int)==2)=false:=by simp;omega
  have t3:((x:Int)==3)=false:=by simp;omega
  have t4:((x:Int)==4)=false:=by simp;omega
  have t5:((x:Int)==5)=true:=by simp;omega
  clear a8;have am:(λV:qW=>V.cell? (qA B 0)=some (qP fb)/\V.cell? (qA fb 3)=some (qL gb C.length cb)/\V.cell? (qA fb 4)=some (qX ps d cs)) W2.drew:=⟨a5,a3,a4⟩;clear au;gi_wp2_with fail
  refine ML (λV:qW=>V.cell? (qA B 0)=some (qP fb)/\V.cell? (qA fb 3)=some (qL gb C.length cb)/\V.cell? (qA fb 4)=some (qX ps d cs)) 13 ?_ (hQ:=by rintro⟨_,_,h⟩;exact h);iterate 13 refine nE am ?_ (hy:=qY)
  refine iU (λK L=>?_);go_simp;refine L _ _ ?_;clear L K am c4 cY a3 a4 a5 bN aN bf I0 I1 I2 I3 I4 I5 I6 I7 I8 I9 l7 l6 c6 bI bL;have a7:=qH H4.o;generalize World.drew (World.setCell W2 ⟨gb,o0*5+4,none⟩ (qJ ((d.length:Int)+1)))=W3 at*;gi_wp2_with fail
  have aK:=qH a7.o;have ag:∀V Lq,Sx w0 V ((PP fb iv (qX T M U) lc (qL gb C.length cb) (qX ps d cs) ac d G Z (qL aa E.length ab) E B (B+1) (B+1+1) (qX N m.dx O) (sF pl Y cl ib) (Yq++J++Zq))++Lq)->(S2 B fb ps d.length cs g7 jj ee x y pg cg pq cq) V:=λV Lq hV=>by
   refine⟨⟨(hV.c 5 0 rfl rfl).1,(hV.c 0 4 rfl rfl).1⟩,?_⟩;have hB:=(HB.o V (PP fb iv (qX T M U) lc (qL gb C.length cb) (qX ps d cs) ac d G Z (qL aa E.length ab) E B (B+1) (B+1+1) (qX N m.dx O) (sF pl Y cl ib) (Yq++J)++Lq) (hV.perm (by
    have e1:(PP fb iv (qX T M U) lc (qL gb C.length cb) (qX ps d cs) ac d G Z (qL aa E.length ab) E B (B+1) (B+1+1) (qX N m.dx O) (sF pl Y cl ib) (Yq++J++Zq))++Lq=(PP fb iv (qX T M U) lc (qL gb C.length cb) (qX ps d cs) ac d G Z (qL aa E.length ab) E B (B+1) (B+1+1) (qX N m.dx O) (sF pl Y cl ib) (Yq++J)++Zq)++Lq:=rfl;rw[e1,qaj,qaj];exact RX))).1
   exact Su
  have h9:=aK.o.drew;have am:=ag _ [] (by rw[qbt];exact h9);refine ML (S2 B fb ps d.length cs g7 jj ee x y pg cg pq cq) 12 ?_ (hQ:=by rintro⟨_,_,h⟩;exact h);iterate 7 refine nE am ?_ (hy:=by(refine Or.inl ⟨by rfl,?_⟩;intro _ d;obtain⟨⟨_,_⟩,_,_,_,_,_,_,_,_,_,_⟩:=d;go_simp;try with_reducible rfl))
  have aH:=be.o.row h9 (λp hp=>by simp[PP,PL,hp]);refine jO (λK L=>?_);refine dP (f:=136) (args:= #[.agg (yC jj ee x y (qX pg y.dL cg) (qX pq y.dA cq)).toArray,qJ ((o0:Nat):Int)]) (by rfl) (by go_simp) (sN (b:=o0) aH (by have:=aD.2.1;omega) aD.1.1 (λz hz=>(aD.2.2.1 z hz).1)) ?_;rintro e V1⟨lv,rfl,ax⟩;have an:=h9.join ax;have aA:=ag _ _ an;refine⟨_,rfl,L _ _ (.inr aA) ?_⟩;clear L K am;simp only[Act.put,qy,qz,qw];obtain⟨pv,cv,aO⟩:=Row.shape (ax.isRow 0 rfl);subst aO;obtain⟨nk,ay⟩:=qE y.num.1.toNat;simp only[Gv,stepOf];rw[<-ay];have aP:=qH ay;clear ay;have af:=(an.alloc (.cells #[qB x,qJ ((o0:Nat):Int),qI nk,qX pv y.dA cv,qJ y.val] 234));have aB:=ag _ _ af;refine jO (λK L=>?_);go_simp;refine L _ _ (.inr aB) ?_;clear L K;obtain⟨i0,aQ,aR,aS,aT⟩:=qap Tryz.zW;refine jO (λK L=>?_);refine step_append_lies _ (by rfl) (.tmp 95) (.tmp 99) 102 (by rfl) w0.heap.size 234 i0 (.agg #[qB 0,qJ 0,qI 0,qN,qJ 0]) 5 56 qk aQ aR aS aT rfl qx (qX ps d cs) d.length (tK d G) (by rfl) (af.row 2 rfl) ⟨V1.heap.size,0,none⟩ 1 1 [qB x,qJ ((o0:Nat):Int),qI nk,qX pv y.dA cv,qJ y.val] (by rfl) rfl (λj u hu=>?c1) ?c2 qo ?c3 ?c4 ?c5 (V1.heap.size+1) qs ?_
  case c1=>exact cells_at (w:=V1) (c:= #[qB x,qJ ((o0:Nat):Int),qI nk,qX pv y.dA cv,qJ y.val]) (t:=234) rfl rfl j u hu
  case c2=>intro u hu;simp at hu;obtain rfl | rfl | rfl | rfl | rfl:=hu<;>rfl
  case c3=>unfold maxLen;omega
  case c4=>omega
  case c5=>exact af.kept.size
  intro gg cp V2 aC ak ar bk;have ae:=af.app 2 aC ak (by obtain c | c:=ar;exact .inl c;exact .inr qt) rfl;have ao:(S2 B fb ps d.length cs g7 jj ee x y pg cg pq cq) V2:=by
   have hg:Kept (λk=>(Value.slice ps d.length cs).ownBlock=some k) _ V2:=Kept.gH ak;refine⟨⟨(ae.c 5 0 rfl rfl).1,(ae.c 0 4 rfl rfl).1⟩,?_⟩;have hB:=(HB.o V2 ((.b fb [iv,qX T M U,lc,(qL gb C.length cb),qX ps d cs]::.r 230 5 (qL gb C.length cb) (ac).length ((ac).flatMap uu)::.r 234 5 (qL gg (d.length+1) cp) (d.length+1) (tK d G++[qB x,qJ ((o0:Nat):Int),qI nk,qX pv y.dA cv,qJ y.val])::.b Z [(qL aa E.length ab)]::.r 3 1 (qL aa E.length ab) E.length (opC E)::B3 B fb N m.dx.length O pl Y cl ib (Yq++J))++[.r 85 1 (qX pv y.dA cv) y.dA.length (jC (lC y.dA))]) (ae.perm (by
    show(((.b fb [iv,qX T M U,lc,(qL gb C.length cb),qX ps d cs]::.r 230 5 (qL gb C.length cb) (ac).length ((ac).flatMap uu)::.r 234 5 (qL gg (d.length+1) cp) (d.length+1) (tK d G++[qB x,qJ ((o0:Nat):Int),qI nk,qX pv y.dA cv,qJ y.val])::.b Z [(qL aa E.length ab)]::.r 3 1 (qL aa E.length ab) E.length (opC E)::B3 B fb N m.dx.length O pl Y cl ib (Yq++J))++Zq)++[It.r 85 1 (qX pv y.dA cv) y.dA.length (jC (lC y.dA))]).Perm _;exact FO))).1
   exact Su
  refine L _ _ (.inr ao) ?_;clear L K aA aB;simp only[Act.put,qy,qz,qw];iterate 2 refine nE ao ?_ (hy:=by(refine Or.inl ⟨by rfl,?_⟩;intro _ d;obtain⟨⟨_,_⟩,-⟩:=d;go_simp;try with_reducible rfl))
  obtain⟨x3,y3⟩:=ae.c 0 4 rfl rfl;have mm:=ae.lt 0 rfl;have aw:=ae.set 0 4 (qL gg (d.length+1) cp) rfl;have aU:=qH aw;clear h9 an af ae aw aC ak ar ag ax aH;refine iU (λK L=>?_);go_simp;refine L _ _ ?_;clear L K ao x3 y3 mm;have hA:Sx w0 (V2.setCell (qA fb 4) (qL gg (d.length+1) cp)) ((PP fb iv (qX T M U) lc (qL gb C.length cb) (qL gg (d.length+1) cp) ac (d++[(stepOf (jj,x,y) o0)]) (λq=>if q=d.length then Value.slice pv y.dA.length cv else G q) Z (qL aa E.length ab) E B (B+1) (B+1+1) (qX N m.dx O) (sF pl Y cl ib) (Yq++(J++[It.r 85 1 (qX pv y.dA cv) y.dA.length (jC (lC y.dA))])))++Zq):=by
   have e1:tK (d++[(stepOf (jj,x,y) o0)]) (λq=>if q=d.length then Value.slice pv y.dA.length cv else G q)=tK d G++[qB x,qJ ((o0:Nat):Int),qI nk,qX pv y.dA cv,qJ y.val]:=by
    rw[zT];unfold Gv stepOf;rw[aP.o]
   have Vn:=aU.o.perm (l':=((.b fb [iv,qX T M U,lc,(qL gb C.length cb),qL gg (d.length+1) cp]::.r 230 5 (qL gb C.length cb) (ac).length ((ac).flatMap uu)::.r 234 5 (qL gg (d.length+1) cp) (d.length+1) (tK d G++[qB x,qJ ((o0:Nat):Int),qI nk,qX pv y.dA cv,qJ y.val])::.b Z [(qL aa E.length ab)]::.r 3 1 (qL aa E.length ab) E.length (opC E)::B3 B fb N m.dx.length O pl Y cl ib (Yq++J))++[It.r 85 1 (qX pv y.dA cv) y.dA.length (jC (lC y.dA))])++Zq) (by
    show(((.b fb [iv,qX T M U,lc,(qL gb C.length cb),qL gg (d.length+1) cp]::.r 230 5 (qL gb C.length cb) (ac).length ((ac).flatMap uu)::.r 234 5 (qL gg (d.length+1) cp) (d.length+1) (tK d G++[qB x,qJ ((o0:Nat):Int),qI nk,qX pv y.dA cv,qJ y.val])::.b Z [(qL aa E.length ab)]::.r 3 1 (qL aa E.length ab) E.length (opC E)::B3 B fb N m.dx.length O pl Y cl ib (Yq++J))++Zq)++[It.r 85 1 (qX pv y.dA cv) y.dA.length (jC (lC y.dA))]).Perm _;exact FO)
   exact Ue
  have aV:It.r 85 1 (qX pv y.dA cv) (stepOf (jj,x,y) o0).zz.length (jC (stepOf (jj,x,y) o0).zz)∈Yq++(J++[It.r 85 1 (qX pv y.dA cv) y.dA.length (jC (lC y.dA))]):=by
   exact VB
  exact⟨_,⟨_,_,_,_,_,_,_,_,hA.sub (qbj _ _),aZ.o.app (λq hq=>by rw[<-qaj];exact qar.2 (.inl hq)) (.inr (.inl aV)),a6,λp hp=>by
   rw[qar,qak]at hp;obtain hp | rfl:=hp
   .exact a0.o p hp
   exact⟨_,_,_,rfl⟩,Sj.o,rfl⟩,(aG.o _ _ hA).1,λk X=>((aG.o _ _ hA).2 k X).imp id (λc=>c.imp id (λc=>by rw[a2.o];exact c))⟩
 by_cases aW:x=11
 .have t2:((x:Int)==2)=false:=by simp;omega
  have t3:((x:Int)==3)=false:=by simp;omega
  have t4:((x:Int)==4)=false:=by simp;omega
  have t5:((x:Int)==5)=false:=by simp;omega
  have cZ:((x:Int)==11)=true:=by simp;omega
  have bn:k0=aj.length:=by have:=cd.o;rw[aI.o]at this;simpa using this
  have a9:E.tail=aj:=by rw[aI.o];rfl
  have H3:qh (Sx w0 (W2.setCell (qA Z 0) (qL aa k0 ab)) (PP fb iv (qX T M U) lc ad al C d G Z (qL aa k0 ab) aj B (B+1) (B+1+1) (qX N m.dx O) (sF pl Y cl ib) (Yq++J++Zq))):=by
   have h3:=(ah.o.cut 4 (n:=E.length) (n':=k0) (by have:=cd.o;omega) rfl).set 3 0 (qL aa k0 ab) rfl;have e:(opC E).take (k0*1)=opC aj:=by
    unfold opC;rw[aI.o,qck,qcu,List.map_append,List.take_left' (by simp[bn])]
   simp only[PP,PL,qz,qw]at h3 ⊢;rw[e]at h3;rw[<-bn];exact h3
  obtain⟨-,y6⟩:=ah.o.c 3 0 rfl rfl;have kc:(k0:Int)<=(ab:Int):=qo;have cr:=qH bn;clear au a8 bn;by_cases aX:aj=[]
  .obtain⟨Yb,Yc⟩:=aY.o.2.2.1 aW (by rw[a9];exact aX);have cu:=qH Yc;have c7:=qH Yb;have hz:((k0:Int)==0)=true:=by have:=cr.o;rw[aX]at this;simp at this;simp;omega
   clear Yc Yb aW aX;gi_wp2
   rw[a9]at cu;exact⟨c7.o,_,⟨_,_,_,_,_,_,_,_,Sx.sub (l:=PP fb iv (qX T M U) lc ad al C d G Z (qL aa k0 ab) aj B (B+1) (B+1+1) (qX N m.dx O) (sF pl Y cl ib) (Yq++J)++Zq) H3.o (qbj _ _),aZ.o,aF,a0.o,cu.o,rfl⟩,(aG.o _ (PP fb iv (qX T M U) lc ad al C d G Z (qL aa k0 ab) aj B (B+1) (B+1+1) (qX N m.dx O) (sF pl Y cl ib) (Yq++J)) H3.o).1,λk X=>((aG.o _ (PP fb iv (qX T M U) lc ad al C d G Z (qL aa k0 ab) aj B (B+1) (B+1+1) (qX N m.dx O) (sF pl Y cl ib) (Yq++J)) H3.o).2 k X).imp id (λc=>c.imp id (λc=>by rw[a2.o];exact c))⟩
  have bo:=qH (aY.o.2.2.2.1 aW (by rw[a9];exact aX));rw[a9]at bo;rw[aI.o,qds]at bo;have bP:o0<C.length:=b8 o0 (by rw[aI.o];simp);have hz:((k0:Int)==0)=false:=by
   have:=cr.o;have:aj.length≠0:=λc=>aX (qao c);simp;omega
  have bQ:=qH (Fe H3.o bP qo);obtain⟨ac,aE⟩:=qE (setB C o0 λb=>if b.lp then b else {b with tg:=d.length+1});rw[<-aE]at bQ bo;have a6:0<ac.length:=by rw[aE,iq];exact aF
  have a5:=(H3.o.c 5 0 rfl rfl).1;have aN:=H3.o.lt 5 rfl;clear aW aX a9 aE;gi_wp2_with fail
  refine⟨trivial,(CallsIn.inRound l (callsIn_wide.2 bQ.o)).mono ?_⟩;rintro e W3⟨rfl,h4⟩;have a7:=qH h4;clear h4 bQ H3 a5 aN bf I0 I1 I2 I3 I4 I5 I6 I7 I8 I9 l7 l6 c6 y6 bI;gi_wp2_with fail
  have aK:=qH a7.o;obtain⟨ps,cs,bR⟩:=Row.shape (aK.o.isRow 2 rfl);subst bR;have ag:∀V Lq,Sx w0 V ((PP fb iv (qX T M U) lc ad (qX ps d cs) ac d G Z (qL aa k0 ab) aj B (B+1) (B+1+1) (qX N m.dx O) (sF pl Y cl ib) (Yq++J++Zq))++Lq)->(S2 B fb ps d.length cs g7 jj ee x y pg cg pq cq) V:=λV Lq hV=>by
   refine⟨⟨(hV.c 5 0 rfl rfl).1,(hV.c 0 4 rfl rfl).1⟩,?_⟩;have hB:=(HB.o V (PP fb iv (qX T M U) lc ad (qX ps d cs) ac d G Z (qL aa k0 ab) aj B (B+1) (B+1+1) (qX N m.dx O) (sF pl Y cl ib) (Yq++J)++Lq) (hV.perm (by
    have e1:(PP fb iv (qX T M U) lc ad (qX ps d cs) ac d G Z (qL aa k0 ab) aj B (B+1) (B+1+1) (qX N m.dx O) (sF pl Y cl ib) (Yq++J++Zq))++Lq=(PP fb iv (qX T M U) lc ad (qX ps d cs) ac d G Z (qL aa k0 ab) aj B (B+1) (B+1+1) (qX N m.dx O) (sF pl Y cl ib) (Yq++J)++Zq)++Lq:=rfl;rw[e1,qaj,qaj];exact RX))).1
   exact Su
  have h9:=aK.o.drew;have am:=ag _ [] (by rw[qbt];exact h9);refine ML (S2 B fb ps d.length cs g7 jj ee x y pg cg pq cq) 12 ?_ (hQ:=by rintro⟨_,_,h⟩;exact h);iterate 7 refine nE am ?_ (hy:=by(refine Or.inl ⟨by rfl,?_⟩;intro _ d;obtain⟨⟨_,_⟩,_,_,_,_,_,_,_,_,_,_⟩:=d;go_simp;try with_reducible rfl))
  have aH:=be.o.row h9 (λp hp=>by simp[PP,PL,hp]);refine jO (λK L=>?_);refine dP (f:=136) (args:= #[.agg (yC jj ee x y (qX pg y.dL cg) (qX pq y.dA cq)).toArray,qJ ((o0:Nat):Int)]) (by rfl) (by go_simp) (sN (b:=o0) aH (by have:=aD.2.1;omega) aD.1.1 (λz hz=>(aD.2.2.1 z hz).1)) ?_;rintro e V1⟨lv,rfl,ax⟩;have an:=h9.join ax;have aA:=ag _ _ an;refine⟨_,rfl,L _ _ (.inr aA) ?_⟩;clear L K am;simp only[Act.put,qy,qz,qw];obtain⟨pv,cv,aO⟩:=Row.shape (ax.isRow 0 rfl);subst aO;obtain⟨nk,ay⟩:=qE y.num.1.toNat;simp only[Gv,stepOf];rw[<-ay];have aP:=qH ay;clear ay;have af:=(an.alloc (.cells #[qB x,qJ ((o0:Nat):Int),qI nk,qX pv y.dA cv,qJ y.val] 234));have aB:=ag _ _ af;refine jO (λK L=>?_);go_simp;refine L _ _ (.inr aB) ?_;clear L K;obtain⟨i0,aQ,aR,aS,aT⟩:=qap Tryz.zW;refine jO (λK L=>?_);refine step_append_lies _ (by rfl) (.tmp 95) (.tmp 99) 102 (by rfl) w0.heap.size 234 i0 (.agg #[qB 0,qJ 0,qI 0,qN,qJ 0]) 5 56 qk aQ aR aS aT rfl qx (qX ps d cs) d.length (tK d G) (by rfl) (af.row 2 rfl) ⟨V1.heap.size,0,none⟩ 1 1 [qB x,qJ ((o0:Nat):Int),qI nk,qX pv y.dA cv,qJ y.val] (by rfl) rfl (λj u hu=>?c1) ?c2 qo ?c3 ?c4 ?c5 (V1.heap.size+1) qs ?_
  case c1=>exact cells_at (w:=V1) (c:= #[qB x,qJ ((o0:Nat):Int),qI nk,qX pv y.dA cv,qJ y.val]) (t:=234) rfl rfl j u hu
  case c2=>intro u hu;simp at hu;obtain rfl | rfl | rfl | rfl | rfl:=hu<;>rfl
  case c3=>unfold maxLen;omega
  case c4=>omega
  case c5=>exact af.kept.size
  intro gg cp V2 aC ak ar bk;have ae:=af.app 2 aC ak (by obtain c | c:=ar;exact .inl c;exact .inr qt) rfl;have ao:(S2 B fb ps d.length cs g7 jj ee x y pg cg pq cq) V2:=by
   have hg:Kept (λk=>(Value.slice ps d.length cs).ownBlock=some k) _ V2:=Kept.gH ak;refine⟨⟨(ae.c 5 0 rfl rfl).1,(ae.c 0 4 rfl rfl).1⟩,?_⟩;have hB:=(HB.o V2 ((.b fb [iv,qX T M U,lc,ad,qX ps d cs]::.r 230 5 ad (ac).length ((ac).flatMap uu)::.r 234 5 (qL gg (d.length+1) cp) (d.length+1) (tK d G++[qB x,qJ ((o0:Nat):Int),qI nk,qX pv y.dA cv,qJ y.val])::.b Z [(qL aa k0 ab)]::.r 3 1 (qL aa k0 ab) (aj).length (opC (aj))::B3 B fb N m.dx.length O pl Y cl ib (Yq++J))++[.r 85 1 (qX pv y.dA cv) y.dA.length (jC (lC y.dA))]) (ae.perm (by
    show(((.b fb [iv,qX T M U,lc,ad,qX ps d cs]::.r 230 5 ad (ac).length ((ac).flatMap uu)::.r 234 5 (qL gg (d.length+1) cp) (d.length+1) (tK d G++[qB x,qJ ((o0:Nat):Int),qI nk,qX pv y.dA cv,qJ y.val])::.b Z [(qL aa k0 ab)]::.r 3 1 (qL aa k0 ab) (aj).length (opC (aj))::B3 B fb N m.dx.length O pl Y cl ib (Yq++J))++Zq)++[It.r 85 1 (qX pv y.dA cv) y.dA.length (jC (lC y.dA))]).Perm _;exact FO))).1
   exact Su
  refine L _ _ (.inr ao) ?_;clear L K aA aB;simp only[Act.put,qy,qz,qw];iterate 2 refine nE ao ?_ (hy:=by(refine Or.inl ⟨by rfl,?_⟩;intro _ d;obtain⟨⟨_,_⟩,-⟩:=d;go_simp;try with_reducible rfl))
  obtain⟨x3,y3⟩:=ae.c 0 4 rfl rfl;have mm:=ae.lt 0 rfl;have aw:=ae.set 0 4 (qL gg (d.length+1) cp) rfl;have aU:=qH aw;clear h9 an af ae aw aC ak ar ag ax aH;refine iU (λK L=>?_);go_simp;refine L _ _ ?_;clear L K ao x3 y3 mm;have hA:Sx w0 (V2.setCell (qA fb 4) (qL gg (d.length+1) cp)) ((PP fb iv (qX T M U) lc ad (qL gg (d.length+1) cp) ac (d++[(stepOf (jj,x,y) o0)]) (λq=>if q=d.length then Value.slice pv y.dA.length cv else G q) Z (qL aa k0 ab) aj B (B+1) (B+1+1) (qX N m.dx O) (sF pl Y cl ib) (Yq++(J++[It.r 85 1 (qX pv y.dA cv) y.dA.length (jC (lC y.dA))])))++Zq):=by
   have e1:tK (d++[(stepOf (jj,x,y) o0)]) (λq=>if q=d.length then Value.slice pv y.dA.length cv else G q)=tK d G++[qB x,qJ ((o0:Nat):Int),qI nk,qX pv y.dA cv,qJ y.val]:=by
    rw[zT];unfold Gv stepOf;rw[aP.o]
   have Vn:=aU.o.perm (l':=((.b fb [iv,qX T M U,lc,ad,qL gg (d.length+1) cp]::.r 230 5 ad (ac).length ((ac).flatMap uu)::.r 234 5 (qL gg (d.length+1) cp) (d.length+1) (tK d G++[qB x,qJ ((o0:Nat):Int),qI nk,qX pv y.dA cv,qJ y.val])::.b Z [(qL aa k0 ab)]::.r 3 1 (qL aa k0 ab) (aj).length (opC (aj))::B3 B fb N m.dx.length O pl Y cl ib (Yq++J))++[It.r 85 1 (qX pv y.dA cv) y.dA.length (jC (lC y.dA))])++Zq) (by
    show(((.b fb [iv,qX T M U,lc,ad,qL gg (d.length+1) cp]::.r 230 5 ad (ac).length ((ac).flatMap uu)::.r 234 5 (qL gg (d.length+1) cp) (d.length+1) (tK d G++[qB x,qJ ((o0:Nat):Int),qI nk,qX pv y.dA cv,qJ y.val])::.b Z [(qL aa k0 ab)]::.r 3 1 (qL aa k0 ab) (aj).length (opC (aj))::B3 B fb N m.dx.length O pl Y cl ib (Yq++J))++Zq)++[It.r 85 1 (qX pv y.dA cv) y.dA.length (jC (lC y.dA))]).Perm _;exact FO)
   exact Ue
  have aV:It.r 85 1 (qX pv y.dA cv) (stepOf (jj,x,y) o0).zz.length (jC (stepOf (jj,x,y) o0).zz)∈Yq++(J++[It.r 85 1 (qX pv y.dA cv) y.dA.length (jC (lC y.dA))]):=by
   exact VB
  exact⟨_,⟨_,_,_,_,_,_,_,_,hA.sub (qbj _ _),aZ.o.app (λq hq=>by rw[<-qaj];exact qar.2 (.inl hq)) (.inr (.inl aV)),a6,λp hp=>by
   rw[qar,qak]at hp;obtain hp | rfl:=hp
   .exact a0.o p hp
   exact⟨_,_,_,rfl⟩,bo.o,rfl⟩,(aG.o _ _ hA).1,λk X=>((aG.o _ _ hA).2 k X).imp id (λc=>c.imp id (λc=>by rw[a2.o];exact c))⟩
 have t2:((x:Int)==2)=false:=by unfold dS at au;simp at au ⊢;omega
 have t3:((x:Int)==3)=false:=by unfold dS at au;simp at au ⊢;omega
 have t4:((x:Int)==4)=false:=by unfold dS at au;simp at au ⊢;omega
 have t5:((x:Int)==5)=false:=by simp;omega
 have cZ:((x:Int)==11)=false:=by simp;omega
 have bS:=qH (aY.o.2.2.2.2 (by simpa using au) a8 aW);rw[aI.o,qds]at bS;rw[<-aI.o]at bS;clear au a8 aW;gi_wp2_with fail
 have aK:=qH ah.o;obtain⟨ps,cs,bR⟩:=Row.shape (aK.o.isRow 2 rfl);subst bR;have ag:∀V Lq,Sx w0 V ((PP fb iv (qX T M U) lc ad (qX ps d cs) C d G Z (qL aa E.length ab) E B (B+1) (B+1+1) (qX N m.dx O) (sF pl Y cl ib) (Yq++J++Zq))++Lq)->(S2 B fb ps d.length cs g7 jj ee x y pg cg pq cq) V:=λV Lq hV=>by
  refine⟨⟨(hV.c 5 0 rfl rfl).1,(hV.c 0 4 rfl rfl).1⟩,?_⟩;have hB:=(HB.o V (PP fb iv (qX T M U) lc ad (qX ps d cs) C d G Z (qL aa E.length ab) E B (B+1) (B+1+1) (qX N m.dx O) (sF pl Y cl ib) (Yq++J)++Lq) (hV.perm (by
   have e1:(PP fb iv (qX T M U) lc ad (qX ps d cs) C d G Z (qL aa E.length ab) E B (B+1) (B+1+1) (qX N m.dx O) (sF pl Y cl ib) (Yq++J++Zq))++Lq=(PP fb iv (qX T M U) lc ad (qX ps d cs) C d G Z (qL aa E.length ab) E B (B+1) (B+1+1) (qX N m.dx O) (sF pl Y cl ib) (Yq++J)++Zq)++Lq:=rfl;rw[e1,qaj,qaj];exact RX))).1
  exact Su
 have h9:=aK.o.drew;have am:=ag _ [] (by rw[qbt];exact h9);refine ML (S2 B fb ps d.length cs g7 jj ee x y pg cg pq cq) 12 ?_ (hQ:=by rintro⟨_,_,h⟩;exact h);iterate 7 refine nE am ?_ (hy:=by(refine Or.inl ⟨by rfl,?_⟩;intro _ d;obtain⟨⟨_,_⟩,_,_,_,_,_,_,_,_,_,_⟩:=d;go_simp;try with_reducible rfl))
 have aH:=be.o.row h9 (λp hp=>by simp[PP,PL,hp]);refine jO (λK L=>?_);refine dP (f:=136) (args:= #[.agg (yC jj ee x y (qX pg y.dL cg) (qX pq y.dA cq)).toArray,qJ ((o0:Nat):Int)]) (by rfl) (by go_simp) (sN (b:=o0) aH (by have:=aD.2.1;omega) aD.1.1 (λz hz=>(aD.2.2.1 z hz).1)) ?_;rintro e V1⟨lv,rfl,ax⟩;have an:=h9.join ax;have aA:=ag _ _ an;refine⟨_,rfl,L _ _ (.inr aA) ?_⟩;clear L K am;simp only[Act.put,qy,qz,qw];obtain⟨pv,cv,aO⟩:=Row.shape (ax.isRow 0 rfl);subst aO;obtain⟨nk,ay⟩:=qE y.num.1.toNat;simp only[Gv,stepOf];rw[<-ay];have aP:=qH ay;clear ay;have af:=(an.alloc (.cells #[qB x,qJ ((o0:Nat):Int),qI nk,qX pv y.dA cv,qJ y.val] 234));have aB:=ag _ _ af;refine jO (λK L=>?_);go_simp;refine L _ _ (.inr aB) ?_;clear L K;obtain⟨i0,aQ,aR,aS,aT⟩:=qap Tryz.zW;refine jO (λK L=>?_);refine step_append_lies _ (by rfl) (.tmp 95) (.tmp 99) 102 (by rfl) w0.heap.size 234 i0 (.agg #[qB 0,qJ 0,qI 0,qN,qJ 0]) 5 56 qk aQ aR aS aT rfl qx (qX ps d cs) d.length (tK d G) (by rfl) (af.row 2 rfl) ⟨V1.heap.size,0,none⟩ 1 1 [qB x,qJ ((o0:Nat):Int),qI nk,qX pv y.dA cv,qJ y.val] (by rfl) rfl (λj u hu=>?c1) ?c2 qo ?c3 ?c4 ?c5 (V1.heap.size+1) qs ?_
 case c1=>exact cells_at (w:=V1) (c:= #[qB x,qJ ((o0:Nat):Int),qI nk,qX pv y.dA cv,qJ y.val]) (t:=234) rfl rfl j u hu
 case c2=>intro u hu;simp at hu;obtain rfl | rfl | rfl | rfl | rfl:=hu<;>rfl
 case c3=>unfold maxLen;omega
 case c4=>omega
 case c5=>exact af.kept.size
 intro gg cp V2 aC ak ar bk;have ae:=af.app 2 aC ak (by obtain c | c:=ar;exact .inl c;exact .inr qt) rfl;have ao:(S2 B fb ps d.length cs g7 jj ee x y pg cg pq cq) V2:=by
  have hg:Kept (λk=>(Value.slice ps d.length cs).ownBlock=some k) _ V2:=Kept.gH ak;refine⟨⟨(ae.c 5 0 rfl rfl).1,(ae.c 0 4 rfl rfl).1⟩,?_⟩;have hB:=(HB.o V2 ((.b fb [iv,qX T M U,lc,ad,qX ps d cs]::.r 230 5 ad (C).length ((C).flatMap uu)::.r 234 5 (qL gg (d.length+1) cp) (d.length+1) (tK d G++[qB x,qJ ((o0:Nat):Int),qI nk,qX pv y.dA cv,qJ y.val])::.b Z [(qL aa E.length ab)]::.r 3 1 (qL aa E.length ab) E.length (opC E)::B3 B fb N m.dx.length O pl Y cl ib (Yq++J))++[.r 85 1 (qX pv y.dA cv) y.dA.length (jC (lC y.dA))]) (ae.perm (by
   show(((.b fb [iv,qX T M U,lc,ad,qX ps d cs]::.r 230 5 ad (C).length ((C).flatMap uu)::.r 234 5 (qL gg (d.length+1) cp) (d.length+1) (tK d G++[qB x,qJ ((o0:Nat):Int),qI nk,qX pv y.dA cv,qJ y.val])::.b Z [(qL aa E.length ab)]::.r 3 1 (qL aa E.length ab) E.length (opC E)::B3 B fb N m.dx.length O pl Y cl ib (Yq++J))++Zq)++[It.r 85 1 (qX pv y.dA cv) y.dA.length (jC (lC y.dA))]).Perm _;exact FO))).1
  exact Su
 refine L _ _ (.inr ao) ?_;clear L K aA aB;simp only[Act.put,qy,qz,qw];iterate 2 refine nE ao ?_ (hy:=by(refine Or.inl ⟨by rfl,?_⟩;intro _ d;obtain⟨⟨_,_⟩,-⟩:=d;go_simp;try with_reducible rfl))
 obtain⟨x3,y3⟩:=ae.c 0 4 rfl rfl;have mm:=ae.lt 0 rfl;have aw:=ae.set 0 4 (qL gg (d.length+1) cp) rfl;have aU:=qH aw;clear h9 an af ae aw aC ak ar ag ax aH;refine iU (λK L=>?_);go_simp;refine L _ _ ?_;clear L K ao x3 y3 mm;have hA:Sx w0 (V2.setCell (qA fb 4) (qL gg (d.length+1) cp)) ((PP fb iv (qX T M U) lc ad (qL gg (d.length+1) cp) C (d++[(stepOf (jj,x,y) o0)]) (λq=>if q=d.length then Value.slice pv y.dA.length cv else G q) Z (qL aa E.length ab) E B (B+1) (B+1+1) (qX N m.dx O) (sF pl Y cl ib) (Yq++(J++[It.r 85 1 (qX pv y.dA cv) y.dA.length (jC (lC y.dA))])))++Zq):=by
  have e1:tK (d++[(stepOf (jj,x,y) o0)]) (λq=>if q=d.length then Value.slice pv y.dA.length cv else G q)=tK d G++[qB x,qJ ((o0:Nat):Int),qI nk,qX pv y.dA cv,qJ y.val]:=by
   rw[zT];unfold Gv stepOf;rw[aP.o]
  have Vn:=aU.o.perm (l':=((.b fb [iv,qX T M U,lc,ad,qL gg (d.length+1) cp]::.r 230 5 ad (C).length ((C).flatMap uu)::.r 234 5 (qL gg (d.length+1) cp) (d.length+1) (tK d G++[qB x,qJ ((o0:Nat):Int),qI nk,qX pv y.dA cv,qJ y.val])::.b Z [(qL aa E.length ab)]::.r 3 1 (qL aa E.length ab) E.length (opC E)::B3 B fb N m.dx.length O pl Y cl ib (Yq++J))++[It.r 85 1 (qX pv y.dA cv) y.dA.length (jC (lC y.dA))])++Zq) (by
   show(((.b fb [iv,qX T M U,lc,ad,qL gg (d.length+1) cp]::.r 230 5 ad (C).length ((C).flatMap uu)::.r 234 5 (qL gg (d.length+1) cp) (d.length+1) (tK d G++[qB x,qJ ((o0:Nat):Int),qI nk,qX pv y.dA cv,qJ y.val])::.b Z [(qL aa E.length ab)]::.r 3 1 (qL aa E.length ab) E.length (opC E)::B3 B fb N m.dx.length O pl Y cl ib (Yq++J))++Zq)++[It.r 85 1 (qX pv y.dA cv) y.dA.length (jC (lC y.dA))]).Perm _;exact FO)
  exact Ue
 have aV:It.r 85 1 (qX pv y.dA cv) (stepOf (jj,x,y) o0).zz.length (jC (stepOf (jj,x,y) o0).zz)∈Yq++(J++[It.r 85 1 (qX pv y.dA cv) y.dA.length (jC (lC y.dA))]):=by
  exact VB
 exact⟨_,⟨_,_,_,_,_,_,_,_,hA.sub (qbj _ _),aZ.o.app (λq hq=>by rw[<-qaj];exact qar.2 (.inl hq)) (.inr (.inl aV)),aF,λp hp=>by
  rw[qar,qak]at hp;obtain hp | rfl:=hp
  .exact a0.o p hp
  exact⟨_,_,_,rfl⟩,bS.o,rfl⟩,(aG.o _ _ hA).1,λk X=>((aG.o _ _ hA).2 k X).imp id (λc=>c.imp id (λc=>by rw[a2.o];exact c))⟩
end
end
theorem uw{w:qW}{B g n A:Nat}{E:TypeId}{xs:qV}(h:w.ownsRow B E 1 (qL g n A) n xs):∃a:Array qv,w.heap[g]?=some (.cells a E (0,0))/\n<=a.size/\xs=a.toList.take n/\∀(o:Nat)(cs:qV),o+cs.length<=n->(w.setRow g (a.toList.take o++cs++a.toList.drop (o+cs.length)).toArray).ownsRow B E 1 (qL g n A) n (kW xs o cs):=by
 obtain⟨U,e⟩:=h;obtain⟨b,_⟩ | ⟨k,l,a,b,f,d,m,i,j,c⟩:=e
 .cases b
 cases b;simp only[qck]at j c U;refine⟨a,d,qo,c.symm,λo cs ho=>⟨?_,.inr ⟨g,A,_,rfl,f,setRow_heap w g a _ E (0,0) d,qo,i,?_,?_⟩⟩⟩
 .rw[rR qo];simpa using U
 .simp;omega
 simp only[qck];unfold kW;subst c;rw[qcg,qcj qo,List.drop_take];have hl:(a.toList.take o++cs).length=o+cs.length:=by simp;omega
 rw[List.take_append,qbo (by rw[hl];omega),hl]
theorem NM(n:Nat)(a:n<=20)(w:qW):qC 139 #[.int .u64 1,.int .u64 n] w λe w'=>e=.returned (.tuple #[.int .u64 0,.int .u64 n])/\w'=w:=by
 have h:n=0\/n=1\/n=2\/n=3\/n=4\/n=5\/n=6\/n=7\/n=8\/n=9\/n=10\/n=11\/n=12\/n=13\/n=14\/n=15\/n=16\/n=17\/n=18\/n=19\/n=20:=qo;obtain rfl | rfl | rfl | rfl | rfl | rfl | rfl | rfl | rfl | rfl | rfl | rfl | rfl | rfl | rfl | rfl | rfl | rfl | rfl | rfl | rfl:=h;all_goals
  go_enter func139,ntmps139;go_wp2;go_ret2
  exact⟨rfl,rfl⟩
theorem mul_any(n:Nat)(a:n<=20)(w:qW):qC 77 #[.int .u64 1,.int .u64 n] w λe w'=>e=.returned (.tuple #[.int .u64 0,.int .u64 n])/\w'=w:=by
 have H:=qH (NM n a w);go_enter func77,ntmps77;go_wp2_with fail
 refine H.o.mono ?_;rintro e b⟨rfl,rfl⟩;go_wp2;go_ret2
 exact⟨rfl,rfl⟩
section
variable {w:qW}{g n:Nat}
def vG(Lq n:Nat):List Value:=List.replicate n (qJ (-1))++List.replicate (Lq - n) (qJ 0)
theorem VR{Lq n:Nat}(h:n<=Lq):(vG Lq n).length=Lq:=by unfold vG;simp;omega
theorem Gp{Lq n k:Nat}(h:n+k<=Lq):kW (vG Lq n) n (List.replicate k (qJ (-1)))=vG Lq (n+k):=by
 unfold kW vG;rw[List.take_left' qs,List.drop_append,List.drop_of_length_le qs,qba,qba,qay,List.drop_replicate,List.replicate_append_replicate];congr 2
 omega
theorem Jt(Z:g<w.heap.size)(hc:w.cell? (qA g 0)=some (qJ (-1)))(hn:n<=20):qC 27 #[qL g 1 1,qJ n] w λe w'=>∃v,e=.returned v/\Sx w w' [.r 3 1 v n (nY (List.replicate n (-1)))]:=by
 obtain⟨J,aa,ab,ac,ad⟩:=qap Tryz.info3;obtain⟨f,B⟩:=qE (madeCells (Value.int .i64 0).cells (((n:Nat):Int).toNat*J.size));have C:f.toList=List.replicate n (qJ 0):=by
  rw[B,ac];simp only[Int.toNat_natCast,qck];exact toList_madeCells_one _ _
 have ae:f.size=n:=by rw[<-qcw,C];simp
 have ah:∀W:qW,(Instr.makeSlice 49 (qJ (n:Int)) (qJ (n:Int))).run prog W=.ok (qL W.heap.size n n) (W.alloc (.cells f 3)):=λW=>by
  have h:=run_make (P:=prog) W 49 3 J (qJ 0) qk aa ab .i64 .i64 (n:Int) (n:Int) qo qo (by rw[ad];omega) qo;rw[<-B]at h;simpa using h
 clear B;have U:=(Sx.start w).newRow f 3 1 n (by rw[ae];omega) qo;rw[qay,C]at U;have L:=qH (mul_any n hn w);have tn:¬(n:Int)<0:=qo;have tw:IntKind.u64.wrap (n:Int)=(n:Int):=by rw[qcy];omega
 have ai:IntKind.i64.wrap (n:Int)=(n:Int):=qaf _ ⟨qo,qo⟩;have tg:¬(9223372036854775807<(n:Int)):=qo;have D:∃(i:qW)(k:Nat),(Builtin.copy_ #[49,49] 3 #[qL w.heap.size n n,qL g 1 1]).run prog (w.alloc (.cells f 3))=.ok (goInt (k:Nat)) i/\Sx w i [.r 3 1 (qL w.heap.size n n) n (vG n k)]/\k<=n/\(0<n->0<k):=by
  by_cases h0:n=0
  .subst h0;exact⟨_,0,run_copy_none _ 49 49 3 3 _ _ _ _ _ _ qk qk (by rfl),by simpa [vG] using U,qR,λh=>qo⟩
  obtain⟨E,t,e2,M,F⟩:=uw (U.row 0 rfl);refine⟨_,1,run_copy_row (P:=prog) (w.alloc (.cells f 3)) 49 49 3 3 w.heap.size 0 n n ⟨g,0,none⟩ 1 1 E 3 [qJ (-1)] qk qk t (by show 1=min 1 n;omega) (λj u b=>?_) qt (λu b=>by simp at b;subst b;rfl),?_,qo,λ_=>qo⟩
  .cases j with
   | zero=>simp at b;subst b;rw[qdm];exact(((Kept.refl (λ_=>False) w).alloc (.cells f 3)).cell (p:=(qA g 0)) Z (λc=>c)).trans hc
   | succ j=>simp at b
  have m:=F 0 [qJ (-1)] qt;have y:kW (List.replicate n (qJ 0)) 0 [qJ (-1)]=vG n 1:=by
   have:=Gp (Lq:=n) (n:=0) (k:=1) qo;simpa [vG] using this
  rw[y]at m;have z:=U.upd (k:=0) (S:=λk=>k=w.heap.size) rfl (Kept.setRow _ _ _) (λk X=>by rw[X];rfl) (p2:=.r 3 1 (qL w.heap.size n n) n (vG n 1)) m (λk X=>.inl X);exact z
 obtain⟨i,k,c1,c2,c3,c4⟩:=D;have N:=qH c2;have G:=qH (And.intro c3 c4);clear c2 c3 c4 U C;go_enter func27,ntmps27;go_wp2_with fail
 refine L.o.mono ?_;rintro e d⟨rfl,rfl⟩;clear L;go_wp2_with fail
 go_loopg [8] (n - k) (λgk u8 wr=>∃(j:Nat),gk=n - j/\j<=n/\(0<n->0<j)/\u8=qJ j/\Sx d wr [.r 3 1 (qL d.heap.size n n) n (vG n j)])
 case atStart=>exact⟨k,rfl,G.o.1,G.o.2,rfl,N.o⟩
 clear N G c1;obtain⟨j,aj,hj,af,rfl,A⟩:=hrel;by_cases ag:j<n
 .have t1:(j:Int)<(n:Int):=qo;have t2:(j:Int)<=(n:Int):=qo;go_wp2_with fail
  refine jU (λ_=>True) 9 ?_;iterate 7 refine nE trivial ?_
  have D:∃(i:qW),(Builtin.copy_ #[49,49] 3 #[.slice (if n=j then some (qA d.heap.size 0) else some (qA d.heap.size j)) (n - j) (n - j),qL d.heap.size j n]).run prog wr.drew=.ok (goInt (min j (n - j):Nat)) i/\Sx d i [.r 3 1 (qL d.heap.size n n) n (vG n (j+min j (n - j)))]:=by
   have O:=A.drew;obtain⟨E,t,e2,M,F⟩:=uw (O.row 0 rfl);rw[qaa qo];refine⟨_,(run_copy_row (P:=prog) wr.drew 49 49 3 3 d.heap.size j (n - j) (n - j) ⟨d.heap.size,0,none⟩ j n E 3 (List.replicate (min j (n - j)) (qJ (-1))) qk qk t (by rw[qba]) (λq u b=>?_) qt (λu b=>by rw[List.eq_of_mem_replicate b];rfl)).trans (by rw[qba]),?_⟩
   .have hq:=(qae.1 b).1;rw[qba]at hq;rw[List.getElem?_replicate,qac hq]at b;cases b;rw[qdm];unfold World.cell?;simp only[t,qcf];have y:(vG n j)[q]?=some (qJ (-1)):=by
     unfold vG;rw[qbe qt,List.getElem?_replicate,qac qo]
    rw[M,qcs qo]at y;simpa using y
   have m:=F j (List.replicate (min j (n - j)) (qJ (-1))) (by rw[qba];omega);rw[Gp qo]at m;have z:=O.upd (k:=0) (S:=λk=>k=d.heap.size) rfl (Kept.setRow _ _ _) (λk X=>by rw[X];rfl) (p2:=.r 3 1 (qL d.heap.size n n) n (vG n (j+min j (n - j)))) m (λk X=>.inl X);rw[qba]at z;exact z
  obtain⟨i,R,T⟩:=D;have H:=qH R;have V:=qH T;obtain⟨c,hc⟩:=qE (min j (n - j));rw[<-hc]at H V;have Y:0<c/\j+c<=n:=by have:=af qo;omega
  have I:=qH Y;have wq:IntKind.i64.wrap ((j:Int)+(c:Int))=(j:Int)+(c:Int):=qaf _ ⟨qo,qo⟩;clear R T A hc Y;refine jO (λK s=>?_);go_simp;rw[H.o];simp only[Result.andThen];rw[Oper.upon_value];refine s _ _ (.inr trivial) ?_;clear s K H;simp only[Act.put,qy,qz,qw];refine nE trivial ?_;refine iU (λK s=>?_);go_simp;refine s _ _ ?_;clear s K;go_wp2;go_roundg (n - (j+c))
  case measure=>have:=I.o;omega
  exact⟨j+c,rfl,I.o.2,λ_=>by have:=I.o;omega,by push_cast;rfl,V.o⟩
 have t1:¬(j:Int)<(n:Int):=qo;obtain rfl:j=n:=qo;have HS:=qH A;clear A ag;go_wp2;go_ret;refine⟨_,rfl,?_⟩;have:=HS.o;simpa [vG,nY] using this
end
end Go.Proofs.YtfkcodlceoghpaaGreatDoor
