import Derived.BigRegion
import Derived.Defers
import Derived.Laws.Pointers
import Derived.OrdersIn
import Derived.RangeFuncCalls
import Derived.Recover
import Derived.Test.YtfkcodlceoghpaaGreatDoorX4
import Derived.Test.YtfkcodlceoghpaaGreatDoorX7
namespace Go.Proofs.YtfkcodlceoghpaaGreatDoor
set_option maxHeartbeats 1600000
set_option maxRecDepth 100000
set_option linter.unusedSimpArgs false
set_option linter.unusedVariables false
open Go.RowKit Go.Proofs.Tryz
theorem MF{K c:Nat}{s:qS}{n:Nat}:∀(m k:Nat)(z:Int)(j:Nat){v:Int}{a:Nat},wZ K c s n m k z j=.ok (v,a)->j<a/\a<=n:=by
 intro m;induction m with
 | zero=>intro k z j v a h;simp[wZ]at h
 | succ m d=>
  intro k z j v a h;unfold wZ at h;by_cases b:j<n
  .rw[dY b]at h;simp only at h;split at h
   .cases h
   split at h
   .cases h;omega
   have:=d _ _ _ h;omega
  rw[gQ b]at h;simp at h
theorem uk{K a:Nat}{s:qS}{n i:Nat}{v:Int}{j:Nat}(h:sM K a s n i=.ok (v,j)):i<j/\j<=n:=MF _ _ _ _ h
theorem EO{b:Type}{tM:qS->Nat->Nat->Except Err (b×Nat)}{s:qS}{n:Nat}(c:∀i x j,tM s n i=.ok (x,j)->i<=j):
  ∀(k:Nat)(M:List b)(j:Nat){xs:List b}{a:Nat},eT tM s n k M j=.ok (xs,a)->j<=a:=by
 intro k;induction k with
 | zero=>intro M j xs a h;simp[eT]at h;omega
 | succ k d=>
  intro M j xs a h;unfold eT at h;rcases ho:tM s n j with e|⟨x,f⟩
  .rw[ho]at h;cases h
  rw[ho]at h;have U:=c _ _ _ ho;have g:=d _ _ h;omega
theorem GV{a:Type}{most:Nat}{tM:qS->Nat->Nat->Except Err (a×Nat)}{s:qS}{n i:Nat}{xs:List a}{j:Nat}(b:∀i x j,tM s n i=.ok (x,j)->i<=j)(h:eB most tM s n i=.ok (xs,j)):i<j:=by
 unfold eB at h;rcases ho:fD most s n i with e|⟨k,c⟩
 .rw[ho]at h;cases h
 rw[ho]at h;have U:=fA ho;have d:=EO b _ _ _ h;omega
theorem Dt{s:qS}{n:Nat}:∀i x j,uM s n i=.ok (x,j)->i<=j:=λi x j h=>by
 obtain⟨v,a⟩:=x;have:=iY h;omega
theorem Eg{s:qS}{n i:Nat}{y:fO}{e:Nat}(h:jS s n i=.ok (y,e)):i<=e:=by
 unfold jS at h;rcases hp:lJ s n i with q|⟨x,j⟩
 .rw[hp]at h;cases h
 rw[hp]at h;simp only at h;split at h
 .cases h;omega
 split at h
 .cases h;omega
 rcases a:sM 4 5 s n i with q|⟨v,b⟩
 .rw[a]at h;cases h
 rw[a]at h;simp only at h;have:=uk a;split at h
 .cases h
 cases h;omega
theorem LQ{a x:Nat}{s:qS}{n i:Nat}{y:fO}{e:Nat}(h:iE a x s n i=.ok (y,e)):i<=e:=by
 unfold iE at h;split at h
 .exact Eg h
 split at h
 .rcases ho:eB 20 uM s n i with q|⟨v,j⟩
  .rw[ho]at h;cases h
  rw[ho]at h;simp only at h;rcases b:uM s n j with q|⟨u,c⟩
  .rw[b]at h;cases h
  rw[b]at h;cases h;have:=GV Dt ho;have:=Dt _ _ _ b;omega
 split at h
 .rcases ho:uM s n i with q|⟨v,j⟩
  .rw[ho]at h;cases h
  rw[ho]at h;simp only at h;rcases b:uM s n j with q|⟨u,c⟩
  .rw[b]at h;cases h
  rw[b]at h;cases h;have:=Dt _ _ _ ho;have:=Dt _ _ _ b;omega
 split at h
 .rcases ho:uM s n i with q|⟨v,j⟩
  .rw[ho]at h;cases h
  rw[ho]at h;cases h;exact Dt _ _ _ ho
 split at h
 .rcases ho:uM s n i with q|⟨v,j⟩
  .rw[ho]at h;cases h
  rw[ho]at h;simp only at h;rcases b:iO [0] s n j with q|⟨u,c⟩
  .rw[b]at h;cases h
  rw[b]at h;cases h;have:=Dt _ _ _ ho;have:=nO b;omega
 split at h
 .rcases ho:iO [0] s n i with q|⟨v,j⟩
  .rw[ho]at h;cases h
  rw[ho]at h;cases h;have:=nO ho;omega
 split at h
 .rcases ho:sM 4 4 s n i with q|⟨v,j⟩
  .rw[ho]at h;cases h
  rw[ho]at h;cases h;have:=uk ho;omega
 split at h
 .rcases ho:sM 9 1 s n i with q|⟨v,j⟩
  .rw[ho]at h;cases h
  rw[ho]at h;cases h;have:=uk ho;omega
 split at h
 .cases h;omega
 cases h
section
variable {P:Program}{Q:Exit->Act->qW->Prop}{l n:Nat}{md:Region.Mode}{ops:Array Oper}
def sS(o:Oper):Bool:=match o.op with
 | .defer _=>false
 | _=>true
theorem Ur{o:Oper}{a:Act}{w:qW}{K:Act->qW->Prop}(hp:sS o=true)(h:Oper.wp P o a w K Q):Oper.wpIn (Fence.wide.inRound l) n P o a w K Q:=by
 refine⟨λ_ _=>trivial,?_⟩;rw[show(Fence.wide.inRound l).round=some l from rfl,Oper.semAt_some l _ _ (λc e=>by simp[sS,e]at hp)];unfold Oper.wp at h;generalize hx:(execOp a.eval o).run P w=r at*;cases r with
 | ok x w'=>
  cases x with
  | value v=>exact h
  | skip=>exact h
  | defer d=>exact h
  | enter f args=>exact⟨(λc=>by cases c),CallsIn.inRound l (callsIn_wide.2 h)⟩
  | row r args=>exact⟨(λc=>by cases c),λc cs _=>let⟨v,w',r,s⟩:=h c cs;⟨v,w',r,stepsIn_wide.2 s⟩⟩
  | _=>exact h.elim
 | halt x w'=>cases x<;>first | exact h | exact h.elim
theorem SV{i:Nat}{a:Act}{w:qW}{K:Act->qW->Prop}(hQ:LetsOut Q->False)(hp:ops.all sS=true)(h:wpOp P ops Q i K a w):wpOpIn (Fence.wide.inRound l) n P ops Q i K a w:=by
 unfold wpOp at h;unfold wpOpIn;split
 .rename_i ho;rw[ho]at h;exact h
 rename_i o ho;rw[ho]at h;simp only at h;split
 .rename_i hw;rw[qac hw]at h;exact Ur (Array.all_eq_true'.1 hp o (Array.mem_of_getElem? ho)) (h.resolve_right (λc=>hQ c.2))
 rename_i hw;rw[qaa hw]at h;exact⟨λ_ _=>trivial,h⟩
theorem RU(hQ:LetsOut Q->False)(hp:ops.all sS=true):∀(fuel:Nat)(b:Array Bool)(a:Act)(w:qW),wpAny P md ops Q fuel b a w->wpAnyIn (Fence.wide.inRound l) n P md ops Q fuel b a w
 | 0,_,_,_,h=>h
 | fuel+1,_,_,_,h=>⟨h.1,λi hi=>SV hQ hp (wpOp_mono (λa w h=>RU hQ hp fuel _ a w h) (h.2 i hi))⟩
theorem ML{Lq:List Oper}{id:Nat}{a:Act}{w:qW}(S:qW->Prop)(x:Nat)(h:jh P .any Lq Q S x Lq.length 0 a w.drew)(hm:P.follows .mixedOrders=true:=by kernel_rfl)(hp:Lq.toArray.all sS=true:=by kernel_rfl)(hQ:LetsOut Q->False:=by(rintro⟨_,_,h⟩;exact h)):(Code.region id Lq.toArray true).wpIn (Fence.wide.inRound l) n P Q a w:=by
 refine wpIn_region_any hm (RU hQ hp _ _ _ _ (vP (S:=S) (x:=x) _ _ _ _ ?_));unfold jh lst at h;simpa using h
theorem zV(hQ:LetsOut Q->False):∀{r:List Oper},r.all sS=true->∀(a:Act)(w:qW),wpList P ops Q r a w->wpListIn (Fence.wide.inRound l) n P ops Q r a w
 | [],_,a,w,h=>h
 | o::r,hp,a,w,h=>by
  simp only[List.all_cons,qaz]at hp;unfold wpList at h;unfold wpListIn;split
  .rename_i hw;rw[qac hw]at h;exact Oper.wpIn_mono (λa w h=>zV hQ hp.2 a w h) (Ur hp.1 (h.resolve_right (λc=>hQ c.2)))
  rename_i hw;rw[qaa hw]at h;exact⟨λ_ _=>trivial,zV hQ hp.2 _ _ h⟩
theorem Yp{Lq:List Oper}{id:Nat}{a:Act}{w:qW}(h:wpList P Lq.toArray Q Lq a w)(hp:Lq.all sS=true:=by kernel_rfl)(hQ:LetsOut Q->False:=by(rintro⟨_,_,h⟩;exact h)):(Code.region id Lq.toArray false).wpIn (Fence.wide.inRound l) n P Q a w:=
 wpIn_region_lit (zV hQ hp _ _ h)
end
def FL(w0:World)(Lq:List It)(k:Nat):Prop:=k<w0.heap.size\/∃p∈Lq,p.own=some k
theorem Sx.still{w0 W b:qW}{Lq:List It}{S:qD}(h:Sx w0 W Lq)(X:Kept S W b)(d:∀k,k<W.heap.size->S k->¬FL w0 Lq k):Sx w0 b Lq:=
 ⟨⟨X.os.trans h.kept.os,X.tape.trans h.kept.tape,X.output.trans h.kept.output,qam h.kept.size X.size,λk a _=>(X.block k (qad a h.kept.size) (λc=>d k (qad a h.kept.size) c (.inl a))).trans (h.kept.block k a (λc=>c))⟩,
  λp hp=>(h.it p hp).kept X (λg e c=>d g ((h.it p hp).lt e).2 c (.inr ⟨p,hp,e⟩)),h.nd⟩
theorem Sx.Yd{w0 W:qW}{Lq:List It}(h:Sx w0 W Lq){k:Nat}(X:FL w0 Lq k):k<W.heap.size:=by
 obtain c | ⟨p,hp,c⟩:=X
 .exact qad c h.kept.size
 exact((h.it p hp).lt c).2
theorem Sx.full{w0 W:qW}{Lq:List It}(h:Sx w0 W Lq):∃Zq,Sx w0 W (Lq++Zq)/\∀g o,¬FL w0 Lq g->W.heap[g]?=some o->It.o g o∈Zq:=by
 have f:∀g,Decidable (FL w0 Lq g):=λg=>Classical.propDecidable _;refine⟨(List.range W.heap.size).filterMap λg=> @ite _ (FL w0 Lq g) (f g) none (W.heap[g]?.map (It.o g)),⟨h.kept,λp hp=>?_,?_⟩,λg o d ho=>?_⟩
 .obtain c | c:=qar.1 hp
  .exact h.it p c
  obtain⟨g,-,d⟩:=qdc.1 c;split at d
  .cases d
  rename_i e;obtain⟨o,ho,rfl⟩:=qbd.1 d;exact⟨by obtain q | q:=Nat.lt_or_ge g w0.heap.size;exact absurd (.inl q) e;exact q,ho⟩
 .rw[qdj];refine⟨h.nd,?_,λp hp q hq g U L=>?_⟩
  .rw[List.pairwise_filterMap];refine List.Pairwise.imp ?_ List.pairwise_lt_range;intro a b i p hp q hq g U L;split at hp
   .cases hp
   obtain⟨o,ho,rfl⟩:=qbd.1 hp;split at hq
   .cases hq
   exact UI
  obtain⟨k,-,X⟩:=qdc.1 hq;split at X
  .cases X
  rename_i e;obtain⟨o,ho,rfl⟩:=qbd.1 X;simp only[It.own,Option.some.injEq]at L;subst L;exact e (.inr ⟨p,hp,U⟩)
 refine qdc.2 ⟨g,List.mem_range.2 (qah.1 ho).1,?_⟩;rw[qaa d,ho];rfl
theorem jl.beside{w0 W:qW}{Lq Zq:List It}{ok:qD}{E:TypeId}{sz n:Nat}{v:qv}{xs:qV}(h:Row ok W E sz v n xs)(a:∀g,ok g->¬FL w0 Lq g)(b:∀g o,¬FL w0 Lq g->W.heap[g]?=some o->It.o g o∈Zq):jl Zq E sz v n xs:=by
 obtain⟨⟨hl,U⟩,c⟩:=h;obtain⟨rfl,rfl⟩ | ⟨g,A,d,rfl,-,e,f⟩:=U
 .exact .inl ⟨rfl,rfl,qao (by simpa using hl)⟩
 exact .inr (.inr ⟨g,_,rfl,b g _ (a g (c g rfl)) e,λw hw=>⟨hl,.inr ⟨g,A,d,rfl,qZ,hw,f⟩⟩⟩)
theorem Sx.blk{w0 V:qW}{Lq:List It}{g:Nat}{cs:Array qv}{ty:TypeId}(h:Sx w0 V Lq)(hi:It.o g (.cells cs ty)∈Lq):jf V g cs.toList/\g<V.heap.size:=by
 have U:=(h.it _ hi).2;refine⟨λj a=>?_,(qah.1 U).1⟩;simp only[qcw]at a;simp[World.cell?,World.frozen?,U,a,qag]
theorem Sx.after{w0 W w':qW}{Lq L' Zq:List It}(h:Sx w0 W Lq)(b:∀g o,¬FL w0 Lq g->W.heap[g]?=some o->It.o g o∈Zq)(h':Sx w0 w' (L'++Zq))(f:∃g,W.heap.size=g+1/\¬FL w0 Lq g):Kept (FL w0 Lq) W w'/\∀k,FL w0 L' k->FL w0 Lq k\/W.heap.size<=k:=by
 have hb:∀k,k<W.heap.size->¬FL w0 Lq k->w'.heap[k]?=W.heap[k]?:=λk X a=>by
  have e:W.heap[k]?=some W.heap[k]:=qcr X;rw[e];exact(h'.it _ (qar.2 (.inr (b k _ a e)))).2
 refine⟨⟨h'.kept.os.trans h.kept.os.symm,h'.kept.tape.trans h.kept.tape.symm,h'.kept.output.trans h.kept.output.symm,?_,hb⟩,λk X=>?_⟩
 .obtain⟨g,hg,a⟩:=f;have d:g<W.heap.size:=qo;have:=hb g d a;rw[qcr d]at this;have:=(qah.1 this).1;omega
 obtain c | ⟨p,hp,c⟩:=X
 .exact .inl (.inl c)
 obtain q | q:=Nat.lt_or_ge k W.heap.size
 .refine Classical.byContradiction λi=>?_;have a:¬FL w0 Lq k:=λc=>i (.inl c);have j:=b k _ a (qcr q);have:=(qdj.1 h'.nd).2.2 p hp _ j k c;exact this rfl
 exact .inr q
theorem jf.GH{w:qW}{g:Nat}{a:qv}(h:jf w g [a]):w.cell? (qA g 0)=some a/\w.frozen? (qA g 0)=false:=h 0 qs
theorem catch_idle(p q:Addr)(w:qW):
  CallsD prog 24 #[.pointer (some p),.pointer (some q)] .returning w λe a w'=>qU e/\a=.returning/\w'=w:=by
 refine callsD_of_wpS func24 rfl λb cs c=>?_;apply wpS_seq;apply wpS_region;simp[wpOpsS,go_sem,recoverD,c,ntmps24,Exit.thenS];apply wpS_seq;apply wpS_seq;apply wpS_region;simp[wpOpsS,go_sem,Exit.thenS];refine wpS_cond (t:=true) (by simp[Act.eval,Array.replicate]) ?_;simp only[qda];refine wpS_of_wp (wp_ret ?_);cases b;simp_all [bodyPostS,results,results24,Exit.thenS]
theorem zf(a pa q p:Nat)(f:List PanicEntry)(w:qW)(x y:qv)(g:jf w a [x])(h:jf w pa [y])(b:a≠pa):
  CallsD prog 24 #[qP a,qP pa] (.panicking ({v:=.iface 63 (.agg #[qJ q,qJ p]),recovered:=false}::f)) w λe m w'=>
   qU e/\m=.panicking ({v:=.iface 63 (.agg #[qJ q,qJ p]),recovered:=true}::f)/\w'.cell? (qA a 0)=some (qJ q)/\w'.cell? (qA pa 0)=some (qJ p)/\Kept (λk=>k=a\/k=pa) w w':=by
 have n:=g.lt;have r:=h.lt;obtain⟨i,s⟩:=g 0 qs;obtain⟨j,z⟩:=h 0 qs;simp at i j;refine callsD_of_wpS func24 rfl λA cs d=>?_;apply wpS_seq;apply wpS_region;simp[wpOpsS,go_sem,recoverD,d,ntmps24,Exit.thenS];apply wpS_seq;apply wpS_seq;apply wpS_region;simp[wpOpsS,go_sem,Exit.thenS];refine wpS_cond (t:=false) (by simp[Act.eval,Array.replicate]) ?_;simp only[qbu,qct];refine wpS_of_wp (wp_skip ?_);simp only[Exit.thenS];simp only[qdh,qdi,qdx,qdo,qay,qax,qy,qz,qw];refine wpS_of_wp ?_;have B:=qH d;have C:∀(w:qW),(Instr.typeAssert (.iface 63 (.agg #[qJ q,qJ p])) 20 63 true).run prog w=.ok (.tuple #[.agg #[qJ q,qJ p],.bool true]) w:=λ_=>qk;have D:∀(x:Bool)(w:qW),(Op.unary .not (.bool x)).run prog w=.ok (.bool (!x)) w:=λ_ _=>rfl;clear d;go_wp2_with fail
 have E:¬w.heap.size=a:=qo;have F:¬w.heap.size=pa:=qo;have G:¬pa=a:=λe=>b e.symm;go_region
 have l:∀(W:qW)(o:Obj),qK W (W.alloc o).drew:=λW o=>(qr.alloc o).drew;refine⟨rfl,_,rfl,_,results_none rfl _ _ _,rfl,rfl,?_,?_,?_⟩
 .rw[(l _ _).cell (p:=(qA a 0)) (by simpa using n) (λc=>c),qbp _ _ _ _ (λc=>b (congrArg Addr.block c).symm)];exact qce _ _ _ i
 .rw[(l _ _).cell (p:=(qA pa 0)) (by simpa using r) (λc=>c)];refine qce _ _ _ (u:=y) ?_;rw[qbp _ _ _ _ (λc=>b (congrArg Addr.block c))];exact j
 exact((((Kept.refl _ w).setCell (p:=(qA a 0)) (λ_=>.inl rfl) _).setCell (p:=(qA pa 0)) (λ_=>.inr rfl) _).alloc _).drew
theorem UE{F:Nat}{A:Array qv}{w:qW}{S:qD}{V:qW->Prop}{r:Except Err Unit}(H:Enters F)(s:∀k,S k->k<w.heap.size)
  (t:∀W,qK w W->qC F A W λe b=>Kept S W b/\V b/\(∀x,r=.ok x->qU e)/\∀q p,r=.error (q,p)->e=fo q p)
  (u:∀W b,V W->Kept (λk=>w.heap.size<=k) W b->V b):
  qC 12 #[.func (.func F) #[] A] w λe w'=>Kept S w w'/\V w'/\(∀x,r=.ok x->e=.returned (.tuple #[qJ 0,qJ 0]))/\∀q p:Nat,r=.error (q,p)->e=.returned (.tuple #[qJ q,qJ p]):=by
 have ac:∀(fn:Fn)(first A:Array qv)(w:qW),(Instr.makeFunc fn first A).run prog w=.ok (.func fn first A) w:=λ_ _ _ _=>rfl;have ad:∀(args:Array qv)(w:qW),(callFunc F args).run prog w=.ok (.enter F args) w:=H;have v:∀I J,qK w ((w.alloc I).alloc J):=λ_ _=>(qr.alloc _).alloc _;have y:=jf.new w #[qJ 0] 25;have g:=jf.new (w.alloc (.cells #[qJ 0] 25)) #[qJ 0] 3;have z:=y.alloc qs (.cells #[qJ 0] 3);rw[qbn]at g;have K:=qH (t _ (v (.cells #[qJ 0] 25) (.cells #[qJ 0] 3)));have B:=qH u;have L:=qH z;have M:=qH g;clear t u y z g;go_enter_defers func12,ntmps12
 go_wp2_with fail
 refine K.o.mono ?_;rintro e W⟨X,hv,C,D⟩;have N:=X.size;simp at N;have j:Kept S w W:=((v _ _).mono (λ_ _ c=>c.elim)).trans X;have O:¬S w.heap.size:=λc=>qcv _ (s _ c);have P:¬S (w.heap.size+1):=λc=>by have:=s _ c;omega
 have E:=L.o.kept X qt O;have G:=M.o.kept X qs P;rcases a:r with⟨q,p⟩|x
 .obtain rfl:=D q p a;refine leaves_cons (f:=24) (args:= #[qP w.heap.size,.pointer (some ⟨w.heap.size+1,0,none⟩)]) qs (by simp[go_sem]) ?_;refine(zf w.heap.size (w.heap.size+1) q p [] W _ _ E G qo).mono ?_;rintro e Q l⟨rfl,rfl,c1,c2,d⟩;have m:Kept S w l:=j.fresh d (λi hi c=>qo);have n:V l:=B.o _ _ hv (d.mono (λk _ c=>qo));simp[Leaves,settle,results,results12,go_sem,c1,c2];exact⟨m,n,λx h=>by(rw[a]at h;cases h),λR T h=>by rw[a]at h;cases h;exact⟨rfl,rfl⟩⟩
 obtain rfl:=C x a;obtain⟨U,A2⟩:=E.GH;obtain⟨Y,B2⟩:=G.GH;have Z:=qH a;have aa:=qH hv;have ab:=qH j;clear a C D hv j;go_wp2;refine leaves_cons (f:=24) (args:= #[qP w.heap.size,.pointer (some ⟨w.heap.size+1,0,none⟩)]) qs (by simp[go_sem]) ?_;refine(catch_idle ⟨w.heap.size,0,none⟩ ⟨w.heap.size+1,0,none⟩ _).mono ?_;rintro e Q l⟨rfl,rfl,rfl⟩;have d:Kept (λk=>w.heap.size<=k) W ((W.setCell (qA w.heap.size 0) (qJ 0)).setCell ⟨w.heap.size+1,0,none⟩ (qJ 0)):=((Kept.refl _ W).setCell (p:=(qA w.heap.size 0)) (λ_=>qR) _).setCell (p:=⟨w.heap.size+1,0,none⟩) (λ_=>Nat.le_succ _) _;have m:=ab.o.fresh d (λi hi c=>absurd c qo);have n:=B.o _ _ aa.o d;simp[Leaves,settle,results,results12,go_sem,U,Y];exact⟨m,n,λR T h=>by(rw[Z.o]at h;cases h)⟩
end Go.Proofs.YtfkcodlceoghpaaGreatDoor
