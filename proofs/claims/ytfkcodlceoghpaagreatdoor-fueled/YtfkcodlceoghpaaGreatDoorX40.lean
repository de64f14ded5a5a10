import Derived.KernelRfl
import Derived.LaidLaws
import Derived.Lib.LaidU8
import Derived.RangeFuncLeaves
import Derived.RecoverIn
import Derived.Test.YtfkcodlceoghpaaGreatDoorProg
import Derived.Test.YtfkcodlceoghpaaGreatDoorRows
import Derived.Test.YtfkcodlceoghpaaGreatDoorX39
namespace Go.Proofs.YtfkcodlceoghpaaGreatDoor.Zev
set_option maxRecDepth 100000
set_option linter.unusedSimpArgs false
set_option linter.unusedVariables false
open Go.Deep Go.Lib Go.Proofs
section
variable {P:qp}{T:Tab}{e:Env}{r:Option Nat}
theorem uh:aV P T e r .skip:=λb a X s w _ _ _ _ h c d hn _=>wpIn_skip (hn X b s a w h c (Ext.refl X s w) d)
theorem rG{l:Nat}:aV P T e r (.label l):=λb a X s w _ _ _ _ h c d hn _=>wpIn_label (hn X b s a w h c (Ext.refl X s w) d)
theorem uY{id:Nat}:aV P T e r (.exit id):=λb a X s w _ _ _ _ h c d _ hx=>wpIn_exit (hx _ X b s a w h c (Ext.refl X s w) d (by simp))
theorem wM:aV P T e r .ret:=λb a X s w _ _ _ _ h c d _ hx=>wpIn_ret (hx _ X b s a w h c (Ext.refl X s w) d (by simp))
theorem seq_ok{x c:Code}(A:aV P T e r x)(B:aV P T e r c):aV P T e r (.seq x c):=λC a X s w v d Q y h D E hn hx=>by
 refine wpIn_seq (A C a X s w (λa s=>aZ c P T e a s v d) d _ y h D E (λf g s' a' w' k1 i b j=>?_) (λx f g s' a' w' k1 i b j z=>?_))
 .exact B g a' f s' w' v d Q (by rw[b.le.ρ];exact y) k1 i j (λk l m n o p q t u=>hn k l m n o p q (b.trans t) u) (λx k l m n o p q t u F=>hx x k l m n o p q (b.trans t) u F)
 have:=hx x f g s' a' w' k1 i b j z;cases x<;>first | exact absurd rfl z | exact this
theorem vv{c:qg}{x i:Code}(m:aV P T e r x)(n:aV P T e r i):aV P T e r (.cond c x i):=λd a X s w f g Q l h j k hn hx=>by
 obtain⟨v,h1,h2⟩:=aD j k.gr (K:=λv=>jW v (λb=>bF b (aZ x P T e d s f g) (aZ i P T e d s f g))) h;obtain⟨b,rfl,h3⟩:=gZ h1;rw[gX]at h2;obtain⟨rfl,h4⟩ | ⟨rfl,h4⟩:=aI h3
 .exact wpIn_cond_true h2 (m d a X s w f g Q l h4 j k hn hx)
 exact wpIn_cond_false h2 (n d a X s w f g Q l h4 j k hn hx)
theorem sZ{id:Nat}{x:Code}(o:aV P T e r x):aV P T e r (.block id x):=λp a X s w m n Q q h t u hn hx=>by
 refine wpIn_block (o p a X s w m (tq id m n) _ q h t u (λd b s' a' w' k1 f g j=>hn d b s' a' w' k1 f g j) (λx d b s' a' w' k1 f g j v=>?_));cases x with
 | normal=>exact absurd rfl v
 | exit i=>
  have y:bF (Nat.beq i id) (m b s') (n (.exit i) b s'):=k1;obtain⟨k,h1⟩ | ⟨k,h1⟩:=aI y
  .have:=qaa k;subst this;simp only[Exit.inBlock,if_true];exact hn d b s' a' w' h1 f g j
  have z:¬i=id:=λc=>by subst c;rw[beq_eq]at k;simp at k
  simp only[Exit.inBlock,z,if_false];exact hx _ d b s' a' w' h1 f g j (by simp)
 | goto l=>exact hx _ d b s' a' w' k1 f g j (by simp)
 | ret=>exact hx _ d b s' a' w' k1 f g j (by simp)
 | panic c=>exact hx _ d b s' a' w' k1 f g j (by simp)
 | outgrown=>exact hx _ d b s' a' w' k1 f g j (by simp)
theorem uJ{x:Code}(v:aV P T e r x):aV P T e r (.loop x):=λp a X s w F b Q y h z A _ hx=>by
 have B:jJ 100000 (aZ x P T e) p s b:=h;refine rC (λn a' w'=>∃c d s',jJ n (aZ x P T e) d s' b/\Rel c s' w'/\Ext X s w c s' w'/\eu c d a') 100000 ⟨X,p,s,B,z,Ext.refl X s w,A⟩ (λa w ⟨_,_,_,h,_⟩=>h) ?_;rintro n a' w'⟨c,d,s',k1,C,f,D⟩;have E:aZ x P T e d s' (λa s=>jJ n (aZ x P T e) a s b) b:=k1;refine v d a' c s' w' _ b _ (by rw[f.le.ρ];exact y) E C D (λg i j q t k l m o=>⟨g,i,j,k,l,f.trans m,o⟩) (λx g i j q t k l m o u=>?_);have:=hx x g i j q t k l (f.trans m) o u;cases x<;>first | exact absurd rfl u | exact this
theorem wP{id:Nat}{b:Array Oper}{d:Bool}:aV P T e r (.region id b d):=λc a X s w f l Q g h i j hn _=>by
 have k:bF d (jK b P T e c s f) (gz b.toList P T e b.toList c s f):=h;obtain⟨rfl,h1⟩ | ⟨rfl,h1⟩:=aI k
 .exact sN g h1 i j hn
 exact nX g h1 i j hn
end
def iM(P:Program)(bZ:FuncId->Bool):Prop:=
 ∀f,bZ f=true->∀(args:Array Value)(w:World),(∃fn c,P.funcs[f]?=some fn/\fn.body=some c)/\
  CallsDIn Fence.wide 0 P f args .returning w (λe u w'=>(∃v,e=.returned v)/\u=.returning/\(w'.os=w.os/\w'.output=w.output)/\w.heap.size<=w'.heap.size/\∀b,b<w.heap.size->w'.heap[b]?=w.heap[b]?)
section
variable {P:qp}{T:Tab}{e:Env}{X:Cx}{s:AS}{w:qW}{r:Option Nat}
theorem oD(F:dZ P){a:FuncId->Bool}(G:iM P a){fn:Func}{tmps:Array qv}{B:Ending->qW->Prop}:∀{ds i:List Deferred}{s:AS}{w:qW}{K:KS},fF ds a s K->Rel X s w->DR X ds i->
  (∀s' w',K s'->Rel X s' w'->Ext X s w X s' w'->∃v,(Go.results fn tmps).run P w'=.ok v w'/\B (.returned v) w')->LeavesInM Fence.wide 0 P fn tmps B i .returning w:=by
 intro ds;induction ds with
 | nil=>intro i s w K h g hd k;cases hd;exact k s w h g (Ext.refl X s w)
 | cons d ds C=>
  intro i s w K h g hd k;obtain⟨D,V,rfl,h1,h2⟩:=hd;have l:match d.target with
   | .collected id=>gb s.h id (λb=>zZ b (λt=>bF t False (setB s.h id (.inr (.inr (.inr true))) (λh=>fF ds a ⟨h,s.nx⟩ K))))
   | .fn (.func f) _=>yes (a f) (fF ds a s K)
   | _=>False:=h
  unfold D1 at h1;refine⟨by simp,?_⟩;split at h1
  .rename_i f c hc;rw[hc]at l;obtain⟨h3,h4⟩:=aB l;obtain⟨n,h5,m,h7⟩:=h1;obtain⟨⟨W,Y,hf,H⟩,I⟩:=G f h3 (D.args++n) w;refine .inr ⟨(λh=>by cases h),.func f,n,f,D.args++n,h5,?_,λ_ _=>trivial,?_⟩
   .rw[h5];simp[invoke,dQ F hf H]
   refine CallsDIn.mono I (λe u w' ⟨⟨v,k1⟩,J,L,M,N⟩=>?_);subst k1;subst J;obtain⟨o,p⟩:=g.grow M N L;exact C h4 o h2 (λs' x y z A=>k s' x y z (p.trans A))
  .rename_i id hc;rw[hc]at l;obtain⟨b,h3,h4⟩:=gy l;obtain⟨t,rfl,h5⟩:=xN h4;obtain⟨_,m⟩ | ⟨O,m⟩:=aI h5
   .exact m.elim
   subst O;obtain⟨Z,h7,Q⟩:=bC m;obtain⟨h9,rfl⟩:=h1;obtain⟨dd,E,R⟩:=(g.blk id _ h3).2;obtain rfl:=R rfl;have S:=(qaf.1 E).1;obtain⟨o,p⟩:=g.upd (w':={w with heap:=w.heap.setIfInBounds (X.j id).b (.deferred none)}) h3 rfl h7 (λq U=>by simp[qam (λe=>U e.symm)]) (by simp) (b':=.inr (.inr (.inr true))) ⟨none,by simp[S],λe=>by cases e⟩;refine .inl ⟨(X.j id).b,_,rfl,?_,C Q o h2 (λs' x y z A=>k s' x y z (p.trans A))⟩;simp[Instr.takeDeferred,getObj,setObj,Sem.run,E]
  exact h1.elim
theorem lM{regs:TV}{n:Nat}{tmps:Array qv}(g:Rel X s w)(i:RR X regs n tmps):∀{l:List ResultVar}{K:qV->Prop},results l P s.h (gv regs) K->∃c us,K c/\aO X c us/\(l.mapM (m:=Sem) λ| .tmp t=>pure (tmps.getD t undef) | .cell a t=>do loadVar t (<-asAddr (tmps.getD a undef))).run P w=.ok us w:=by
 intro l;induction l with
 | nil=>intro K h;exact⟨[],[],h,rfl,rfl⟩
 | cons x l d=>
  intro K h;have f:∀t v,aC regs t=some v->VR X v (tmps.getD t undef):=λt v k=>by
   obtain⟨u,h1,h2⟩:=i.2 t v k;have:tmps.getD t undef=u:=by simp[Array.getD_eq_getD_getElem?,h1]
   rw[this];exact h2
  have h0:resV P s.h (gv regs) x (λv=>results l P s.h (gv regs) (λc=>K (v::c))):=h;cases x with
  | tmp t=>obtain⟨v,h1,h2⟩:=kP h0;obtain⟨c,us,h3,h4,h5⟩:=d h2;refine⟨_,_,h3,⟨_,_,rfl,f t v h1,h4⟩,?_⟩;simp only[List.mapM_cons,qad,qaz,Result.andThen,h5]
  | cell p t=>
   obtain⟨v,h1,h2⟩:=kP h0;obtain⟨id,off,rfl,h3⟩:=fu h2;obtain⟨v,u,h4,h5,o⟩:=kH (P:=P) g h3;obtain⟨c,us,h7,q,y⟩:=d h4;obtain⟨_,z⟩:=bf.1 (f p _ h1);refine⟨_,_,h7,⟨_,_,rfl,o,q⟩,?_⟩;have A:(asAddr (tmps.getD p undef)).run P w=.ok ⟨(X.j id).b,(X.j id).base+off,none⟩ w:=by rw[z];rfl
   simp only[List.mapM_cons,qad,A,Result.andThen,h5,y,qaz]
theorem wI{a us:qV}(h:aO X a us):VR X (ym a) (if h:us.toArray.size=1 then us.toArray[0] else .tuple us.toArray):=by
 have hl:=h.length;match a,us,h with
 | [v],us,h=>obtain⟨u,c,h1,h2,h3⟩:=dK.1 h;rw[aW]at h3;subst h3;subst h1;simpa [ym] using h2
 | [],us,h=>rw[aW]at h;subst h;exact⟨_,rfl,rfl⟩
 | v::v'::a,us,h=>
  have b:¬us.toArray.size=1:=by simp at hl ⊢;omega
  rw[dif_neg b];exact bE.2 ⟨_,rfl,by simpa using h⟩
theorem gq{fn:Func}{regs:TV}{n:Nat}{tmps:Array qv}{K:qV->Prop}(c:Rel X s w)(d:RR X regs n tmps)(h:results fn.results.toList P s.h (gv regs) K):∃b u,K b/\VR X (ym b) u/\(Go.results fn tmps).run P w=.ok u w:=by
 obtain⟨b,us,h1,h2,h3⟩:=lM (P:=P) c d h;refine⟨b,_,h1,wI h2,?_⟩;unfold Go.results;rw[qad,Array.mapM_eq_mapM_toList,Sem.run_map];have key:∀g:ResultVar->Sem qv,(∀x,g x=match x with | .tmp t=>pure (tmps.getD t undef) | .cell a t=>do loadVar t (<-asAddr (tmps.getD a undef)))->(fn.results.toList.mapM g).run P w=.ok us w:=λg hg=>by
  rw[show g=_ from funext hg];exact h3
 rw[key _ (λx=>by cases x<;>rfl)];rfl
theorem lJ:∀{a us:qV}{i:Nat}{t:TV}{K:TV->Prop},aO X a us->setArgs a i t K->∃b,K b/\∀m v,aC b m=some v->(∃u,i<=m/\us[m - i]?=some u/\VR X v u)\/aC t m=some v:=by
 intro a;induction a with
 | nil=>intro us i t K _ h;exact⟨t,h,λm v c=>.inr c⟩
 | cons v a d=>
  intro us i t K hl h;obtain⟨u,us,rfl,h1,h2⟩:=dK.1 hl;obtain⟨n,h3,h4⟩:=dL (K:=λt=>setArgs a (Nat.succ i) t K) h;obtain⟨f,h5,g⟩:=d h2 h4;refine⟨f,h5,λm x hx=>?_⟩;obtain⟨j,h7,k,l⟩ | h7:=g m x hx
  .refine .inl ⟨j,by omega,?_,l⟩;have:m - i=(m - Nat.succ i)+1:=by omega
   rw[this];exact k
  rw[h3 m]at h7;split at h7
  .rename_i e1;subst e1;cases h7;exact .inl ⟨u,qbd _,by simp,h1⟩
  exact .inr h7
theorem oH(k:dn P X.ρ T e none)(n:iM P e.bZ)(o:∀c,aV P T e none c){f:FuncId}{args us:qV}{K:bR}(h:mg P T e s f args K)(p:Rel X s w)(hl:aO X args us):
  (∃fn c,P.funcs[f]?=some fn/\fn.body=some c)/\CallsIn Fence.wide 0 P f us.toArray w (Post X s w K):=by
 obtain⟨fn,h1,h2⟩:=aH h;obtain⟨c,h3,h4⟩:=aH h2;refine⟨⟨fn,c,h1,h3⟩,?_⟩;obtain⟨t,h5,q⟩:=lJ hl h4;have y:eu X ⟨t,fn.ntmps,[]⟩ {tmps:=us.toArray++Array.replicate (fn.ntmps - us.toArray.size) undef,defers:=[]}:=by
  refine⟨⟨by simp;omega,λm v z=>?_⟩,rfl⟩;obtain⟨u,_,h7,A⟩ | h7:=q m v z
  .refine⟨u,?_,A⟩;rw[Nat.sub_zero]at h7;rw[qbh (by simpa using (qax.1 h7).1)];simpa using h7
  rw[bI]at h7;cases h7
 have fin:∀b d s' a' w',leave P e fn d s' K->Rel b s' w'->Ext X s w b s' w'->eu b d a'->LeavesInM Fence.wide 0 P fn a'.tmps (Post X s w K) a'.defers .returning w':=λb d s' a' w' k1 i j g=>by
  refine oD k.prog n k1 i g.defers (λB H C l D=>?_);obtain⟨I,u,E,F,G⟩:=gq (P:=P) l g.regs C;exact⟨u,G,_,B,b,u,rfl,E,l,j.trans D,F⟩
 refine callsIn_of_wp_marks h1 h3 trivial ?_;refine o c ⟨t,fn.ntmps,[]⟩ _ X s w (λa s=>leave P e fn a s K) (λx a s=>lV x (leave P e fn a s K)) (bodyPostM Fence.wide 0 P fn (Post X s w K)) k h5 p y (λb d s' a' w' k1 i j g=>fin b d s' a' w' k1 i j g) (λx b d s' a' w' k1 i j g _=>?_);cases x<;>first | exact k1.elim | exact fin b d s' a' w' k1 i j g
theorem dX{l:Nat}{a:Loop}(h:w.heap[l]?=some (.loop a)):(Instr.getLoop l).run P w=.ok a w:=by simp[Instr.getLoop,getObj,Sem.run,h]
theorem dS{l:Nat}{b a:Loop}(h:w.heap[l]?=some (.loop b)):(setObj l (.loop a)).run P w=.ok () {w with heap:=w.heap.setIfInBounds l (.loop a)}:=by simp[setObj,Sem.run,h]
theorem ic(f:Rel X s w){l:Nat}{a:LB}{c:Loop}{st:LoopState}{p:Option Code}{d:TB}(hl:aC s.h l=some (.inr (.inr (.inl a))))(g:w.heap[(X.j l).b]?=some (.loop c))(hp:Put s.h d l (some (.inr (.inr (.inl ⟨st,p,a.regs,a.n,a.params,a.assign,a.body⟩))))):
  Rel X ⟨d,s.nx⟩ {w with heap:=w.heap.setIfInBounds (X.j l).b (.loop {c with state:=st,pending:=p})}/\Ext X s w X ⟨d,s.nx⟩ {w with heap:=w.heap.setIfInBounds (X.j l).b (.loop {c with state:=st,pending:=p})}:=by
 have i:=(qaf.1 g).1;obtain⟨o,h1,h2,h3,h4,h5,k,h7⟩:=(f.blk l _ hl).2;rw[g]at h1;cases h1;exact f.upd hl rfl hp (λq m=>by simp[qam (λe=>m e.symm)]) (by simp) ⟨{c with state:=st,pending:=p},by simp[i],rfl,rfl,h4,h5,k,h7⟩
theorem pF{g:qg}{y:Array Tmp}{assign body:Code}:aV P T e r (.rangeFunc g y assign body):=λf a X s w Kn Kx Q O h z H hn hx=>by
 have h0:bL g (gv f.regs) (λv=>bF e.wL False (iP s (.inr (.inr (.inr false))) (λs'=>mP e ⟨f.regs,f.n,{target:=.collected s.nx,args:= #[]}::f.defers⟩ s' v y.toList assign body Kn Kx))):=h;obtain⟨v,h1,h2⟩:=aD z H.gr h0;obtain⟨_,h3⟩ | ⟨e1,h3⟩:=aI h1
 .exact h3.elim
 have hr:r=none:=by
  have:=O.wL;rw[e1]at this;cases r with
  | none=>rfl
  | some _=>cases this
 subst hr;obtain⟨h4,h5,h6⟩:=eF h3;obtain⟨q,x,c,rfl,h7⟩:=(oQ h6).resolve_right (λ⟨_,_,_,_,h7⟩=>h7);obtain⟨h8,h9,R⟩:=eF (s:=⟨h4,Nat.succ s.nx⟩) h7;have R:=di R;obtain⟨A,B,ac,ad,ae⟩:=eO.1 h2;obtain⟨Y,r2⟩:=z.new (o:=.deferred (some [])) (L:=⟨w.heap.size,0,0⟩) rfl h5 (b:=.inr (.inr (.inr false))) ⟨_,heap_alloc_new w _,λ_=>rfl⟩;refine wpIn_rangeFunc (λfn _=>?_);let I:Loop:={state:=.ready,pending:=none,fn:=fn,tmps:=a.tmps,params:=y,assign:=assign,body:=body,defers:=w.heap.size}
 let k:=X.put ⟨w.heap.size,0,0⟩
 let d:=k.put ⟨w.heap.size+1,0,0⟩
 let C:=(w.alloc (.deferred (some []))).alloc (.loop I)
 have J:X.le k:=X.bD _;have D:k.le d:=k.bD _;obtain⟨r3,r4⟩:=Y.new (o:=.loop I) (L:=⟨w.heap.size+1,0,0⟩) (by simp) h9 (b:=.inr (.inr (.inl ⟨.ready,none,f.regs,f.n,y.toList,assign,body⟩)))
  ⟨I,by rw[show w.heap.size+1=(w.alloc (.deferred (some []))).heap.size by simp];exact heap_alloc_new _ _,rfl,rfl,(H.mono (J.trans D)).regs,rfl,rfl,rfl⟩
 have K:k.nx=Nat.succ s.nx:=Y.nx;have Z:(d.j (Nat.succ s.nx)).b=w.heap.size+1:=by rw[<-K];simp[d,Cx.aQ]
 have af:(d.j s.nx).b=w.heap.size:=by
  rw[D.j s.nx (by rw[K];exact Nat.lt_succ_self _),<-z.nx,X.aQ]
 have ag:aO d (x++(.func (.yield (Nat.succ s.nx)) #[] #[]::c)) (A.toList++(.func (.yield (w.heap.size+1)) #[] #[]::B.toList)):=by
  have ah:Nat.succ s.nx<d.nx:=by rw[<-K];simp[d,Cx.put]
  exact(ad.mono (J.trans D)).append ⟨_,_,rfl,(lq (a:= #[]) (c:= #[])).2 ⟨ah,by rw[Z]⟩,ae.mono (J.trans D)⟩
 obtain⟨⟨fq,cq,hf,hb⟩,ai⟩:=O.call _ q _ _ d C _ rfl R r3 ag;have aj:(A++ #[Value.func (.yield (w.heap.size+1)) #[] #[]])++B=(A.toList++(.func (.yield (w.heap.size+1)) #[] #[]::B.toList)).toArray:=by
  apply qar;simp
 refine⟨w.heap.size+1,[{target:=.collected w.heap.size,args:= #[]}],C,{target:=.fn (.func q) B,args:=A++ #[.func (.yield (w.heap.size+1)) #[] #[]]},C,q,(A.toList++(.func (.yield (w.heap.size+1)) #[] #[]::B.toList)).toArray,C,?_,?_,λ_ _=>trivial,?_,(λh=>by cases h),?_⟩
 .change (Instr.enterLoop fn a.tmps y assign body none).run P w=_
  simp[Instr.enterLoop,C,I]
 .have hcv:a.eval (.const (.func (.yield (w.heap.size+1)) #[] #[]))=.func (.yield (w.heap.size+1)) #[] #[]:=rfl;simp[resolve,ac,Deferred.ofValue,hcv]
 .simp only[invoke];rw[dQ O.prog hf hb,aj]
 refine CallsIn.mono ai (λe' E ⟨v,s3,i,u,k1,k2,k3,F,k5⟩=>?_);subst k1;obtain⟨b,q1,q2⟩:=gy k2;obtain⟨l,rfl,q3⟩:=jN q2;obtain⟨S,q5⟩:=aB q3;obtain⟨h',q6,m⟩:=bC q5;obtain⟨G,M,c2,c3,c4,c5,c6,c7⟩:=(k3.blk _ _ q1).2;have N:(i.j (Nat.succ s.nx)).b=w.heap.size+1:=by
  rw[F.le.j _ (by rw[<-K];simp[d,Cx.put]),Z]
 have ak:(i.j s.nx).b=w.heap.size:=by
  rw[F.le.j _ (by rw[<-z.nx];simp[d,k,Cx.put];omega),af]
 obtain⟨p,u2⟩:=ic k3 q1 M q6;have al:(G.state==.busy)=false:=by
  rw[c2];unfold kG at S;split at S
  .cases S
  rename_i an;cases hs:l.st<;>simp_all
 have U:(Instr.endLoop (w.heap.size+1)).run P E=.ok l.pend {E with heap:=E.heap.setIfInBounds (w.heap.size+1) (.loop {G with state:=.exhausted})}:=by
  rw[N]at M;simp only[Instr.endLoop,qad,dX M,Result.andThen,al,qai,if_false,dS M,qaz,c3]
 have am:({G with state:=.exhausted}:Loop)={G with state:=.exhausted,pending:=l.pend}:=by rw[<-c3]
 rw[am,<-N]at U;rw[N]at U;have t:Ext X s w i ⟨h',s3.nx⟩ {E with heap:=E.heap.setIfInBounds (i.j (Nat.succ s.nx)).b (.loop {G with state:=.exhausted,pending:=l.pend})}:=((r2.trans r4).trans F).trans u2;have V:eu i ⟨f.regs,f.n,{target:=.collected s.nx,args:= #[]}::f.defers⟩ {a with defers:=[{target:=.collected w.heap.size,args:= #[]}]++a.defers}:=by
  have W:=(J.trans D).trans F.le;refine⟨(H.mono W).regs,_,_,rfl,⟨?_,by rw[ak]⟩,(H.mono W).defers⟩;have:=W.nx;have ao:=F.le.nx;have:d.nx=s.nx+2:=by simp[d,k,Cx.put,z.nx]
  omega
 rw[N]at p t;refine⟨l.pend,_,U,?_⟩;cases ab:l.pend with
 | none=>rw[ab]at m p t;exact hn i _ _ _ _ m p t V
 | some c=>
  rw[ab]at m p t;cases c with
  | ret=>exact wpIn_ret (hx _ i _ _ _ _ m p t V (by simp))
  | exit id=>exact wpIn_exit (hx _ i _ _ _ _ m p t V (by simp))
  | _=>exact m.elim
theorem bz:∀c:Code,aV P T e r c
 | .skip=>uh
 | .region _ _ _=>wP
 | .seq x y=>seq_ok (bz x) (bz y)
 | .cond _ x y=>vv (bz x) (bz y)
 | .block _ x=>sZ (bz x)
 | .loop x=>uJ (bz x)
 | .rangeFunc _ _ _ _=>pF
 | .exit _=>uY
 | .scope _=>λ_ _ _ _ _ _ _ _ _ h=>h.elim
 | .label _=>rG
 | .goto _=>λ_ _ _ _ _ _ _ _ _ h=>h.elim
 | .ret=>wM
 | .refuse _=>λ_ _ _ _ _ _ _ _ _ h=>h.elim
end
section
variable {P:qp}{T:Tab}{e:Env}{X:Cx}{s:AS}{w:qW}
theorem nW{n:Nat}:∀{d:List Tmp}{a us:qV}{t:TV}{tmps:Array qv}{K:TV->Prop},aO X a us->RR X t n tmps->lI d a t n K->
  ∃g,K g/\d.length=us.length/\RR X g n ((d.zip us).foldl (λtmps (p:Tmp×Value)=>tmps.setIfInBounds p.1 p.2) tmps):=by
 intro d;induction d with
 | nil=>
  intro a us t tmps K hl f h;cases a with
  | nil=>rw[aW]at hl;subst hl;exact⟨t,h,rfl,f⟩
  | cons=>exact h.elim
 | cons p d l=>
  intro a us t tmps K hl f h;cases a with
  | nil=>exact h.elim
  | cons v a=>
   obtain⟨u,us,rfl,h1,h2⟩:=dK.1 hl;obtain⟨h3,h4⟩:=aB (b:=Nat.blt p n) (K:=iq t p v (λt=>lI d a t n K)) h;obtain⟨m,h5,o⟩:=dL h4;have hp:=aG.1 h3;have q:RR X m n (tmps.setIfInBounds p u):=by
    refine⟨by simpa using f.1,λi x hx=>?_⟩;have:=f.1;rw[h5 i]at hx;split at hx
    .rename_i j;subst j;cases hx;exact⟨u,by rw[qas (by omega)],h1⟩
    rename_i j;obtain⟨r,h7,k⟩:=f.2 i x hx;exact⟨r,by rw[qam (λc=>j c.symm)];exact h7,k⟩
   obtain⟨g,h7,k,y⟩:=l h2 q o;exact⟨g,h7,by simp[k],y⟩
theorem iQ(f:Rel X s w){l:Nat}{K:KS}(h:beginRound s l K):∃s' w',K s'/\(Instr.beginRound (X.j l).b).run P w=.ok () w'/\Rel X s' w'/\Ext X s w X s' w':=by
 obtain⟨b,g,i⟩:=gy h;obtain⟨k,rfl,m⟩:=jN i;obtain⟨a,n⟩:=aB m;obtain⟨y,o,p⟩:=bC n;obtain⟨c,d,q,r,_⟩:=(f.blk _ _ g).2;obtain⟨t,u⟩:=ic f g d o;have v:c.state=.ready:=by
  rw[q];unfold isReady at a;split at a
  .assumption
  cases a
 have x:({c with state:=.busy}:Loop)={c with state:=.busy,pending:=k.pend}:=by rw[<-r]
 refine⟨_,_,p,?_,t,u⟩;simp only[Instr.beginRound,qad,dX d,Result.andThen,dS d,v];rw[x];rfl
theorem uw(c:Rel X s w){l:Nat}{st:LoopState}{p:Option Code}{K:KS}(h:pV s l st p K):∃s' w' a,K s'/\w.heap[(X.j l).b]?=some (.loop a)/\w'={w with heap:=w.heap.setIfInBounds (X.j l).b (.loop {a with state:=st,pending:=p})}/\Rel X s' w'/\Ext X s w X s' w':=by
 obtain⟨b,d,g⟩:=gy h;obtain⟨q,rfl,i⟩:=jN g;obtain⟨r,k,m⟩:=bC i;obtain⟨a,f,_⟩:=(c.blk _ _ d).2;obtain⟨n,o⟩:=ic c d f k;exact⟨_,_,a,m,f,rfl,n,o⟩
theorem jL{l:Nat}{a:Loop}{j:Option Code}(h:w.heap[l]?=some (.loop a)):(Instr.endRound l j).run P w=.ok (.bool j.isNone) {w with heap:=w.heap.setIfInBounds l (.loop {a with state:=if j.isNone then .ready else .done,pending:=j})}:=by
 simp only[Instr.endRound,qad,dX h,Result.andThen,dS h,qaz]
theorem lK(G:∀r:Nat,dn P X.ρ T e (some r)){l:Nat}{args us:qV}{K:bR}(h:jm P T e s l args K)(H:Rel X s w)(hl:aO X args us):
  ∃a:Loop,w.heap[(X.j l).b]?=some (.loop a)/\a.params.size=us.length/\
   RoundIn Fence.wide 0 P (X.j l).b a.fn ((a.params.zip us.toArray).foldl (λtmps (p:Tmp×Value)=>tmps.setIfInBounds p.1 p.2) a.tmps) a.assign a.body w (Post X s w K):=by
 obtain⟨b,Q,R⟩:=gy h;obtain⟨o,rfl,I⟩:=jN R;obtain⟨J,a,S,c2,c3,U,V,W,Y⟩:=H.blk _ _ Q;rw[<-V]at I;obtain⟨t,Z,q5,q6⟩:=nW hl U I;have aa:a.params.size=us.length:=by simpa using q5
 refine⟨a,S,aa,?_⟩;have ab:(a.params.zip us.toArray).foldl (λtmps (p:Tmp×Value)=>tmps.setIfInBounds p.1 p.2) a.tmps=(a.params.toList.zip us).foldl (λtmps (p:Tmp×Value)=>tmps.setIfInBounds p.1 p.2) a.tmps:=by
  rw[<-Array.foldl_toList];simp
 rw[ab,W,Y];refine roundIn_of_wpIn (F:=Fence.wide) trivial ?_;change o.assign.wpIn (Fw (some (X.j l).b)) 0 P _ _ w
 refine bz (P:=P) (T:=T) (e:=e) (r:=some (X.j l).b) o.assign ⟨t,o.n,[]⟩ _ X s w _ (λ_ _ _=>False) _ (G _) Z H ⟨q6,rfl⟩ (λA L s1 M w1 k1 k2 B k4=>?_) (λx A L s1 M w1 k1 _ _ _ _=>k1.elim);have ac:(A.j l).b=(X.j l).b:=by rw[B.le.j l J]
 obtain⟨s2,C,k5,N,k7,k8⟩:=iQ (P:=P) k2 k1;rw[ac]at N;refine⟨C,N,?_⟩;change o.body.wpIn (Fw (some (X.j l).b)) 0 P _ _ C
 have fin:∀(j:Option Code)(c:Cx)(d:AS)(f:qW)(D:KS)(v:qv),VR c v (.bool j.isNone)->pV d l (if j.isNone then .ready else .done) j D->(∀q,D q->K v q)->Rel c d f->Ext X s w c d f->∃u z,(Instr.endRound (X.j l).b j).run P f=.ok u z/\Post X s w K (.returned u) z:=λj c d f D v hv ad g hZ O=>by
  obtain⟨q,z,ag,y,i,k,m,m5⟩:=uw hZ ad;have ae:(c.j l).b=(X.j l).b:=by rw[O.le.j l J]
  rw[ae]at i k;refine⟨.bool j.isNone,z,by rw[jL i,k],v,q,c,_,rfl,g q y,m,O.trans m5,hv⟩
 have E:=B.trans k8;refine bz (P:=P) (T:=T) (e:=e) (r:=some (X.j l).b) o.body L M A s2 C _ _ _ (by rw[B.le.ρ];exact G _) k5 k7 k4 (λc af d a3 f y i k _=>?_) (λx c af d a3 f y i k _ _=>?_)
 .obtain⟨_,m⟩:=aB y;exact fin none c d f _ (.bool true) rfl m (λ_ g=>g) i (E.trans k)
 obtain⟨_,m⟩:=aB y;cases x with
 | ret=>exact fin (some .ret) c d f _ (.bool false) rfl m (λ_ g=>g) i (E.trans k)
 | exit id=>exact fin (some (.exit id)) c d f _ (.bool false) rfl m (λ_ g=>g) i (E.trans k)
 | _=>exact m.elim
theorem go_ok(b:dZ P){d:Nat->Int}(g:bn P d T){a:FuncId->Bool}(m:iM P a):∀n,jT P d (go n P T a false)/\gY P d (go n P T a true)
 | 0=>⟨λ_ _ _ _ _ _ _ _ h=>h.elim,λ_ _ _ _ _ _ _ _ h=>h.elim⟩
 | n+1=>by
  obtain⟨o,p⟩:=go_ok b g m n;refine⟨λs f args K X w us i h j hl=>?_,λs l args K X w us i h j hl=>?_⟩
  .have k:mg P T ⟨a,go n P T a false,go n P T a true,false⟩ s f args K:=h;exact oH (by rw[i];exact⟨b,g,o,p,rfl⟩) m (λc=>bz c) k j hl
  have k:jm P T ⟨a,go n P T a false,go n P T a true,true⟩ s l args K:=h;exact lK (λr=>by rw[i];exact⟨b,g,o,p,rfl⟩) k j hl
end
section
variable {P:qp}{T:Tab}{e:Env}{r:Option Nat}
theorem split_ok:∀(k:Nat)(c:Code)(d:AA)(a:Act)(X:Cx)(s:AS)(w:qW)(g:KA)(i:KX)(Q:Exit->Act->qW->Prop),dn P X.ρ T e r->aZ (uA k c) P T e d s g i->Rel X s w->eu X d a->
  (∀b f s' a' w',g f s'->Rel b s' w'->Ext X s w b s' w'->eu b f a'->(postC k c).wpIn (Fw r) 0 P Q a' w')->
  (∀x b f s' a' w',i x f s'->Rel b s' w'->Ext X s w b s' w'->eu b f a'->x≠.normal->Q x a' w')->c.wpIn (Fw r) 0 P Q a w:=by
 intro k;induction k with
 | zero=>intro c d a X s w g i Q o h m n hn hx;have j:g d s:=h;exact hn X d s a w j m (Ext.refl X s w) n
 | succ k G=>
  intro c d a X s w g i Q o h m n hn hx;cases c
  case seq x E=>
   have j:aZ x P T e d s (λa s=>aZ (uA k E) P T e a s g i) i:=h;refine wpIn_seq (bz x d a X s w _ i _ o j m n (λb f s' a' w' k1 p l q=>?_) (λx b f s' a' w' k1 p l q F=>?_))
   .exact G E f a' b s' w' g i Q (by rw[l.le.ρ];exact o) k1 p q (λt u v y z A B C D=>hn t u v y z A B (l.trans C) D) (λx t u v y z A B C D H=>hx x t u v y z A B (l.trans C) D H)
   have:=hx x b f s' a' w' k1 p l q F;cases x<;>first | exact absurd rfl F | exact this
  all_goals
   have j:g d s:=h;exact hn X d s a w j m (Ext.refl X s w) n
theorem nO{c:Code}{a:Act}{w:qW}{b:Prop}(h:c.wpIn (Fw none) 0 P (λ_ _ _=>b) a w):b:=by
 obtain⟨_,_,_,h,_⟩:=h {(default:Frame) with roundOf:=none} [] [] rfl trivial (by unfold Fence.room;trivial);exact h
theorem o8:∀{l:qV}{i:Nat}{t:TV}{K:Prop},o9 l i t K->K/\∀m v,l[m]?=some v->aC t (i+m)=some v:=by
 intro l;induction l with
 | nil=>intro i t K h;exact⟨h,λm v a=>by simp at a⟩
 | cons x l b=>
  intro i t K h;obtain⟨u,h1,h2⟩:=kP (K:=λu=>yes (oL x u) (o9 l (Nat.succ i) t K)) h;obtain⟨h3,h4⟩:=aB h2;obtain rfl:=lD h3;obtain⟨c,h7⟩:=b h4;refine⟨c,λm v a=>?_⟩;cases m with
  | zero=>simp at a;subst a;simpa using h1
  | succ m=>have:=h7 m v (by simpa using a);rw[show i+(m+1)=Nat.succ i+m by omega];exact this
theorem iw:∀{a:qV}{i:Nat}{t:TV}{K:TV->Prop},setArgs a i t K->∃b,K b/\∀m,aC b m=if i<=m/\m<i+a.length then a[m - i]? else aC t m:=by
 intro a;induction a with
 | nil=>intro i t K h;exact⟨t,h,λm=>by rw[qae (by simp)]⟩
 | cons v a f=>
  intro i t K h;obtain⟨k,h3,h4⟩:=dL (K:=λt=>setArgs a (Nat.succ i) t K) h;obtain⟨g,h5,j⟩:=f h4;refine⟨g,h5,λm=>?_⟩;rw[j m,h3 m];simp only[Nat.succ_eq_add_one,qbc];by_cases c:m=i
  .subst c;rw[qae (by omega),qaj rfl,qaj (by omega)];simp
  by_cases d:i<=m/\m<i+(a.length+1)
  .rw[qaj (by omega),qaj d];have:m - i=(m - (i+1))+1:=by omega
   rw[this];rfl
  rw[qae (by omega),qae c,qae d]
def Good(Y:Cx)(s:AS)(w:World)(e:Ending)(w':World):Prop:=e=.returned (.bool true)/\∃Z s',Ext Y s w Z s' w'
theorem jH{fn:Func}{d:Prop}{c:AA}{a:Act}{X:Cx}{s:AS}{w:qW}(h:fin fn P d c s)(g:Rel X s w)(f:eu X c a):d/\a.defers=[]/\(Go.results fn a.tmps).run P w=.ok (.bool true) w:=by
 obtain⟨h1,h2⟩:=aB h;have h3:c.defers=[]:=by simpa using h1
 obtain⟨l,u,h4,h5,i⟩:=gq (P:=P) g f.regs h2;obtain⟨b,h7,j⟩:=gZ h4;obtain⟨rfl,k⟩:=aB j;rw[h7,gX]at h5;subst h5;have:=f.defers;rw[h3]at this;exact⟨k,this,i⟩
theorem sU{c:Code}{fn:Func}{X:Cx}{s:AS}{w:qW}{b:AA}{a:Act}(C:dn P X.ρ T e none)(D:Rel X s w)(j:eu X b a){p us:qV}(hp:aO X p us)(H:∀(m:Nat)(u:qv),us[m]?=some u->a.tmps[m]?=some u):
  ∀{l:List (qV)},chain l c fn P T e b s->(∀q∈l,∃us,aO X q us)->p∈l->c.wpIn (Fw none) 0 P (bodyPost P fn (Good X s w)) a w:=by
 intro l;induction l with
 | nil=>intro _ _ h;cases h
 | cons q l I=>
  intro h E J;have K:setArgs q 0 b.regs (λt=>aZ c P T e ⟨t,b.n,b.defers⟩ s (fin fn P (chain l c fn P T e b s)) (yM fn P (chain l c fn P T e b s))):=h;obtain⟨t,h1,h2⟩:=iw K;by_cases F:p=q
  .subst F;have L:=hp.length;have A:eu X ⟨t,b.n,b.defers⟩ a:=⟨⟨j.regs.1,λm v d=>by
    change aC t m=some v at d
    rw[h2 m]at d;split at d
    .obtain⟨u,h5,k⟩:=hp.get d;exact⟨u,H m u (by simpa using h5),k⟩
    exact j.regs.2 m v d⟩,j.defers⟩
   refine bz c _ a X s w _ _ _ C h1 D A (λo y s' a' w' k1 g z i=>?_) (λx o y s' a' w' k1 g z i M=>?_)
   .obtain⟨_,f1,B⟩:=jH k1 g i;exact⟨f1,_,B,rfl,o,s',z⟩
   cases x<;>first | exact k1.elim | skip;obtain⟨_,f1,B⟩:=jH (show fin fn P _ y s' from k1) g i;exact⟨f1,_,B,rfl,o,s',z⟩
  obtain⟨f,G⟩:=E q qag;have L:=G.length;have A:eu X ⟨t,b.n,b.defers⟩ ⟨f.toArray++a.tmps.extract f.length a.tmps.size,a.defers⟩:=⟨⟨by
   have:=j.regs.1;simp;omega,λm v d=>by
   change aC t m=some v at d
   rw[h2 m]at d;split at d
   .obtain⟨u,h5,k⟩:=G.get d;refine⟨u,?_,k⟩;rw[qbh (by simpa using by omega)];simpa using h5
   rename_i Q;obtain⟨u,h5,k⟩:=j.regs.2 m v d;refine⟨u,?_,k⟩;have R:=(qaf.1 h5).1;rw[Array.getElem?_append_right (by simpa using by omega)];have S:m - f.toArray.size+f.length=m:=by simp;omega
   simp only[Array.getElem?_extract,List.size_toArray];rw[qaj (by omega)];rw[show f.length+(m - f.length)=m by omega];exact h5⟩,j.defers⟩
  have N:chain l c fn P T e b s:=nO (P:=P) (c:=c) (a:=⟨f.toArray++a.tmps.extract f.length a.tmps.size,a.defers⟩) (w:=w) (bz c _ _ X s w _ _ _ C h1 D A (λo y s' a' w' k1 g z i=>(jH k1 g i).1) (λx o y s' a' w' k1 g z i M=>by
   cases x<;>first | exact k1.elim | skip;exact(jH (show fin fn P _ y s' from k1) g i).1))
  refine I N (λq O=>E q (qac _ O)) ?_;obtain h | h:=qan.1 J
  .exact absurd h F
  exact h
theorem wY(j:dZ P){b:FuncId->Bool}(B:iM P b){X:Cx}(o:bn P X.ρ T){k n:Nat}{args us p:qV}{l:List (qV)}{s:AS}{w:qW}{f:FuncId}{fn:Func}(hf:P.funcs[f]?=some fn)
  (h:law k n args l P T b s fn) (J:Rel X s w) (hl:aO X args us) (hc:∀v∈args,∃k i,v=.complex .f64 k i) (hp:aO X p us) (K:∀q∈l,∃us,aO X q us) (L:p∈l):Calls P f us.toArray w (Good X s w):=by
 rw[<-callsIn_wide (n:=0)];obtain⟨c,M,h1⟩:=aH h;obtain⟨t,h2,h3⟩:=iw h1;have N:=hl.length;have C:dn P X.ρ T ⟨b,go n P T b false,go n P T b true,false⟩ none:=⟨j,o,(go_ok j o B n).1,(go_ok j o B n).2,rfl⟩;refine callsIn_of_wp hf M trivial ?_;have O:eu X ⟨t,fn.ntmps,[]⟩ {tmps:=us.toArray++Array.replicate (fn.ntmps - us.toArray.size) undef,defers:=[]}:=by
  refine⟨⟨by simp;omega,λm v a=>?_⟩,rfl⟩;change aC t m=some v at a
  rw[h3 m]at a;split at a
  .obtain⟨u,h5,h6⟩:=hl.get a;refine⟨u,?_,h6⟩;rw[qbh (by simpa using by omega)];simpa using h5
  rw[bI]at a;cases a
 refine split_ok (r:=none) k c _ _ X s w _ _ _ C h2 J O (λD Q s' a' w' k1 R d E=>?_) (λx D Q s' a' w' k1 _ _ _ _=>k1.elim);obtain⟨S,U⟩:=o8 k1;have V:∀(m:Nat)(u:qv),us[m]?=some u->a'.tmps[m]?=some u:=λm u F=>by
  have y:m<args.length:=by rw[<-N];exact(qax.1 F).1
  have G:=U m _ (qak y);rw[qbj]at G;obtain⟨u',W,z⟩:=E.regs.2 m _ G;obtain⟨u2,H,I⟩:=hl.get (qak y);rw[F]at H;cases H;obtain⟨k',i',Y⟩:=hc _ (qbb y);rw[Y,eZ]at z I;rw[d.le.ρ]at z;rw[W,z,I]
 have A:∀(e:Ending)(g:qW),Good D s' w' e g->Good X s w e g:=λe g ⟨Z,aa,s2,g2⟩=>⟨Z,aa,s2,d.trans g2⟩;have:=sU (c:=postC k c) (fn:=fn) (by rw[d.le.ρ];exact C) R E (hp.mono d.le) V S (λq hq=>let⟨us,h⟩:=K q hq;⟨us,h.mono d.le⟩) L;exact Code.wpIn_mono (λx a2 g h2=>by
  cases x<;>first
   | exact h2.elim
   | exact⟨h2.1,h2.2.choose,h2.2.choose_spec.1,A _ _ h2.2.choose_spec.2⟩
   | exact⟨h2.1,A _ _ h2.2⟩
   | exact A _ _ h2) this
end
def yo{α:Type}:BT (Option α)->List (Nat×α)
 | .nil=>[]
 | .node _ _ v l r=>(match v with | some x=>[(0,x)] | none=>[])++(yo l).map (λp=>(2*p.1+1,p.2))++(yo r).map (λp=>(2*p.1+2,p.2))
theorem sw{a:Type}:∀{t:BT (Option a)} {id:Nat} {b:a},aC t id=some b->(id,b)∈yo t:=by
 intro t;induction t with
 | nil=>intro id b h;rw[bI]at h;cases h
 | node x e v l r c d=>
  intro id b h;unfold yo;cases id with
  | zero=>
   change v=some b at h
   subst h;exact qah _ (qah _ (by simp))
  | succ m=>
   simp only[aC]at h;split at h
   .have:=c h;refine qah _ (qap _ (List.mem_map.2 ⟨_,this,?_⟩));simp;omega
   have:=d h;refine qap _ (List.mem_map.2 ⟨_,this,?_⟩);simp;omega
def valOf:Lit->Value
 | .int k z=>.int k z
 | .string s=>.string ⟨⟨s⟩⟩
 | .bool b=>.bool b
 | _=>.nilFunc
theorem cells_of_lits{P:qp}{w:qW}{a:Nat}{t e:qT}{n:Nat}{cs:qV}{ls:List Lit}{p:List MemPlace}
  (k:P.underlying t=some (.array n e)) (m:P.cellsOf e=1) (o:P.cellsOf t=n)
  (r:∀a c l q,DataW.trod (λ_=>()) P w 0 (λ_=>true) false a e [c]=some (.lit l,q)->c=valOf l)
  (h:DataW.trod (λ_=>()) P w 0 (λ_=>true) false a t cs=some (.agg (ls.map .lit),p)):cs=ls.map valOf:=by
 cases a with
 | zero=>simp[DataW.trod]at h
 | succ a=>
  simp only[DataW.trod,k,m,o,Nat.mul_one]at h;split at h
  .rename_i hl;obtain⟨d,g,hx⟩:=Option.map_eq_some_iff.1 h;have j:d.map (·.1)=ls.map λf=>(DataW.lit f:DataW Unit):=by
    have:=congrArg Prod.fst hx;simpa using this
   have z:d.length=n:=by simpa using mapM_length g
   have A:ls.length=n:=by
    have:=congrArg List.length j;simp at this;omega
   have B:cs.length=n:=by simpa using hl
   apply List.ext_getElem?;intro i;by_cases s:i<n
   .obtain⟨b,hb,hf⟩:=mapM_at g i i (by simp[s]);have h2:(d.map (·.1))[i]?=some b.1:=by simp[hb]
    rw[j]at h2;simp only[List.getElem?_map,Option.map_eq_some_iff]at h2;obtain⟨f,u,v⟩:=h2;have x:(cs.drop i).take 1=[cs[i]'(by omega)]:=by
     rw[List.drop_eq_getElem_cons (by omega)];rfl
    rw[x]at hf;have y:=r a _ f b.2 (by rw[hf,v]);simp only[List.getElem?_map,u,Option.map_some];rw[qak (by omega),y]
   rw[qbe (by omega),qbe (by simp;omega)]
  cases h
theorem jB{P:qp}{w:qW}{e:qT}{k:IntKind}(b:P.underlying e=some (.int k)):∀a c l q,DataW.trod (λ_=>()) P w 0 (λ_=>true) false a e [c]=some (.lit l,q)->c=valOf l:=by
 intro a c l q h;obtain⟨d,hc,hx,_⟩:=DataW.trod_int b h;have f:l=.int k d:=by have:=congrArg Prod.fst hx;simpa using this
 subst f;simpa [valOf] using hc
theorem eX{P:qp}{w:qW}{e:qT}(b:P.underlying e=some .string):∀a c l q,DataW.trod (λ_=>()) P w 0 (λ_=>true) false a e [c]=some (.lit l,q)->c=valOf l:=by
 intro a c l q h;obtain⟨s,hc,hx,_⟩:=DataW.trod_string b h;have d:l=.string s.data.toList:=by have:=congrArg Prod.fst hx;simpa using this
 subst d;simpa [valOf] using hc
theorem dx{P:qp}{w:qW}{name:String}{ls:List Lit}{g:Nat}{t e:qT}{n:Nat}(h:VarReads P w name (.agg (ls.map .lit)))(hg:P.globalNamed name=some g)(b:(P.globals[g]?).map (·.type)=some t)
  (d:P.underlying t=some (.array n e)) (f:P.cellsOf e=1) (i:P.cellsOf t=n) (j:∀a c l q,DataW.trod (λ_=>()) P w 0 (λ_=>true) false a e [c]=some (.lit l,q)->c=valOf l):
  ∃ty fz,w.heap[g]?=some (.cells (ls.map valOf).toArray ty fz):=by
 obtain⟨k,m,cs,a,p,h1,h2,h3,h4⟩:=h;obtain rfl:=Option.some.inj (hg.symm.trans h1);obtain rfl:=Option.some.inj (b.symm.trans h2);have:=cells_of_lits d f i j h4;unfold World.var? at h3;rw[hg]at h3;simp only[Option.bind_some]at h3;split at h3
 .rename_i c ty fz hh;cases h3;exact⟨ty,fz,by rw[hh,<-this]⟩
 cases h3
theorem kI{P:qp}{w:qW}:∀{l:List (String×DataW Unit)} {a:List MemPlace},DataW.LaidVars P w l a->∀n d,(n,d)∈l->
  ∃g t cs b p,P.globalNamed n=some g/\(P.globals[g]?).map (·.type)=some t/\w.var? P n=some cs/\DataW.trod (λ_=>()) P w 0 (λ_=>true) false b t cs.toList=some (d,p)/\∀x∈MemPlace.row ⟨g,0,none⟩ cs.size,x∈a
 | [],_,_,_,_,c=>by cases c
 | (n',d')::r,a,h,n,d,c=>by
  obtain⟨g,t,cs,b,p,q,h1,h2,h3,h4,h5,f⟩:=h;obtain e | e:=qan.1 c
  .cases e;exact⟨g,t,cs,b,p,h1,h2,h3,h4,λx hx=>by rw[f];exact qah _ (qah _ hx)⟩
  obtain⟨i,j,k,m,o,k1,s,u,v,y⟩:=kI h5 n d e;exact⟨i,j,k,m,o,k1,s,u,v,λx hx=>by rw[f];exact qap _ (y x hx)⟩
theorem gp{P:qp}{w:qW}{l:List (String×DataW Unit)}{name:String}{g:Nat}{ti d te ts:qT}{h:Array (String×TypeId)}{nm:String}{f:Field}{i:List UInt8}(hl:laidMet P l w)(j:(name,.iface nm (.ptr (.agg [.lit (.string i)])))∈l)(hg:P.globalNamed name=some g)(k:(P.globals[g]?).map (·.type)=some ti)
  (m:P.underlying ti=some (.interface h)) (n:∀u,P.typeName? 3 u=some nm->u=d)
  (hp:P.underlying d=some (.pointer te)) (q:P.underlying te=some (.struct #[f])) (r:f.type=ts) (t:f.offset=0) (hs:P.underlying ts=some .string) (hc:P.cellsOf te=1) (x:P.cellsOf ts=1):
  ∃ty fz b o,w.heap[g]?=some (.cells #[.iface d (.pointer (some ⟨b,o,none⟩))] ty fz):=by
 obtain⟨C,y,_,z⟩:=hl;obtain⟨D,E,cs,F,p,h1,h2,h3,h4,h5⟩:=kI y _ _ j;obtain rfl:=Option.some.inj (hg.symm.trans h1);obtain rfl:=Option.some.inj (k.symm.trans h2);unfold World.var? at h3;rw[hg]at h3;simp only[Option.bind_some]at h3;split at h3
 .rename_i c ty fz hh;cases h3;obtain⟨a,s,k1,A,_⟩:=errorString_of_trod m n hp q r t hs hc x h4 (λu v e=>by
   have B:cs.size=1:=by have:=congrArg List.length e;simpa using this
   have hx:=h5 (.cell g 0) (by unfold MemPlace.row;rw[B];simp);refine(z g 0 hx).2 u v ?_;unfold World.cell?;simp only[hh];have:cs[0]?=cs.toList[0]?:=by simp
   simp[this,e])
  obtain⟨b,o,G⟩:=a;obtain rfl:=Go.Proofs.cell_spot A;refine⟨ty,fz,b,o,?_⟩;rw[hh];have:cs= #[.iface d (.pointer (some ⟨b,o,none⟩))]:=by apply qar;simpa using k1
  rw[this]
 cases h3
theorem uI:iM Tryz.prog np:=by
 intro f hf args w;obtain rfl:f=24:=qaa hf;refine⟨⟨_,_,Tryz.func24,rfl⟩,callsDIn_of_wpSIn Tryz.func24 rfl trivial λa cs b=>?_⟩;rw[Tryz.ntmps24];have c:20<=(args++Array.replicate (20 - args.size) undef).size:=by simp;omega
 generalize args++Array.replicate (20 - args.size) undef=tmps at c;apply wpSIn_seq;apply wpSIn_region;have h2:2<tmps.size:=by omega
 have h5:5<tmps.size:=by omega
 have d:6<tmps.size:=by omega
 have h7:7<tmps.size:=by omega
 simp[wpOpsSIn,go_sem,recoverD,b,Exit.thenS,Oper.about,Act.eval,Act.put,h5,Array.getD_eq_getD_getElem?];apply wpSIn_seq;apply wpSIn_seq;apply wpSIn_region;simp[wpOpsSIn,go_sem,Exit.thenS,Oper.about,Act.eval,Act.put,h2,d,Array.getD_eq_getD_getElem?];refine wpSIn_cond (t:=true) (by simp[Act.eval,h7,Array.getD_eq_getD_getElem?]) ?_;simp only[if_true];refine wpSIn_of_wpIn rfl (wpIn_ret ?_);cases a;simp_all [bodyPostS,Exit.thenS]
 exact⟨.tuple #[],by simp[Go.results,Tryz.results24]⟩
def aU:DataW Unit->List Lit
 | .agg l=>l.map λd=>match d with | .lit x=>x | _=>.bool false
 | _=>[]
def agree(c:AB)(l:List Value):Bool:=match c with
 | .inl c=>c.ro&&Nat.beq c.n l.length&&c.d.isNone&&(List.range l.length).all (λi=>match aC c.vs i with | some v=>(match l[i]? with | some u=>oL v u&&dw v&&one v | none=>false) | none=>false)
 | _=>false
theorem dJ{X:Cx}{w:qW}{c:CB}{l:qV}{g:Nat}{ty:qT}{fz:Nat×Nat}(h:agree (.inl c) l=true)(b:c.ty=ty)(d:w.heap[g]?=some (.cells l.toArray ty fz)):CR X w ⟨g,0,l.length⟩ c:=by
 unfold agree at h;simp only[qab]at h;obtain⟨⟨⟨h1,h2⟩,h3⟩,h4⟩:=h;have h2:=qaa h2;refine⟨l.toArray,fz,by rw[b];exact d,by rw[h2];exact qbd _,by simp,(λe=>by rw[h1]at e;cases e),λi v a=>?_⟩;unfold bO at a;split at a
 .rename_i hi;rw[List.all_eq_true]at h4;have:=h4 i (List.mem_range.2 (by omega));split at this
  .rename_i u hu;rw[hu]at a;simp only[Option.some.injEq]at a;subst a;split at this
   .rename_i u' hu';simp only[qab]at this;obtain⟨⟨k1,f⟩,j⟩:=this;obtain rfl:=lD k1;refine⟨j,u,?_,dD X f⟩;simpa using hu'
   cases this
  cases this
 cases a
theorem gLaid{a:qW}(h:laidMetH Tryz.prog Rows.fueledRow.laid a):laidMet Tryz.prog Rows.fueledRow.laid a:=by
 have b:laidMet Tryz.prog Rows.fueledRow.laid a:=h;exact b
def zz:List Value:=(aU Rows.laid_loom_code_early).map valOf
theorem zI{a:qW}(h:laidMet Tryz.prog Rows.fueledRow.laid a):∃ty fz,a.heap[0]?=some (.cells zz.toArray ty fz):=
 dx (ls:=aU Rows.laid_loom_code_early) (g:=0) (t:=254) (e:=9) (n:=67) (laidMet.reads h (show("loom/code.early",(.agg ((aU Rows.laid_loom_code_early).map .lit):DataW Unit))∈Rows.fueledRow.laid from(.tail _ (.tail _ (.tail _ (.tail _ (.tail _ (.head _)))))))) (by kernel_rfl) (by kernel_rfl) (by kernel_rfl) (by kernel_rfl) (by kernel_rfl) (eX (by kernel_rfl))
theorem Ai(ty:Nat->qT):agree (hb0 ty) zz=true:=by kernel_rfl
def zy:List Value:=(aU Rows.laid_loom_code_compares).map valOf
theorem zH{a:qW}(h:laidMet Tryz.prog Rows.fueledRow.laid a):∃ty fz,a.heap[1]?=some (.cells zy.toArray ty fz):=
 dx (ls:=aU Rows.laid_loom_code_compares) (g:=1) (t:=255) (e:=9) (n:=11) (laidMet.reads h (show("loom/code.compares",(.agg ((aU Rows.laid_loom_code_compares).map .lit):DataW Unit))∈Rows.fueledRow.laid from(.tail _ (.tail _ (.tail _ (.tail _ (.tail _ (.tail _ (.head _))))))))) (by kernel_rfl) (by kernel_rfl) (by kernel_rfl) (by kernel_rfl) (by kernel_rfl) (eX (by kernel_rfl))
theorem Ah(ty:Nat->qT):agree (hb1 ty) zy=true:=by kernel_rfl
def zx:List Value:=(aU Rows.laid_loom_code_computes).map valOf
theorem zG{a:qW}(h:laidMet Tryz.prog Rows.fueledRow.laid a):∃ty fz,a.heap[2]?=some (.cells zx.toArray ty fz):=
 dx (ls:=aU Rows.laid_loom_code_computes) (g:=2) (t:=256) (e:=9) (n:=18) (laidMet.reads h (show("loom/code.computes",(.agg ((aU Rows.laid_loom_code_computes).map .lit):DataW Unit))∈Rows.fueledRow.laid from(.tail _ (.tail _ (.tail _ (.tail _ (.tail _ (.tail _ (.tail _ (.head _)))))))))) (by kernel_rfl) (by kernel_rfl) (by kernel_rfl) (by kernel_rfl) (by kernel_rfl) (eX (by kernel_rfl))
theorem Ag(ty:Nat->qT):agree (hb2 ty) zx=true:=by kernel_rfl
def zw:List Value:=(aU Rows.laid_math_bits_deBruijn64tab).map valOf
theorem zF{a:qW}(h:laidMet Tryz.prog Rows.fueledRow.laid a):∃ty fz,a.heap[4]?=some (.cells zw.toArray ty fz):=
 dx (ls:=aU Rows.laid_math_bits_deBruijn64tab) (g:=4) (t:=399) (e:=5) (n:=64) (laidMet.reads h (show("math/bits.deBruijn64tab",(.agg ((aU Rows.laid_math_bits_deBruijn64tab).map .lit):DataW Unit))∈Rows.fueledRow.laid from(.tail _ (.head _)))) (by kernel_rfl) (by kernel_rfl) (by kernel_rfl) (by kernel_rfl) (by kernel_rfl) (jB (k:=.u8) (by kernel_rfl))
theorem Af(ty:Nat->qT):agree (hb4 ty) zw=true:=by kernel_rfl
def zu:List Value:=(aU Rows.laid_math_bits_deBruijn32tab).map valOf
theorem zD{a:qW}(h:laidMet Tryz.prog Rows.fueledRow.laid a):∃ty fz,a.heap[5]?=some (.cells zu.toArray ty fz):=
 dx (ls:=aU Rows.laid_math_bits_deBruijn32tab) (g:=5) (t:=400) (e:=5) (n:=32) (laidMet.reads h (show("math/bits.deBruijn32tab",(.agg ((aU Rows.laid_math_bits_deBruijn32tab).map .lit):DataW Unit))∈Rows.fueledRow.laid from(.head _))) (by kernel_rfl) (by kernel_rfl) (by kernel_rfl) (by kernel_rfl) (by kernel_rfl) (jB (k:=.u8) (by kernel_rfl))
theorem Ae(ty:Nat->qT):agree (hb5 ty) zu=true:=by kernel_rfl
def zq:List Value:=(aU Rows.laid_internal_strconv_uint64pow10).map valOf
theorem zA{a:qW}(h:laidMet Tryz.prog Rows.fueledRow.laid a):∃ty fz,a.heap[8]?=some (.cells zq.toArray ty fz):=
 dx (ls:=aU Rows.laid_internal_strconv_uint64pow10) (g:=8) (t:=418) (e:=238) (n:=20) (laidMet.reads h (show("internal/strconv.uint64pow10",(.agg ((aU Rows.laid_internal_strconv_uint64pow10).map .lit):DataW Unit))∈Rows.fueledRow.laid from(.tail _ (.tail _ (.head _))))) (by kernel_rfl) (by kernel_rfl) (by kernel_rfl) (by kernel_rfl) (by kernel_rfl) (jB (k:=.u64) (by kernel_rfl))
theorem Ad(ty:Nat->qT):agree (y7 ty) zq=true:=by kernel_rfl
theorem star: "*" ++ "errors.errorString" = "*errors.errorString" :=by decide
theorem pg(u:qT)(h:Tryz.prog.typeName? 3 u=some "*errors.errorString"):u=409:=
 typeName_ptr_named (nm:= "errors.errorString") (by rw[star];kernel_rfl) (by kernel_rfl) (by decide) u (by rw[star];exact h)
theorem zC{a:qW}(h:laidMet Tryz.prog Rows.fueledRow.laid a):∃ty fz b o,a.heap[6]?=some (.cells #[.iface 409 (.pointer (some ⟨b,o,none⟩))] ty fz):=
 gp (name:= "strconv.ErrSyntax") (g:=6) (ti:=396) (te:=411) (ts:=9) h ((.tail _ (.tail _ (.tail _ (.tail _ (.head _)))))) (by kernel_rfl) (by kernel_rfl) Tryz.underlying396 pg Tryz.underlying409 Tryz.underlying411 rfl rfl Tryz.underlying9 (by kernel_rfl) (by kernel_rfl)
theorem zB{a:qW}(h:laidMet Tryz.prog Rows.fueledRow.laid a):∃ty fz b o,a.heap[7]?=some (.cells #[.iface 409 (.pointer (some ⟨b,o,none⟩))] ty fz):=
 gp (name:= "strconv.ErrRange") (g:=7) (ti:=396) (te:=411) (ts:=9) h ((.tail _ (.tail _ (.tail _ (.head _))))) (by kernel_rfl) (by kernel_rfl) Tryz.underlying396 pg Tryz.underlying409 Tryz.underlying411 rfl rfl Tryz.underlying9 (by kernel_rfl) (by kernel_rfl)
def start(ρ:Nat->Int)(b o b' o':Nat):Cx:=⟨ρ,λi=>if i=9 then⟨b,o,0⟩ else if i=10 then⟨b',o',0⟩ else⟨i,0,match i with | 0=>zz.length | 1=>zy.length | 2=>zx.length | 4=>zw.length | 5=>zu.length | 6=>1 | 7=>1 | 8=>zq.length | _=>0⟩,11⟩
theorem l8{ty:Nat->qT}{id:Nat}{b:AB}(h:aC (h0 ty) id=some b):(id=0/\b=hb0 ty)\/(id=1/\b=hb1 ty)\/(id=2/\b=hb2 ty)\/(id=4/\b=hb4 ty)\/(id=5/\b=hb5 ty)\/(id=6/\b=hb6 ty)\/(id=7/\b=hb7 ty)\/(id=8/\b=y7 ty):=by
 have a:=sw h;have c:yo (h0 ty)=[(0,hb0 ty),(1,hb1 ty),(7,hb7 ty),(5,hb5 ty),(2,hb2 ty),(4,hb4 ty),(8,y7 ty),(6,hb6 ty)]:=rfl;rw[c]at a;simp only[qan,List.not_mem_nil,or_false,Prod.mk.injEq]at a;obtain⟨rfl,rfl⟩ | ⟨rfl,rfl⟩ | ⟨rfl,rfl⟩ | ⟨rfl,rfl⟩ | ⟨rfl,rfl⟩ | ⟨rfl,rfl⟩ | ⟨rfl,rfl⟩ | ⟨rfl,rfl⟩:=a
 .exact .inl ⟨rfl,rfl⟩
 .exact .inr (.inl ⟨rfl,rfl⟩)
 .exact .inr (.inr (.inr (.inr (.inr (.inr (.inl ⟨rfl,rfl⟩))))))
 .exact .inr (.inr (.inr (.inr (.inl ⟨rfl,rfl⟩))))
 .exact .inr (.inr (.inl ⟨rfl,rfl⟩))
 .exact .inr (.inr (.inr (.inl ⟨rfl,rfl⟩)))
 .exact .inr (.inr (.inr (.inr (.inr (.inr (.inr (⟨rfl,rfl⟩)))))))
 exact .inr (.inr (.inr (.inr (.inr (.inl ⟨rfl,rfl⟩)))))
theorem o5{l:qW}(h:laidMetH Tryz.prog Rows.fueledRow.laid l)(d:Nat->Int):∃X ty,X.ρ=d/\Rel X ⟨h0 ty,11⟩ l:=by
 have hl:=gLaid h;obtain⟨m,H,w0⟩:=zI hl;obtain⟨n,f1,p⟩:=zH hl;obtain⟨q,I,r⟩:=zG hl;obtain⟨s,J,t⟩:=zF hl;obtain⟨u,K,w⟩:=zD hl;obtain⟨x,L,y⟩:=zA hl;obtain⟨z,A,b,o,B⟩:=zC hl;obtain⟨C,D,b',o',E⟩:=zB hl;let ty:Nat->qT:=λi=>match i with | 0=>m | 1=>n | 2=>q | 4=>s | 5=>u | 6=>z | 7=>C | 8=>x | _=>0
 have hj:∀i,i<=8->((start d b o b' o').j i).b=i/\((start d b o b' o').j i).base=0:=λi f=>by
  simp only[start];rw[qae (by omega),qae (by omega)];exact⟨rfl,rfl⟩
 have g:∀id c,aC (h0 ty) id=some c->id<=8:=λid c hc=>by
  obtain⟨h,_⟩ | ⟨h,_⟩ | ⟨h,_⟩ | ⟨h,_⟩ | ⟨h,_⟩ | ⟨h,_⟩ | ⟨h,_⟩ | ⟨h,_⟩:=l8 hc<;>omega
 refine⟨start d b o b' o',ty,rfl,rfl,λid c hc=>?_,λid F c M hc G e=>?_,(show(9:Nat)<=11 by decide),λi f=>hj i (by unfold NG at f;omega)⟩
 .refine⟨Nat.lt_of_le_of_lt (g id c hc) (show(8:Nat)<11 by decide),?_⟩;obtain⟨rfl,rfl⟩ | ⟨rfl,rfl⟩ | ⟨rfl,rfl⟩ | ⟨rfl,rfl⟩ | ⟨rfl,rfl⟩ | ⟨rfl,rfl⟩ | ⟨rfl,rfl⟩ | ⟨rfl,rfl⟩:=l8 hc
  .exact dJ (Ai ty) rfl w0
  .exact dJ (Ah ty) rfl p
  .exact dJ (Ag ty) rfl r
  .exact dJ (Af ty) rfl t
  .exact dJ (Ae ty) rfl w
  .refine⟨_,A,B,qbd _,(show(0:Nat)+1<=1 by decide),(λe=>by cases e),λi v a=>?_⟩;have f:i<1:=by unfold bO at a;split at a;assumption;cases a
   obtain rfl:i=0:=by omega
   have k:some (Value.iface 409 (.pointer (some ⟨9,0,none⟩)))=some v:=a;cases k;exact⟨rfl,_,rfl,fJ.2 ⟨_,rfl,bf.2 ⟨(show(9:Nat)<11 by decide),rfl⟩⟩⟩
  .refine⟨_,D,E,qbd _,(show(0:Nat)+1<=1 by decide),(λe=>by cases e),λi v a=>?_⟩;have f:i<1:=by unfold bO at a;split at a;assumption;cases a
   obtain rfl:i=0:=by omega
   have k:some (Value.iface 409 (.pointer (some ⟨10,0,none⟩)))=some v:=a;cases k;exact⟨rfl,_,rfl,fJ.2 ⟨_,rfl,bf.2 ⟨(show(10:Nat)<11 by decide),rfl⟩⟩⟩
  exact dJ (Ad ty) rfl y
 rw[(hj id (g _ _ hc)).1,(hj F (g _ _ G)).1]at e;exact e
theorem o6{X:Cx}{ty:Nat->qT}(b:Nat):Fr X ⟨h0 ty,11⟩ b:=λid c hc a=>by
 obtain⟨_,rfl⟩ | ⟨_,rfl⟩ | ⟨_,rfl⟩ | ⟨_,rfl⟩ | ⟨_,rfl⟩ | ⟨_,rfl⟩ | ⟨_,rfl⟩ | ⟨_,rfl⟩:=l8 hc<;>cases a
theorem uz:dZ Tryz.prog:=⟨by kernel_rfl,λf fn h=>by
 have a:(Tryz.prog.funcs.toList.all λfn=>!(fn.name== "runtime.NumGoroutine"))=true:=by kernel_rfl
 rw[List.all_eq_true]at a;have:=a fn (by simpa using Array.mem_of_getElem? h);simpa using this⟩
theorem yX(b:Nat->Int):bn Tryz.prog b T0:=⟨λi h=>by(cases h),λX a c t x e r d f w h=>by(cases h),λX a k x r g n h=>by(cases h),λX a c x r d w h=>by(cases h)⟩
theorem awake_ok{a:qW}(h:laidMetH Tryz.prog Rows.fueledRow.laid a):Calls Tryz.prog 4 #[] a λe c=>e=.returned (.bool true)/\c.os=a.os/\c.output=a.output/\a.heap.size<=c.heap.size/\∀b,b<a.heap.size->c.heap[b]?=a.heap[b]?:=by
 obtain⟨X,ty,k,f⟩:=o5 h (λ_=>0);have g:law 0 60 [] [[]] Tryz.prog T0 np ⟨h0 ty,11⟩ Tryz.f4:=by rw[ka ty];trivial
 have key:Calls Tryz.prog 4 ([]:qV).toArray a (Good X ⟨h0 ty,11⟩ a):=wY uz uI (yX _) Tryz.func4 g f (aW.2 rfl) (λv i=>by cases i) (aW.2 rfl) (λq d=>by
  simp only[qaq]at d;subst d;exact⟨[],aW.2 rfl⟩) (by simp)
 exact key.mono λe c ⟨h1,l,s',h2⟩=>⟨h1,h2.io.1,h2.io.2,h2.size,λb j=>(h2.keep b j (o6 b)).1⟩
end Go.Proofs.YtfkcodlceoghpaaGreatDoor.Zev
