import Derived.Test.YtdaafkmhfedkiaaGreatX5
namespace Go.Proofs.YtdaafkmhfedkiaaGreat
set_option maxHeartbeats 3200000
set_option maxRecDepth 100000
open Go.RowKit Go.Proofs.Tryz
section
variable {F:Fence} {n:Nat} {P:Program}
def TP(P:Program)(l:Nat)(R:Ending->World->Prop):Exit->Act->World->Prop
 | .normal,_,w=>∃v w',(Instr.endRound l none).run P w=.ok v w'/\R (.returned v) w'
 | .panic chain,a,w=>a.defers=[]/\R (.panicked chain) w
 | _,_,_=>False
theorem Ja{l:Nat}{f:FuncId}{tmps:Array qv}{assign body:Code}{w:qW}{R:Ending->qW->Prop}(m:F.fn f)(i:(∃fn,P.funcs[f]?=some fn)\/∀a w',¬R (.panicked a) w')
  (h:assign.wpIn (F.inRound l) n P (Exit.then (fun y z=>∃o,(Instr.beginRound l).run P z=.ok () o/\body.wpIn (F.inRound l) n P (TP P l R) y o) (fun _ _ _=>False))
   {tmps:=tmps,defers:=[]} w):
  RoundIn F n P l f tmps assign body w R:=by
 refine⟨m,fun d rest A=>?_⟩;have room:(F.inRound l).room ((d::rest).length+1+n):=A;have start:∀e,(e=[.code assign,.beginRound,.code body])->Frame.round l f tmps assign body .normal=({(default:Frame) with fn:=f,kind:=.normal,roundOf:=some l}:Frame).atR {tmps:=tmps,defers:=[]} e:=by
  rintro _ rfl;simp[Frame.round,Frame.atR]
 rw[start _ rfl];generalize j:({(default:Frame) with fn:=f,kind:=.normal,roundOf:=some l}:Frame)=fr;have g:fr.roundOf=some l:=by rw[<-j]
 have B:fr.kind=.normal:=by rw[<-j]
 have p:fr.fn=f:=by rw[<-j]
 have b:(F.inRound l).fn fr.fn:=by rw[p];exact m
 obtain⟨C,D,K,q,r⟩:=h fr [.beginRound,.code body] (d::rest) g b room;cases C<;>first | exact q.elim | skip;obtain⟨L,E,G⟩:=q;obtain⟨H,s,t,c,u⟩:=G fr [] (d::rest) g b room;have begun:=StepsIn.one (I:=Machine.fenced P (F.inRound l)) (fenced_calm (fr:=fr.atR D [.beginRound,.code body]) b room rfl) (stepR_beginRound (cs:=d::rest) (k:=[.code body]) g E);cases H<;>first | exact c.elim | skip
 .obtain⟨v,w4,hend,hR⟩:=c;exact⟨.returned v,w4,hR,(StepsIn.trans r begun).trans (StepsIn.trans u (.one (fenced_calm (fr:=fr.atR s []) b room rfl) (stepR_round_end g B hend)))⟩
 rename_i a;rcases i with⟨fn,i⟩ | hno
 case inr=>exact absurd c.2 (hno _ _)
 obtain⟨e,J⟩:=u;have x:({fr.atR s e with mode:=.panicking a}:Frame).leaving P t (.panicked a):=⟨rfl,c.1,fn,by show P.funcs[fr.fn]?=_;rw[p];exact i⟩;exact⟨.panicked a,t,c.2,(StepsIn.trans r begun).trans (StepsIn.trans J (.one (fenced_leaving (F:=F.inRound l) (n:=n) b room x) (step_leave_panicked x)))⟩
end
structure WN(P:Program)(m:Nat)(s:qS)(n pt:Nat)(Hl:Nat->Nat->World->Prop)(tmps:Array Value)(assign body:Code)(I:Option (List Nat)->Nat->(Nat->Prop)->World->Prop):Prop where
 still:∀o j F W W' S,I o j F W->Kept S W W'->(∀k,k<W.heap.size->S k->¬F k)->I o j F W'
 lt:∀o j F W k,I o j F W->F k->k<W.heap.size
 round:∀l os o' j F W e x y gv lv hand,I (some os) j F W->e<=n->j<e->os.length<=50->KL os o' j x->x=bt s j->j<n->jc j x s n (j+1)=.ok (y,e)->
  dG hand y.dH W gv->isRow 152 2 numCells hand y.dF W lv->(∀k,hand k->k<W.heap.size/\¬F k)->¬F l->l<W.heap.size->¬hand l->
  ∃W1 a1,(∀K:Act->World->Prop,K a1 W1->assign.wpIn (Fence.wide.inRound l) m P (Exit.then K (fun _ _ _=>False)) {tmps:=tmps.setIfInBounds pt (.agg (uD j e x y gv lv).toArray),defers:=[]} W)/\qK W W1/\
   ∀W2,Kept (only l) W1 W2->body.wpIn (Fence.wide.inRound l) m P (fun ex a w=>match ex with
    | .normal=>∃F',I o' e F' w/\Kept F W2 w/\∀k,F' k->F k\/hand k\/W.heap.size<=k
    | .panic chain=>a.defers=[]/\∃q p:Nat,Ending.panicked chain=iK q p/\Hl q p w/\Kept F W2 w
    | _=>False) a1 W2
theorem Kept.putObj{w:qW}{r:Nat}{o:Obj}:Kept (only r) w (w.putObj r o):=
 ⟨rfl,rfl,rfl,qs,fun k _ X=>World.putObj_heap_other (fun e=>X e)⟩
def Qg(l D:Nat)(r:Loop)(I:Option (List Nat)->Nat->(Nat->Prop)->World->Prop)(os:Option (List Nat))(j:Nat)(F:Nat->Prop)(W:World):Prop:=
 ∃Fi,I os j Fi W/\(∀k,Fi k->F k)/\(∀k,F k->Fi k\/k=l\/k=D)/\F l/\F D/\¬Fi l/\¬Fi D/\l≠D/\W.heap[l]?=some (.loop r)/\W.heap[D]?=some (.deferred (some []))
theorem LD{P:Program}{m:Nat}{s:qS}{n l b H:Nat}{Hl:Nat->Nat->qW->Prop}{r:Loop}{I:Option (qM)->Nat->(qD)->qW->Prop}(aa:(∃fn,P.funcs[r.fn]?=some fn)\/∀q p w,¬Hl q p w)(N:r.state=.ready)(ab:r.pending=none)(O:r.params= #[H])
  (hw:WN P m s n H Hl r.tmps r.assign r.body I):Goes P m l s n (fun q p W=>Hl q p W/\W.heap[b]?=some (.deferred (some []))) (Qg l b r I):=by
 refine⟨?_,?_,?_⟩
 .rintro os j F W W' S ⟨C,U,L,h3,h4,h5,g,o,u,f,i⟩ X hs;have B:l<W.heap.size:=(Array.getElem?_eq_some_iff.1 f).1;have D:b<W.heap.size:=(Array.getElem?_eq_some_iff.1 i).1;exact⟨C,hw.still _ _ _ _ _ _ U X (fun k ac hS d=>hs k ac hS (L k d)),L,h3,h4,h5,g,o,u,(X.block l B (fun c=>hs l B c h4)).trans f,(X.block b D (fun c=>hs b D c h5)).trans i⟩
 .rintro os j F W k ⟨C,U,L,h3,h4,h5,g,o,u,f,i⟩ X;rcases h3 k X with h | rfl | rfl
  .exact hw.lt _ _ _ _ _ U h
  .exact(Array.getElem?_eq_some_iff.1 f).1
  exact(Array.getElem?_eq_some_iff.1 i).1
 rintro os o' j F W e x y E lv ad ⟨C,U,L,h3,h4,h5,g,o,u,f,i⟩ he hj ae hl af ag ah hg ai hh;have B:l<W.heap.size:=(Array.getElem?_eq_some_iff.1 f).1;have D:b<W.heap.size:=(Array.getElem?_eq_some_iff.1 i).1;obtain⟨v,a1,aj,J,ak⟩:=hw.round l os o' j C W e x y E lv ad U he hj ae hl af ag ah hg ai (fun k X=>⟨(hh k X).1,fun c=>(hh k X).2 (L k c)⟩) g B (fun c=>(hh l c).2 h4);have hy:=run_yield (P:=P) (args:= #[.agg (uD j e x y E lv).toArray]) f (by rw[O];rfl);have am:(r.params.zip #[Value.agg (uD j e x y E lv).toArray]).foldl (fun tmps (t,a)=>tmps.setIfInBounds t a) r.tmps=r.tmps.setIfInBounds H (.agg (uD j e x y E lv).toArray):=by simp[O]
 rw[am] at hy;refine⟨r.fn,_,r.assign,r.body,hy,Ja trivial (aa.imp id fun hb an w' hR=>?_) (aj _ ?_)⟩
 .rcases hR with⟨hc,_⟩ | ⟨q,p,_,hbad,_⟩
  .cases hc
  exact hb q p _ hbad.1
 have Q:v.heap[l]?=some (.loop r):=(J.block l B (fun c=>c)).trans f;have K:v.heap[b]?=some (.deferred (some [])):=(J.block b D (fun c=>c)).trans i;have R:l<v.heap.size:=(Array.getElem?_eq_some_iff.1 Q).1;refine⟨_,run_beginRound Q N,wpIn_mono (ak _ Kept.putObj) ?_⟩;have ao:(v.putObj l (.loop {r with state:=.busy})).heap[l]?=some (.loop {r with state:=.busy}):=World.putObj_heap_same R;have T:(v.putObj l (.loop {r with state:=.busy})).heap[b]?=some (.deferred (some [])):=(World.putObj_heap_other (fun c=>u c.symm)).trans K;have V:Kept F W (v.putObj l (.loop {r with state:=.busy})):=(J.mono (fun _ _ c=>c.elim)).trans (Kept.putObj.mono (fun k _ (c:k=l)=>c▸h4));intro ex a M z;cases ex with
 | normal=>
  obtain⟨Y,ap,A,G⟩:=z;have Z:M.heap[l]?=some (.loop {r with state:=.busy}):=(A.block l (by simpa using R) g).trans ao;have aq:M.heap[b]?=some (.deferred (some [])):=(A.block b (by simpa using (Array.getElem?_eq_some_iff.1 K).1) o).trans T;have ar:l<M.heap.size:=(Array.getElem?_eq_some_iff.1 Z).1;refine⟨_,_,run_endRound none Z,.inl ⟨rfl,fun k=>Y k\/k=l\/k=b,⟨Y,?_,fun k X=>.inl X,fun k X=>X,.inr (.inl rfl),.inr (.inr rfl),?_,?_,u,?_,(World.putObj_heap_other (fun c=>u c.symm)).trans aq⟩,?_,?_⟩⟩
  .refine hw.still _ _ _ _ _ (only l) ap Kept.putObj (fun k _ (X:k=l) d=>?_);subst X;rcases G _ d with h | h | h
   .exact g h
   .exact(hh _ h).2 h4
   omega
  .intro d;rcases G _ d with h | h | h
   .exact g h
   .exact(hh _ h).2 h4
   omega
  .intro d;rcases G _ d with h | h | h
   .exact o h
   .exact(hh _ h).2 h5
   omega
  .rw[World.putObj_heap_same ar];have:({r with state:=.ready,pending:=none}:Loop)=r:=by rw[<-N,<-ab]
   simp[this]
  .exact(V.fresh A (fun k _ d=>L k d)).trans (Kept.putObj.mono (fun k _ (c:k=l)=>c▸h4))
  rintro k (h | rfl | rfl)
  .rcases G k h with h | h | h
   .exact .inl (L k h)
   .exact .inr (.inl h)
   exact .inr (.inr h)
  .exact .inl h4
  exact .inl h5
 | panic an=>obtain⟨hd,q,p,hc,hbad,A⟩:=z;exact⟨hd,.inr ⟨q,p,hc,⟨hbad,(A.block b (by simpa using (Array.getElem?_eq_some_iff.1 K).1) o).trans T⟩,V.fresh A (fun k _ d=>L k d)⟩⟩
 | ret=>exact z.elim
 | exit id=>exact z.elim
 | goto t=>exact z.elim
 | outgrown=>exact z.elim
theorem DK{m:Nat}{g:Operand}{v:Tmp}{assign body:Code}{Q:Exit->Act->qW->Prop}{a:Act}{w:qW}{fb:Nat}{s:qS}{i n:Nat}{Hl:Nat->Nat->qW->Prop}{I:Option (qM)->Nat->(qD)->qW->Prop}{F0:qD}(fn:FuncId)
  (R:a.eval g=.func (.func 236) #[] #[qP fb]) (S:Enters 236) (hf:Rd w fb s i n) (hI:I (some []) i F0 w) (hw:WN prog m s n v Hl a.tmps assign body I) (T:(∃V,prog.funcs[fn]?=some V)\/∀q p W,¬Hl q p W)
  (hdone:∀h j x b,zk s n i=.ok j->I none j x b->w.heap.size<=h->b.heap[h]?=some (.deferred (some []))->Kept F0 w b->Q .normal {a with defers:={target:=.collected h,args:= #[]}::a.defers} b)
  (hstop:∀h (q p:Nat) chain b,zk s n i=.error (q,p)->Ending.panicked chain=iK q p->w.heap.size<=h->b.heap[h]?=some (.deferred (some []))->Kept F0 w b->Q (.panic chain) {a with defers:={target:=.collected h,args:= #[]}::a.defers} b)
  (hbad:∀h (q p:Nat) chain b,Hl q p b->Ending.panicked chain=iK q p->w.heap.size<=h->b.heap[h]?=some (.deferred (some []))->Kept F0 w b->Q (.panic chain) {a with defers:={target:=.collected h,args:= #[]}::a.defers} b):
  ∃(l:Nat) (mark:List Deferred) (E:qW) (d:Deferred) (G:qW) (f:FuncId) (args:Array qv) (H:qW),
   (Instr.enterLoop fn a.tmps #[v] assign body Fence.wide.round).run prog w=.ok (l,mark) E/\
   (resolve a.eval (rangeCall g l) 0).run prog E=.ok d G/\
   (invoke d.target d.args).run prog G=.ok (.enter f args) H/\
   CallsIn Fence.wide (m+1) prog f args H fun e J=>match e with
    | .returned _=>∃K,(Instr.endLoop l).run prog J=.ok none K/\Q .normal {a with defers:=mark++a.defers} K
    | .panicked chain=>Q (.panic chain) {a with defers:=mark++a.defers} J
    | .outgrown=>False:=by
 have Y:∀(args:Array qv) (w:qW),(callFunc 236 args).run prog w=.ok (.enter 236 args) w:=S;obtain⟨r,o⟩:∃r:Loop,r={state:=.ready,pending:=none,fn,tmps:=a.tmps,params:= #[v],assign,body,defers:=w.heap.size}:=⟨_,rfl⟩;obtain⟨t,u⟩:=qE ((w.alloc (.deferred (some []))).alloc (.loop r));have Z:t.heap[w.heap.size+1]?=some (.loop r):=by rw[u];have:=World.alloc_heap_new (w.alloc (.deferred (some []))) (.loop r);rwa[World.size_alloc] at this
 have aa:t.heap[w.heap.size]?=some (.deferred (some [])):=by rw[u];exact(Below.heap_alloc _ _ _ qs).trans (World.alloc_heap_new w _)
 have y:qK w t:=by rw[u];exact(qr.alloc _).alloc _
 refine⟨w.heap.size+1,[{target:=.collected w.heap.size,args:= #[]}],t,{target:=.fn (.func 236) #[qP fb],args:= #[.func (.yield (w.heap.size+1)) #[] #[]]},t,236,#[.func (.yield (w.heap.size+1)) #[] #[],qP fb],t,?_,?_,?_,?_⟩
 .rw[u,o];exact run_enterLoop_outer _ _ _ _ _
 .simp only[resolve,R];simp[go_sem]
 .simp[invoke,go_sem,Y]
 have hG:Goes prog m (w.heap.size+1) s n (fun q p W=>Hl q p W/\W.heap[w.heap.size]?=some (.deferred (some []))) (Qg (w.heap.size+1) w.heap.size r I):=
  LD (by rw[o];exact T) (by rw[o]) (by rw[o]) (by rw[o]) (by rw[o];exact hw)
 have M:∀k,F0 k->k<w.heap.size:=fun k X=>hw.lt _ _ _ _ _ hI X;have hJ:Qg (w.heap.size+1) w.heap.size r I (some []) i (fun k=>F0 k\/k=w.heap.size+1\/k=w.heap.size) t:=
  ⟨F0,hw.still _ _ _ _ _ _ hI y (fun _ _ c=>c.elim),fun k X=>.inl X,fun k X=>X,.inr (.inl rfl),.inr (.inr rfl),fun c=>by have:=M _ c;omega,fun c=>by have:=M _ c;omega,qo,Z,aa⟩
 refine(Z9 hG (hf.kept y (fun c=>c)) hJ).mono ?_;rintro ε b ⟨X,ab⟩;have z:Kept F0 w b:=(y.mono (fun _ _ c=>c.elim)).fresh X (fun k ac A=>A.elim id (fun c=>qo));rcases ab with⟨j,x,B,rfl,⟨N,U,L,h3,h4,h5,O,h7,h8,C,D⟩,-⟩ | ⟨q,p,B,rfl,os,j,x,⟨N,U,L,h3,h4,h5,O,h7,h8,C,D⟩⟩ | ⟨q,p,⟨ad,ae⟩,rfl⟩
 .refine⟨_,by rw[run_endLoop C (by rw[o];simp)];rw[o],?_⟩;have ll:w.heap.size+1<b.heap.size:=(Array.getElem?_eq_some_iff.1 C).1;refine hdone w.heap.size j N _ B (hw.still _ _ _ _ _ _ U (Kept.putObj (r:=w.heap.size+1)) (fun k _ (c:k=_) A=>O (c▸A))) qR ((World.putObj_heap_other qo).trans D) ?_;exact z.fresh Kept.putObj (fun k ac (c:k=_)=>qo)
 .exact hstop w.heap.size q p _ b B rfl qR D z
 exact hbad w.heap.size q p _ b ad rfl qR ae z
theorem YW{m:Nat}{g:Operand}{r:Tmp}{assign body:Code}{Q:Exit->Act->qW->Prop}{a:Act}{w:qW}{fb:Nat}{s:qS}{i n:Nat}{Hl:Nat->Nat->qW->Prop}{I:Option (qM)->Nat->(qD)->qW->Prop}{F0:qD}
  (t:a.eval g=.func (.func 236) #[] #[qP fb]) (u:Enters 236) (hf:Rd w fb s i n) (hI:I (some []) i F0 w) (hw:WN prog m s n r Hl a.tmps assign body I) (hb:∀q p W,¬Hl q p W)
  (hdone:∀k j x b,zk s n i=.ok j->I none j x b->w.heap.size<=k->b.heap[k]?=some (.deferred (some []))->Kept F0 w b->Q .normal {a with defers:={target:=.collected k,args:= #[]}::a.defers} b)
  (hstop:∀k (q p:Nat) o b,zk s n i=.error (q,p)->Ending.panicked o=iK q p->w.heap.size<=k->b.heap[k]?=some (.deferred (some []))->Kept F0 w b->Q (.panic o) {a with defers:={target:=.collected k,args:= #[]}::a.defers} b):
  (Code.rangeFunc g #[r] assign body).wpIn Fence.wide (m+2) prog Q a w:=by
 refine wpIn_rangeFunc ?_;intro fn _;obtain⟨l,mark,y,d,z,f,args,A,U,L,h3,h4⟩:=DK (Q:=Q) fn t u hf hI hw (.inr hb) hdone hstop (fun _ _ _ _ _ c=>absurd c (hb _ _ _));refine⟨l,mark,y,d,z,f,args,A,U,L,fun _ _=>trivial,h3,fun h=>by simp[Fence.wide] at h,h4.mono ?_⟩;intro e D hh;cases e with
 | returned v=>obtain⟨B,C,hb⟩:=hh;exact⟨none,B,C,hb⟩
 | panicked o=>exact hh
 | outgrown=>exact hh.elim
section
variable {F:Fence} {n:Nat} {P:Program}
def Tm(f0:FuncId)(F:Fence)(n:Nat)(P:Program)(c:Code)(Q:Exit->Act->World->Prop)(a:Act)(w:World):Prop:=
 ∀(b:Frame) (k:List Item) (cs:List Frame),b.fn=f0->b.roundOf=F.round->F.fn b.fn->F.room (cs.length+1+n)->
  ∃e a' w',Q e a' w'/\ArrivesIn (Machine.fenced P F) P (lone (b.atR a (.code c::k)) cs w) b k cs e a' w'
theorem agW{d:FuncId}{c:Code}{Q:Exit->Act->qW->Prop}{a:Act}{w:qW}(h:c.wpIn F n P Q a w):Tm d F n P c Q a w:=fun b k cs _=>h b k cs
theorem yH{f:FuncId}{x y:Code}{Q:Exit->Act->qW->Prop}{a:Act}{w:qW}(h:x.wpIn F n P (Exit.then (Tm f F n P y Q) Q) a w):Tm f F n P (.seq x y) Q a w:=by
 intro b k cs hf g hb c;obtain⟨e,l,m,hq,i⟩:=h b (.code y::k) cs g hb c;have j:(lone (b.atR a (.code (.seq x y)::k)) cs w).fenced P F:=fenced_calm hb c rfl;by_cases d:e=.normal
 .subst d;obtain⟨o,p,q,r,s⟩:=hq b k cs hf g hb c;exact⟨o,p,q,r,.of_steps (.head j stepR_seq i) s⟩
 refine⟨e,l,m,?_,.of_steps (.one j stepR_seq) (.pass (x:=.code y) rfl (fun _ _=>.inl d) i)⟩;cases e<;>first | exact absurd rfl d | exact hq
theorem Vg{f:FuncId}{fn:Func}{c:Code}{args:Array qv}{w:qW}{R:Ending->qW->Prop}
  (hf:P.funcs[f]?=some fn) (hb:fn.body=some c) (q:F.fn f)
  (h:Tm f F n P c (bodyPostM F n P fn R) {tmps:=args++Array.replicate (fn.ntmps - args.size) undef,defers:=[]} w) (hno:∀w,¬R .outgrown w) (r:F.round=none:=by rfl):CallsIn F n P f args w R:=by
 refine⟨q,fun cs m=>?_⟩;obtain⟨b,j⟩:∃b:Frame,b={(default:Frame) with fn:=f,kind:=.normal,roundOf:=none}:=⟨_,rfl⟩;have U:b.fn=f:=by rw[j]
 have L:b.roundOf=none:=by rw[j]
 have h3:b.kind=.normal:=by rw[j]
 have s:Frame.enter P f args .normal=b.atR {tmps:=args++Array.replicate (fn.ntmps - args.size) undef,defers:=[]} [.code c]:=by
  simp[Frame.enter,Frame.atR,hf,hb,j]
 have o:F.fn b.fn:=by rw[U];exact q
 have t:P.funcs[b.fn]?=some fn:=by rw[U];exact hf
 obtain⟨e,d,w',hq,k⟩:=h b [] cs U (L.trans r.symm) o m;rw[<-s] at k;have p:∀(u:FrameMode) (a:List Item),StepsIn (Machine.fenced P F) P (lone (Frame.enter P f args .normal) cs w) (lone {b.atR d a with mode:=u} cs w')->LeavesInM F n P fn d.tmps R d.defers u w'->
   ∃e g fr,R e g/\ComesIn (Machine.fenced P F) P (lone (Frame.enter P f args .normal) cs w) (lone fr cs g) e/\fr.fn=f/\fr.leaving P g e:=by
  intro u a i v;obtain⟨x,g,y,z,A,B,C⟩:=leaves_stepsInM d.defers u w' {b.atR d a with mode:=u} cs rfl rfl rfl t h3 o m v;exact⟨x,g,y,z,ComesIn.of_steps i A,B.trans U,C⟩
 cases e with
 | normal=>exact p .returning [] (StepsIn.trans k (.one (fenced_calm (fr:=b.atR d []) o m rfl) (stepR_end L))) hq
 | ret=>obtain⟨a,i⟩:=k.1 L;exact p _ a i hq
 | panic D=>obtain⟨a,i⟩:=k;exact p _ a i hq
 | exit id=>exact hq.elim
 | goto l=>exact hq.elim
 | outgrown=>exact absurd hq (hno _)
end
theorem Ti{t:FuncId}{m:Nat}{g:Operand}{u:Tmp}{assign body:Code}{Q:Exit->Act->qW->Prop}{a:Act}{w:qW}{fb:Nat}{s:qS}{i n:Nat}{Hl:Nat->Nat->qW->Prop}{I:Option (qM)->Nat->(qD)->qW->Prop}{F0:qD}
  (E:∃G,prog.funcs[t]?=some G)
  (H:a.eval g=.func (.func 236) #[] #[qP fb]) (J:Enters 236) (hf:Rd w fb s i n) (hI:I (some []) i F0 w) (hw:WN prog m s n u Hl a.tmps assign body I)
  (hdone:∀h j K c,zk s n i=.ok j->I none j K c->w.heap.size<=h->c.heap[h]?=some (.deferred (some []))->Kept F0 w c->Q .normal {a with defers:={target:=.collected h,args:= #[]}::a.defers} c)
  (hstop:∀h (q p:Nat) o c,zk s n i=.error (q,p)->Ending.panicked o=iK q p->w.heap.size<=h->c.heap[h]?=some (.deferred (some []))->Kept F0 w c->Q (.panic o) {a with defers:={target:=.collected h,args:= #[]}::a.defers} c)
  (hbad:∀h (q p:Nat) o c,Hl q p c->Ending.panicked o=iK q p->w.heap.size<=h->c.heap[h]?=some (.deferred (some []))->Kept F0 w c->Q (.panic o) {a with defers:={target:=.collected h,args:= #[]}::a.defers} c):
  Tm t Fence.wide (m+2) prog (Code.rangeFunc g #[u] assign body) Q a w:=by
 intro b k cs L M hb A;obtain⟨l,mark,V,d,W,f,args,X,U,N,O,-,R⟩:=DK (Q:=Q) t H J hf hI hw (.inl E) hdone hstop hbad;rw[<-L,<-M] at U;have B:=stepR_rangeFunc (P:=prog) (b:=b) (a:=a) (k:=k) (cs:=cs) (w:=w) U N O;have C:(lone (b.atR a (.code (.rangeFunc g #[u] assign body)::k)) cs w).fenced prog Fence.wide:=fenced_lone (.inl trivial) (fun _ _=>trivial) (Fence.room_le A qo);obtain⟨e,x,fr,y,D,Y,r⟩:=R (b.atR {a with defers:=mark++a.defers} (.inRangeFunc l::k)::cs) (room_wide _);cases e with
 | outgrown=>exact y.elim
 | returned v=>obtain⟨S,T,hq⟩:=y;have z:(lone fr (b.atR {a with defers:=mark++a.defers} (.inRangeFunc l::k)::cs) x).fenced prog Fence.wide:=fenced_leaving (n:=0) trivial (room_wide _) r;refine⟨.normal,_,S,hq,?_⟩;refine .head C B (StepsIn.trans D (.head z ?_ (.one (fenced_calm (fr:=b.atR {a with defers:=mark++a.defers} (.endRangeFunc l::k)) hb A rfl) (stepR_endRangeFunc T))));rw[<-finish_atR_inRangeFunc l v];exact step_leave_returned r
 | panicked o=>have z:(lone fr (b.atR {a with defers:=mark++a.defers} (.inRangeFunc l::k)::cs) x).fenced prog Fence.wide:=fenced_leaving (n:=0) trivial (room_wide _) r;refine⟨.panic o,_,x,y,.inRangeFunc l::k,.head C B (StepsIn.trans D (.one z ?_))⟩;rw[<-Frame.raise_atR];exact step_leave_panicked r
def fK{α:Type}(tM:qS->Nat->Nat->Except Err (α×Nat))(s:qS)(n i:Nat):Except Err (α×Nat):=
 match uM s n i with
 | .error e=>.error e
 | .ok ((v,_),j)=>
  if(n:Int) - (j:Int)<v then
   match tM s n j with
   | .error e=>.error e
   | .ok (_,j2)=>.error (2,j2)
  else
   match tM s (j+v.toNat) j with
   | .error e=>.error e
   | .ok (x,j2)=>if j2<j+v.toNat then .error (2,j2) else .ok (x,j2)
section
variable {α:Type} {tM:qS->Nat->Nat->Except Err (α×Nat)} {s:qS} {n i j a j2:Nat} {v:Int} {x:α} {e:Err}
theorem Dh(b:uM s n i=.ok ((v,a),j))(c:(n:Int) - (j:Int)<v)(d:tM s n j=.error e):fK tM s n i=.error e:=by simp[fK,b,c,d]
theorem EE(b:uM s n i=.ok ((v,a),j))(c:(n:Int) - (j:Int)<v)(d:tM s n j=.ok (x,j2)):fK tM s n i=.error (2,j2):=by simp[fK,b,c,d]
theorem Qn(b:uM s n i=.ok ((v,a),j))(c:¬(n:Int) - (j:Int)<v)(d:tM s (j+v.toNat) j=.error e):fK tM s n i=.error e:=by simp[fK,b,c,d]
theorem Oy(b:uM s n i=.ok ((v,a),j))(c:¬(n:Int) - (j:Int)<v)(d:tM s (j+v.toNat) j=.ok (x,j2))(f:j2<j+v.toNat):fK tM s n i=.error (2,j2):=by simp[fK,b,c,d,f]
theorem Tt(b:uM s n i=.ok ((v,a),j))(c:¬(n:Int) - (j:Int)<v)(d:tM s (j+v.toNat) j=.ok (x,j2))(f:¬j2<j+v.toNat):fK tM s n i=.ok (x,j2):=by simp[fK,b,c,d,f]
end
theorem Rd.ends{w:qW}{b:Nat}{s:qS}{i n:Nat}(h:Rd w b s i n)(c:Nat)(d:i<=c)(f:c<=s.size){z:Int}(g:z=(c:Int)):Rd (w.setCell (qA b 2) (qJ z)) b s i c:=by
 subst g;refine⟨?_,?_,World.cell?_setCell_same _ _ _ h.c2,by simp[h.f0],by simp[h.f1],by simp[h.f2],d,f,h.sz⟩
 .rw[World.cell?_setCell_other _ _ _ _ qs];exact h.c0
 rw[World.cell?_setCell_other _ _ _ _ qs];exact h.c1
def isDone{α:Type}(Post:α->World->Prop)(x:α)(w:World)(v:Value):Prop:=v=.tuple #[]/\Post x w
theorem BQ{α:Type}{S:qD}{w:qW}{b:Nat}{s:qS}{i n K:Nat}{A:Array qv}(tM:qS->Nat->Nat->Except Err (α×Nat))(D:qW->Prop)(E:α->qW->Prop)
  (h:Rd w b s i n) (R:D w) (hc:Enters K) (hS:S b) (T:∀W d,D W->Kept (only b) W d->D d) (U:∀x W d,E x W->Kept (only b) W d->E x d)
  (V:∀W j N,Rd W b s j N->D W->w.heap.size<=W.heap.size->qC K A W (fC S W b s N (isDone E) (tM s N j))):
  qC 122 #[qP b,.func (.func K) #[] A] w (fC S w b s n (isDone E) (fK tM s n i)):=by
 have ai:∀(args:Array qv) (w:qW),(callFunc K args).run prog w=.ok (.enter K args) w:=hc;have aj:∀(x:Bool) (w:qW),(Op.unary .not (.bool x)).run prog w=.ok (.bool (!x)) w:=fun _ _=>rfl;have ak:=ja;have Y:=hide V;have O:=hide T;have Z:=hide U;have HP:=hide R;clear V T U R;have aa:∀(W d:qW),Kept (only b) W d->Kept S W d:=fun W d X=>X.mono (fun k _ (e:k=b)=>e▸hS);have y:=hide aa;clear aa;go_enter func122,ntmps122;go_wp2_with fail
 refine(uQ h).mono ?_;rintro e w1 ⟨l,f,g⟩;rcases c:uM s n i with⟨q,p⟩|xj
 .obtain rfl:=g _ _ c;exact⟨rfl,fC.dD (by simp[fK,c]) (y.o _ _ l)⟩
 obtain⟨⟨v,a⟩,j⟩:=xj;obtain⟨u,rfl,hv,ab⟩:=f _ _ c;obtain rfl:u=.agg #[.int .u32 v,qJ a]:=hv;obtain⟨v0,v1,-,-,-⟩:=mW c;have z:=hide c;clear f g c;have ac:=ab;obtain⟨F,G,H,I,J,L,am,ag,an⟩:=ab;have ad:=l.size;by_cases m:(n:Int) - (j:Int)<v
 .have t1:decide ((n:Int) - (j:Int)<v)=true:=by simpa using m
  have r:=hide m;clear m;go_wp2_with fail
  refine(Y.o _ j n ac (O.o _ _ HP.o l) ad).mono ?_;rintro e w2 ⟨P,f,g⟩;have t:=(y.o _ _ l).trans P;rcases c:tM s n j with⟨q,p⟩|⟨x,j2⟩
  .obtain rfl:=g _ _ c;exact⟨rfl,fC.dD (Dh z.o r.o c) t⟩
  obtain⟨u,rfl,⟨rfl,B⟩,C⟩:=f _ _ c;have M:=hide c;have ae:=hide B;clear f g c B F G H I J L;obtain⟨F,G,H,I,J,L,-,-,-⟩:=C;go_wp2_with fail
  refine(iY _ _).mono ?_;rintro e w3 ⟨rfl,rfl⟩;exact⟨rfl,fC.dD (EE z.o r.o M.o) t⟩
 have t1:decide ((n:Int) - (j:Int)<v)=false:=by simpa using m
 have af:(j:Int)+v=((j+v.toNat:Nat):Int):=qo;have HV:=hide af;have r:=hide m;have ao:j+v.toNat<=n:=qo;clear af m;go_wp2_with fail
 refine(Y.o _ j (j+v.toNat) (ac.ends (j+v.toNat) qo qo HV.o) (O.o _ _ (O.o _ _ HP.o l) (qr.own _)) (by simpa using ad)).mono ?_;rintro e w2 ⟨P,f,g⟩;have t:=((y.o _ _ l).trans (y.o _ _ (qr.own (o:=2) (qJ ((j:Int)+v))))).trans P;rcases c:tM s (j+v.toNat) j with⟨q,p⟩|⟨x,j2⟩
 .obtain rfl:=g _ _ c;exact⟨rfl,fC.dD (Qn z.o (by have:=r.o;omega) c) t⟩
 obtain⟨u,rfl,⟨rfl,B⟩,C⟩:=f _ _ c;have M:=hide c;have ae:=hide B;clear f g c B F G H I J L;go_wp2_with fail
 refine(wo C).mono ?_;rintro e w3 ⟨rfl,k3,rfl⟩;have ah:=C.drewN k3;obtain⟨F,G,H,I,J,L,ap,-,-⟩:=ah;by_cases hd:j2<j+v.toNat
 .have t2:decide (j+v.toNat<=j2)=false:=by simp;omega
  have Q:=hide hd;go_wp2_with fail
  refine(iY _ _).mono ?_;rintro e w4 ⟨rfl,rfl⟩;exact⟨rfl,fC.dD (Oy z.o (by have:=r.o;omega) M.o Q.o) (t.drewN _)⟩
 have t2:decide (j+v.toNat<=j2)=true:=by simp;omega
 have Q:=hide hd;go_wp2;go_end0;refine fC.dW (x:=x) (j:=j2) (Tt z.o (by have:=r.o;omega) M.o (by have:=Q.o;omega)) ((t.drewN _).trans (y.o _ _ (qr.own _))) ⟨rfl,Z.o _ _ _ (Z.o _ _ _ ae.o (qr.drewN _)) (qr.own _)⟩ ((C.drewN _).ends n qo ag rfl)
theorem Ff(s:ByteArray)(i n:Int)(w:qW):
  qC 223 #[.agg #[.string s,.int .i64 i,.int .i64 n]] w fun e w'=>e=.returned (.func (.func 236) #[] #[.pointer (some ⟨w.heap.size,0,none⟩)])/\w'=w.alloc (.cells #[.string s,.int .i64 i,.int .i64 n] 131):=by
 have a:∀(fn:Fn) (first A:Array qv) (w:qW),(Instr.makeFunc fn first A).run prog w=.ok (.func fn first A) w:=fun _ _ _ _=>rfl;go_enter func223,ntmps223;go_wp2;go_ret;exact⟨rfl,rfl⟩
def rY(ok:Nat->Prop)(s:ByteArray)(i n:Nat)(w:World)(v:Value):Prop:=
 ∃fb,v=.func (.func 236) #[] #[.pointer (some ⟨fb,0,none⟩)]/\ok fb/\w.heap[fb]?=some (.cells #[.string s,.int .i64 i,.int .i64 n] 131)
section
variable {ok ok' S:qD} {s:ByteArray} {i n:Nat} {w w':qW} {v:qv}
theorem rY.kept(h:rY ok s i n w v)(X:Kept S w w')(b:∀g,g<w.heap.size->ok g->¬S g):rY ok s i n w' v:=by
 obtain⟨fb,U,L,h3⟩:=h;have a:fb<w.heap.size:=(Array.getElem?_eq_some_iff.1 h3).1;exact⟨fb,U,L,(X.block fb a (b fb a L)).trans h3⟩
theorem rY.mono(h:rY ok s i n w v)(a:∀g,g<w.heap.size->ok g->ok' g):rY ok' s i n w v:=by
 obtain⟨fb,U,L,h3⟩:=h;exact⟨fb,U,a fb (Array.getElem?_eq_some_iff.1 h3).1 L,h3⟩
theorem rY.grown{E:TypeId}{b k B:Nat}{u:qv}{xs:qV}(h:rY ok s i n w v)(c:w.ownsRow B E b u k xs)(d:131≠E)(f:w.grownBy w' u.ownBlock):rY ok s i n w' v:=by
 obtain⟨fb,U,L,h3⟩:=h;have g:fb<w.heap.size:=(Array.getElem?_eq_some_iff.1 h3).1;refine⟨fb,U,L,(f.block fb g ?_).trans h3⟩;intro e;rcases c.2 with⟨rfl,_⟩ | ⟨j,l,m,rfl,_,a,_⟩
 .simp[Value.ownBlock] at e
 simp[Value.ownBlock] at e;subst e;rw[h3] at a;simp at a;exact d a.2
theorem Jd{fb:Nat}(h:w.heap[fb]?=some (.cells #[.string s,.int .i64 i,.int .i64 n] 131))(U:i<=n)(L:n<=s.size)(h3:s.size<=5000):Rd w fb s i n:=by
 have c:∀k,w.frozen? ⟨fb,k,none⟩=false:=fun k=>by simp[World.frozen?,h]
 exact⟨by simp[World.cell?,h],by simp[World.cell?,h],by simp[World.cell?,h],c 0,c 1,c 2,U,L,h3⟩
end
def oK(s:ByteArray)(n i:Nat):Except Err ((List Nat×Nat×Nat)×Nat):=
 match nJ s n i with
 | .error e=>.error e
 | .ok (ls,j)=>
  match zk s n j with
  | .error e=>.error e
  | .ok e=>.ok ((ls,j,n),e)
def NG(ok:Nat->Prop)(s:ByteArray)(b cb:Nat)(x:List Nat×Nat×Nat)(w:World):Prop:=
 ∃lv fv,OB w b cb [lv,fv]/\dG ok x.1 w lv/\rY ok s x.2.1 x.2.2 w fv
theorem Gh:Enters 236:=enters_of func236 qk qk
attribute [local go_sem] Oper.semAt_some
def three(b c d:Nat):Nat->Prop:=fun k=>k=b\/k=c\/k=d
def aey(s:ByteArray)(n b rb:Nat)(_:Option (List Nat))(j:Nat)(F:Nat->Prop)(W:World):Prop:=
 (∀k,F k↔k=b\/k=rb)/\Rd W b s j n/\OB W b rb [.pointer (some ⟨b,0,none⟩)]
theorem IJ{w:qW}{b d cb:Nat}{s:ByteArray}{i n:Nat}{c0 c1:qv}(h:Rd w b s i n)(L:OB w b d [.pointer (some ⟨b,0,none⟩)])(hc:OB w b cb [c0,c1])(aq:d≠cb):
  qC 221 #[.pointer (some ⟨d,0,none⟩),.pointer (some ⟨cb,0,none⟩)] w (fC (three b cb d) w b s n (isDone (NG (fun g=>w.heap.size<=g) s b cb)) (oK s n i)):=by
 refine(callsIn_wide (n:=10)).1 ?_;obtain⟨O,q1⟩:=L.blk 0 qs;simp at O;refine callsIn_of_wp_marks func221 rfl trivial ?_ rfl;simp only[ntmps221,List.size_toArray,List.length_cons,List.length_nil,Nat.reduceAdd,Nat.reduceSub,Array.replicate_succ,Array.replicate_zero,List.push_toArray,List.append_toArray,List.nil_append,List.cons_append];gi_wp2_with fail
 refine⟨trivial,(callsIn_wide.2 (IE h)).mono ?_⟩;rintro e a ⟨J,aa,ab⟩;have ac:Kept (three b cb d) w a:=J.mono (fun k _ (e:k=b)=>.inl e);have ad:∀{W:qW} {o:Nat} (u:qv),Kept (three b cb d) w W->Kept (three b cb d) w (W.setCell ⟨cb,o,none⟩ u):=fun u X=>X.setCell (p:=⟨cb,_,none⟩) (fun _=>.inr (.inl rfl)) u;rcases f:nJ s n i with⟨q,p⟩|⟨ls,j⟩
 .obtain rfl:=ab _ _ f;exact fC.dD (by simp[oK,f]) ac
 obtain⟨u,rfl,P,ae⟩:=aa _ _ f;obtain⟨pl,cl,rfl⟩:=Row.shape P;have Q:=hc.call J;have af:=L.call J;obtain⟨⟨C0,D0⟩,⟨C1,D1⟩⟩:=Q.blk.two;obtain⟨O,q1⟩:=af.blk 0 qs;simp at O;have ar:=ae;obtain⟨z0,z1,z2,-,-,-,au,av,aw⟩:=ae;have R:=hc.ne;have ax:=J.size;have ay:=hc.lt;have HO:=hide f;have HV:=hide P;have az:=h.lt;clear aa ab f P J;gi_wp2_with fail
 refine⟨trivial,(callsIn_wide.2 (Ff _ _ _ _)).mono ?_⟩;rintro e w2 ⟨rfl,rfl⟩;have T:cb≠d:=fun e=>aq e.symm;have aP:cb<a.heap.size:=Q.lt;have e0:((a.setCell ⟨cb,0,none⟩ (.slice pl ls.length cl)).setCell ⟨cb,1,none⟩ (.func (.func 236) #[] #[.pointer (some ⟨a.heap.size,0,none⟩)])).heap.size=a.heap.size:=qs;have ag:(((a.setCell ⟨cb,0,none⟩ (.slice pl ls.length cl)).setCell ⟨cb,1,none⟩ (.func (.func 236) #[] #[.pointer (some ⟨a.heap.size,0,none⟩)])).alloc (.cells #[.string s,.int .i64 j,.int .i64 n] 131)).heap[a.heap.size]?=some (.cells #[.string s,.int .i64 j,.int .i64 n] 131):=by
  have q:=World.alloc_heap_new ((a.setCell ⟨cb,0,none⟩ (.slice pl ls.length cl)).setCell ⟨cb,1,none⟩ (.func (.func 236) #[] #[.pointer (some ⟨a.heap.size,0,none⟩)])) (.cells #[.string s,.int .i64 j,.int .i64 n] 131);rwa[e0] at q
 have ah:=((Q.set 0 (.slice pl ls.length cl)).set 1 (.func (.func 236) #[] #[.pointer (some ⟨a.heap.size,0,none⟩)])).alloc (.cells #[.string s,.int .i64 j,.int .i64 n] 131);have ai:=((af.other (o:=0) T (.slice pl ls.length cl)).other (o:=1) T (.func (.func 236) #[] #[.pointer (some ⟨a.heap.size,0,none⟩)])).alloc (.cells #[.string s,.int .i64 j,.int .i64 n] 131);have aj:=((ar.dA (o:=0) R (.slice pl ls.length cl)).dA (o:=1) R (.func (.func 236) #[] #[.pointer (some ⟨a.heap.size,0,none⟩)])).alloc (.cells #[.string s,.int .i64 j,.int .i64 n] 131);have C:=(ad (o:=1) (.func (.func 236) #[] #[.pointer (some ⟨a.heap.size,0,none⟩)]) (ad (o:=0) (.slice pl ls.length cl) ac)).alloc (.cells #[.string s,.int .i64 j,.int .i64 n] 131);have ak:=Row.alloc (Row.other (Row.other HV.o (g:=cb) (o:=0) (fun k X=>qo) (.slice pl ls.length cl)) (g:=cb) (o:=1) (fun k X=>qo) (.func (.func 236) #[] #[.pointer (some ⟨a.heap.size,0,none⟩)])) (.cells #[.string s,.int .i64 j,.int .i64 n] 131);have aA:=hide ah;have aB:=hide ai;have aC:=hide aj;have M:=hide C;have aD:=hide ak;have U:=hide ag;clear ah ai aj C ak ag e0;gi_wp2
 refine YW (m:=8) (fb:=a.heap.size) (s:=s) (i:=j) (n:=n) (Hl:=fun _ _ _=>False) (I:=aey s n b d) (F0:=fun k=>k=b\/k=d) (by rfl) Gh ?hf ⟨fun _=>Iff.rfl,aC.o,aB.o⟩ ?hw (fun _ _ _ hh=>hh) ?hdone ?hstop
 case hf=>exact Jd U.o au av aw
 case hdone=>
  intro r j2 F' N V aE hD Y D;have aF:w.heap.size<=r:=by have:=M.o.size;omega
  have aQ:=(Array.getElem?_eq_some_iff.1 U.o).1;have Z:Kept (three b cb d) w (N.putObj r (.deferred none)):=(M.o.trans (D.mono (fun k _ X=>X.elim .inl (fun e=>.inr (.inr e))))).fresh Kept.putObj (fun k X (e:k=r)=>qo);have am:∀k,k<w.heap.size->¬only r k:=fun k X (e:k=r)=>qo;have aG:rY (fun g=>w.heap.size<=g/\g<r) s j n _ (.func (.func 236) #[] #[.pointer (some ⟨a.heap.size,0,none⟩)]):=⟨a.heap.size,rfl,⟨ax,qo⟩,U.o⟩;refine⟨qs,.inl ⟨r,_,rfl,run_takeDeferred Y,?_⟩⟩;refine⟨_,results_none rfl _ _ _,fC.dW (x:=(ls,j,n)) (j:=j2) (by simp[oK,HO.o,V]) Z ⟨rfl,_,_,((aA.o.kept D ?_).kept Kept.putObj ?_),Row.mono (Row.kept (Row.kept (Row.mono aD.o (ok':=fun g=>w.heap.size<=g/\g<r) ?_) D ?_) Kept.putObj ?_) (fun g _ t=>t.1),((aG.kept D ?_).kept Kept.putObj ?_).mono (fun g _ t=>t.1)⟩ (aE.2.1.kept Kept.putObj (am b az))⟩
  .exact fun hh=>hh.elim R (fun e=>T e)
  .exact am cb ay
  .exact fun g t h0=>⟨h0,Nat.lt_of_lt_of_le t hD⟩
  .exact fun g _ t hh=>by have:=L.lt;omega
  .exact fun g _ t (e:g=r)=>qo
  .exact fun g _ t hh=>by have:=L.lt;omega
  exact fun g _ t (e:g=r)=>qo
 case hstop=>
  intro r q p aH N V aI hD Y D;have aF:w.heap.size<=r:=by have:=M.o.size;omega
  have Z:Kept (three b cb d) w (N.putObj r (.deferred none)):=(M.o.trans (D.mono (fun k _ X=>X.elim .inl (fun e=>.inr (.inr e))))).fresh Kept.putObj (fun k X (e:k=r)=>qo);refine⟨qs,.inl ⟨r,_,rfl,run_takeDeferred Y,?_⟩⟩;show fC _ _ _ _ _ _ _ (Ending.panicked aH) _;rw[aI];exact fC.dD (by simp[oK,HO.o,V]) Z
 refine⟨?_,?_,?_⟩
 .rintro os j F W N S ⟨z,A,f⟩ X hs;exact⟨z,A.kept X (fun c=>hs b A.lt c ((z b).2 (.inl rfl))),f.kept X (fun c=>hs d f.lt c ((z d).2 (.inr rfl)))⟩
 .rintro os j F W k ⟨z,A,f⟩ X;rcases(z k).1 X with rfl | rfl
  .exact A.lt
  exact f.lt
 rintro l os o' E F W B x y gv lv aR ⟨z,A,f⟩ he hj aS hl - - - t aJ hh an aT -;obtain⟨pg,cg,rfl⟩:=Row.shape t;obtain⟨G,H,rfl⟩:=Row.shape aJ;obtain⟨p0,p1⟩:=f.blk 0 qs;simp at p0;have aU:=f.lt;have aV:=A.lt;have aK:l≠b:=fun e=>an ((z l).2 (.inl e));have aL:l≠d:=fun e=>an ((z l).2 (.inr e));refine⟨W.alloc (.cells #[.int .i64 E,.int .i64 B,.int .u8 x,.bool y.typed,.slice pg y.dH.length cg,.int .u32 y.align,.int .u32 y.num.1,.int .i64 y.num.2,.slice G y.dF.length H,.int .i64 y.val] 213),
  {tmps:= #[.pointer (some ⟨d,0,none⟩),.pointer (some ⟨cb,0,none⟩),.pointer (some ⟨W.heap.size,0,none⟩),.pointer (some ⟨b,0,none⟩),.slice pl ls.length cl,.pointer (some ⟨cb,0,none⟩),.pointer (some ⟨b,0,none⟩),.pointer (some ⟨b,0,none⟩),
    .agg #[.string s,.int .i64 j,.int .i64 n],.func (.func 236) #[] #[.pointer (some ⟨a.heap.size,0,none⟩)],.pointer (some ⟨cb,1,none⟩),.pointer (some ⟨cb,1,none⟩),.func (.func 236) #[] #[.pointer (some ⟨a.heap.size,0,none⟩)],
    .agg #[.int .i64 E,.int .i64 B,.int .u8 x,.bool y.typed,.slice pg y.dH.length cg,.int .u32 y.align,.int .u32 y.num.1,.int .i64 y.num.2,.slice G y.dF.length H,.int .i64 y.val],undef,undef,undef,undef],defers:=[]},fun K hK=>?_,qr.alloc _,fun W2 C=>?_⟩
 .simp only[uD];gi_wp2
  exact hK
 have aM:kY W2 W.heap.size [.int .i64 E,.int .i64 B,.int .u8 x,.bool y.typed,.slice pg y.dH.length cg,.int .u32 y.align,.int .u32 y.num.1,.int .i64 y.num.2,.slice G y.dF.length H,.int .i64 y.val]:=(kY.new W #[.int .i64 E,.int .i64 B,.int .u8 x,.bool y.typed,.slice pg y.dH.length cg,.int .u32 y.align,.int .u32 y.num.1,.int .i64 y.num.2,.slice G y.dF.length H,.int .i64 y.val] 213).kept C qs (fun(e:W.heap.size=l)=>qo);have aN:=(A.alloc (.cells #[.int .i64 E,.int .i64 B,.int .u8 x,.bool y.typed,.slice pg y.dH.length cg,.int .u32 y.align,.int .u32 y.num.1,.int .i64 y.num.2,.slice G y.dF.length H,.int .i64 y.val] 213)).kept C (fun(e:b=l)=>aK e.symm);have ao:=(f.alloc (.cells #[.int .i64 E,.int .i64 B,.int .u8 x,.bool y.typed,.slice pg y.dH.length cg,.int .u32 y.align,.int .u32 y.num.1,.int .i64 y.num.2,.slice G y.dF.length H,.int .i64 y.val] 213)).kept C (fun(e:d=l)=>aL e.symm);obtain⟨p0,p1⟩:=ao.blk 0 qs;simp at p0;obtain⟨⟨I0,J0⟩,⟨I1,J1⟩,⟨I2,J2⟩,⟨I3,J3⟩,⟨I4,J4⟩,⟨I5,J5⟩,⟨I6,J6⟩,⟨I7,J7⟩,⟨I8,J8⟩,⟨I9,J9⟩⟩:=aM.ten;gi_wp2_with fail
 refine⟨trivial,(CallsIn.inRound l (callsIn_wide.2 (Um aN B he))).mono ?_⟩;rintro e W3 ⟨rfl,aO,ap⟩;gi_wp2
 refine⟨F,⟨z,aO,ao.kept ap (fun(e:d=b)=>f.ne e)⟩,ap.mono (fun k _ (e:k=b)=>(z k).2 (.inl e)),fun k X=>.inl X⟩
def vg(s:qS)(n i:Nat):Except Err ((List Nat×Nat×Nat)×Nat):=fK oK s n i
def aeH(ok:Nat->Prop)(s:qS)(x:List Nat×Nat×Nat)(w:World)(v:Value):Prop:=
 ∃lv fv,v=.agg #[lv,fv]/\dG ok x.1 w lv/\rY ok s x.2.1 x.2.2 w fv
theorem Ej:Enters 221:=enters_of func221 qk qk
theorem kY.yB{w:qW}{g:Nat}{a:qv}(h:kY w g [a]):w.cell? (qA g 0)=some a/\w.frozen? (qA g 0)=false:=h 0 qs
theorem Dt{w:qW}{b:Nat}{s:qS}{i n:Nat}(h:Rd w b s i n):
  qC 194 #[qP b] w (Out w b s n (aeH (fun g=>w.heap.size<=g) s) (vg s n i)):=by
 have aa:∀(fn:Fn) (first A:Array qv) (w:qW),(Instr.makeFunc fn first A).run prog w=.ok (.func fn first A) w:=fun _ _ _ _=>rfl;have H:=h.lt;go_enter func194,ntmps194;go_wp2_with fail
 have C:=((OB.new (b:=b) (g:=w.heap.size) (c:= #[qP b]) (t:=149) H rfl).alloc (.cells #[qN,.nilFunc] 205)).alloc (.cells #[qN,.nilFunc] 205);have r:=(OB.new (w:=w.alloc (.cells #[qP b] 149)) (b:=b) (g:=w.heap.size+1) (c:= #[qN,.nilFunc]) (t:=205) qt qs).alloc (.cells #[qN,.nilFunc] 205);have D:=OB.new (w:=(w.alloc (.cells #[qP b] 149)).alloc (.cells #[qN,.nilFunc] 205)) (b:=b) (g:=w.heap.size+1+1) (c:= #[qN,.nilFunc]) (t:=205) qt qs;refine(BQ (S:=three b (w.heap.size+1+1) w.heap.size) (A:= #[qP w.heap.size,.pointer (some ⟨w.heap.size+1+1,0,none⟩)]) oK
  (fun W=>OB W b w.heap.size [qP b]/\∃c0 c1,OB W b (w.heap.size+1+1) [c0,c1])
  (NG (fun g=>w.heap.size+1+1<g) s b (w.heap.size+1+1)) (((h.alloc _).alloc _).alloc _) ⟨C,_,_,D⟩ Ej (.inl rfl) ?_ ?_ ?_).mono ?_
 .rintro W E ⟨U,c0,c1,L⟩ X;exact⟨U.call X,c0,c1,L.call X⟩
 .rintro x W E ⟨lv,f,U,L,h3⟩ X;exact⟨lv,f,U.call X,Row.call L X (fun k ab=>qo),h3.kept X (fun g _ a (e:g=b)=>qo)⟩
 .rintro W j n' hrd ⟨U,c0,c1,L⟩ hsz;refine(IJ hrd U L qo).mono ?_;rintro e E ⟨X,l,m⟩;refine⟨X,fun x j hx=>?_,m⟩;obtain⟨v,I,⟨J,lv,f,K,M,N⟩,O⟩:=l x j hx;exact⟨v,I,⟨J,lv,f,K,Row.mono M (fun g _ a=>by simp at hsz;omega),N.mono (fun g _ a=>by simp at hsz;omega)⟩,O⟩
 rintro e P ⟨y,l,m⟩;have F:Kept (only b) w P:=((((Kept.refl (only b) w).alloc _).alloc _).alloc _).fresh y (fun k X hh=>hh.elim id (fun hh=>hh.elim (fun e=>qo) (fun e=>qo)));have z:=r.kept y (fun hh=>hh.elim (fun e=>r.ne e) (fun hh=>hh.elim (fun e=>qo) (fun e=>qo)));clear C r D y;rcases d:fK oK s n i with⟨q,p⟩|⟨x,j⟩
 .obtain rfl:=m _ _ d;exact⟨rfl,Out.dD d F⟩
 obtain⟨u,rfl,⟨rfl,lv,f,Q,B,G⟩,R⟩:=l _ _ d;obtain⟨pl,cl,rfl⟩:=Row.shape B;have T:=hide G;obtain⟨fb,rfl,-,-⟩:=G;have V:=hide d;have Y:=hide B;clear l m d B;obtain⟨⟨C0,D0⟩,⟨C1,D1⟩⟩:=Q.blk.two;obtain⟨⟨Z,Q0⟩,⟨R1,Q1⟩⟩:=z.blk.two;go_wp2;refine bodyPost_ret (v:=.agg #[.slice pl x.1.length cl,.func (.func 236) #[] #[qP fb]]) ?_ rfl (Out.dW V.o ((F.new qo _).new qo _) ⟨_,_,rfl,?_,?_⟩ ((R.dA z.ne _).dA z.ne _))
 .simp[results,results194,go_sem,Z,R1]
 .exact Row.mono (Row.other (Row.other Y.o (g:=w.heap.size+1) (o:=0) (fun k X=>qo) _) (g:=w.heap.size+1) (o:=1) (fun k X=>qo) _) (fun g _ a=>qo)
 exact((T.o.kept (S:=only (w.heap.size+1)) (qr.own _) (fun g _ a (e:g=w.heap.size+1)=>qo)).kept (S:=only (w.heap.size+1)) (qr.own _) (fun g _ a (e:g=w.heap.size+1)=>qo)).mono (fun g _ a=>qo)
abbrev YQ:=List Nat×Nat×Nat
abbrev zM:=Nat×qS
structure fE where
 dm:List Ty
 funcs:List (Int×Nat)
 tables:List Hf
 jT:List Hf
 dB:List MF
 dw:List Ql
 starts:List (Int×Nat)
 elems:List Qi
 dQ:List YQ
 data:List Dat
 nfuncs:List zM
 kR:List (Nat×List zM)
def fE.new:fE:=⟨[],[],[],[],[],[],[],[],[],[],[],[]⟩
def sD(x:zM):List Value:=[qJ x.1,.string x.2]
def pV(s:qS)(ok:Nat->Prop)(x:YQ)(w:World)(cs:List Value):Prop:=
 ∃lv fv,cs=[lv,fv]/\dG ok x.1 w lv/\rY ok s x.2.1 x.2.2 w fv
def nK(ok:Nat->Prop)(x:Nat×List zM)(w:World)(cs:List Value):Prop:=
 ∃lv,cs=[qJ x.1,lv]/\isRow 276 2 sD ok x.2 w lv
structure Fields where
 v0:Value
 v1:Value
 v2:Value
 v3:Value
 v4:Value
 v5:Value
 v6:Value
 v7:Value
 v8:Value
 v9:Value
 v10:Value
 v11:Value
def Fields.cells(f:Fields):List Value:=[f.v0,f.v1,f.v2,f.v3,f.v4,f.v5,f.v6,f.v7,f.v8,f.v9,f.v10,f.v11]
structure uO(s:qS)(ok:Nat->Prop)(w:World)(f:Fields)(m:fE):Prop where
 h0:gu 198 2 yX ok m.dm w f.v0
 U:isRow 152 2 numCells ok m.funcs w f.v1
 L:isRow 186 4 Hf.cells ok m.tables w f.v2
 h3:isRow 186 4 Hf.cells ok m.jT w f.v3
 h4:isRow 191 5 MF.cells ok m.dB w f.v4
 h5:isRow 194 5 Ql.cells ok m.dw w f.v5
 h6:isRow 152 2 numCells ok m.starts w f.v6
 h7:gu 201 5 uh ok m.elems w f.v7
 h8:gu 205 2 (pV s) ok m.dQ w f.v8
 h9:isRow 216 5 Dat.cells ok m.data w f.v9
 h10:isRow 276 2 sD ok m.nfuncs w f.v10
 h11:gu 279 2 nK ok m.kR w f.v11
 Cj:m.starts=[]->f.v6=qN
 Ci:m.dQ=[]->f.v8=qN
 xR:m.kR=[]->f.v11=qN
theorem gu.kept{i:Type}{E:TypeId}{j:Nat}{f:(qD)->i->qW->qV->Prop}{S ok:qD}{xs:List i}{w w':qW}{v:qv}(h:gu E j f ok xs w v)(X:Kept S w w')(k:∀g,g<w.heap.size->ok g->¬S g)
  (l:∀x cs,f ok x w cs->f ok x w' cs):gu E j f ok xs w' v:=by
 obtain⟨css,U,L⟩:=h;exact⟨css,U.kept X k,L.to (fun x cs hh=>⟨l x cs hh.1,hh.2⟩)⟩
theorem pV.kept{s:qS}{S ok:qD}{w w':qW}{x:YQ}{cs:qV}(h:pV s ok x w cs)(X:Kept S w w')(f:∀g,g<w.heap.size->ok g->¬S g):pV s ok x w' cs:=by
 obtain⟨lv,i,e,a,c⟩:=h;exact⟨lv,i,e,Row.kept a X f,c.kept X f⟩
theorem nK.kept{S ok:qD}{w w':qW}{x:Nat×List zM}{cs:qV}(h:nK ok x w cs)(X:Kept S w w')(f:∀g,g<w.heap.size->ok g->¬S g):nK ok x w' cs:=by
 obtain⟨lv,e,a⟩:=h;exact⟨lv,e,Row.kept a X f⟩
theorem uO.kept{s:qS}{S ok:qD}{w w':qW}{f:Fields}{m:fE}(h:uO s ok w f m)(X:Kept S w w')(i:∀g,g<w.heap.size->ok g->¬S g):uO s ok w' f m:=
 ⟨h.h0.kept X i (fun _ _ e=>e.kept X i),Row.kept h.U X i,Row.kept h.L X i,Row.kept h.h3 X i,Row.kept h.h4 X i,Row.kept h.h5 X i,Row.kept h.h6 X i,
  h.h7.kept X i (fun _ _ e=>e.kept X i),h.h8.kept X i (fun _ _ e=>e.kept X i),Row.kept h.h9 X i,Row.kept h.h10 X i,h.h11.kept X i (fun _ _ e=>e.kept X i),h.Cj,h.Ci,h.xR⟩
def kC(s:qS)(ok:Nat->Prop)(w:World)(b Y:Nat)(m:fE):Prop:=∃f:Fields,OB w b Y f.cells/\uO s ok w f m
theorem kC.call{s:qS}{ok:qD}{w w':qW}{b Y:Nat}{m:fE}(h:kC s ok w b Y m)(X:Kept (only b) w w')(hb:¬ok b):kC s ok w' b Y m:=by
 obtain⟨f,U,L⟩:=h;exact⟨f,U.call X,L.kept X (fun g _ i (e:g=b)=>hb (e▸i))⟩
section
variable {w:qW} {g:Nat} {a b c d e a' b' c' d' e' x y:qv}
theorem kY.twelve(h:kY w g [a,b,c,d,e,a',b',c',d',e',x,y]):
  ((w.cell? (qA g 0)=some a/\w.frozen? (qA g 0)=false)/\(w.cell? (qA g 1)=some b/\w.frozen? (qA g 1)=false)/\(w.cell? (qA g 2)=some c/\w.frozen? (qA g 2)=false)/\
  (w.cell? (qA g 3)=some d/\w.frozen? (qA g 3)=false)/\(w.cell? (qA g 4)=some e/\w.frozen? (qA g 4)=false)/\(w.cell? (qA g 5)=some a'/\w.frozen? (qA g 5)=false))/\
  ((w.cell? (qA g 6)=some b'/\w.frozen? (qA g 6)=false)/\(w.cell? (qA g 7)=some c'/\w.frozen? (qA g 7)=false)/\(w.cell? (qA g 8)=some d'/\w.frozen? (qA g 8)=false)/\
  (w.cell? (qA g 9)=some e'/\w.frozen? (qA g 9)=false)/\(w.cell? (qA g 10)=some x/\w.frozen? (qA g 10)=false)/\(w.cell? (qA g 11)=some y/\w.frozen? (qA g 11)=false)):=
 ⟨⟨h 0 qs,h 1 qs,h 2 qs,h 3 qs,h 4 qs,h 5 qs⟩,h 6 qs,h 7 qs,h 8 qs,h 9 qs,h 10 qs,h 11 qs⟩
end
theorem gu.grown{j:Type}{E i:TypeId}{m k n B:Nat}{f:(qD)->j->qW->qV->Prop}{ok:qD}{xs:List j}{w w':qW}{v l:qv}{ys:qV}(h:gu i k f ok xs w l)(o:w.ownsRow B E m v n ys)(p:i≠E)(q:w.grownBy w' v.ownBlock)
  (r:∀x cs,f ok x w cs->f ok x w' cs):gu i k f ok xs w' l:=by
 obtain⟨css,U,L⟩:=h;exact⟨css,U.grown o p q,L.to (fun x cs hh=>⟨r x cs hh.1,hh.2⟩)⟩
theorem yX.JM{E:TypeId}{ok:qD}{w w':qW}{t:Ty}{cs:qV}{k n B:Nat}{v:qv}{xs:qV}(h:yX ok t w cs)(f:w.ownsRow B E k v n xs)(i:187≠E)(j:w.grownBy w' v.ownBlock):yX ok t w' cs:=by
 obtain⟨l,m,e,a,c⟩:=h;exact⟨l,m,e,Row.grown a f i j,Row.grown c f i j⟩
theorem uh.JM{E:TypeId}{ok:qD}{w w':qW}{t:Qi}{cs:qV}{f n B:Nat}{v:qv}{xs:qV}(h:uh ok t w cs)(i:w.ownsRow B E f v n xs)(j:152≠E)(k:w.grownBy w' v.ownBlock):uh ok t w' cs:=by
 obtain⟨l,e,a⟩:=h;exact⟨l,e,Row.grown a i j k⟩
theorem pV.JM{s:qS}{E:TypeId}{ok:qD}{w w':qW}{t:YQ}{cs:qV}{j n B:Nat}{v:qv}{xs:qV}(h:pV s ok t w cs)(f:w.ownsRow B E j v n xs)(k:187≠E)(l:131≠E)(i:w.grownBy w' v.ownBlock):pV s ok t w' cs:=by
 obtain⟨m,o,e,a,c⟩:=h;exact⟨m,o,e,Row.grown a f k i,c.grown f l i⟩
theorem nK.JM{E:TypeId}{ok:qD}{w w':qW}{t:Nat×List zM}{cs:qV}{f n B:Nat}{v:qv}{xs:qV}(h:nK ok t w cs)(i:w.ownsRow B E f v n xs)(j:276≠E)(k:w.grownBy w' v.ownBlock):nK ok t w' cs:=by
 obtain⟨l,e,a⟩:=h;exact⟨l,e,Row.grown a i j k⟩
def rA(m:fE)(s:ByteArray)(n i:Nat):Except Err (fE×Nat):=
 match uM s n i with
 | .error e=>.error e
 | .ok ((v,a),j)=>
  if v=(m.funcs.length:Int) then
   match eO vg s n m.funcs.length [] j with
   | .error e=>.error e
   | .ok (cs,j2)=>.ok ({m with dQ:=cs},j2)
  else .error (2,a)
theorem acP{w:qW}{b:Nat}{s:ByteArray}{i n:Nat}{x:YQ}{j:Nat}(h:Rd w b s i n)(f:vg s n i=.ok (x,j)):
  qC 194 #[.pointer (some ⟨b,0,none⟩)] w fun e w'=>(∃p c fb,e=.returned (.agg #[.slice p x.1.length c,.func (.func 236) #[] #[.pointer (some ⟨fb,0,none⟩)]])/\dG (fun g=>w.heap.size<=g) x.1 w' (.slice p x.1.length c)/\rY (fun g=>w.heap.size<=g) s x.2.1 x.2.2 w' (.func (.func 236) #[] #[.pointer (some ⟨fb,0,none⟩)]))/\Rd w' b s j n/\Kept (only b) w w':=by
 refine(Dt h).mono ?_;rintro e o ⟨X,k,q⟩;obtain⟨u,rfl,⟨lv,r,rfl,a,d⟩,l⟩:=k _ _ f;obtain⟨p,c,rfl⟩:=Row.shape a;have m:=d;obtain⟨fb,rfl,-,-⟩:=d;exact⟨⟨p,c,fb,rfl,a,m⟩,l,X⟩
theorem aaG{w:qW}{b:Nat}{s:ByteArray}{i n:Nat}{q p:Nat}(h:Rd w b s i n)(hu:vg s n i=.error (q,p)):
  qC 194 #[.pointer (some ⟨b,0,none⟩)] w fun e w'=>e=iK q p/\Kept (only b) w w':=by
 refine(Dt h).mono ?_;exact aa3
theorem Tryz.aci:(prog.info? 205).map (fun i=>(i.zero,i.size,i.bytes))=some (some (.agg #[.slice none 0 0,.nilFunc]),2,32):=qk
def uY(s:ByteArray)(B b Y:Nat)(m:fE)(w:World)(v:Value):Prop:=v=.tuple #[]/\kC s (fun g=>B<=g) w b Y m
theorem pV.mono{s:ByteArray}{ok ok':qD}{w:qW}{x:YQ}{cs:qV}(h:pV s ok x w cs)(b:∀g,g<w.heap.size->ok g->ok' g):pV s ok' x w cs:=by
 obtain⟨lv,d,e,a,c⟩:=h;exact⟨lv,d,e,Row.mono a b,c.mono b⟩
theorem Lc{w:qW}{b Y B:Nat}{s:ByteArray}{i n:Nat}{m:fE}(h:Rd w b s i n)(hm:kC s (fun g=>B<=g) w b Y m)(hb:b<B)(a0:Y<B)(hB:B<=w.heap.size)(a1:m.funcs.length<=20)(aB:m.dQ=[]):
  qC 169 #[.pointer (some ⟨Y,0,none⟩),.pointer (some ⟨b,0,none⟩)] w (fC (both b Y) w b s n (uY s B b Y) (rA m s n i)):=by
 obtain⟨i0,aC,aD,aE,aF⟩:=info_parts Tryz.aci;go_enter func169,ntmps169;go_wp2_with fail
 refine(uQ h).mono ?_;rintro e w1 ⟨R,ag,ah⟩;have ad:Kept (both b Y) w w1:=R.gG;rcases M:uM s n i with⟨q,p⟩|xj
 .obtain rfl:=ah _ _ M;exact⟨rfl,fC.dD (by simp[rA,M]) ad⟩
 obtain⟨⟨v,a⟩,T⟩:=xj;obtain⟨u,rfl,hv,I⟩:=ag _ _ M;obtain rfl:u=.agg #[.int .u32 v,.int .i64 a]:=hv;obtain⟨v0,v1,-,-,-⟩:=mW M;obtain⟨f,ai,V⟩:=hm;have W:=ai.call R;have HH:=hide V;have aG:=hide W;have aH:f.v8=.slice none 0 0:=V.Ci aB;obtain⟨p1,c1,aI⟩:=Row.shape V.U;obtain⟨⟨F0,G0⟩,⟨F1,G1⟩,-⟩:=W.blk.twelve.1;rw[aI] at F1;have a2:=W.lt;have a3:=R.size;have HO:=hide M;clear ag ah M R F0 G0 V W ai;by_cases G:v=(m.funcs.length:Int)
 .subst G;have t1:(((m.funcs.length:Int)) !=(m.funcs.length:Int))=false:=qs;go_wp2;go_quiet (fail)
  go_wp2;go_loopw [25] (fun q wr=>∃(k j:Nat) (cs:List YQ) (lv:qv),k<=m.funcs.length/\cs.length=k/\q=.int .i64 k/\Rd wr b s j n/\Kept (both b Y) w wr/\OB wr b Y ({f with v8:=lv}:Fields).cells/\
    gu 205 2 (pV s) (fun g=>w.heap.size<=g) cs wr lv/\(cs=[]->lv=.slice none 0 0)/\eO vg s n m.funcs.length [] T=eO vg s n (m.funcs.length - k) cs j) (fun q _=>m.funcs.length - (intOf q).toNat)
  case atStart=>refine⟨0,T,[],.slice none 0 0,qZ,rfl,rfl,(I.alloc _).drewN _,(ad.alloc _).drewN _,?_,⟨[],Row.nil _ _ _ _,trivial⟩,fun _=>rfl,rfl⟩;have:=((aG.o).alloc (.cells #[.int .u32 m.funcs.length,.int .i64 a] 152)).drewN nq;rw[<-aH];exact this
  obtain⟨k,j,ks,lv,X,hl,rfl,I,N,O,aJ,aj,ak⟩:=hrel;subst hl;have HE:=hide ak;clear ak;obtain⟨css,Z,am⟩:=aJ;obtain⟨pl,cl,rfl⟩:=Row.shape Z;obtain⟨I8,J8⟩:=O.blk.twelve.2.2.2.1;have ae:=hide am;clear am;have aK:=hide aj;clear aj;by_cases a4:ks.length<m.funcs.length
  .have hlt':(ks.length:Int)<(m.funcs.length:Int):=qo;rcases hu:vg s n j with⟨q,p⟩|⟨x,j2⟩
   .have P:=hide hu;clear hu;go_wp2_with fail
    refine(aaG I P.o).mono ?_;rintro e J ⟨rfl,F⟩;exact⟨rfl,fC.dD (by simp[rA,HO.o,HE.o,CE (tM:=vg) (show 0<m.funcs.length - ks.length by omega) P.o]) (N.trans F.gG)⟩
   have P:=hide hu;clear hu;go_wp2_with fail
   refine(acP I P.o).mono ?_;rintro e J ⟨⟨z,C,D,rfl,an,ao⟩,ap,F⟩;have a5:=I.lt;have a6:Y<w.heap.size:=qo;have G:Y≠b:=O.ne;have aq:Y<wr.heap.size:=O.lt;have a7:=F.size;obtain⟨d,E⟩:=qE (J.alloc (.cells #[.slice z x.1.length C,.func (.func 236) #[] #[.pointer (some ⟨D,0,none⟩)]] 205));have aa:qK J d:=by rw[E];exact qr.alloc _
   have aL:OB d b Y ({f with v8:=.slice pl ks.length cl}:Fields).cells:=by rw[E];exact(O.call F).alloc _
   have aM:Rd d b s j2 n:=by rw[E];exact ap.alloc _
   have ar:Kept (both b Y) w d:=by rw[E];exact(N.trans F.gG).alloc _
   have au:Row (fun g=>w.heap.size<=g) d 205 2 (.slice pl ks.length cl) ks.length css.flatten:=Row.kept (Row.kept Z F (fun g _ l (e:g=b)=>by have:=h.lt;omega)) aa (fun _ _ _ c=>c);have aN:d.heap.size=J.heap.size+1:=by rw[E];simp
   have a8:J.heap.size<d.heap.size:=qo;have a9:d.cell? ⟨J.heap.size,0,none⟩=some (.slice z x.1.length C):=by rw[E,World.cell?_alloc_new];rfl
   have ba:d.cell? ⟨J.heap.size,1,none⟩=some (.func (.func 236) #[] #[.pointer (some ⟨D,0,none⟩)]):=by rw[E,World.cell?_alloc_new];rfl
   have aO:Y<d.heap.size:=qo;have q8:d.cell? ⟨Y,8,none⟩=some (.slice pl ks.length cl):=by
    rw[E,World.cell?_alloc_lt _ _ _ (by simp only;omega)];exact(F.other aq G).trans I8
   have f8:d.frozen? ⟨Y,8,none⟩=false:=by
    rw[E,World.frozen?_alloc_old _ _ _ (by simp only;omega)];exact(F.oz aq G).trans J8
   have aP:qh (Each (fun y cs=>pV s (fun g=>w.heap.size<=g) y d cs/\cs.length=2) ks css):=ae.o.to (fun y cs hh=>⟨(hh.1.kept F (fun g _ l (e:g=b)=>by have:=h.lt;omega)).kept aa (fun _ _ _ c=>c),hh.2⟩);have aQ:qh (pV s (fun g=>w.heap.size<=g) x d [.slice z x.1.length C,.func (.func 236) #[] #[.pointer (some ⟨D,0,none⟩)]]):=pV.kept ⟨_,_,rfl,Row.mono an (fun g _ l=>Nat.le_trans N.size l),ao.mono (fun g _ l=>Nat.le_trans N.size l)⟩ aa (fun _ _ _ c=>c);have ab:qh ((d.alloc (.cells #[.slice z x.1.length C,.func (.func 236) #[] #[.pointer (some ⟨D,0,none⟩)]] 205)).drew.ownsRow w.heap.size 205 2 (.slice pl ks.length cl) ks.length css.flatten):=(Row.kept au (S:=fun _=>False) (w':=(d.alloc (.cells #[.slice z x.1.length C,.func (.func 236) #[] #[.pointer (some ⟨D,0,none⟩)]] 205)).drew) ((qr.alloc _).drew) (fun _ _ _ c=>c)).pO (fun g l=>l);have av:(d.alloc (.cells #[.slice z x.1.length C,.func (.func 236) #[] #[.pointer (some ⟨D,0,none⟩)]] 205)).cell? ⟨Y,8,none⟩=some (.slice pl ks.length cl):=(World.cell?_alloc_lt _ _ _ aO).trans q8;have aw:(d.alloc (.cells #[.slice z x.1.length C,.func (.func 236) #[] #[.pointer (some ⟨D,0,none⟩)]] 205)).frozen? ⟨Y,8,none⟩=false:=(World.frozen?_alloc_old _ _ _ (by simp only;omega)).trans f8;clear an ao ae Z F I I8 J8 au aa aN;go_wp2_with fail
   rw[<-E];clear E;go_region_law (refine step_append_lies _ (by rfl) _ _ _ (by rfl) w.heap.size 205 i0 _ 2 32 underlying139 aC aD aE aF rfl qo (.slice pl ks.length cl) ks.length css.flatten (by rfl) ab.o ⟨d.heap.size,0,none⟩ 1 1 [.slice z x.1.length C,.func (.func 236) #[] #[.pointer (some ⟨D,0,none⟩)]] (by rfl) (by rfl) (World.news_of_block (cs:= #[.slice z x.1.length C,.func (.func 236) #[] #[.pointer (some ⟨D,0,none⟩)]]) (t:=205) (fr:=(0,0)) (heap_alloc_new d _)) (by simp[Value.oneCell']) qo (by unfold maxLen;omega) qo (by have:=ar.size;simp at*;omega) (d.heap.size+1) qs ?_;intro H A Q ax K aR aS;have af:some Y≠(Value.slice pl ks.length cl).ownBlock:=fun e=>absurd (ab.o.lt Y e.symm).1 qo;have aT:Q.cell? ⟨Y,8,none⟩=some (.slice pl ks.length cl):=(K.cell_far ⟨Y,8,none⟩ qt af).trans av;have aU:Q.frozen? ⟨Y,8,none⟩=false:=(K.frozen_far ⟨Y,8,none⟩ qt af).trans aw)
   all_goals
    have ac:=ab.o;have aV:=(ny (aM.alloc _).drew ac h.lt K).dA (o:=8) G (.slice (some ⟨H,0,none⟩) (ks.length+1) A);have aW:=(iP (ar.alloc _).drew ac qR K).uw (o:=8) (.slice (some ⟨H,0,none⟩) (ks.length+1) A);have ay:=((aL.alloc (.cells #[.slice z x.1.length C,.func (.func 236) #[] #[.pointer (some ⟨D,0,none⟩)]] 205)).drew.kept (Kept.iB K) (fun e=>af e.symm)).set 8 (.slice (some ⟨H,0,none⟩) (ks.length+1) A);have az:gu 205 2 (pV s) (fun g=>w.heap.size<=g) (ks++[x]) (Q.setCell ⟨Y,8,none⟩ (.slice (some ⟨H,0,none⟩) (ks.length+1) A)) (.slice (some ⟨H,0,none⟩) (ks.length+1) A):=by
     have aA:∀y cs,pV s (fun g=>w.heap.size<=g) y d cs->pV s (fun g=>w.heap.size<=g) y (Q.setCell ⟨Y,8,none⟩ (.slice (some ⟨H,0,none⟩) (ks.length+1) A)) cs:=fun y cs hy=>
      ((hy.kept (((Kept.refl (fun _=>False) d).alloc _).drew) (fun _ _ _ c=>c)).JM ac qx qx K).kept (S:=only Y) (qr.own _) (fun g _ l (e:g=Y)=>qo)
     refine⟨css++[[.slice z x.1.length C,.func (.func 236) #[] #[.pointer (some ⟨D,0,none⟩)]]],?_,?_⟩
     .have q:=Row.other (Row.nS (ok:=fun g=>w.heap.size<=g) ax (fun g l _=>l)) (g:=Y) (o:=8) (fun k X=>qo) (.slice (some ⟨H,0,none⟩) (ks.length+1) A);simpa using q
     exact Each.snoc (aP.o.to (fun y cs hh=>⟨aA y cs hh.1,hh.2⟩)) ⟨aA _ _ aQ.o,rfl⟩
    have aX:qh (eO vg s n m.funcs.length [] T=eO vg s n (m.funcs.length - (ks.length+1)) (ks++[x]) j2):=HE.o.trans (pJ qo P.o);have HR:=hide az;have aY:=hide ay;clear az ax K aR aS aT aU q8 f8 av aw ac ay ap ab;go_wp2;go_roundw
    case rel=>exact⟨ks.length+1,j2,ks++[x],.slice (some ⟨H,0,none⟩) (ks.length+1) A,qo,qs,by go_num,aV,aW,aY.o,HR.o,fun e=>by simp at e,aX.o⟩
    simp[intOf];omega
  have aZ:qh (eO vg s n m.funcs.length [] T=.ok (ks,j)):=by show _=_;rw[HE.o,show m.funcs.length - ks.length=0 by omega];rfl
  go_wp2;go_end0;have r:=HH.o.kept N (fun g _ l hh=>hh.elim (fun e=>qo) (fun e=>qo));refine fC.dW (x:={m with dQ:=ks}) (j:=j) (by simp[rA,HO.o,aZ.o]) N ⟨rfl,{f with v8:=.slice pl ks.length cl},O,?_⟩ I;exact⟨r.h0,r.U,r.L,r.h3,r.h4,r.h5,r.h6,r.h7,⟨css,Row.mono Z (fun g _ l=>qo),ae.o.to (fun y cs hh=>⟨hh.1.mono (fun g _ l=>qo),hh.2⟩)⟩,r.h9,r.h10,r.h11,r.Cj,aK.o,r.xR⟩
 have t1:(v !=(m.funcs.length:Int))=true:=by simpa using G
 have HN:=hide G;clear G;go_wp2;go_quiet (fail)
 go_wp2_with fail
 refine(iY _ _).mono ?_;rintro e Q ⟨rfl,rfl⟩;exact⟨rfl,fC.dD (by simp[rA,HO.o,HN.o]) ((ad.alloc _).drewN _)⟩
def iE(t:qS):Bool:=(tl t 0).all kT&&t.size !=0
theorem WG{t:qS}{k:Nat}(h:k<t.size)(hx:kT t[k].toNat=true):(tl t k).all kT=(tl t (k+1)).all kT:=by
 rw[AL h];simp[hx]
theorem aaL{t:qS}{k:Nat}(h:k<t.size)(hx:kT t[k].toNat=false):(tl t k).all kT=false:=by
 rw[AL h];simp[hx]
theorem O5(t:qS)(w:qW)(n:t.size<=20):qC 228 #[.string t] w fun e w'=>e=.returned (.bool (iE t))/\w'=w:=by
 have p:∀(x:Bool) (w:qW),(Op.unary .not (.bool x)).run prog w=.ok (.bool (!x)) w:=fun _ _=>rfl;have r:(t.size:Int)<=20:=qo;go_enter func228,ntmps228;go_wp2;go_loop [3,6] (fun _ q=>∃k:Nat,k<=t.size/\q=qJ k/\(tl t 0).all kT=(tl t k).all kT) (fun _ q=>t.size - (intOf q).toNat)
 case atStart=>exact⟨0,qZ,rfl,rfl⟩
 obtain⟨k,X,rfl,g⟩:=hrel;have c:=hide g;clear g;by_cases i:k<t.size
 .have hlt':(k:Int)<(t.size:Int):=qo;cases hx:kT t[k].toNat with
  | true=>
   have HN:=hide (c.o.trans (WG i hx));have HX:=hide hx;clear hx;go_wp2_with fail
   refine(JG _ _).mono ?_;exact ae6
  | false=>
   have HN:=hide (c.o.trans (aaL i hx));have HX:=hide hx;clear hx;go_wp2_with fail
   refine(JG _ _).mono ?_;rintro e w3 ⟨rfl,rfl⟩;rw[HX.o];go_wp2;go_ret;exact⟨by simp[iE,HN.o],rfl⟩
 have HN:qh ((tl t 0).all kT=true):=c.o.trans (by rw[OH qo];rfl);by_cases b:t.size=0
 .have f:qh (iE t=false):=by show _=_;simp[iE,b]
  have j:t={data:= #[]}:=by
   have:t.data.size=0:=b;cases t;rename_i d;congr;exact Array.eq_empty_of_size_eq_zero this
  subst j;go_wp2;go_ret;exact⟨by rw[f.o];rfl,rfl⟩
 have f:qh (iE t=true):=by show _=_;unfold iE;rw[HN.o];simpa using b
 have s:(t.toList.isEmpty)=false:=by
  rw[ByteArray.toList_eq];cases m:t.data.toList with
  | nil=>exact absurd (show t.data.size=0 by rw[<-Array.length_toList,m];rfl) b
  | cons a l=>rfl
 go_wp2;go_ret;exact⟨by rw[f.o];rfl,rfl⟩
def oJ(least end_:Nat)(s:qS)(n i:Nat):Except Err (Nat×Nat):=
 match uM s n i with
 | .error e=>.error e
 | .ok ((v,a),j)=>if v<(least:Int)\/(end_:Int)<=v then .error (2,a) else .ok (v.toNat,j)
theorem BC{w:qW}{b:Nat}{s:qS}{i n:Nat}(d end_:Nat){z:Int}(k:z=(d:Int))(h:Rd w b s i n)(_hl:d<=5000)(_he:end_<=5000):
  qC 226 #[qP b,qJ z,qJ end_] w (Out w b s n isInt (oJ d end_ s n i)):=by
 subst k;go_enter func226,ntmps226;go_wp2_with fail
 refine(uQ h).mono ?_;rintro e r ⟨X,f,g⟩;rcases c:uM s n i with⟨q,p⟩|⟨⟨v,a⟩,j⟩
 .obtain rfl:=g _ _ c;exact⟨rfl,Out.dD (by simp[oJ,c]) X⟩
 obtain⟨u,rfl,l,hrd⟩:=f _ _ c;obtain rfl:u=.agg #[.int .u32 v,qJ a]:=l;obtain⟨v0,v1,-,-,-⟩:=mW c;clear f g;by_cases U:v<(d:Int)
 .have m:decide (v<(d:Int))=true:=by simpa using U
  have HH:qh (oJ d end_ s n i=.error (2,a)):=by show _=_;simp[oJ,c,U]
  clear c U;exact ae7
 have m:decide (v<(d:Int))=false:=by simpa using U
 by_cases L:(end_:Int)<=v
 .have o:decide ((end_:Int)<=v)=true:=by simpa using L
  have HH:qh (oJ d end_ s n i=.error (2,a)):=by show _=_;simp[oJ,c,L]
  clear c U;exact ae7
 have o:decide ((end_:Int)<=v)=false:=by simpa using L
 have HH:qh (oJ d end_ s n i=.ok (v.toNat,j)):=by show _=_;simp[oJ,c,U,L]
 clear c U;exact adW
theorem Tryz.acf:(prog.info? 276).map (fun i=>(i.zero,i.size,i.bytes))=some (some (.agg #[qJ 0,.string {data:= #[]}]),2,24):=qk
def qQ(ns:List zM)(t:qS):Bool:=ns.any fun x=>x.2.toList==t.toList
theorem Row.cells{ok:qD}{w:qW}{E:TypeId}{a:Nat}{v:qv}{n:Nat}{xs:qV}(h:Row ok w E a v n xs)(c:0<n):
  ∃g A,v=.slice (some (qA g 0)) n A/\ok g/\g<w.heap.size/\n<=A/\∀i,i<n*a->w.cell? (qA g i)=xs[i]?:=by
 rcases h.own.2 with⟨_,d⟩ | ⟨g,A,e,rfl,_,hb,U,L,h3,h4⟩
 .omega
 refine⟨g,A,rfl,h.at_ g rfl,(Array.getElem?_eq_some_iff.1 hb).1,U,fun i b=>?_⟩;rw[<-h4,List.getElem?_take_of_lt b,Array.getElem?_toList];simp[World.cell?,hb]
theorem flat_get{a:Type}{f:a->qV}{m:Nat}(hf:∀x,(f x).length=m):∀{xs:List a} {k o:Nat} {x:a},xs[k]?=some x->o<m->(xs.flatMap f)[k*m+o]?=(f x)[o]?
 | [],k,o,x,h,_=>by simp at h
 | y::ys,0,o,x,h,ho=>by
  simp at h;subst h;simp only[List.flatMap_cons];rw[List.getElem?_append_left (by rw[hf];omega)];simp
 | y::ys,k+1,o,x,h,ho=>by
  simp at h;simp only[List.flatMap_cons];rw[List.getElem?_append_right (by rw[hf,Nat.add_mul];omega),hf,show(k+1)*m+o - m=k*m+o by rw[Nat.add_mul];omega];exact flat_get hf h ho
theorem Rn{w:qW}{ok:qD}{a:List zM}{v:qv}(t:qS)(f:isRow 276 2 sD ok a w v)(y:a.length<=5000):qC 227 #[v,.string t] w fun e w'=>(∃z:Int,e=.returned (.tuple #[qJ z,.bool (qQ a t)]))/\qK w w':=by
 obtain⟨p,c,rfl⟩:=Row.shape f;go_enter func227,ntmps227;go_wp2;go_loopw [10] (fun q wr=>∃k:Nat,k<=a.length/\q=qJ k/\qK w wr/\qQ a t=qQ (a.drop k) t) (fun q _=>a.length - (intOf q).toNat)
 case atStart=>exact⟨0,qZ,rfl,Kept.refl _ _,rfl⟩
 obtain⟨k,X,rfl,d,j⟩:=hrel;have h:=hide j;clear j;by_cases l:k<a.length
 .have hlt':(k:Int)<(a.length:Int):=qo;have n:isRow 276 2 sD ok a wr (.slice p a.length c):=Row.kept f d (fun _ _ _ hc=>hc);obtain⟨g,A,u,-,B,C,i⟩:=Row.cells n qo;cases u;have hx:a[k]?=some a[k]:=List.getElem?_eq_getElem l;have c0:wr.cell? ⟨g,k*2,none⟩=some (qJ (a[k].1:Nat)):=(i (k*2) qo).trans (flat_get (m:=2) (o:=0) (fun _=>rfl) hx qo);have c1:wr.cell? ⟨g,k*2+1,none⟩=some (.string a[k].2):=(i (k*2+1) qo).trans (flat_get (m:=2) (o:=1) (fun _=>rfl) hx qo);have r:qQ (a.drop k) t=(a[k].2.toList==t.toList||qQ (a.drop (k+1)) t):=by rw[List.drop_eq_getElem_cons l];rfl
  have s:=hide r;clear i n f hx r;generalize a[k]=x at*;cases hx:(x.2.toList==t.toList) with
  | true=>
   have b:qh (qQ a t=true):=h.o.trans (s.o.trans (by rw[hx];rfl));go_wp2;go_ret2
   exact⟨⟨_,by rw[b.o];rfl⟩,d.alloc _⟩
  | false=>
   have b:qh (qQ a t=qQ (a.drop (k+1)) t):=h.o.trans (s.o.trans (by rw[hx];rfl));go_wp2;go_roundw
   case rel=>exact⟨k+1,qo,by go_num,d.alloc _,b.o⟩
   simp[intOf];omega
 have b:qh (qQ a t=false):=h.o.trans (by rw[List.drop_eq_nil_of_le qo];rfl);go_wp2;go_ret2
 exact⟨⟨_,by rw[b.o];rfl⟩,d⟩
end Go.Proofs.YtdaafkmhfedkiaaGreat
