import Derived.RangeFuncIn
import Derived.Test.YtfkcodlceoghpaaGreatDoorX37
import Derived.Test.YtfkcodlceoghpaaGreatDoorX38
namespace Go.Proofs.YtfkcodlceoghpaaGreatDoor.Zev
set_option linter.unusedSimpArgs false
set_option linter.unusedVariables false
open Go.Deep
def D1(X:Cx)(d d':Deferred):Prop:=
 match d.target with
 | .fn (.func f) c=>∃c',d'.target=.fn (.func f) c'/\aO X c.toList c'.toList/\aO X d.args.toList d'.args.toList
 | .collected id=>id<X.nx/\d'={target:=.collected (X.j id).b,args:= #[]}
 | _=>False
def DR(X:Cx):List Deferred->List Deferred->Prop
 | [],l=>l=[]
 | d::ds,l=>∃d' ds',l=d'::ds'/\D1 X d d'/\DR X ds ds'
theorem D1.mono{X b:Cx}(h:X.le b){d c:Deferred}(hd:D1 X d c):D1 b d c:=by
 unfold D1 at*;split at hd
 .obtain⟨c',h1,h2,h3⟩:=hd;exact⟨c',h1,h2.mono h,h3.mono h⟩
 .obtain⟨h1,h2⟩:=hd;exact⟨qao h1 h.nx,by rw[h.j _ h1];exact h2⟩
 exact hd
theorem DR.mono{X b:Cx}(h:X.le b):∀{l c:List Deferred},DR X l c->DR b l c
 | [],_,hl=>hl
 | _::_,_,⟨d',ds',h1,h2,h3⟩=>⟨d',ds',h1,h2.mono h,DR.mono h h3⟩
structure eu(X:Cx)(aa:AA)(a:Act):Prop where
 regs:RR X aa.regs aa.n a.tmps
 defers:DR X aa.defers a.defers
theorem eu.mono{X b:Cx}(h:X.le b){c:AA}{a:Act}(d:eu X c a):eu b c a:=⟨d.regs.mono h,d.defers.mono h⟩
theorem eu.gr{X:Cx}{b:AA}{a:Act}(c:eu X b a):GR X (gv b.regs) a:=⟨λt K h=>by
 obtain⟨v,h1,h2⟩:=kP h;obtain⟨u,h3,h4⟩:=c.regs.2 t v h1;refine⟨v,h2,?_⟩;have:a.tmps.getD t undef=u:=by simp[Array.getD_eq_getD_getElem?,h3]
 rw[this];exact h4⟩
section
variable {P:qp}{T:Tab}{e:Env}{X:Cx}{s:AS}{w:qW}{a:Act}{o:Oper}{r:Option Nat}{Q:Exit->Act->qW->Prop}{ops:Array Oper}
theorem sF{l:List Deferred}{K:List Deferred->Prop}(h:y8 l K):K l:=by cases l<;>exact h
theorem jo{b:AA}(f:eu X b a){g:Option Tmp}{v u:qv}{K:AA->Prop}(k:VR X v u)(h:dB b g v K):∃j,K j/\eu X j (a.put g u):=by
 cases g with
 | none=>exact⟨b,h,f⟩
 | some d=>
  have h0:nat b.n (λn=>yes (Nat.blt d n) (y8 b.defers (λl=>iq b.regs d v (λt=>K ⟨t,n,l⟩)))):=h;obtain⟨h1,h2⟩:=aB (aK h0);obtain⟨t,h3,h4⟩:=dL (sF h2);have hd:=aG.1 h1;refine⟨_,h4,⟨by simp[Act.put];exact f.regs.1,λi x hx=>?_⟩,f.defers⟩;change aC t i=some x at hx
  rw[h3 i]at hx;simp only[Act.put];have q:=f.regs.1;split at hx
  .rename_i e;subst e;cases hx;exact⟨u,by rw[qas (by omega)],k⟩
  rename_i e;obtain⟨m,h5,p⟩:=f.regs.2 i x hx;exact⟨m,by rw[qam (λc=>e c.symm)];exact h5,p⟩
theorem iF{k:AA}(q:eu X k a){l m:Prop}(h:cZ ops.toList (gv k.regs) o l m):(l/\Region.wanted o (yielded ops a.tmps)=true)\/(m/\Region.wanted o (yielded ops a.tmps)=false):=by
 unfold cZ at h;unfold Region.wanted;cases hg:o.guard with
 | none=>rw[hg]at h;exact .inl ⟨h,rfl⟩
 | some y=>
  obtain⟨j,B⟩:=y;rw[hg]at h;obtain⟨p,h1,h2⟩:=uG h;obtain⟨t,h3,h4⟩:=aH h2;obtain⟨v,h5,z⟩:=kP h4;obtain⟨u,h7,f⟩:=q.regs.2 t v h5;have n:yielded ops a.tmps j=match u with | .bool b=>some b | _=>none:=by
   have A:ops[j]?=some p:=by simpa using h1
   unfold yielded;rw[A];simp only[Option.bind_some,h3,h7];cases u<;>rfl
  obtain⟨b,rfl,g⟩ | ⟨x,rfl,g⟩:=nS z
  .rw[gX]at f;subst f;simp only[n];obtain⟨rfl,i⟩ | ⟨rfl,i⟩:=aI g
   .obtain⟨c,d⟩ | ⟨c,d⟩:=aI i
    .exact .inl ⟨d,by simp at c;subst c;rfl⟩
    exact .inr ⟨d,by simp at c;subst c;rfl⟩
   obtain⟨c,d⟩ | ⟨c,d⟩:=aI i
   .exact .inr ⟨d,by simp at c;subst c;rfl⟩
   exact .inl ⟨d,by simp at c;subst c;rfl⟩
  obtain⟨x⟩:=x;obtain⟨cs,rfl,_⟩:=bE.1 f;exact .inr ⟨g,by simp[n]⟩
theorem sO(i:Rel X s w){b:AA}(d:eu X b a)(l:r=none){c:Call}{K:AA->Prop}{next:Act->qW->Prop}(ho:o.op=.defer c)(h:lZ c e b K)(hn:∀j a',K j->eu X j a'->next (a'.put o.dst undef) w):o.wpIn (Fw r) 0 P a w next Q:=by
 subst l;obtain⟨_,h1⟩:=aB h;obtain⟨m,args,ts⟩:=c;cases m with
 | value f=>
  obtain⟨v,h2,h3⟩:=aD i d.gr (K:=λv=>lT args.toList (gv b.regs) (λa9=>match v with
   | .func (.func f) ⟨x⟩ c=>K ⟨b.regs,b.n,{target:=.fn (.func f) c,args:=⟨x++a9⟩}::b.defers⟩
   | _=>False)) h1
  obtain⟨a9,h4,h5⟩:=gK i d.gr h2;split at h4
  .rename_i q x c;obtain⟨c⟩:=c;obtain⟨k,g,p,h7,t⟩:=eO.1 h3;refine⟨λ_ _=>trivial,?_⟩;have u:(o.semAt (Fw none).round a.eval).run P w=.ok (.defer {target:=.fn (.func q) g,args:=k++args.map a.eval}) w:=by
    change (execOp a.eval o).run P w=_
    simp[execOp,ho,resolve,p,Deferred.ofValue]
   rw[u];refine hn _ ⟨a.tmps,{target:=.fn (.func q) g,args:=k++args.map a.eval}::a.defers⟩ h4 ⟨d.regs,_,_,rfl,⟨g,rfl,t,?_⟩,d.defers⟩;have:=h7.append h5;simpa using this
  exact h4.elim
 | _=>exact h1.elim
structure dn(P:Program)(ρ:Nat->Int)(T:Tab)(e:Env)(r:Option Nat):Prop where
 prog:dZ P
 tab:bn P ρ T
 call:jT P ρ e.iK
 round:gY P ρ e.fP
 wL:e.wL=r.isSome
theorem sI{l:List Oper}:∀{i:Nat}{b:AA}{a:Act}{X:Cx}{s:AS}{w:qW}{K:KA},dn P X.ρ T e r->ops.toList.drop i=l->gz l P T e ops.toList b s K->Rel X s w->eu X b a->
  (∀q k s' a' w',K k s'->Rel q s' w'->Ext X s w q s' w'->eu q k a'->Q .normal a' w')->wpOpsIn (Fw r) 0 P ops Q (List.range' i l.length) a w:=by
 induction l with
 | nil=>intro i b a X s w K _ _ h g f m;exact m X b s a w h g (Ext.refl X s w) f
 | cons o l t=>
  intro i b a X s w K d hd h g f m;have ho:ops[i]?=some o:=by
   have:(ops.toList.drop i)[0]?=some o:=by rw[hd];rfl
   rw[List.getElem?_drop]at this;simpa using this
  have x:ops.toList.drop (i+1)=l:=by rw[<-List.drop_drop,hd];rfl
  simp only[qbc,List.range'_succ,wpOpsIn,ho];have h0:cZ ops.toList (gv b.regs) o (yN o P T e b s (λa s=>gz l P T e ops.toList a s K)) (dB b o.dst (.tuple #[]) (λa=>gz l P T e ops.toList a s K)):=h;obtain⟨h1,y⟩ | ⟨h1,y⟩:=iF f h0
  .rw[qaj y];have h2: @Option.rec _ (λ_=>Prop) (nA o.op P T e s (gv b.regs) (λv s=>dB b o.dst v (λa=>gz l P T e ops.toList a s K))) (λc=>lZ c e b (λa=>dB a o.dst (.tuple #[]) (λa=>gz l P T e ops.toList a s K))) (gW o.op):=h1;cases j:gW o.op with
   | none=>rw[j]at h2;refine rM d.prog d.tab g f.gr d.call d.round h2 (λv s' q u w' k1 z A B=>?_);obtain⟨k,n,p⟩:=jo (f.mono A.le) B k1;exact t (by rw[A.le.ρ];exact d) x n z p (λC D E F G H I J L=>m C D E F G H I (A.trans J) L)
   | some c=>
    rw[j]at h2;have M:o.op=.defer c:=by
     unfold gW at j;split at j
     .cases j;assumption
     cases j
    have N:r=none:=by
     obtain⟨h3,_⟩:=aB h2;have:=d.wL;cases r with
     | none=>rfl
     | some _=>rw[this]at h3;cases h3
    refine sO g f N M h2 (λO R k1 z=>?_);obtain⟨k,n,p⟩:=jo z (v:=.tuple #[]) (u:=undef) (show VR X (.tuple #[]) undef from⟨#[],rfl,rfl⟩) k1;exact t d x n g p m
  rw[qae (by rw[y];simp)];obtain⟨k,n,p⟩:=jo f (v:=.tuple #[]) (u:=undef) (show VR X (.tuple #[]) undef from⟨#[],rfl,rfl⟩) h1;exact⟨λ_ _=>trivial,t d x n g p m⟩
theorem nX{id:Nat}{c:AA}{K:KA}(f:dn P X.ρ T e r)(h:gz ops.toList P T e ops.toList c s K)(g:Rel X s w)(j:eu X c a)
  (k:∀b d s' a' w',K d s'->Rel b s' w'->Ext X s w b s' w'->eu b d a'->Q .normal a' w'):(Code.region id ops false).wpIn (Fw r) 0 P Q a w:=by
 refine wpIn_region ?_;have:=sI (Q:=Q) (r:=r) (i:=0) f (by simp) h g j k;rw[List.range_eq_range'];simpa using this
end
theorem rC{P:qp}{F:Fence}{m:Nat}{c:Code}{Q:Exit->Act->qW->Prop}{a:Act}{w:qW}(o:Nat->Act->qW->Prop)(n:Nat)(h0:o n a w)(s:∀a w,¬o 0 a w)
  (round:∀n a w,o (n+1) a w->c.wpIn F m P (Exit.then (λa' w'=>o n a' w') Q) a w):(Code.loop c).wpIn F m P Q a w:=by
 intro b k cs t p q;have key:∀j a w,o j a w->∃e a' w',Q e a' w'/\ArrivesIn (Machine.fenced P F) P (lone (b.atR a (.code c::.inLoop c::k)) cs w) b k cs e a' w':=by
  intro j;induction j with
  | zero=>intro a w h;exact absurd h (s a w)
  | succ j u=>
   intro a w h;obtain⟨e,g,i,d,f⟩:=round j a w h b (.inLoop c::k) cs t p q;cases e with
   | normal=>obtain⟨v,y,z,A,B⟩:=u g i d;exact⟨v,y,z,A,.of_steps (StepsIn.trans f (.one (fenced_calm p q rfl) stepR_inLoop)) B⟩
   | exit id=>exact⟨_,g,i,d,.pass (x:=.inLoop c) rfl (λ_ _=>.inl (by simp)) f⟩
   | goto l=>exact⟨_,g,i,d,.pass (x:=.inLoop c) rfl (λ_ _=>.inl (by simp)) f⟩
   | ret=>exact⟨_,g,i,d,.pass (x:=.inLoop c) rfl (λ_ _=>.inl (by simp)) f⟩
   | panic C=>exact⟨_,g,i,d,.pass (x:=.inLoop c) rfl (λ_ _=>.inl (by simp)) f⟩
   | outgrown=>exact⟨_,g,i,d,.pass (x:=.inLoop c) rfl (λ_ _=>.inl (by simp)) f⟩
 obtain⟨e,a',w',d,f⟩:=key n a w h0;exact⟨e,a',w',d,.of_steps (.one (fenced_calm p q rfl) stepR_loop) f⟩
section
variable {P:qp}{T:Tab}{e:Env}{r:Option Nat}
def aV(P:Program)(T:Tab)(e:Env)(r:Option Nat)(c:Code):Prop:=
 ∀(aa:AA)(a:Act)(X:Cx)(s:AS)(w:World)(Kn:KA)(Kx:KX)(Q:Exit->Act->World->Prop),dn P X.ρ T e r->aZ c P T e aa s Kn Kx->Rel X s w->eu X aa a->
  (∀Y yV s' a' w',Kn yV s'->Rel Y s' w'->Ext X s w Y s' w'->eu Y yV a'->Q .normal a' w')->
  (∀x Y yV s' a' w',Kx x yV s'->Rel Y s' w'->Ext X s w Y s' w'->eu Y yV a'->x≠.normal->Q x a' w')->c.wpIn (Fw r) 0 P Q a w
end
section
variable {P:qp}{T:Tab}{e:Env}{X:Cx}{s:AS}{w:qW}{a:Act}{o:Oper}{r:Option Nat}{Q:Exit->Act->qW->Prop}{ops:Array Oper}{K:bR}{next:Act->qW->Prop}
theorem sJ{i:Nat}{t:TV}{n:Nat}{ds:List Deferred}(b:dn P X.ρ T e r)(ho:ops[i]?=some o)(f:eu X ⟨t,n,ds⟩ a)(g:Rel X s w)(h:gG o ops.toList P T e s t K)
  (hn:∀v s' c u w',K v s'->Rel c s' w'->Ext X s w c s' w'->VR c v u->next (a.put o.dst u) w'):wpOpIn (Fw r) 0 P ops Q i next a w:=by
 unfold wpOpIn;simp only[ho];have h0:cZ ops.toList (gv (AA.mk t n ds).regs) o (nA o.op P T e s (gv t) K) (K (.tuple #[]) s):=h;obtain⟨h1,d⟩ | ⟨h1,d⟩:=iF f h0
 .rw[qaj d];exact rM b.prog b.tab g f.gr b.call b.round h1 hn
 rw[qae (by rw[d];simp)];exact⟨λ_ _=>trivial,hn _ _ X undef w h1 g (Ext.refl X s w) (show VR X (.tuple #[]) undef from⟨#[],rfl,rfl⟩)⟩
end
theorem dN{d i:Nat}:has d i=d.testBit i:=by
 unfold has Nat.testBit;have h1:Nat.land (Nat.shiftRight d i) 1=1&&&(d>>>i):=Nat.and_comm (d>>>i) 1;rw[h1];have h2:(1&&&(d>>>i))=(d>>>i)%2:=by rw[Nat.one_and_eq_mod_two]
 rw[h2];have h3:(d>>>i)%2<2:=Nat.mod_lt _ (by omega);generalize (d>>>i)%2=k at h3;have:k=0\/k=1:=by omega
 obtain rfl | rfl:=this<;>rfl
theorem bN{d e i:Nat}:has (Nat.lor d e) i=(has d i||has e i):=by
 rw[dN,dN,dN];exact Nat.testBit_or d e i
theorem dM{k i:Nat}:has (Nat.pow 2 k) i=true↔k=i:=by
 rw[dN];change Nat.testBit (2 ^ k) i=true↔_
 rw[Nat.testBit_two_pow];simp
theorem fE{i:Nat}:has 0 i=false:=by rw[dN];simp
theorem rZ{n i:Nat}(h:i<n):has (Nat.sub (Nat.pow 2 n) 1) i=true:=by
 rw[dN];change Nat.testBit (2 ^ n - 1) i=true
 rw[Nat.testBit_two_pow_sub_one];simpa using h
theorem mM{m d:Nat}(h:sub m d=true){i:Nat}(a:has m i=true):has d i=true:=by
 unfold sub at h;have h:=qaa h;change m&&&d=m at h
 rw[dN]at a ⊢;rw[<-h,Nat.testBit_and]at a;simp at a;exact a.2
theorem fV{b:List Nat}:∀{l:List Edge}{j:Nat},has (bM b l) j=true->∃e∈l,bQ e.ground=true/\(j=e.on\/has (q9 b e.on) j=true)
 | [],j,h=>by rw[bM,fE]at h;cases h
 | e::l,j,h=>by
  unfold bM at h;cases a:bQ e.ground with
  | true=>
   rw[a]at h;simp only[cond_true,bN,qal]at h;obtain (h | h) | h:=h
   .exact⟨e,qag,a,.inl (dM.1 h).symm⟩
   .exact⟨e,qag,a,.inr h⟩
   obtain⟨e',h1,h2⟩:=fV h;exact⟨e',qac _ h1,h2⟩
  | false=>rw[a]at h;obtain⟨e',h1,h2⟩:=fV (l:=l) h;exact⟨e',qac _ h1,h2⟩
theorem fU{a:List Nat}:∀{l:List Edge}{e:Edge},e∈l->bQ e.ground=true->has (bM a l) e.on=true
 | e'::l,e,h,hb=>by
  obtain rfl | h:=qan.1 h
  .unfold bM;simp only[hb,cond_true,bN,qal];exact .inl (.inl (dM.2 rfl))
  unfold bM;cases bQ e'.ground with
  | true=>simp only[cond_true,bN,qal];exact .inr (fU h hb)
  | false=>exact fU h hb
theorem mY:∀{pre:List Step}{k j:Nat},has (q9 (pre.map (·.mask)) k) j=true->∃st,pre[k]?=some st/\has st.mask j=true
 | [],_,_,h=>by rw[List.map_nil,q9,fE]at h;cases h
 | st::_,0,_,h=>⟨st,rfl,h⟩
 | _::l,k+1,j,h=>by
  obtain⟨st,h1,h2⟩:=mY (pre:=l) (k:=k) (j:=j) h;exact⟨st,by simpa using h1,h2⟩
structure jS(P:Program)(all:List Oper)(L:List Step)(st:Step):Prop where
 o:all[st.i]?=some st.o
 q:st.q=bA P st.o.op
 al:st.al=tH P st.o
 reads:st.reads=readsOf all st.o
 edge:∀e∈st.o.after.toList,bQ e.ground=true->has st.mask e.on=true
 AZ:∀j,has st.mask j=true->∃e∈st.o.after.toList,bQ e.ground=true/\(j=e.on\/∃st'∈L,st'.i=e.on/\has st'.mask j=true)
theorem lH{P:qp}{a:List Oper}:∀{l:List Oper}{pre:List Step},(∀(k:Nat)(st:Step),pre[k]?=some st->st.i=k)->a.drop pre.length=l->
  ∀st∈cK P a l pre.length (pre.map (·.mask)),jS P a (pre++cK P a l pre.length (pre.map (·.mask))) st:=by
 intro l;induction l with
 | nil=>intro pre _ _ st h;cases h
 | cons o l m=>
  intro pre f hd st c;have ho:a[pre.length]?=some o:=by
   have:(a.drop pre.length)[0]?=some o:=by rw[hd];rfl
   rw[List.getElem?_drop]at this;simpa using this
  unfold cK at c ⊢;generalize hx:(⟨o,pre.length,bA P o.op,tH P o,bM (pre.map (·.mask)) o.after.toList,readsOf a o⟩:Step)=x at c ⊢;have n:pre.map (·.mask)++[bM (pre.map (·.mask)) o.after.toList]=(pre++[x]).map (·.mask):=by rw[<-hx];simp
  have hl:Nat.succ pre.length=(pre++[x]).length:=by simp
  rw[n,hl]at c ⊢;obtain rfl | h:=qan.1 c
  .refine⟨by rw[<-hx];exact ho,by rw[<-hx],by rw[<-hx],by rw[<-hx],λe g p=>by rw[<-hx];exact fU (by rw[<-hx]at g;exact g) p,λj hj=>?_⟩;rw[<-hx]at hj ⊢;obtain⟨e,h1,h2,h3⟩:=fV hj;refine⟨e,h1,h2,?_⟩;obtain h3 | h3:=h3
   .exact .inl h3
   obtain⟨d,h4,h5⟩:=mY h3;exact .inr ⟨d,qah _ (List.mem_of_getElem? h4),f _ _ h4,h5⟩
  have:=m (pre:=pre++[x]) (λk d b=>by
   rw[List.getElem?_append]at b;split at b
   .exact f k d b
   rename_i hn;have q:k - pre.length=0:=by
    by_cases h0:k - pre.length=0
    .exact h0
    rw[qbe (by simp;omega)]at b;cases b
   rw[q]at b;simp at b;subst b;rw[<-hx];simp;omega) (by rw[<-hl,<-List.drop_drop (i:=1),hd];rfl) st h
  rw[show pre++x::cK P a l (pre++[x]).length ((pre++[x]).map (·.mask))=(pre++[x])++cK P a l (pre++[x]).length ((pre++[x]).map (·.mask)) by simp];exact this
theorem fT{a:Step->Bool}{d:Nat}{s:Step}:∀{l:List Step},iZ a d l=some s->s∈l:=by
 intro l;induction l with
 | nil=>intro h;cases h
 | cons x l c=>
  intro h;unfold iZ at h;cases b:(!has d x.i&&sub x.mask d&&a x) with
  | true=>rw[b]at h;cases h;exact qag
  | false=>rw[b]at h;exact qac _ (c h)
theorem nZ{d:Nat}{l:List Step}{s:Step}(h:p9 d l=some s):s∈l:=by
 unfold p9 at h;split at h
 .cases h;exact fT (by assumption)
 split at h
 .cases h;exact fT (by assumption)
 exact fT h
theorem iC{l:List Step}:∀{n d:Nat}{s:Step},s∈jq l n d->s∈l
 | 0,_,_,h=>by cases h
 | n+1,d,s,h=>by
  unfold jq at h;split at h
  .cases h
  rename_i x hx;obtain rfl | h:=qan.1 h
  .exact nZ hx
  exact iC h
def aJ(P:Program)(all:List Oper):List Step:=cK P all all 0 []
theorem aX{P:qp}{a:List Oper}{st:Step}(h:st∈aJ P a):jS P a (aJ P a) st:=
 lH (pre:=[]) (λk st h=>by simp at h) rfl st h
theorem pY{P:qp}{a:List Oper}{st:Step}(h:st∈iB P a):st∈aJ P a:=iC h
theorem dI{b:Type}{p:b->Bool}:∀{l:List b},lg p l=true->∀a∈l,p a=true
 | _::l,h,x,hx=>by
  simp only[lg,qab]at h;obtain rfl | hx:=qan.1 hx
  .exact h.1
  exact dI h.2 x hx
theorem gV{t:Nat}:∀{l:List Nat},t∈l->memT t l=true
 | _::l,h=>by
  obtain rfl | h:=qan.1 h
  .simp[memT]
  simp[memT,gV h]
theorem bg{a b:Step}(h:dR a b=true)(c:a.i≠b.i):(∀t,a.o.dst=some t->b.o.dst≠some t)/\
  ((has b.mask a.i=true\/has a.mask b.i=true)\/(∀t,a.o.dst=some t->t∉b.reads)/\(∀t,b.o.dst=some t->t∉a.reads)):=by
 unfold dR at h;rw[qal]at h;obtain h | h:=h
 .exact absurd (qaa h) c
 rw[qab]at h;refine⟨λt h1 h2=>?_,?_⟩
 .have:=dI h.1 t (by rw[h1];simp);rw[gV (by rw[h2];simp)]at this;cases this
 have h2:=h.2;simp only[qal,qab]at h2;obtain h2 | h2:=h2
 .exact .inl h2
 refine .inr ⟨λt h3 h4=>?_,λt h3 h4=>?_⟩
 .have:=dI h2.1 t (by rw[h3];simp);rw[gV h4]at this;cases this
 have:=dI h2.2 t (by rw[h3];simp);rw[gV h4]at this;cases this
theorem bJ{n:Nat}{s:Step}{l:List Step}{d a:Nat}(h:chk n (s::l) d a=true):has d s.i=false/\(∀j,has s.mask j=true->has d j=true)/\((∀j,has a j=true->has s.mask j=true)\/s.al=true)/\
  chk n l (Nat.lor d (Nat.pow 2 s.i)) (bif s.q then a else Nat.lor a (Nat.pow 2 s.i))=true:=by
 simp only[chk,qab,qal,qau]at h;exact⟨h.1.1.1,λj hj=>mM h.1.1.2 hj,h.1.2.imp (λh j hj=>mM h hj) id,h.2⟩
theorem dP{n:Nat}{s:Step}:∀{l:List Step}{d a:Nat},chk n l d a=true->s∈l->has d s.i=false:=by
 intro l;induction l with
 | nil=>intro d a _ h;cases h
 | cons x l b=>
  intro d a h hs;obtain⟨h1,_,_,h4⟩:=bJ h;obtain rfl | hs:=qan.1 hs
  .exact h1
  have:=b h4 hs;rw[bN,Bool.or_eq_false_iff]at this;exact this.1
theorem vw{n i:Nat}(b:i<n):∀{l:List Step}{d a:Nat},chk n l d a=true->has d i=true\/∃s∈l,s.i=i:=by
 intro l;induction l with
 | nil=>intro d a h;have:=qaa (show Nat.beq d (Nat.sub (Nat.pow 2 n) 1)=true from h);subst this;exact .inl (rZ b)
 | cons x l c=>
  intro d a h;obtain⟨_,_,_,h4⟩:=bJ h;obtain h5 | ⟨s,h5,e⟩:=c h4
  .rw[bN,qal]at h5;obtain h5 | h5:=h5
   .exact .inl h5
   exact .inr ⟨x,qag,dM.1 h5⟩
  exact .inr ⟨s,qac _ h5,e⟩
theorem xK{n:Nat}{s:Step}:∀{l:List Step}{d a:Nat},chk n l d a=true->s∈l->s.al=true\/∀j,has a j=true->has s.mask j=true:=by
 intro l;induction l with
 | nil=>intro d a _ h;cases h
 | cons x l b=>
  intro d a h hs;obtain⟨_,_,h3,h4⟩:=bJ h;obtain rfl | hs:=qan.1 hs
  .exact h3.symm
  obtain h5 | h5:=b h4 hs
  .exact .inl h5
  refine .inr λj hj=>h5 j ?_;cases x.q with
  | true=>exact hj
  | false=>simp only[cond_false,bN,hj,Bool.true_or]
section
variable {P:qp}{T:Tab}{e:Env}{X:Cx}{s:AS}{w:qW}{a:Act}{g:G}{o:Oper}{K:bR}
theorem pG(i:bn P X.ρ T)(d:Rel X s w)(hg:GR X g a)(f:bA P o.op=true)(h:nA o.op P T e s g K):aP P o a X s w K:=by
 cases ho:o.op<;>rw[ho]at h f
 case move x=>exact gU d hg (.inl ho) h
 case assign x=>exact gU d hg (.inr ho) h
 case pick=>exact mU (T:=T) (e:=e) d hg ho h
 case build=>exact kY (T:=T) (e:=e) d hg ho h
 case load=>exact nk (T:=T) (e:=e) d hg ho h
 case nilCheck=>exact rq (T:=T) (e:=e) d hg ho h
 case binOp=>exact tu (e:=e) i d hg ho h
 case unOp=>exact vK (e:=e) i d hg ho h
 case convert m k x=>
  obtain⟨v,h1,h2⟩:=aD d hg h;obtain⟨j,h3⟩ | ⟨j,h3⟩:=aI h1
  .have f:(!eT P k)=true:=f;rw[j]at f;cases f
  exact nI i d ho h2 h3
 case makeFunc=>exact nE (T:=T) (e:=e) d hg ho h
 case slice=>exact jZ (T:=T) (e:=e) d hg ho h
 case fieldAddr=>exact jc (T:=T) (e:=e) d hg ho h
 case field=>exact kT (T:=T) (e:=e) d hg ho h
 case indexAddr=>exact ja (T:=T) (e:=e) d hg ho h
 case index=>exact kM (T:=T) (e:=e) d hg ho h
 case lookup=>exact look_ok (T:=T) (e:=e) d hg ho h
 case extract=>exact iI (T:=T) (e:=e) d hg ho h
 case call c=>
  obtain⟨l,args,ts⟩:=c;cases l with
  | builtin b=>
   cases b<;>first
    | exact h.elim
    | (cases f;done)
    | exact rE (T:=T) (e:=e) d hg ho h
    | exact ry (T:=T) (e:=e) d hg ho h
  | _=>cases f
 all_goals first | exact h.elim | cases f
def Im(X:Cx)(N:Nat)(t:TV):Prop:=∀x v,aC t x=some v->x<N/\∃u,VR X v u
theorem Im.mono{X b:Cx}(h:X.le b){N:Nat}{t:TV}(c:Im X N t):Im b N t:=λx v d=>let⟨h1,u,h2⟩:=c x v d;⟨h1,u,VR.mono h h2⟩
theorem Im.act{N:Nat}{t:TV}(c:Im X N t):∃a:Act,eu X ⟨t,0,[]⟩ a:=by
 have:∀i:Fin N,∃u,∀v,aC t i=some v->VR X v u:=λi=>by
  cases b:aC t i.1 with
  | none=>exact⟨undef,λv h=>by cases h⟩
  | some v=>obtain⟨_,u,d⟩:=c _ v b;exact⟨u,λf h=>by cases h;exact d⟩
 refine⟨⟨Array.ofFn λi=>(this i).choose,[]⟩,⟨Nat.zero_le _,λx v b=>?_⟩,rfl⟩;obtain⟨h1,_⟩:=c x v b;exact⟨_,by simp[h1],(this ⟨x,h1⟩).choose_spec v b⟩
theorem kV{b:Array Oper}{t:TV}(c:bA P o.op=true)(h:gG o b.toList P T e s t K):gG o b.toList P T e s t (λv s'=>s'=s/\K v s'):=by
 unfold gG at h ⊢;rw[<-lN c];simpa using h
theorem Cx.le.back{X b:Cx}(h:X.le b)(hn:b.nx=X.nx):b.le X:=⟨h.ρ.symm,by omega,λi c=>(h.j i (by omega)).symm⟩
theorem iy{b:Array Oper}{t:TV}{N:Nat}(i:bn P X.ρ T)(c:Rel X s w)(j:Im X N t)(d:bA P o.op=true)(h:gG o b.toList P T e s t K):∃v,K v s/\∃u,VR X v u:=by
 obtain⟨a,f⟩:=j.act;have h:=kV d h;have h0:cZ b.toList (gv (AA.mk t 0 []).regs) o (nA o.op P T e s (gv t) (λv s'=>s'=s/\K v s')) (s=s/\K (.tuple #[]) s):=h;obtain⟨h1,_⟩ | ⟨h1,_⟩:=iF f h0
 .obtain⟨v,s',Y,u,w',⟨k1,k1'⟩,_,k3,k4,k5⟩:=pG i c f.gr d h1;subst k1;exact⟨v,k1',u,VR.mono (k4.le.back (by rw[k3.nx,c.nx])) k5⟩
 exact⟨_,h1.2,undef,show VR X (.tuple #[]) undef from⟨#[],rfl,rfl⟩⟩
def Kept(P:Program)(T:Tab)(e:Env)(ops:Array Oper)(s:AS)(p:fK):Prop:=∃R,gG p.1 ops.toList P T e s p.2.2.1 (λv _=>yes (oL p.2.2.2 v) R)
theorem tJ{c:Array Oper}{N m:Nat}(q:bn P X.ρ T)(r:Rel X s w):∀{l:List fK}{K:List fK->Prop},(∀p∈l,Im X N p.2.2.1/\bA P p.1.op=true)->again l c.toList P T e s m K->
  ∃b,K b/\(∀p∈l,has m p.2.1=false->p∈b)/\∀p∈b,p∈l/\Kept P T e c s p:=by
 intro l;induction l with
 | nil=>intro K _ h;exact⟨[],h,by simp,by simp⟩
 | cons x l j=>
  intro K hl h;have t:bF (has m x.2.1) (again l c.toList P T e s m K) (gG x.1 c.toList P T e s x.2.2.1 (λv _=>yes (oL x.2.2.2 v) (again l c.toList P T e s m (λl=>K (x::l))))):=h;have k:∀p∈l,Im X N p.2.2.1/\bA P p.1.op=true:=λp hp=>hl p (qac _ hp);obtain⟨n,h1⟩ | ⟨n,h1⟩:=aI t
  .obtain⟨b,k1,i,d⟩:=j k h1;refine⟨b,k1,λp hp f=>?_,λp hp=>⟨qac _ (d p hp).1,(d p hp).2⟩⟩;obtain rfl | hp:=qan.1 hp
   .rw[n]at f;cases f
   exact i p hp f
  obtain⟨u,y⟩:=hl x qag;obtain⟨v,h2,_⟩:=iy q r u y h1;obtain⟨_,h3⟩:=aB h2;obtain⟨b,k1,i,d⟩:=j k h3;refine⟨x::b,k1,λp hp f=>?_,λp hp=>?_⟩
  .obtain rfl | hp:=qan.1 hp
   .exact qag
   exact qac _ (i p hp f)
  obtain rfl | hp:=qan.1 hp
  .exact⟨qag,_,h1⟩
  exact⟨qac _ (d p hp).1,(d p hp).2⟩
theorem mQ{b:AA}{f:Option Tmp}{v:qv}{K:AA->Prop}(h:dB b f v K):∃i,K i/\i.n=b.n/\i.defers=b.defers/\(∀d,f=some d->d<b.n)/\∀x,aC i.regs x=if f=some x then some v else aC b.regs x:=by
 cases f with
 | none=>exact⟨b,h,rfl,rfl,by simp,by simp⟩
 | some d=>
  have h0:nat b.n (λn=>yes (Nat.blt d n) (y8 b.defers (λj=>iq b.regs d v (λt=>K ⟨t,n,j⟩)))):=h;obtain⟨h1,h2⟩:=aB (aK h0);obtain⟨t,h3,h4⟩:=dL (sF h2);refine⟨_,h4,rfl,rfl,λk hd=>by cases hd;exact aG.1 h1,λx=>?_⟩;change aC t x=_
  rw[h3 x];by_cases hx:x=d
  .subst hx;simp
  rw[qae hx,qae (by simpa using λc=>hx c.symm)]
theorem Rel.Aj{d:TB}{b:AB}{L:Loc}(h:Rel X s w)(hp:Put s.h d s.nx (some b))(n:Un X s L.b)(hn:BR (X.put L) w L b):
  Rel (X.put L) ⟨d,Nat.succ s.nx⟩ w/\∀k,k≠L.b->(Un X s k->Un (X.put L) ⟨d,Nat.succ s.nx⟩ k)/\(Fr X s k->Fr (X.put L) ⟨d,Nat.succ s.nx⟩ k):=by
 have j:=h.nx;have l:∀i c,aC s.h i=some c->i<X.nx:=λi c hc=>(h.blk i c hc).1;refine⟨⟨by simp[Cx.put,j],λi c hc=>?_,λi p c r hc f e=>?_,Nat.le_trans h.ng (Nat.le_succ _),λi t=>?_⟩,λk q=>⟨λm i c hc=>?_,λm i c hc u=>?_⟩⟩
 .change aC d i=some c at hc
  rw[hp i]at hc;split at hc
  .rename_i e;subst e;cases hc;rw[<-j,X.aQ];exact⟨by simp[Cx.put],hn⟩
  have h2:=h.blk i c hc;rw[X.bq L h2.1];exact⟨Nat.lt_succ_of_lt h2.1,h2.2.mono (X.bD L) rfl⟩
 .change aC d i=some c at hc
  change aC d p=some r at f
  rw[hp i]at hc;rw[hp p]at f;split at hc<;>split at f
  .rename_i e1 e2;rw[e1,e2]
  .rename_i e1 e2;rw[e1,<-j,X.aQ,X.bq L (l _ _ f)]at e;exact absurd e.symm (n _ _ f)
  .rename_i e1 e2;rw[e2,<-j,X.aQ,X.bq L (l _ _ hc)]at e;exact absurd e (n _ _ hc)
  rw[X.bq L (l _ _ hc),X.bq L (l _ _ f)]at e;exact h.sep _ _ _ _ hc f e
 .have:=h.ng;rw[X.bq L (by omega)];exact h.kR i t
 .change aC d i=some c at hc
  rw[hp i]at hc;split at hc
  .rename_i e;rw[e,<-j,X.aQ];exact λc=>q c.symm
  rw[X.bq L (l _ _ hc)];exact m i c hc
 change aC d i=some c at hc
 rw[hp i]at hc;split at hc
 .rename_i e;rw[e,<-j,X.aQ];exact λc=>q c.symm
 rw[X.bq L (l _ _ hc)];exact m i c hc u
theorem sK{ty:qT}{c:qv}{b:Nat}(j:Rel X s w)(f:zeroV P ty=some c)(l:w.heap[b]?=some (.cells c.cells ty))(m:Un X s b)(h:l5 ty P T e s g K):
  ∃s' L,L.b=b/\L.base=0/\K (.pointer (some ⟨s.nx,0,none⟩)) s'/\Rel (X.put L) s' w/\∀k,k≠b->(Un X s k->Un (X.put L) s' k)/\(Fr X s k->Fr (X.put L) s' k):=by
 obtain⟨A,h1,h2⟩:=aH h;rw[f]at h1;cases h1;have hl:=bK (bH X f);obtain⟨n,h3,h4,h5⟩:=bT h2;have h5:=aK h5;obtain⟨B,p,h7⟩:=bC h5;have h7:=aK h7;have q:=hl.length;obtain⟨r,t⟩:=j.Aj (L:=⟨b,0,c.cells.size⟩) p m (b:=.inl ⟨n,none,(cellsOf c).length,ty,false⟩) (by
  refine⟨c.cells,(0,0),l,by simp at q ⊢;omega,by simp,λ_ o _=>by simp,λi v d=>?_⟩;unfold bO at d;split at d
  .rename_i hi';have x:i<(cellsOf c).length:=hi';rw[h3 i,qaj (by omega)]at d;simp only[Nat.sub_zero]at d;have hx:(cellsOf c)[i]?=some (cellsOf c)[i]:=qak x;rw[hx]at d;cases d;obtain⟨u,y,z⟩:=hl.get hx;refine⟨h4 _ (qbb _),u,?_,VR.mono (X.bD _) z⟩;simpa using y
  cases d)
 exact⟨_,_,rfl,rfl,h7,r,t⟩
end
def Dn(listed:Array Bool)(i:Nat):Prop:=listed.getD i false=true
theorem bB{listed:Array Bool}{i j:Nat}(b:i<listed.size):Dn (listed.setIfInBounds i true) j↔Dn listed j\/j=i:=by
 unfold Dn;simp only[Array.getD_eq_getD_getElem?];by_cases h:j=i
 .subst h;simp[b]
 rw[qam (λc=>h c.symm)];simp[h]
theorem bU{a:Act}{b:Option Tmp}{u:qv}{x:Nat}:(a.put b u).tmps[x]?=if b=some x then(if x<a.tmps.size then some u else none) else a.tmps[x]?:=by
 cases b with
 | none=>simp[Act.put]
 | some d=>
  simp only[Act.put,Option.some.injEq];by_cases h:d=x
  .subst h;rw[qaj rfl];split
   .rw[qas (by assumption)]
   rw[Array.getElem?_eq_none (by simp;omega)]
  rw[qae h,qam h]
theorem dA{a:Act}{b:Option Tmp}{u:qv}:(a.put b u).tmps.size=a.tmps.size:=by cases b<;>simp[Act.put]
theorem put_defers{a:Act}{b:Option Tmp}{u:qv}:(a.put b u).defers=a.defers:=by cases b<;>rfl
theorem jQ{P:qp}{o:Oper}(h:tH P o=true):bA P o.op=false/\o.guard=none/\∃ty b,o.op=.alloc ty/\zeroV P ty=some b:=by
 unfold tH at h;rw[qab]at h;obtain⟨h1,h2⟩:=h;split at h2
 .rename_i t ht;obtain⟨b,c⟩:=Option.isSome_iff_exists.1 h2;exact⟨by rw[ht];rfl,by simpa using h1,t,b,ht,c⟩
 cases h2
theorem kC{ops:Array Oper}{listed:Array Bool}{i:Nat}(f:listed.size=ops.size)(h:i∈Region.ready .any ops listed):i<ops.size/\¬Dn listed i/\∃o,ops[i]?=some o/\∀e∈o.after.toList,bQ e.ground=true->Dn listed e.on:=by
 unfold Region.ready at h;rw[List.mem_filter]at h;obtain⟨h1,h2⟩:=h;have h1:=List.mem_range.1 h1;simp only[qab,qau]at h2;obtain⟨h2,h3⟩:=h2;refine⟨h1,?_,?_⟩
 .unfold Dn;simp only[Array.getD_eq_getD_getElem?]at h2 ⊢;rw[qav (by omega)]at h2 ⊢;simp at h2 ⊢;exact h2
 rw[qav h1]at h3 ⊢;refine⟨_,rfl,λe c b=>?_⟩;simp only[Option.map_some,Option.getD_some]at h3;rw[Array.all_eq_true']at h3;have:=h3 e (by simpa using c);rw[qal]at this;obtain h | h:=this
 .have hb':Region.binds .any e=true:=by
   unfold Region.binds;unfold bQ at b;cases hg:e.ground<;>rw[hg]at b<;>first | cases b | rfl
  rw[hb']at h;cases h
 exact h
theorem pz{ops:Array Oper}{listed:Array Bool}{i:Nat}{o:Oper}(g:listed.size=ops.size)(ho:ops[i]?=some o)(hn:¬Dn listed i)(c:∀e∈o.after.toList,bQ e.ground=true->Dn listed e.on):i∈Region.ready .any ops listed:=by
 have f:=(qaf.1 ho).1;unfold Region.ready;rw[List.mem_filter];refine⟨List.mem_range.2 f,?_⟩;simp only[qab,qau,ho,Option.map_some,Option.getD_some];refine⟨?_,?_⟩
 .unfold Dn at hn;simp only[Array.getD_eq_getD_getElem?]at hn ⊢;rw[qav (by omega)]at hn ⊢;simpa using hn
 rw[Array.all_eq_true'];intro e h;rw[qal];cases b:Region.binds .any e with
 | false=>exact .inl rfl
 | true=>refine .inr (c e (by simpa using h) ?_);unfold Region.binds at b;unfold bQ;cases hg:e.ground<;>rw[hg]at b<;>first | cases b | rfl
def xR(listed:Array Bool)(a:Act)(l1:List Step)(aa:AA)(Y:Cx)(pend:List fK)(st:Step):Prop:=
 ∃t v,(st.o,st.i,t,v)∈pend/\(∀d,st.o.dst=some d->aC aa.regs d=some v)/\
  ∀x v',aC t x=some v'->x∈st.reads/\(∀st'∈l1,st'.o.dst=some x->has st.mask st'.i=true->aC aa.regs x=some v')/\
   ((∃u,a.tmps[x]?=some u/\VR Y v' u)\/∃st'∈l1,¬Dn listed st'.i/\st'.o.dst=some x/\has st.mask st'.i=true)
structure vI(P:Program)(a:Act)(w0 w:World)(Y:Cx)(s:AS)(b:Nat)(st:Step):Prop where
 al:st.al=true
 blk:∃ty z,st.o.op=.alloc ty/\zeroV P ty=some z/\w.heap[b]?=some (.cells z.cells ty)
 new:w0.heap.size<=b
 un:Un Y s b
 tmp:∀d,st.o.dst=some d->d<a.tmps.size->a.tmps[d]?=some (.pointer (some ⟨b,0,none⟩))
structure Inv(P:Program)(T:Tab)(e:Env)(ops:Array Oper)(l:List Step)(K:KA)(X0:Cx)(s0:AS)(w0:World)(N:Nat)(listed:Array Bool)(a:Act)(w:World)(l1 l2:List Step)(d lm:Nat)(Y:Cx)(aa:AA)(s:AS)(pend:List fK)(β:Nat->Nat):Prop where
 eq:l=l1++l2
 dm:∀j,has d j=true↔∃st∈l1,st.i=j
 chk:chk ops.size l2 d lm=true
 walk:bu l2 ops.toList P T e aa s pend K
 rel:Rel Y s w
 ext:Ext X0 s0 w0 Y s w
 mD:a.tmps.size=N
 jU:listed.size=ops.size
 defers:DR Y aa.defers a.defers
 oo:aa.n<=N
 closed:∀st∈aJ P ops.toList,Dn listed st.i->∀j,has st.mask j=true->Dn listed j
 cO:∀st∈l1,∀j,has st.mask j=true->has d j=true
 loud:∀st∈l1,st.q=false->Dn listed st.i
 im:Im Y N aa.regs
 regs:∀x v,aC aa.regs x=some v->(∃u,a.tmps[x]?=some u/\VR Y v u)\/(∃st∈l1,¬Dn listed st.i/\st.o.dst=some x)\/(∃st∈l2,Dn listed st.i/\st.o.dst=some x)
 dF:∀p∈pend,Im Y N p.2.2.1/\bA P p.1.op=true/\Kept P T e ops s p
 pend:∀st∈l1,¬Dn listed st.i->xR listed a l1 aa Y pend st
 early:∀st∈l2,Dn listed st.i->vI P a w0 w Y s (β st.i) st
 inj:∀st∈l2,∀st'∈l2,Dn listed st.i->Dn listed st'.i->st.i≠st'.i->β st.i≠β st'.i
section
variable {P:qp}{T:Tab}{e:Env}{ops:Array Oper}{l:List Step}{K:KA}{X0:Cx}{s0:AS}{w0:qW}{N:Nat}{listed:Array Bool}{a:Act}{w:qW}{l1 l2:List Step}{d lm:Nat}{Y:Cx}{aa:AA}{s:AS}{pend:List fK}{β:Nat->Nat}{r:Option Nat}{Q:Exit->Act->qW->Prop}
theorem Step.same{st b:Step}(h:jS P ops.toList (aJ P ops.toList) st)(c:jS P ops.toList (aJ P ops.toList) b)(e:st.i=b.i):st.o=b.o:=by
 have:=h.o;rw[e,c.o]at this;exact(Option.some.inj this).symm
theorem jM{i:Nat}{o:Oper}(hc:∀st∈aJ P ops.toList,Dn listed st.i->∀j,has st.mask j=true->Dn listed j)(ho:ops[i]?=some o)(b:∀e∈o.after.toList,bQ e.ground=true->Dn listed e.on):
  ∀st∈aJ P ops.toList,st.i=i->∀j,has st.mask j=true->Dn listed j:=by
 intro st c f j hj;have h:=aX c;have h1:st.o=o:=by
  have:=h.o;rw[f]at this;have h2:ops[i]?=some st.o:=by simpa using this
  rw[ho]at h2;exact(Option.some.inj h2).symm
 obtain⟨e,h2,h3,h4⟩:=h.AZ j hj;rw[h1]at h2;have h5:=b e h2 h3;obtain rfl | ⟨g,k,h7,m⟩:=h4
 .exact h5
 exact hc g k (by rw[h7];exact h5) j m
theorem eY{i:Nat}(c:i<listed.size)(hc:∀st∈aJ P ops.toList,Dn listed st.i->∀j,has st.mask j=true->Dn listed j)(f:∀st∈aJ P ops.toList,st.i=i->∀j,has st.mask j=true->Dn listed j):
  ∀st∈aJ P ops.toList,Dn (listed.setIfInBounds i true) st.i->∀j,has st.mask j=true->Dn (listed.setIfInBounds i true) j:=by
 intro st b hd j hj;rw[bB c]at hd ⊢;obtain hd | hd:=hd
 .exact .inl (hc st b hd j hj)
 exact .inl (f st b hd j hj)
theorem Inv.quiet(hE:dn P X0.ρ T e r)(hs:∀st∈l,st∈aJ P ops.toList)(hp:∀a∈l,∀b∈l,dR a b=true)(f:Inv P T e ops l K X0 s0 w0 N listed a w l1 l2 d lm Y aa s pend β){st:Step}(h1:st∈l1)(ae:¬Dn listed st.i)
  (L:∀g∈aJ P ops.toList,g.i=st.i->∀j,has g.mask j=true->Dn listed j):
  wpOpIn (Fw r) 0 P ops Q st.i (λa' w'=>∃Y',Inv P T e ops l K X0 s0 w0 N (listed.setIfInBounds st.i true) a' w' l1 l2 d lm Y' aa s pend β) a w:=by
 have A:∀st∈l1,st∈l:=λst h=>by rw[f.eq];exact qah _ h
 have af:∀st∈l2,st∈l:=λst h=>by rw[f.eq];exact qap _ h
 have F:=aX (hs st (A st h1));have M:=L st (hs st (A st h1)) rfl;have ho:ops[st.i]?=some st.o:=by simpa using F.o
 have y:st.i<listed.size:=by rw[f.jU];exact(qaf.1 ho).1
 obtain⟨t,v,p1,p2,p3⟩:=f.pend st h1 ae;obtain⟨i1,q1,ak,k1⟩:=f.dF _ p1;have k2:=kV q1 k1;refine sJ (X:=Y) (t:=t) (n:=0) (ds:=aa.defers) (by rw[f.ext.le.ρ];exact hE) ho ⟨⟨Nat.zero_le _,λx k q=>?_⟩,f.defers⟩ f.rel k2 (λk s' Y' u w' ⟨e1,e2⟩ ag B ah=>?_)
 .rcases(p3 x k q).2.2 with h | ⟨g,a1,a2,a3,a4⟩
  .exact h
  exact absurd (M _ a4) a2
 subst e1;obtain⟨e3,_⟩:=aB e2;have O:=lD e3;change v=k at O
 subst O;have hx:∀x k,st.o.dst=some x->aC aa.regs x=some k->∃m,(a.put st.o.dst u).tmps[x]?=some m/\VR Y' k m:=λx k hd q=>by
  have:=p2 x hd;rw[q]at this;cases this;exact⟨u,by rw[bU,qaj hd,qaj (by rw[f.mD];exact(f.im x _ q).1)],ah⟩
 have R:∀x k,st.o.dst≠some x->(∃m,a.tmps[x]?=some m/\VR Y k m)->∃m,(a.put st.o.dst u).tmps[x]?=some m/\VR Y' k m:=λx k hd ⟨m,h1,h2⟩=>
  ⟨m,by rw[bU,qae hd];exact h1,VR.mono B.le h2⟩
 refine⟨Y',{eq:=f.eq,dm:=f.dm,chk:=f.chk,walk:=f.walk,rel:=ag,ext:=f.ext.trans B,mD:=by rw[dA];exact f.mD,jU:=by simp[f.jU],defers:=by rw[put_defers];exact f.defers.mono B.le,oo:=f.oo,closed:=eY y f.closed L,cO:=f.cO,loud:=λg h z=>(bB y).2 (.inl (f.loud g h z)),im:=f.im.mono B.le,regs:=λx k q=>?_,dF:=λp hp=>?_,pend:=λg h z=>?_,early:=λg h z=>?_,inj:=λai h2 C h3 h4 h5 h6=>?_}⟩
 .obtain h | ⟨g,h2,h3,h4⟩ | ⟨g,h2,h3,h4⟩:=f.regs x k q
  .by_cases hd:st.o.dst=some x
   .exact .inl (hx x k hd q)
   exact .inl (R x k hd h)
  .by_cases D:g.i=st.i
   .rw[Step.same (aX (hs g (A g h2))) F D]at h4;exact .inl (hx x k h4 q)
   exact .inr (.inl ⟨g,h2,λc=>by rcases(bB y).1 c with c | c;exact h3 c;exact D c,h4⟩)
  exact .inr (.inr ⟨g,h2,(bB y).2 (.inl h3),h4⟩)
 .obtain⟨b1,G,H⟩:=f.dF p hp;exact⟨b1.mono B.le,G,H⟩
 .have h2:¬Dn listed g.i:=λc=>z ((bB y).2 (.inl c));have h3:st.i≠g.i:=λc=>z ((bB y).2 (.inr c.symm));obtain⟨t',k,c1,c2,c3⟩:=f.pend g h h2;refine⟨t',k,c1,c2,λx E q=>?_⟩;obtain⟨S,U,I⟩:=c3 x E q;refine⟨S,U,?_⟩;have key:st.o.dst=some x->∃m,(a.put st.o.dst u).tmps[x]?=some m/\VR Y' E m:=λhd=>by
   rcases(bg (hp st (A st h1) g (A g h)) h3).2 with(f1 | f1) | f1
   .exact hx x E hd (U st h1 hd f1)
   .exact absurd (M _ f1) h2
   exact absurd S (f1.1 x hd)
  obtain I | ⟨C,V,g2,J,g4⟩:=I
  .by_cases hd:st.o.dst=some x
   .exact .inl (key hd)
   exact .inl (R x E hd I)
  by_cases D:C.i=st.i
  .rw[Step.same (aX (hs C (A C V))) F D]at J;exact .inl (key J)
  exact .inr ⟨C,V,λc=>by rcases(bB y).1 c with c | c;exact g2 c;exact D c,J,g4⟩
 .have h3:st.i≠g.i:=λc=>by
   have:=dP f.chk h;rw[<-c,(f.dm st.i).2 ⟨st,h1,rfl⟩]at this;cases this
  have h2:Dn listed g.i:=by
   rcases(bB y).1 z with c | c
   .exact c
   exact absurd c.symm h3
  obtain⟨b1,⟨ty,aj,G,H,W⟩,b5,Z,b7⟩:=f.early g h h2;have ab:=(qaf.1 W).1;refine⟨b1,⟨ty,aj,G,H,by rw[(B.keep _ ab Z.fr).1];exact W⟩,b5,B.un _ ab Z,λx hd ac=>?_⟩;rw[dA]at ac;rw[bU,qae (λc=>(bg (hp st (A st h1) g (af g h)) h3).1 x c hd)];exact b7 x hd ac
 have ad:∀g∈l2,Dn (listed.setIfInBounds st.i true) g.i->Dn listed g.i:=λg h z=>by
  rcases(bB y).1 z with c | c
  .exact c
  have:=dP f.chk h;rw[c,(f.dm st.i).2 ⟨st,h1,rfl⟩]at this;cases this
 exact f.inj ai h2 C h3 (ad _ h2 h4) (ad _ h3 h5) h6
theorem nH{m:Step}(h:∀j,has d j=true↔∃st∈l1,st.i=j):∀j,has (Nat.lor d (Nat.pow 2 m.i)) j=true↔∃st∈l1++[m],st.i=j:=by
 intro j;rw[bN,qal,dM,h j];constructor
 .rintro(⟨st,h1,h2⟩ | h1)
  .exact⟨st,qah _ h1,h2⟩
  exact⟨m,by simp,h1⟩
 rintro⟨st,h1,h2⟩;obtain h1 | h1:=qaw.1 h1
 .exact .inl ⟨st,h1,h2⟩
 rw[qaq]at h1;subst h1;exact .inr h2
theorem Inv.next(hT:bn P X0.ρ T)(hp:∀a∈l,∀b∈l,dR a b=true){m:Step}(f:Inv P T e ops l K X0 s0 w0 N listed a w l1 (m::l2) d lm Y aa s pend β)(hq:m.q=false)
  {listed':Array Bool} {a':Act} {w':qW} {Y':Cx} {s':AS} {v:qv} (k:∀j,Dn listed' j↔Dn listed j\/j=m.i) (ac:listed'.size=ops.size)
  (ad:∀st∈aJ P ops.toList,Dn listed' st.i->∀j,has st.mask j=true->Dn listed' j) (hm:∀j,has m.mask j=true->Dn listed j) (z:Y.le Y') (U:Rel Y' s' w') (V:Ext X0 s0 w0 Y' s' w')
  (W:a'.tmps.size=N) (ae:a'.defers=a.defers) (G:∀x,m.o.dst≠some x->a'.tmps[x]?=a.tmps[x]?) (hv:∃u,VR Y' v u/\∀x,m.o.dst=some x->x<N->a'.tmps[x]?=some u)
  (hw:again pend ops.toList P T e s' m.mask (λpend=>dB aa m.o.dst v (λaa=>bu l2 ops.toList P T e aa s' pend K)))
  (af:∀st∈l2,Dn listed st.i->st.i≠m.i->w'.heap[β st.i]?=w.heap[β st.i]?/\Un Y' s' (β st.i)):
  ∃H I d' ag,Inv P T e ops l K X0 s0 w0 N listed' a' w' (l1++[m]) l2 d' ag Y' H s' I β:=by
 have ah:∀st∈l1,st∈l:=λst h=>by rw[f.eq];exact qah _ h
 have X:∀st∈m::l2,st∈l:=λst h=>by rw[f.eq];exact qap _ h
 have Z:=X m qag;obtain⟨J,c2,_,D⟩:=bJ f.chk;rw[hq]at D;simp only[cond_false]at D;obtain⟨I,k1,k2,k3⟩:=tJ (N:=N) (by rw[V.le.ρ];exact hT) U (λp hp=>⟨(f.dF p hp).1.mono z,(f.dF p hp).2.1⟩) hw;obtain⟨H,k4,k5,k6,k7,E⟩:=mQ k1;obtain⟨u,hu,ai⟩:=hv;have L:∀st∈l1,st.i≠m.i:=λst h c=>by
  rw[<-c,(f.dm st.i).2 ⟨st,h,rfl⟩]at J;cases J
 have F:∀st∈l2,st.i≠m.i:=λst h c=>by
  have:=dP D h;rw[bN,Bool.or_eq_false_iff,c]at this;rw[dM.2 rfl]at this;cases this.2
 refine⟨H,I,_,_,{eq:=by rw[f.eq];simp,dm:=nH f.dm,chk:=D,walk:=k4,rel:=U,ext:=V,mD:=W,jU:=ac,defers:=by rw[k6,ae];exact f.defers.mono z,oo:=by rw[k5];exact f.oo,closed:=ad,cO:=λst h j hj=>?_,loud:=λst h aj=>?_,im:=λx B hx=>?_,regs:=λx B hx=>?_,dF:=λp hp=>?_,pend:=λst h n=>?_,early:=λst h n=>?_,inj:=λst h y n q1 q2 q3=>?_}⟩
 .rw[bN,qal];obtain h | h:=qaw.1 h
  .exact .inl (f.cO st h j hj)
  rw[qaq]at h;subst h;exact .inl (c2 j hj)
 .obtain h | h:=qaw.1 h
  .exact(k _).2 (.inl (f.loud st h aj))
  rw[qaq]at h;subst h;exact(k _).2 (.inr rfl)
 .rw[E x]at hx;split at hx
  .rename_i hd;cases hx;exact⟨qao (k7 x hd) f.oo,u,hu⟩
  exact f.im.mono z x B hx
 .rw[E x]at hx;split at hx
  .rename_i hd;cases hx;exact .inl ⟨u,ai x hd (qao (k7 x hd) f.oo),hu⟩
  rename_i hd;obtain⟨M,h1,h2⟩ | ⟨st,h1,h2,h3⟩ | ⟨st,h1,h2,h3⟩:=f.regs x B hx
  .exact .inl ⟨M,by rw[G x hd];exact h1,VR.mono z h2⟩
  .refine .inr (.inl ⟨st,qah _ h1,λc=>?_,h3⟩);rcases(k _).1 c with c | c
   .exact h2 c
   exact L st h1 c
  obtain rfl | h1:=qan.1 h1
  .exact absurd h3 hd
  exact .inr (.inr ⟨st,h1,(k _).2 (.inl h2),h3⟩)
 .obtain⟨b1,g⟩:=k3 p hp;exact⟨(f.dF p b1).1.mono z,(f.dF p b1).2.1,g⟩
 .have h1:st∈l1:=by
   obtain h | h:=qaw.1 h
   .exact h
   rw[qaq]at h;subst h;exact absurd ((k _).2 (.inr rfl)) n
  have h2:¬Dn listed st.i:=λc=>n ((k _).2 (.inl c));have h3:has m.mask st.i=false:=by
   cases A:has m.mask st.i with
   | false=>rfl
   | true=>exact absurd (hm _ A) h2
  have h4:has st.mask m.i=false:=by
   cases A:has st.mask m.i with
   | false=>rfl
   | true=>have:=f.cO st h1 _ A;rw[J]at this;cases this
  obtain⟨ak,al⟩:=bg (hp m Z st (ah st h1)) (λc=>L st h1 c.symm);obtain⟨t,B,g1,g2,g3⟩:=f.pend st h1 h2;refine⟨t,B,k2 _ g1 h3,λx hx=>?_,λx v2 hx=>?_⟩
  .rw[E x,qae (λc=>ak x c hx)];exact g2 x hx
  obtain⟨f1,O,f3⟩:=g3 x v2 hx;have R:m.o.dst≠some x:=λc=>by
   obtain (b | b) | b:=al
   .rw[h4]at b;cases b
   .rw[h3]at b;cases b
   exact b.1 x c f1
  refine⟨f1,λy b1 g C=>?_,?_⟩
  .rw[E x,qae R];obtain b1 | b1:=qaw.1 b1
   .exact O y b1 g C
   rw[qaq]at b1;subst b1;exact absurd g R
  obtain⟨M,b1,g⟩ | ⟨y,b1,g,C,S⟩:=f3
  .exact .inl ⟨M,by rw[G x R];exact b1,VR.mono z g⟩
  refine .inr ⟨y,qah _ b1,λc=>?_,C,S⟩;rcases(k _).1 c with c | c
  .exact g c
  exact L y b1 c
 .have h2:Dn listed st.i:=by
   rcases(k _).1 n with c | c
   .exact c
   exact absurd c (F st h)
  obtain⟨b1,⟨ty,am,g,C,S⟩,b5,b6,b7⟩:=f.early st (qac _ h) h2;obtain⟨f1,O⟩:=af st h h2 (F st h);refine⟨b1,⟨ty,am,g,C,by rw[f1];exact S⟩,b5,O,λx hx ab=>?_⟩;rw[W,<-f.mD]at ab;rw[G x (λc=>(bg (hp m Z st (X st (qac _ h))) (λc=>F st h c.symm)).1 x c hx)];exact b7 x hx ab
 have A:∀st∈l2,Dn listed' st.i->Dn listed st.i:=λst h c=>by
  rcases(k _).1 c with c | c
  .exact c
  exact absurd c (F st h)
 exact f.inj st (qac _ h) y (qac _ n) (A st h q1) (A y n q2) q3
theorem Inv.step(G:dn P X0.ρ T e r)(hs:∀st∈l,st∈aJ P ops.toList)(hp:∀a∈l,∀b∈l,dR a b=true){m:Step}(g:Inv P T e ops l K X0 s0 w0 N listed a w l1 (m::l2) d lm Y aa s pend β)(H:m.q=false)(I:¬Dn listed m.i)
  (J:∀L∈aJ P ops.toList,L.i=m.i->∀j,has L.mask j=true->Dn listed j):
  wpOpIn (Fw r) 0 P ops Q m.i (λa' w'=>∃l1 l2 d lm Y aa s pend β,Inv P T e ops l K X0 s0 w0 N (listed.setIfInBounds m.i true) a' w' l1 l2 d lm Y aa s pend β) a w:=by
 have R:∀st∈l1,st∈l:=λst h=>by rw[g.eq];exact qah _ h
 have B:∀st∈m::l2,st∈l:=λst h=>by rw[g.eq];exact qap _ h
 have p:=B m qag;have S:=aX (hs m p);have M:=J m (hs m p) rfl;have ho:ops[m.i]?=some m.o:=by simpa using S.o
 have O:m.i<listed.size:=by rw[g.jU];exact(qaf.1 ho).1
 obtain⟨C,U,_,c4⟩:=bJ g.chk;obtain⟨t,k1,V⟩:=ig (show small m.reads aa.regs .nil (λt=>bF m.q
   (gG m.o ops.toList P T e s t (λv _=>gG m.o ops.toList P T e s t (λy _=>yes (oL v y) (dB aa m.o.dst v (λa=>bu l2 ops.toList P T e a s ((m.o,m.i,t,v)::pend) K)))))
   (gG m.o ops.toList P T e s t (λv s=>again pend ops.toList P T e s m.mask (λpend=>dB aa m.o.dst v (λa=>bu l2 ops.toList P T e a s pend K))))) from g.walk)
 rw[H]at k1;have k1:gG m.o ops.toList P T e s t (λv s=>again pend ops.toList P T e s m.mask (λpend=>dB aa m.o.dst v (λa=>bu l2 ops.toList P T e a s pend K))):=k1;refine sJ (X:=Y) (t:=t) (n:=0) (ds:=aa.defers) (by rw[g.ext.le.ρ];exact G) ho ⟨⟨Nat.zero_le _,λx y W=>?_⟩,g.defers⟩ g.rel k1 (λv s' Y' u w' Z ab z ac=>?_)
 .obtain h | ⟨h1,h2⟩:=V x y W
  .rw[bI]at h;cases h
  obtain h | ⟨st,b1,k,D⟩ | ⟨st,b1,k,D⟩:=g.regs x y h2
  .exact h
  .have E:st.i≠m.i:=λc=>by rw[<-c,(g.dm st.i).2 ⟨st,b1,rfl⟩]at C;cases C
   rcases(bg (hp st (R st b1) m p) E).2 with(f | f) | f
   .exact absurd (M _ f) k
   .have:=g.cO st b1 _ f;rw[C]at this;cases this
   exact absurd h1 (f.1 x D)
  have E:st.i≠m.i:=λc=>by rw[c]at k;exact I k
  rcases(bg (hp st (B st b1) m p) E).2 with(f | f) | f
  .have:=U _ f;rw[dP g.chk b1]at this;cases this
  .exact absurd (g.closed st (hs st (B st b1)) k _ f) I
  exact absurd h1 (f.1 x D)
 obtain⟨ae,af,d',ag,ad⟩:=g.next (listed':=listed.setIfInBounds m.i true) (a':=a.put m.o.dst u) G.tab hp H (λj=>bB O) (by simp[g.jU]) (eY O g.closed J) M z.le ab (g.ext.trans z) (by rw[dA];exact g.mD) put_defers
  (λx hx=>by rw[bU,qae hx]) ⟨u,ac,λx hx A=>by rw[bU,qaj hx,qaj (by rw[g.mD];exact A)]⟩ Z (λst h h' _=>by
   have F:=g.early st (qac _ h) h';obtain⟨ty,z0,_,_,b4⟩:=F.blk;have A:=(qaf.1 b4).1;exact⟨(z.keep _ A F.un.fr).1,z.un _ A F.un⟩)
 exact⟨_,_,_,_,_,_,_,_,_,ad⟩
theorem Inv.ahead(hs:∀st∈l,st∈aJ P ops.toList)(hp:∀a∈l,∀b∈l,dR a b=true)(g:Inv P T e ops l K X0 s0 w0 N listed a w l1 l2 d lm Y aa s pend β){st:Step}(h2:st∈l2)(R:st.al=true)
  (S:∀f∈aJ P ops.toList,f.i=st.i->∀j,has f.mask j=true->Dn listed j):
  wpOpIn (Fw r) 0 P ops Q st.i (λa' w'=>∃β',Inv P T e ops l K X0 s0 w0 N (listed.setIfInBounds st.i true) a' w' l1 l2 d lm Y aa s pend β') a w:=by
 have ab:∀st∈l1,st∈l:=λst h=>by rw[g.eq];exact qah _ h
 have n:∀st∈l2,st∈l:=λst h=>by rw[g.eq];exact qap _ h
 have G:=aX (hs st (n st h2));have hm:=S st (hs st (n st h2)) rfl;have ho:ops[st.i]?=some st.o:=by simpa using G.o
 have A:st.i<listed.size:=by rw[g.jU];exact(qaf.1 ho).1
 obtain⟨hl,hg,ty,J,L,U⟩:=jQ (P:=P) (o:=st.o) (by rw[<-G.al];exact R);unfold wpOpIn;simp only[ho];rw[qaj (by unfold Region.wanted;rw[hg])];refine⟨λ_ _=>trivial,?_⟩;rw[Oper.semAt_eq _ _ _ (by rw[L];intro c hc;cases hc)];have ac:(execOp a.eval st.o).run P w=.ok (.value (.pointer (some ⟨w.heap.size,0,none⟩))) (w.alloc (.cells J.cells ty)):=by simp[execOp,L,Instr.alloc,bV U,newVar,newRow]
 rw[ac];obtain⟨r1,r2⟩:=g.rel.grow (w':=w.alloc (.cells J.cells ty)) (by simp) (λb hb=>heap_alloc_old w _ b hb);have M:∀f∈l2,Dn listed f.i->β f.i<w.heap.size:=λf h p=>by
  obtain⟨V,W,_,_,D⟩:=(g.early f h p).blk;exact(qaf.1 D).1
 have q:∀{j},Dn (listed.setIfInBounds st.i true) j->j≠st.i->Dn listed j:=λh c=>by
  rcases(bB A).1 h with h | h
  .exact h
  exact absurd h c
 have O:∀f∈l1,f.i≠st.i:=λf h c=>by
  have:=dP g.chk h2;rw[<-c,(g.dm f.i).2 ⟨f,h,rfl⟩]at this;cases this
 refine⟨λj=>if j=st.i then w.heap.size else β j,{eq:=g.eq,dm:=g.dm,chk:=g.chk,walk:=g.walk,rel:=r1,ext:=g.ext.trans r2,mD:=by rw[dA];exact g.mD,jU:=by simp[g.jU],defers:=by rw[put_defers];exact g.defers,oo:=g.oo,closed:=eY A g.closed S,cO:=g.cO,loud:=λf h p=>(bB A).2 (.inl (g.loud f h p)),im:=g.im,regs:=λx v' hv=>?_,dF:=g.dF,pend:=λf h p=>?_,early:=λf h p=>?_,inj:=λy H k I X Z g6=>?_}⟩
 .by_cases hd:st.o.dst=some x
  .exact .inr (.inr ⟨st,h2,(bB A).2 (.inr rfl),hd⟩)
  obtain⟨u,b1,m⟩ | ⟨f,b1,m,z⟩ | ⟨f,b1,m,z⟩:=g.regs x v' hv
  .exact .inl ⟨u,by rw[bU,qae hd];exact b1,m⟩
  .exact .inr (.inl ⟨f,b1,λc=>m (q c (O f b1)),z⟩)
  exact .inr (.inr ⟨f,b1,(bB A).2 (.inl m),z⟩)
 .have h3:¬Dn listed f.i:=λc=>p ((bB A).2 (.inl c));obtain⟨t,v,g1,H,I⟩:=g.pend f h h3;refine⟨t,v,g1,H,λx v2 hx=>?_⟩;obtain⟨f1,f2,f3⟩:=I x v2 hx;refine⟨f1,f2,?_⟩;have hd:st.o.dst≠some x:=λc=>by
   rcases(bg (hp st (n st h2) f (ab f h)) (λc=>O f h c.symm)).2 with(b | b) | b
   .have:=g.cO f h _ b;rw[dP g.chk h2]at this;cases this
   .exact h3 (hm _ b)
   exact b.1 x c f1
  obtain⟨u',b1,m⟩ | ⟨k,b1,m,z,D⟩:=f3
  .exact .inl ⟨u',by rw[bU,qae hd];exact b1,m⟩
  exact .inr ⟨k,b1,λc=>m (q c (O k b1)),z,D⟩
 .by_cases hc:f.i=st.i
  .have zT:=Step.same (aX (hs f (n f h))) G hc;refine⟨by rw[(aX (hs f (n f h))).al,zT,<-G.al];exact R,⟨ty,J,by rw[zT];exact L,U,?_⟩,?_,λid c hh=>?_,λx hx E=>?_⟩
   .rw[qaj hc];exact heap_alloc_new w _
   .rw[qaj hc];exact g.ext.size
   .rw[qaj hc];have:=(g.rel.blk id c hh).2.lt;omega
   rw[qaj hc];rw[dA]at E;rw[zT]at hx;rw[bU,qaj hx,qaj E]
  have h3:=q p hc;have F:=g.early f h h3;obtain⟨V,W,m,z,D⟩:=F.blk;refine⟨F.al,⟨V,W,m,z,?_⟩,?_,?_,λx hx E=>?_⟩
  .rw[qae hc,heap_alloc_old w _ _ (M f h h3)];exact D
  .rw[qae hc];exact F.new
  .rw[qae hc];exact F.un
  rw[dA]at E;rw[qae hc,bU,qae (λc=>(bg (hp st (n st h2) f (n f h)) (λc=>hc c.symm)).1 x c hx)];exact F.tmp x hx E
 by_cases B:y.i=st.i
 .have C:k.i≠st.i:=λc=>g6 (B.trans c.symm);change (if y.i=st.i then w.heap.size else β y.i)≠(if k.i=st.i then w.heap.size else β k.i)
  rw[qaj B,qae C];have:=M k I (q Z C);omega
 change (if y.i=st.i then w.heap.size else β y.i)≠(if k.i=st.i then w.heap.size else β k.i)
 by_cases C:k.i=st.i
 .rw[qae B,qaj C];have:=M y H (q X B);omega
 rw[qae B,qae C];exact g.inj y H k I (q X B) (q Z C) g6
theorem Inv.over(hT:bn P X0.ρ T)(hs:∀st∈l,st∈aJ P ops.toList)(hp:∀a∈l,∀b∈l,dR a b=true){m:Step}(g:Inv P T e ops l K X0 s0 w0 N listed a w l1 (m::l2) d lm Y aa s pend β)(F:m.q=true):
  ∃d' M ab,Inv P T e ops l K X0 s0 w0 N listed a w (l1++[m]) l2 d' lm Y M s ab β:=by
 have G:∀st∈l1,st∈l:=λst h=>by rw[g.eq];exact qah _ h
 have O:∀st∈m::l2,st∈l:=λst h=>by rw[g.eq];exact qap _ h
 have A:=O m qag;have X:=aX (hs m A);have C:bA P m.o.op=true:=by rw[<-X.q];exact F
 obtain⟨D,R,_,S⟩:=bJ g.chk;rw[F]at S;simp only[cond_true]at S;have H:¬Dn listed m.i:=λc=>by
  have h:=(g.early m qag c).al;rw[X.al]at h;rw[(jQ h).1]at C;cases C
 have Z:bn P Y.ρ T:=by rw[g.ext.le.ρ];exact hT
 obtain⟨t,k1,k2⟩:=ig (show small m.reads aa.regs .nil (λt=>bF m.q
   (gG m.o ops.toList P T e s t (λv _=>gG m.o ops.toList P T e s t (λz _=>yes (oL v z) (dB aa m.o.dst v (λa=>bu l2 ops.toList P T e a s ((m.o,m.i,t,v)::pend) K)))))
   (gG m.o ops.toList P T e s t (λv s=>again pend ops.toList P T e s m.mask (λpend=>dB aa m.o.dst v (λa=>bu l2 ops.toList P T e a s pend K))))) from g.walk)
 rw[F]at k1;have k1:gG m.o ops.toList P T e s t (λv _=>gG m.o ops.toList P T e s t (λz _=>yes (oL v z) (dB aa m.o.dst v (λa=>bu l2 ops.toList P T e a s ((m.o,m.i,t,v)::pend) K)))):=k1;have k3:∀x v,aC t x=some v->x∈m.reads/\aC aa.regs x=some v:=λx v h=>by
  obtain h | h:=k2 x v h
  .rw[bI]at h;cases h
  exact h
 have U:Im Y N t:=λx v h=>g.im x v (k3 x v h).2;obtain⟨v,k4,u,hu⟩:=iy Z g.rel U C k1;obtain⟨z,k5,_⟩:=iy Z g.rel U C k4;obtain⟨_,k6⟩:=aB k5;obtain⟨M,k7,k8,k9,ac,B⟩:=mQ k6;have I:∀st∈l1,st.i≠m.i:=λst h c=>by
  rw[<-c,(g.dm st.i).2 ⟨st,h,rfl⟩]at D;cases D
 refine⟨_,M,_,{eq:=by rw[g.eq];simp,dm:=nH g.dm,chk:=S,walk:=k7,rel:=g.rel,ext:=g.ext,mD:=g.mD,jU:=g.jU,defers:=by rw[k9];exact g.defers,oo:=by rw[k8];exact g.oo,closed:=g.closed,cO:=λst h j hj=>?_,loud:=λst h V=>?_,im:=λx z hx=>?_,regs:=λx z hx=>?_,dF:=λp hp=>?_,pend:=λst h E=>?_,early:=λst h E=>g.early st (qac _ h) E,inj:=λst h k E q1 q2 q3=>g.inj st (qac _ h) k (qac _ E) q1 q2 q3}⟩
 .rw[bN,qal];obtain h | h:=qaw.1 h
  .exact .inl (g.cO st h j hj)
  rw[qaq]at h;subst h;exact .inl (R j hj)
 .obtain h | h:=qaw.1 h
  .exact g.loud st h V
  rw[qaq]at h;subst h;rw[F]at V;cases V
 .rw[B x]at hx;split at hx
  .rename_i hd;cases hx;exact⟨qao (ac x hd) g.oo,u,hu⟩
  exact g.im x z hx
 .rw[B x]at hx;split at hx
  .rename_i hd;exact .inr (.inl ⟨m,by simp,H,hd⟩)
  obtain h | ⟨st,h1,h2,h3⟩ | ⟨st,h1,h2,h3⟩:=g.regs x z hx
  .exact .inl h
  .exact .inr (.inl ⟨st,qah _ h1,h2,h3⟩)
  obtain rfl | h1:=qan.1 h1
  .exact absurd h2 H
  exact .inr (.inr ⟨st,h1,h2,h3⟩)
 .obtain rfl | hp:=qan.1 hp
  .exact⟨U,C,_,k4⟩
  exact g.dF p hp
 obtain h | h:=qaw.1 h
 .have h4:has st.mask m.i=false:=by
   cases hh:has st.mask m.i with
   | false=>rfl
   | true=>have:=g.cO st h _ hh;rw[D]at this;cases this
  obtain⟨ad,_⟩:=bg (hp m A st (G st h)) (λc=>I st h c.symm);obtain⟨t',v2,g1,g2,g3⟩:=g.pend st h E;refine⟨t',v2,qac _ g1,λx hx=>?_,λx J hx=>?_⟩
  .rw[B x,qae (λc=>ad x c hx)];exact g2 x hx
  obtain⟨f1,L,W⟩:=g3 x J hx;refine⟨f1,λk b1 n y=>?_,?_⟩
  .obtain b1 | b1:=qaw.1 b1
   .rw[B x,qae (λc=>(bg (hp m A k (G k b1)) (λc=>I k b1 c.symm)).1 x c n)];exact L k b1 n y
   rw[qaq]at b1;subst b1;rw[h4]at y;cases y
  obtain W | ⟨k,b1,n⟩:=W
  .exact .inl W
  exact .inr ⟨k,qah _ b1,n⟩
 rw[qaq]at h;subst h;refine⟨t,v,qag,λx hx=>by rw[B x,qaj hx],λx J hx=>?_⟩;obtain⟨f1,L⟩:=k3 x J hx;refine⟨f1,λk b1 n y=>?_,?_⟩
 .obtain b1 | b1:=qaw.1 b1
  .rw[B x,qae (λc=>(bg (hp st A k (G k b1)) (λc=>I k b1 c.symm)).1 x c n)];exact L
  rw[qaq]at b1;subst b1;have:=R _ y;rw[D]at this;cases this
 obtain b | ⟨k,b1,n,y⟩ | ⟨k,b1,n,y⟩:=g.regs x J L
 .exact .inl b
 .refine .inr ⟨k,qah _ b1,n,y,?_⟩;rcases(bg (hp k (G k b1) st A) (I k b1)).2 with(f | f) | f
  .exact f
  .have:=g.cO k b1 _ f;rw[D]at this;cases this
  exact absurd f1 (f.1 x y)
 have ae:k.i≠st.i:=λc=>by rw[c]at n;exact H n
 rcases(bg (hp k (O k b1) st A) ae).2 with(f | f) | f
 .have:=R _ f;rw[dP g.chk b1]at this;cases this
 .exact absurd (g.closed k (hs k (O k b1)) n _ f) H
 exact absurd f1 (f.1 x y)
theorem Inv.made(G:bn P X0.ρ T)(hs:∀st∈l,st∈aJ P ops.toList)(hp:∀a∈l,∀b∈l,dR a b=true){m:Step}(c:Inv P T e ops l K X0 s0 w0 N listed a w l1 (m::l2) d lm Y aa s pend β)(k:Dn listed m.i):
  ∃y z Y' A s' B,Inv P T e ops l K X0 s0 w0 N listed a w (l1++[m]) l2 y z Y' A s' B β:=by
 have H:∀st∈m::l2,st∈l:=λst h=>by rw[c.eq];exact qap _ h
 have C:=H m qag;have D:=aX (hs m C);have f:=c.early m qag k;obtain⟨hl,hg,_⟩:=jQ (P:=P) (o:=m.o) (by rw[<-D.al];exact f.al);have E:m.q=false:=by rw[D.q];exact hl
 obtain⟨ty,ab,b1,I,J⟩:=f.blk;obtain⟨t,k1,_⟩:=ig (show small m.reads aa.regs .nil (λt=>bF m.q
   (gG m.o ops.toList P T e s t (λv _=>gG m.o ops.toList P T e s t (λM _=>yes (oL v M) (dB aa m.o.dst v (λa=>bu l2 ops.toList P T e a s ((m.o,m.i,t,v)::pend) K)))))
   (gG m.o ops.toList P T e s t (λv s=>again pend ops.toList P T e s m.mask (λpend=>dB aa m.o.dst v (λa=>bu l2 ops.toList P T e a s pend K))))) from c.walk)
 rw[E]at k1;have k1:gG m.o ops.toList P T e s t (λv s=>again pend ops.toList P T e s m.mask (λpend=>dB aa m.o.dst v (λa=>bu l2 ops.toList P T e a s pend K))):=k1;unfold gG cZ at k1;rw[hg,b1]at k1;obtain⟨s',L,f1,O,R,S,n⟩:=sK (T:=T) (e:=e) (g:=gv t) (b:=β m.i) c.rel I J f.un k1;have U:Ext X0 s0 w0 (Y.put L) s' w:=⟨c.ext.le.trans (Y.bD L),c.ext.size,λb p hf=>by
   obtain⟨V,u⟩:=c.ext.keep b p hf;have:=f.new;exact⟨V,(n b (by omega)).2 u⟩,λb p hf=>by
   have u:=c.ext.un b p hf;have:=f.new;exact(n b (by omega)).1 u,c.ext.io⟩
 obtain⟨A,B,y,z,W⟩:=c.next (listed':=listed) (a':=a) (w':=w) (Y':=Y.put L) (s':=s') G hp E (λj=>⟨.inl,λh=>by obtain h | h:=h;exact h;rw[h];exact k⟩) c.jU c.closed (c.closed m (hs m C) k) (Y.bD L) S U c.mD rfl (λ_ _=>rfl)
  ⟨.pointer (some ⟨β m.i,0,none⟩),bf.2 ⟨by rw[<-c.rel.nx];simp[Cx.put],by rw[<-c.rel.nx,Y.aQ,f1,O]⟩,λx hx X=>f.tmp x hx (by rw[c.mD];exact X)⟩ R (λst h F Z=>⟨rfl,(n _ (c.inj st (qac _ h) m qag F k Z)).1 (c.early st (qac _ h) F).un⟩)
 exact⟨_,_,_,_,_,_,W⟩
theorem Inv.on(j:bn P X0.ρ T)(hs:∀st∈l,st∈aJ P ops.toList)(hp:∀a∈l,∀b∈l,dR a b=true):∀{l2 l1:List Step}{d lm:Nat}{Y:Cx}{aa:AA}{s:AS}{pend:List fK},Inv P T e ops l K X0 s0 w0 N listed a w l1 l2 d lm Y aa s pend β->
  ∃l1 l2 d lm Y aa s pend,Inv P T e ops l K X0 s0 w0 N listed a w l1 l2 d lm Y aa s pend β/\∀m f,l2=m::f->m.q=false/\¬Dn listed m.i:=by
 intro l2;induction l2 with
 | nil=>intro l1 d lm Y aa s pend c;exact⟨_,_,_,_,_,_,_,_,c,λm f h=>by cases h⟩
 | cons m l2 k=>
  intro l1 d lm Y aa s pend c;cases n:m.q with
  | true=>obtain⟨_,_,_,g⟩:=c.over j hs hp n;exact k g
  | false=>
   by_cases o:Dn listed m.i
   .obtain⟨_,_,_,_,_,_,g⟩:=c.made j hs hp o;exact k g
   exact⟨_,_,_,_,_,_,_,_,c,λp f h=>by cases h;exact⟨n,o⟩⟩
def Has(P:Program)(T:Tab)(e:Env)(ops:Array Oper)(l:List Step)(K:KA)(X0:Cx)(s0:AS)(w0:World)(N:Nat)(listed:Array Bool)(a:Act)(w:World):Prop:=
 ∃l1 l2 d lm Y aa s pend β,Inv P T e ops l K X0 s0 w0 N listed a w l1 l2 d lm Y aa s pend β
def left(listed:Array Bool):Nat:=listed.toList.count false
theorem rF{i:Nat}(c:i<listed.size)(hn:¬Dn listed i):left (listed.setIfInBounds i true)+1=left listed:=by
 unfold left Dn at*;rw[Array.toList_setIfInBounds];have h1:listed.toList[i]?=some false:=by
  simp only[Array.getD_eq_getD_getElem?]at hn;rw[qav c]at hn;simp at hn;simp[c,hn]
 generalize listed.toList=q at h1;clear hn c;induction q generalizing i with
 | nil=>simp at h1
 | cons b q f=>
  cases i with
  | zero=>simp at h1;subst h1;simp
  | succ i=>have:=f (i:=i) (by simpa using h1);simp only[List.set_cons_succ,List.count_cons];omega
theorem ou(h:left listed=0)(i:Nat)(b:i<listed.size):Dn listed i:=by
 unfold left at h;rw[List.count_eq_zero]at h;unfold Dn;simp only[Array.getD_eq_getD_getElem?];rw[qav b];simp only[Option.getD_some];cases c:listed[i] with
 | true=>rfl
 | false=>exact absurd (by rw[<-c];simp) h
theorem sS{n:Nat}(c:listed.size=ops.size)(f:Region.ready .any ops listed=[]):∀{q:List Step}{d lm:Nat},chk n q d lm=true->(∀j,has d j=true->Dn listed j)->(∀st∈q,st∈aJ P ops.toList)->∀st∈q,Dn listed st.i:=by
 intro q;induction q with
 | nil=>intro d lm _ _ _ st h;cases h
 | cons x q g=>
  intro d lm hc hd b;obtain⟨_,k,_,m⟩:=bJ hc;have hx:=aX (b x qag);have h1:Dn listed x.i:=by
   by_cases hn:Dn listed x.i
   .exact hn
   have ho:ops[x.i]?=some x.o:=by simpa using hx.o
   have:=pz c ho hn (λe p t=>hd _ (k _ (hx.edge e p t)));rw[f]at this;cases this
  have h2:=g m (λj hj=>by
   rw[bN,qal]at hj;obtain hj | hj:=hj
   .exact hd j hj
   rw[<-dM.1 hj];exact h1) (λst h=>b st (qac _ h))
  intro st h;obtain rfl | h:=qan.1 h
  .exact h1
  exact h2 st h
theorem Has.done(i:dn P X0.ρ T e r)(hs:∀st∈l,st∈aJ P ops.toList)(hp:∀a∈l,∀b∈l,dR a b=true)(hc:chk ops.size l 0 0=true)
  (k:∀Y f s' a' w',K f s'->Rel Y s' w'->Ext X0 s0 w0 Y s' w'->eu Y f a'->Q .normal a' w') (h:Has P T e ops l K X0 s0 w0 N listed a w) (n:Region.ready .any ops listed=[]):Q .normal a w:=by
 obtain⟨l1,l2,d,lm,Y,aa,s,pend,β,c⟩:=h;obtain⟨l1,l2,d,lm,Y,aa,s,pend,c,o⟩:=c.on i.tab hs hp;have g:=sS c.jU n hc (λj hj=>by rw[fE]at hj;cases hj) hs;have p:l2=[]:=by
  cases l2 with
  | nil=>rfl
  | cons m q=>exact absurd (g m (by rw[c.eq];simp)) (o m q rfl).2
 subst p;refine k Y aa s a w c.walk c.rel c.ext ⟨⟨by rw[c.mD];exact c.oo,λx v t=>?_⟩,c.defers⟩;obtain h | ⟨st,h1,h2,_⟩ | ⟨st,h1,_⟩:=c.regs x v t
 .exact h
 .exact absurd (g st (by rw[c.eq];simpa using h1)) h2
 cases h1
theorem Has.any(k:dn P X0.ρ T e r)(hs:∀st∈l,st∈aJ P ops.toList)(hp:∀a∈l,∀b∈l,dR a b=true)(hc:chk ops.size l 0 0=true)
  (u:∀Y v s' a' w',K v s'->Rel Y s' w'->Ext X0 s0 w0 Y s' w'->eu Y v a'->Q .normal a' w'):∀(j:Nat)(listed:Array Bool)(a:Act)(w:qW),Has P T e ops l K X0 s0 w0 N listed a w->left listed<=j->wpAnyIn (Fw r) 0 P .any ops Q j listed a w:=by
 intro j;induction j with
 | zero=>
  intro listed a w h hf;have g:Region.ready .any ops listed=[]:=by
   obtain⟨l1,l2,d,lm,Y,aa,s,pend,β,c⟩:=h;cases g:Region.ready .any ops listed with
   | nil=>rfl
   | cons i q=>obtain⟨h1,h2,_⟩:=kC c.jU (show i∈Region.ready .any ops listed by rw[g];simp);exact absurd (ou (by omega) i (by rw[c.jU];exact h1)) h2
  exact⟨g,h.done k hs hp hc u g⟩
 | succ j z=>
  intro listed a w h hf;refine⟨h.done k hs hp hc u,λi A=>?_⟩;obtain⟨l1,l2,d,lm,Y,aa,s,pend,β,c⟩:=h;obtain⟨l1,l2,d,lm,Y,aa,s,pend,c,n⟩:=c.on k.tab hs hp;obtain⟨h1,h2,o,h3,h4⟩:=kC c.jU A;have g:=jM c.closed h3 h4;have B:left (listed.setIfInBounds i true)<=j:=by
   have:=rF (by rw[c.jU];exact h1) h2;omega
  have key:wpOpIn (Fw r) 0 P ops Q i (λa' w'=>Has P T e ops l K X0 s0 w0 N (listed.setIfInBounds i true) a' w') a w:=by
   obtain h5 | ⟨st,h5,p⟩:=vw h1 c.chk
   .obtain⟨st,p,h7⟩:=(c.dm i).1 h5;subst h7;exact wpOpIn_mono (λa' w' ⟨Y',t⟩=>⟨_,_,_,_,_,_,_,_,_,t⟩) (c.quiet k hs hp p h2 g)
   subst p;cases l2 with
   | nil=>cases h5
   | cons m C=>
    obtain⟨x,D⟩:=n m C rfl;obtain rfl | h5:=qan.1 h5
    .exact c.step k hs hp x h2 g
    obtain⟨_,_,_,y⟩:=bJ c.chk;rw[x]at y;obtain f | f:=xK y h5
    .exact wpOpIn_mono (λa' w' ⟨E,t⟩=>⟨_,_,_,_,_,_,_,_,_,t⟩) (c.ahead hs hp (qac _ h5) f g)
    have f1:=f m.i (by simp only[cond_false,bN,qal];exact .inr (dM.2 rfl));exact absurd (g st (hs st (by rw[c.eq];simp[h5])) rfl _ f1) D
  exact wpOpIn_mono (λa' w' n=>z _ a' w' n B) key
theorem sN{id:Nat}{X:Cx}(g:dn P X.ρ T e r)(h:jK ops P T e aa s K)(k:Rel X s w)(b:eu X aa a)
  (m:∀Y i s' a' w',K i s'->Rel Y s' w'->Ext X s w Y s' w'->eu Y i a'->Q .normal a' w'):(Code.region id ops true).wpIn (Fw r) 0 P Q a w:=by
 refine wpIn_region_any g.prog.mixed ?_;obtain⟨h1,h2⟩:=aB h;unfold p8 at h1;rw[qab]at h1;obtain⟨h3,h4⟩:=h1;have hn:ops.toList.length=ops.size:=by simp
 rw[hn]at h3;have hd:∀j,¬Dn (Array.replicate ops.size false) j:=λj c=>by
  unfold Dn at c;simp only[Array.getD_eq_getD_getElem?]at c;by_cases hj:j<ops.size
  .simp[hj]at c
  simp[hj]at c
 refine Has.any (X0:=X) (s0:=s) (w0:=w) (l:=iB P ops.toList) (K:=K) (N:=a.tmps.size) g (λst h=>pY h) (λx hx n o=>dI (dI h4 x hx) n o) h3 m _ _ _ _ ⟨[],iB P ops.toList,0,0,X,aa,s,[],λ_=>0,?_⟩ (by unfold left;simp);exact {eq:=rfl,dm:=λj=>(by simp[fE]),chk:=h3,walk:=h2,rel:=k.drew,ext:=Ext.drew X s w,mD:=rfl,jU:=(by simp),defers:=b.defers,oo:=b.regs.1,closed:=λst _ h=>absurd h (hd _),cO:=λst h=>(by cases h),loud:=λst h=>(by cases h),im:=λx v f=>(by have⟨u,k1,k2⟩:=b.regs.2 x v f;exact⟨(qaf.1 k1).1,u,k2⟩),regs:=λx v f=>.inl (b.regs.2 x v f),dF:=λp h=>(by cases h),pend:=λst h=>(by cases h),early:=λst _ h=>absurd h (hd _),inj:=λst _ _ _ h=>absurd h (hd _)}
end
end Go.Proofs.YtfkcodlceoghpaaGreatDoor.Zev
