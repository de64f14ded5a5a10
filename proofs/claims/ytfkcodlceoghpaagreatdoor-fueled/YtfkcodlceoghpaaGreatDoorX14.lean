import Derived.Test.YtfkcodlceoghpaaGreatDoorX13
namespace Go.Proofs.YtfkcodlceoghpaaGreatDoor
set_option linter.unusedSimpArgs false
set_option linter.unusedVariables false
open Go.RowKit
structure Alike(n:Nat)(s s':qS):Prop where
 l:n<=s.size
 r:n<=s'.size
 b:∀k,k<n->bt s k=bt s' k
theorem Alike.less{n m:Nat}{s s':qS}(h:Alike n s s')(hm:m<=n):Alike m s s':=⟨qam hm h.l,qam hm h.r,λk X=>h.b k (qad X hm)⟩
structure Fine{α:Type}(H:Nat->Prop)(Pr:Nat->α->Prop)(f:qS->Nat->Nat->Except Err (α×Nat)):Prop where
 err:∀{s n i q p},H n->i<=n->f s n i=.error (q,p)->q=2/\p<=n
 ok:∀{s n i x j},H n->i<=n->f s n i=.ok (x,j)->i<=j/\j<=n/\Pr n x
 zH:∀{s s' n i},H n->Alike n s s'->i<=n->f s n i=f s' n i
section
variable {α β:Type}{H H':qD}{P:Nat->α->Prop}{Q:Nat->β->Prop}
theorem Fine.bind{f:qS->Nat->Nat->Except Err (α×Nat)}{g:Nat->α->qS->Nat->Nat->Except Err (β×Nat)}{F:qS->Nat->Nat->Except Err (β×Nat)}(hf:Fine H P f)(l:∀i x,Fine (λn=>H n/\i<=n/\P n x) Q (g i x))
  (d:∀s n i e,f s n i=.error e->F s n i=.error e) (X:∀s n i x j,f s n i=.ok (x,j)->F s n i=g i x s n j):Fine H Q F:=by
 refine⟨?_,?_,?_⟩
 .intro s n i q p a hi h;rcases ho:f s n i with⟨t,u⟩|⟨x,j⟩
  .rw[d _ _ _ _ ho]at h;cases h;exact hf.err a hi ho
  rw[X _ _ _ _ _ ho]at h;obtain⟨U,b,c⟩:=hf.ok a hi ho;exact(l i x).err ⟨a,hi,c⟩ b h
 .intro s n i y k a hi h;rcases ho:f s n i with e|⟨x,j⟩
  .rw[d _ _ _ _ ho]at h;cases h
  rw[X _ _ _ _ _ ho]at h;obtain⟨U,b,c⟩:=hf.ok a hi ho;obtain⟨v,o,r⟩:=(l i x).ok ⟨a,hi,c⟩ b h;exact⟨qo,o,r⟩
 intro s s' n i a m hi;have hc:=hf.zH a m hi;rcases ho:f s n i with e|⟨x,j⟩
 .rw[d _ _ _ _ ho,d _ _ _ _ (hc.symm.trans ho)]
 obtain⟨U,b,c⟩:=hf.ok a hi ho;rw[X _ _ _ _ _ ho,X _ _ _ _ _ (hc.symm.trans ho)];exact(l i x).zH ⟨a,hi,c⟩ m b
theorem Fine.pure{y:α}(h:∀n,H n->P n y):Fine H P (λ_ _ j=>.ok (y,j)):=
 ⟨λ_ _ h=>(by cases h),λa hi h'=>(by cases h';exact⟨qR,hi,h _ a⟩),λ_ _ _=>rfl⟩
theorem Fine.fail{p:Nat}(h:∀n,H n->p<=n):Fine H P (λ_ _ _=>.error (2,p)):=
 ⟨λa _ h'=>(by cases h';exact⟨rfl,h _ a⟩),λ_ _ h=>(by cases h),λ_ _ _=>rfl⟩
theorem Fine.ite{c:Prop}[Decidable c]{f g:qS->Nat->Nat->Except Err (α×Nat)}(hf:c->Fine H P f)(a:¬c->Fine H P g):Fine H P (λs n i=>if c then f s n i else g s n i):=by
 by_cases h:c
 .simp only[qac h];exact hf h
 simp only[qaa h];exact a h
theorem Fine.weak{f:qS->Nat->Nat->Except Err (α×Nat)}{b:Nat->α->Prop}(hf:Fine H P f)(hh:∀n,H' n->H n)(hp:∀n x,H' n->P n x->b n x):Fine H' b f:=
 ⟨λa hi h=>hf.err (hh _ a) hi h,λa hi h=>⟨(hf.ok (hh _ a) hi h).1,(hf.ok (hh _ a) hi h).2.1,hp _ _ a (hf.ok (hh _ a) hi h).2.2⟩,λa c hi=>hf.zH (hh _ a) c hi⟩
theorem Fine.to{f:qS->Nat->Nat->Except Err (α×Nat)}(hf:Fine (λ_=>True) P f):Fine H P f:=hf.weak (λ_ _=>trivial) (λ_ _ _ h=>h)
end
abbrev Any:Nat->Prop:=λ_=>True
theorem vw:Fine Any (λ_ x=>x<256) iW:=by
 refine⟨?_,?_,?_⟩
 .intro s n i q p _ hi h;unfold iW at h;split at h<;>cases h;exact⟨rfl,qR⟩
 .intro s n i x j _ hi h;unfold iW at h;split at h<;>cases h;exact⟨qo,qo,LK _ _⟩
 intro s s' n i _ a hi;unfold iW;split
 .rw[a.b i (by assumption)]
 rfl
theorem jE(ts:qM):Fine Any (λ_ x=>x∈ts) (iO ts):=by
 refine⟨?_,?_,?_⟩
 .intro s n i q p _ hi h;unfold iO at h;split at h
  .split at h<;>cases h;exact⟨rfl,hi⟩
  cases h;exact⟨rfl,qR⟩
 .intro s n i x j _ hi h;have:=nO h;exact⟨qo,qo,this.1⟩
 intro s s' n i _ a hi;unfold iO;split
 .rw[a.b i (by assumption)]
 rfl
theorem kY:∀ts:qM,Fine Any (λ_ _=>True) (fQ ts)
 | []=>Fine.weak (P:=λ_ _=>True) (H:=Any) (Fine.pure (λ_ _=>trivial)) (λ_ h=>h) (λ_ _ _ h=>h)
 | t::ts=>(jE [t]).bind (g:=λ_ _=>fQ ts) (λ_ _=>(kY ts).to) (λs n i e h=>by simp[fQ,h]) (λs n i x j h=>by simp[fQ,h])
theorem O9{s:qS}{n start:Nat}:∀(m k:Nat)(z:Int)(j:Nat){q p:Nat},start<=n->j<=n->wR s n start m k z j=.error (q,p)->q=2/\p<=n:=by
 intro m;induction m with
 | zero=>intro k z j q p b a h;simp[wR]at h;obtain⟨rfl,rfl⟩:=h;exact⟨rfl,a⟩
 | succ m d=>
  intro k z j q p b a h;unfold wR at h;by_cases c:j<n
  .rw[dY c]at h;simp only at h;split at h
   .cases h;exact⟨rfl,a⟩
   split at h
   .cases h
   exact d _ _ _ b qo h
  rw[gQ c]at h;cases h;exact⟨rfl,qR⟩
theorem Pd{s s':qS}{n start:Nat}(ha:Alike n s s'):∀(m k:Nat)(z:Int)(j:Nat),j<=n->wR s n start m k z j=wR s' n start m k z j:=by
 intro m;induction m with
 | zero=>intro k z j hj;rfl
 | succ m ih=>intro k z j hj;unfold wR;exact UT
def mJ(n:Nat)(x:Int×Nat):Prop:=0<=x.1/\x.1<=4294967295/\x.2<=n
theorem ku:Fine Any mJ uM:=
 ⟨λ_ hi h=>O9 _ _ _ _ hi hi h,λ{s n i x j} _ hi h=>by obtain⟨v,a⟩:=x;have:=iY h;exact⟨qo,qo,this.1,this.2.1,qt⟩,λ_ b hi=>Pd b _ _ _ _ hi⟩
theorem Pv{K c:Nat}{s:qS}{n:Nat}:∀(m k:Nat)(z:Int)(j:Nat){q p:Nat},j<=n->wZ K c s n m k z j=.error (q,p)->q=2/\p<=n:=by
 intro m;induction m with
 | zero=>intro k z j q p a h;simp[wZ]at h;obtain⟨rfl,rfl⟩:=h;exact⟨rfl,a⟩
 | succ m d=>
  intro k z j q p a h;unfold wZ at h;by_cases b:j<n
  .rw[dY b]at h;simp only at h;split at h
   .cases h;exact⟨rfl,a⟩
   split at h
   .cases h
   exact d _ _ _ qo h
  rw[gQ b]at h;cases h;exact⟨rfl,qR⟩
theorem Px{K a:Nat}{s s':qS}{n:Nat}(ha:Alike n s s'):∀(m k:Nat)(z:Int)(j:Nat),j<=n->wZ K a s n m k z j=wZ K a s' n m k z j:=by
 intro m;induction m with
 | zero=>intro k z j hj;rfl
 | succ m ih=>intro k z j hj;unfold wZ;exact UT
theorem yw(K a:Nat):Fine Any (λ_ _=>True) (sM K a):=
 ⟨λ_ hi h=>Pv _ _ _ _ hi h,λ_ hi h=>by have:=uk h;exact⟨qo,qo,trivial⟩,λ_ b hi=>Px b _ _ _ _ hi⟩
theorem lZ(most:Nat):Fine Any (λ_ k=>k<=most) (fD most):=
 ku.bind (g:=λ_ x=>λ_ _ j=>if(most:Int)<x.1 then .error (2,x.2) else .ok (x.1.toNat,j)) (λi x=>Fine.ite (λ_=>Fine.fail (λn h=>h.2.2.2.2)) (λh=>Fine.pure (λn _=>qo)))
  (λs n i e h=>by simp[fD,h]) (λs n i x j h=>by simp[fD,h])
theorem KM{s s':qS}{n i k:Nat}(a:Alike n s s')(X:i+k<=n):s.extract i (i+k)=s'.extract i (i+k):=by
 have e:=a.l;have f:=a.r;apply ByteArray.ext;apply Array.ext
 .simp[ByteArray.data_extract];have U:s.data.size=s.size:=rfl;have c:s'.data.size=s'.size:=rfl;omega
 intro j U c;simp only[ByteArray.data_extract]at U c ⊢;simp only[Array.getElem_extract];simp at U;have g:s.data.size=s.size:=rfl;have d:=a.b (i+j) qo;rw[LP qo,LP qo]at d;exact UInt8.toNat_inj.1 d
theorem yo(k:Nat):Fine Any (λ_ t=>t.size<=k) (jL k):=by
 refine⟨?_,?_,?_⟩
 .intro s n i q p _ hi h;unfold jL at h;split at h<;>cases h;exact⟨rfl,qR⟩
 .intro s n i x j _ hi h;unfold jL at h;split at h<;>cases h;refine⟨qo,qo,?_⟩;simp;omega
 intro s s' n i _ a hi;unfold jL;split
 .rfl
 rw[KM a qo]
theorem uC{α:Type}{H:qD}{P:Nat->α->Prop}{tM:qS->Nat->Nat->Except Err (α×Nat)}(a:Fine H P tM):∀(k:Nat)(M:List α),Fine (λn=>H n/\∀x∈M,P n x) (λn xs=>xs.length=M.length+k/\∀x∈xs,P n x) (λs n j=>eT tM s n k M j)
 | 0,M=>Fine.pure (λn h=>⟨qs,h.2⟩)
 | k+1,M=>(a.weak (H':=λn=>H n/\∀x∈M,P n x) (λ_ h=>h.1) (λ_ _ _ h=>h)).bind (g:=λ_ x=>λs n j=>eT tM s n k (M++[x]) j)
   (λi x=>(uC a k (M++[x])).weak (λn h=>⟨h.1.1,λy hy=>by obtain U | U:=qar.1 hy;exact h.1.2 y U;simp at U;subst U;exact h.2.2⟩) (λn xs _ h=>⟨by have:=h.1;simp at this;omega,h.2⟩))
   (λs n i e h=>by simp[eT,h]) (λs n i x j h=>by simp[eT,h])
theorem ji{α:Type}{H:qD}{P:Nat->α->Prop}{tM:qS->Nat->Nat->Except Err (α×Nat)}(most:Nat)(a:Fine H P tM):Fine H (λn xs=>xs.length<=most/\∀x∈xs,P n x) (eB most tM):=
 (lZ most).to.bind (g:=λ_ k=>λs n j=>eT tM s n k [] j) (λi k=>(uC a k []).weak (λn h=>⟨h.1,qs⟩) (λn xs h hh=>⟨by have:=hh.1;have:=h.2.2;simp at*;omega,hh.2⟩))
  (λs n i e h=>by simp[eB,h]) (λs n i x j h=>by simp[eB,h])
theorem uf{α:Type}{P:Nat->α->Prop}{tM:qS->Nat->Nat->Except Err (α×Nat)}(c:Fine Any P tM)(hm:∀n n' x,n'<=n->P n' x->P n x):Fine Any P (eX tM):=by
 refine⟨?_,?_,?_⟩
 .intro s n i q p _ hi h;rcases ho:uM s n i with⟨f,g⟩|⟨⟨v,a⟩,j⟩
  .unfold eX at h;rw[ho]at h;cases h;exact ku.err trivial hi ho
  have hf:=iY ho;unfold eX at h;rw[ho]at h;simp only at h;split at h
  .rcases b:tM s n j with⟨f,g⟩|⟨y,k⟩
   .rw[b]at h;cases h;exact c.err trivial qo b
   rw[b]at h;cases h;exact⟨rfl,(c.ok trivial qo b).2.1⟩
  rcases b:tM s (j+v.toNat) j with⟨f,g⟩|⟨y,k⟩
  .rw[b]at h;cases h;have:=c.err trivial qo b;exact⟨this.1,qo⟩
  rw[b]at h;have:=c.ok trivial qo b;simp only at h;split at h<;>cases h;exact⟨rfl,qo⟩
 .intro s n i y k _ hi h;rcases ho:uM s n i with e|⟨⟨v,a⟩,j⟩
  .unfold eX at h;rw[ho]at h;cases h
  have hf:=iY ho;unfold eX at h;rw[ho]at h;simp only at h;split at h
  .rcases b:tM s n j with e|⟨y,k⟩
   .rw[b]at h;cases h
   rw[b]at h;cases h
  rcases b:tM s (j+v.toNat) j with e|⟨z,k'⟩
  .rw[b]at h;cases h
  rw[b]at h;have:=c.ok trivial qo b;simp only at h;split at h<;>cases h;exact⟨qo,qo,hm _ _ _ qo this.2.2⟩
 intro s s' n i _ d hi;unfold eX;rw[<-ku.zH trivial d hi];rcases ho:uM s n i with e|⟨⟨v,a⟩,j⟩
 .rfl
 have hf:=iY ho;simp only;split
 .rw[c.zH trivial d qo]
 rw[c.zH trivial (d.less qo) qo]
def Ws(n:Nat)(c:Cst):Prop:=c.at_<=n
def Ls(n:Nat)(x:tZ):Prop:=x.at_<=n
def UD(n:Nat)(x:Cn):Prop:=x.first.at_<=n
def Ro(n:Nat)(x:CB):Prop:=x.nameAt<=n/\mJ n x.idx/\x.AX<=3
def VQ(_:Nat)(x:Ty):Prop:=x.ins.length<=8/\x.outs.length<=4
def Ii(n:Nat)(x:Cm):Prop:=x.at_<=n/\x.place.at_<=n/\x.funcs.length<=20/\∀y∈x.funcs,mJ n y
def UG(n:Nat)(x:Dat):Prop:=x.at_<=n/\x.place.at_<=n
def Ed(n:Nat)(x:O4):Prop:=x.1.length<=50/\x.2.1<=x.2.2/\x.2.2<=n
def nJ(n:Nat)(y:fO):Prop:=mJ n y.num/\y.dA.length<=20/\(∀x∈y.dA,mJ n x)/\y.dL.length<=1/\0<=y.align
theorem vk:Fine Any (λ_ x=>x=127\/x=126) jM:=(jE [127,126]).weak (λ_ h=>h) (λ_ x _ h=>by simpa using h)
theorem wK:Fine Any Ws ja:=by
 refine(jE [65,66]).bind (g:=λi x=>λs n j=>match(if x=65 then sM 4 4 s n j else sM 9 1 s n j) with
  | .error e=>.error e
  | .ok (v,a)=>match iO [11] s n a with
   | .error e=>.error e
   | .ok (_,j3)=>.ok (⟨i,if x=65 then 127 else 126,v⟩,j3)) (λi x=>?_) (λs n i e h=>by simp only[ja,h]<;>rfl) (λs n i x j h=>by simp only[ja,h]<;>rfl)
 refine Fine.bind (P:=λ_ _=>True) (f:=λs n j=>if x=65 then sM 4 4 s n j else sM 9 1 s n j) (Fine.ite (λ_=>(yw 4 4).to) (λ_=>(yw 9 1).to))
  (g:=λ_ v=>λs n a=>match iO [11] s n a with
   | .error e=>.error e
   | .ok (_,j3)=>.ok (⟨i,if x=65 then 127 else 126,v⟩,j3)) (λk v=>?_) qm qm
 exact(jE [11]).to.bind (g:=λ_ _=>λ_ _ j=>.ok (⟨i,if x=65 then 127 else 126,v⟩,j)) (λ_ _=>Fine.pure (λn h=>h.1.1.2.1)) qm qm
theorem GY:Fine Any Ls r9:=by
 refine(jE [0,1]).bind (g:=λi x=>λs n j=>match uM s n j with
  | .error e=>.error e
  | .ok ((v,_),a)=>if x=1 then(match uM s n a with
    | .error e=>.error e
    | .ok ((m,_),b)=>.ok (⟨i,v,m,true⟩,b)) else .ok (⟨i,v,0,false⟩,a)) (λi x=>?_) (λs n i e h=>by simp only[r9,h]<;>rfl) (λs n i x j h=>by simp only[r9,h]<;>rfl)
 refine ku.to.bind (g:=λ_ u=>λs n a=>if x=1 then(match uM s n a with
    | .error e=>.error e
    | .ok ((m,_),b)=>.ok (⟨i,u.1,m,true⟩,b)) else .ok (⟨i,u.1,0,false⟩,a)) (λk u=>?_) qm qm
 refine Fine.ite (λ_=>?_) (λ_=>Fine.pure (λn h=>h.1.2.1));exact ku.to.bind (g:=λ_ w=>λ_ _ b=>.ok (⟨i,u.1,w.1,true⟩,b)) (λ_ _=>Fine.pure (λn h=>h.1.1.2.1)) qm qm
theorem Jl:Fine Any Ls nM:=
 (jE [112]).bind (g:=λ_ _=>r9) (λ_ _=>GY.to) (λs n i e h=>by simp only[nM,h]<;>rfl) (λs n i x j h=>by simp only[nM,h]<;>rfl)
theorem Ho:Fine Any UD jR:=by
 refine vk.bind (g:=λ_ k=>λs n j=>match iO [0,1] s n j with
  | .error e=>.error e
  | .ok (x,b)=>match ja s n b with
   | .error e=>.error e
   | .ok (c,a)=>.ok (⟨k,x==1,c⟩,a)) (λi k=>?_) (λs n i e h=>by simp only[jR,h]<;>rfl) (λs n i x j h=>by simp only[jR,h]<;>rfl)
 refine(jE [0,1]).to.bind (g:=λ_ x=>λs n b=>match ja s n b with
   | .error e=>.error e
   | .ok (c,a)=>.ok (⟨k,x==1,c⟩,a)) (λ_ x=>?_) qm qm
 exact wK.to.bind (g:=λ_ c=>λ_ _ a=>.ok (⟨k,x==1,c⟩,a)) (λ_ c=>Fine.pure (λn h=>h.2.2)) qm qm
theorem Hy:Fine Any Ro jy:=by
 refine(lZ 20).bind (g:=λi k=>λs n j=>match jL k s n j with
  | .error e=>.error e
  | .ok (t,c)=>if ni t 0=false then .error (2,i) else match iO [0,1,2,3] s n c with
   | .error e=>.error e
   | .ok (x,b)=>match uM s n b with
    | .error e=>.error e
    | .ok (u,a)=>.ok (⟨i,t,x,u⟩,a)) (λi k=>?_) (λs n i e h=>by simp only[jy,h]<;>rfl) (λs n i x j h=>by simp only[jy,h]<;>rfl)
 refine(yo k).to.bind (g:=λ_ t=>λs n c=>if ni t 0=false then .error (2,i) else match iO [0,1,2,3] s n c with
   | .error e=>.error e
   | .ok (x,b)=>match uM s n b with
    | .error e=>.error e
    | .ok (u,a)=>.ok (⟨i,t,x,u⟩,a)) (λ_ t=>?_) qm qm
 refine Fine.ite (λ_=>Fine.fail (λn h=>h.1.2.1)) (λ_=>?_)
 refine(jE [0,1,2,3]).to.bind (g:=λ_ x=>λs n b=>match uM s n b with
    | .error e=>.error e
    | .ok (u,a)=>.ok (⟨i,t,x,u⟩,a)) (λ_ x=>?_) qm qm
 refine ku.to.bind (g:=λ_ u=>λ_ _ a=>.ok (⟨i,t,x,u⟩,a)) (λ_ u=>Fine.pure (λn h=>?_)) qm qm;refine⟨h.1.1.1.2.1,h.2.2,?_⟩;have:=h.1.2.2;simp at this;show x<=3;omega
theorem OC:Fine Any UG pz:=by
 refine(jE [0]).bind (g:=λi _=>λs n j=>match ja s n j with
  | .error e=>.error e
  | .ok (c,d)=>match fD 100 s n d with
   | .error e=>.error e
   | .ok (k,b)=>match jL k s n b with
    | .error e=>.error e
    | .ok (t,a)=>.ok (⟨i,c,t⟩,a)) (λi _=>?_) (λs n i e h=>by simp only[pz,h]<;>rfl) (λs n i x j h=>by simp only[pz,h]<;>rfl)
 refine wK.to.bind (g:=λ_ c=>λs n d=>match fD 100 s n d with
   | .error e=>.error e
   | .ok (k,b)=>match jL k s n b with
    | .error e=>.error e
    | .ok (t,a)=>.ok (⟨i,c,t⟩,a)) (λ_ c=>?_) qm qm
 refine(lZ 100).to.bind (g:=λ_ k=>λs n b=>match jL k s n b with
    | .error e=>.error e
    | .ok (t,a)=>.ok (⟨i,c,t⟩,a)) (λ_ k=>?_) qm qm
 exact(yo k).to.bind (g:=λ_ t=>λ_ _ a=>.ok (⟨i,c,t⟩,a)) (λ_ t=>Fine.pure (λn h=>⟨h.1.1.1.2.1,h.1.1.2.2⟩)) qm qm
theorem LY:Fine Any VQ rA:=by
 refine(jE [96]).bind (g:=λ_ _=>λs n j=>match eB 8 jM s n j with
  | .error e=>.error e
  | .ok (a,d)=>match eB 4 jM s n d with
   | .error e=>.error e
   | .ok (c,b)=>.ok (⟨a,c⟩,b)) (λi _=>?_) (λs n i e h=>by simp only[rA,h]<;>rfl) (λs n i x j h=>by simp only[rA,h]<;>rfl)
 refine(ji 8 vk).to.bind (g:=λ_ a=>λs n d=>match eB 4 jM s n d with
   | .error e=>.error e
   | .ok (c,b)=>.ok (⟨a,c⟩,b)) (λ_ a=>?_) qm qm
 exact(ji 4 vk).to.bind (g:=λ_ c=>λ_ _ b=>.ok (⟨a,c⟩,b)) (λ_ c=>Fine.pure (λn h=>⟨h.1.2.2.1,h.2.2.1⟩)) qm qm
theorem Ox:Fine Any Ii tQ:=by
 refine(jE [0]).bind (g:=λi _=>λs n j=>match ja s n j with
  | .error e=>.error e
  | .ok (c,b)=>match eB 20 uM s n b with
   | .error e=>.error e
   | .ok (l,a)=>.ok (⟨i,c,l⟩,a)) (λi _=>?_) (λs n i e h=>by simp only[tQ,h]<;>rfl) (λs n i x j h=>by simp only[tQ,h]<;>rfl)
 refine wK.to.bind (g:=λ_ c=>λs n b=>match eB 20 uM s n b with
   | .error e=>.error e
   | .ok (l,a)=>.ok (⟨i,c,l⟩,a)) (λ_ c=>?_) qm qm
 exact(ji 20 ku).to.bind (g:=λ_ l=>λ_ _ a=>.ok (⟨i,c,l⟩,a)) (λ_ l=>Fine.pure (λn h=>⟨h.1.1.2.1,h.1.2.2,h.2.2.1,h.2.2.2⟩)) qm qm
theorem DF:Fine Any (λ_ _=>True) lJ:=by
 refine⟨?_,?_,?_⟩
 .intro s n i q p _ hi h;unfold lJ at h;split at h<;>cases h;exact⟨rfl,qR⟩
 .intro s n i x j _ hi h;unfold lJ at h;split at h<;>cases h;exact⟨qo,qo,trivial⟩
 intro s s' n i _ a hi;unfold lJ;split
 .rw[a.b i (by assumption)]
 rfl
theorem BZ{n:Nat}:nJ n fO.none:=⟨⟨by simp[fO.none],by simp[fO.none],by simp[fO.none]⟩,by simp[fO.none],by simp[fO.none],by simp[fO.none],by simp[fO.none]⟩
theorem KP:Fine Any nJ jS:=by
 refine⟨?_,?_,?_⟩
 .intro s n i q p _ hi h;unfold jS at h;rcases hp:lJ s n i with⟨d,f⟩|⟨x,j⟩
  .rw[hp]at h;cases h;exact DF.err trivial hi hp
  rw[hp]at h;simp only at h;split at h
  .cases h
  split at h
  .cases h
  rcases a:sM 4 5 s n i with⟨d,f⟩|⟨v,g⟩
  .rw[a]at h;cases h;exact(yw 4 5).err trivial hi a
  rw[a]at h;simp only at h;split at h<;>cases h;exact⟨rfl,hi⟩
 .intro s n i y e _ hi h;have b:=Eg h;unfold jS at h;rcases hp:lJ s n i with e|⟨x,j⟩
  .rw[hp]at h;cases h
  have k:i<n:=by unfold lJ at hp;split at hp;assumption;cases hp
  rw[hp]at h;simp only at h;split at h
  .cases h;exact⟨b,qo,⟨by simp[fO.none],by simp[fO.none],by simp[fO.none]⟩,by simp[fO.none],by simp[fO.none],qs,by simp[fO.none]⟩
  split at h
  .cases h;exact⟨b,qo,BZ⟩
  rcases a:sM 4 5 s n i with e|⟨v,g⟩
  .rw[a]at h;cases h
  have l:=uk a;rw[a]at h;simp only at h;split at h<;>cases h;exact⟨b,qo,⟨qt,qt,hi⟩,by simp[fO.none],by simp[fO.none],by simp[fO.none],by simp[fO.none]⟩
 intro s s' n i _ c hi;unfold jS;rw[DF.zH trivial c hi,(yw 4 5).zH trivial c hi]
theorem jX(a x:Nat):Fine (λn=>a<=n) nJ (iE a x):=by
 unfold iE;refine Fine.ite (λ_=>KP.to) (λ_=>Fine.ite (λ_=>?_) (λ_=>Fine.ite (λ_=>?_) (λ_=>Fine.ite (λ_=>?_) (λ_=>Fine.ite (λ_=>?_) (λ_=>Fine.ite (λ_=>?_) (λ_=>Fine.ite (λ_=>?_) (λ_=>Fine.ite (λ_=>?_) (λ_=>Fine.ite (λ_=>?_) (λ_=>?_)))))))))
 .refine(ji 20 ku).to.bind (g:=λ_ ls=>λs n j=>match uM s n j with
   | .error e=>.error e
   | .ok (u,b)=>.ok ({fO.none with num:=u,dA:=ls},b)) (λ_ ls=>?_) qm qm
  exact ku.to.bind (g:=λ_ u=>λ_ _ b=>.ok ({fO.none with num:=u,dA:=ls},b)) (λ_ u=>Fine.pure (λn h=>⟨h.2.2,h.1.2.2.1,h.1.2.2.2,by simp[fO.none],by simp[fO.none]⟩)) qm qm
 .refine ku.to.bind (g:=λ_ c=>λs n j=>match uM s n j with
   | .error e=>.error e
   | .ok (u,b)=>.ok ({fO.none with align:=c.1,num:=u},b)) (λ_ c=>?_) qm qm
  exact ku.to.bind (g:=λ_ u=>λ_ _ b=>.ok ({fO.none with align:=c.1,num:=u},b)) (λ_ u=>Fine.pure (λn h=>⟨h.2.2,by simp[fO.none],by simp[fO.none],by simp[fO.none],h.1.2.2.1⟩)) qm qm
 .exact ku.to.bind (g:=λ_ u=>λ_ _ j=>.ok ({fO.none with num:=u},j)) (λ_ u=>Fine.pure (λn h=>⟨h.2.2,by simp[fO.none],by simp[fO.none],by simp[fO.none],by simp[fO.none]⟩)) qm qm
 .refine ku.to.bind (g:=λ_ u=>λs n j=>match iO [0] s n j with
   | .error e=>.error e
   | .ok (_,b)=>.ok ({fO.none with num:=u},b)) (λ_ u=>?_) qm qm
  exact(jE [0]).to.bind (g:=λ_ _=>λ_ _ b=>.ok ({fO.none with num:=u},b)) (λ_ _=>Fine.pure (λn h=>⟨h.1.2.2,by simp[fO.none],by simp[fO.none],by simp[fO.none],by simp[fO.none]⟩)) qm qm
 .exact(jE [0]).to.bind (g:=λ_ _=>λ_ _ j=>.ok (fO.none,j)) (λ_ _=>Fine.pure (λn h=>BZ)) qm qm
 .exact(yw 4 4).to.bind (g:=λ_ v=>λ_ _ j=>.ok ({fO.none with val:=v},j)) (λ_ _=>Fine.pure (λn _=>⟨⟨by simp[fO.none],by simp[fO.none],by simp[fO.none]⟩,by simp[fO.none],by simp[fO.none],by simp[fO.none],by simp[fO.none]⟩)) qm qm
 .exact(yw 9 1).to.bind (g:=λ_ v=>λ_ _ j=>.ok ({fO.none with val:=v},j)) (λ_ _=>Fine.pure (λn _=>⟨⟨by simp[fO.none],by simp[fO.none],by simp[fO.none]⟩,by simp[fO.none],by simp[fO.none],by simp[fO.none],by simp[fO.none]⟩)) qm qm
 .exact Fine.pure (λn h=>BZ)
 exact Fine.fail (λn h=>h)
theorem DL{os:qM}{a x q p:Nat}(h:gp os a x=.error (q,p)):q=2/\p=a:=by
 unfold gp at h;repeat' split at h
 all_goals first | (cases h;exact⟨rfl,rfl⟩) | cases h
theorem wG{s:qS}{n:Nat}:∀(fuel:Nat)(os:qM)(j:Nat),j<=n->
  (∀{q p},jI s n fuel os j=.error (q,p)->q=2/\p<=n)/\(∀{e},jI s n fuel os j=.ok e->j<=e/\e<=n)/\∀{s'},Alike n s s'->jI s n fuel os j=jI s' n fuel os j:=by
 intro fuel;induction fuel with
 | zero=>
  intro os j f;refine⟨λh=>?_,λh=>?_,λ_=>rfl⟩
  .simp[jI]at h;obtain⟨rfl,rfl⟩:=h;exact⟨rfl,qR⟩
  simp[jI]at h
 | succ fuel d=>
  intro os j f;by_cases a:j<n
  .refine⟨?_,?_,?_⟩
   .intro q p h;unfold jI at h;rw[dY a]at h;simp only at h;split at h
    .rename_i e hn;split at hn
     .cases hn
     cases h;have:=DL hn;exact⟨this.1,qo⟩
    split at h
    .rename_i hb;cases h;exact(jX j (bt s j)).err qo qo hb
    rename_i hb;have:=(jX j (bt s j)).ok qo qo hb;split at h
    .cases h
    exact(d _ _ this.2.1).1 h
   .intro e h;unfold jI at h;rw[dY a]at h;simp only at h;split at h
    .cases h
    split at h
    .cases h
    rename_i hb;have:=(jX j (bt s j)).ok qo qo hb;split at h
    .cases h;exact⟨qo,this.2.1⟩
    have:=(d _ _ this.2.1).2.1 h;omega
   intro s' c;unfold jI;rw[dY a,dY a,<-c.b j a];simp only;rw[<-(jX j (bt s j)).zH qo c qo];split
   .rfl
   split
   .rfl
   rename_i hb;have:=(jX j (bt s j)).ok qo qo hb;split
   .rfl
   exact(d _ _ this.2.1).2.2 c
  refine⟨λ{q p} h=>?_,λ{e} h=>?_,λ{s'} c=>?_⟩
  .unfold jI at h;rw[gQ a]at h;cases h;exact⟨rfl,qR⟩
  .unfold jI at h;rw[gQ a]at h;cases h
  unfold jI;rw[gQ a,gQ a]
theorem vN:∀(k:Nat)(M:qM),M.length<=50->Fine Any (λ_ ls=>ls.length<=50) (λs n j=>gW s n k M j)
 | 0,M,h=>Fine.pure (λ_ _=>h)
 | k+1,M,h=>by
  refine(lZ (50 - M.length)).bind (g:=λ_ m=>λs n c=>match jM s n c with
   | .error e=>.error e
   | .ok (a,b)=>gW s n k (M++List.replicate m a) b) (λ_ m=>?_) (λs n i e h=>by simp only[gW,h]<;>rfl) (λs n i x j h=>by simp only[gW,h]<;>rfl)
  by_cases hm:m<=50 - M.length
  .exact vk.to.bind (g:=λ_ a=>λs n b=>gW s n k (M++List.replicate m a) b) (λ_ a=>(vN k _ qt).to) qm qm
  exact⟨λhh=>absurd hh.2.2 hm,λhh=>absurd hh.2.2 hm,λhh=>absurd hh.2.2 hm⟩
theorem GR:Fine Any (λ_ ls=>ls.length<=50) kX:=
 ku.bind (g:=λ_ u=>λs n j=>gW s n u.1.toNat [] j) (λ_ u=>(vN _ [] qs).to) (λs n i e h=>by simp only[kX,h]<;>rfl) (λs n i x j h=>by simp only[kX,h]<;>rfl)
theorem Iw:Fine Any Ed lg:=by
 refine GR.bind (g:=λ_ ls=>λs n j=>match o8 s n j with
  | .error e=>.error e
  | .ok e=>.ok ((ls,j,n),e)) (λ_ ls=>?_) (λs n i e h=>by simp only[lg,h]<;>rfl) (λs n i x j h=>by simp only[lg,h]<;>rfl)
 refine⟨?_,?_,?_⟩
 .intro s n i q p _ hi h;rcases ho:o8 s n i with⟨b,c⟩|e
  .rw[ho]at h;cases h;exact(wG _ _ _ hi).1 ho
  rw[ho]at h;cases h
 .intro s n i x j hH hi h;rcases ho:o8 s n i with e|e
  .rw[ho]at h;cases h
  rw[ho]at h;cases h;have:=(wG _ _ _ hi).2.1 ho;exact⟨this.1,this.2,hH.2.2,hi,qR⟩
 intro s s' n i _ a hi;have:o8 s n i=o8 s' n i:=(wG _ _ _ hi).2.2 a;simp only[this]
theorem OJ:Fine Any Ed pR:=uf Iw (λ_ _ _ a h=>⟨h.1,h.2.1,qam h.2.2 a⟩)
theorem Bl(a b:Nat):Fine Any (λ_ _=>True) (kQ a b):=
 ku.bind (g:=λ_ x=>λ_ _ j=>if x.1<(a:Int)\/(b:Int)<=x.1 then .error (2,x.2) else .ok (x.1.toNat,j)) (λi x=>Fine.ite (λ_=>Fine.fail (λn h=>h.2.2.2.2)) (λ_=>Fine.pure (λ_ _=>trivial)))
  (λs n i e h=>by simp only[kQ,h]<;>rfl) (λs n i x j h=>by simp only[kQ,h]<;>rfl)
theorem MR(b:List yc)(f l:Nat):Fine Any (λ_ _=>True) (rZ b f l):=by
 refine(Bl f l).bind (g:=λ_ c=>λs n j=>match fD 20 s n j with
  | .error e=>.error e
  | .ok (k,d)=>match jL k s n d with
   | .error e=>.error e
   | .ok (t,a)=>if jF t&&!mK b t then .ok ((c,t),a) else .error (2,j)) (λ_ c=>?_) (λs n i e h=>by simp only[rZ,h]<;>rfl) (λs n i x j h=>by simp only[rZ,h]<;>rfl)
 refine(lZ 20).to.bind (g:=λi k=>λs n d=>match jL k s n d with
   | .error e=>.error e
   | .ok (t,a)=>if jF t&&!mK b t then .ok ((c,t),a) else .error (2,i)) (λi k=>?_) qm qm
 exact(yo k).to.bind (g:=λ_ t=>λ_ _ a=>if jF t&&!mK b t then .ok ((c,t),a) else .error (2,i)) (λ_ t=>Fine.ite (λ_=>Fine.pure (λ_ _=>trivial)) (λ_=>Fine.fail (λn h=>h.1.2.1))) qm qm
theorem xA(a:Nat):∀(k b:Nat)(M:List yc),Fine Any (λ_ _=>True) (λs n j=>jP a s n k b M j)
 | 0,_,M=>Fine.pure (λ_ _=>trivial)
 | k+1,b,M=>(MR M b a).bind (g:=λ_ x=>λs n j=>jP a s n k (x.1+1) (M++[x]) j) (λ_ x=>(xA a k _ _).to) (λs n i e h=>by simp only[jP,h]<;>rfl) (λs n i x j h=>by simp only[jP,h]<;>rfl)
theorem xy(a:Nat):Fine Any (λ_ _=>True) (iT a):=
 (lZ a).bind (g:=λ_ k=>λs n j=>jP a s n k 0 [] j) (λ_ k=>(xA a k 0 []).to) (λs n i e h=>by simp only[iT,h]<;>rfl) (λs n i x j h=>by simp only[iT,h]<;>rfl)
theorem QV(m:dX)(c:Nat):Fine Any (λ_ _=>True) (zx m c):=by
 refine(Bl c m.funcs.length).bind (g:=λ_ f=>λs n j=>match iT (o7 m f) s n j with
  | .error e=>.error e
  | .ok (a,b)=>.ok ((f,a),b)) (λ_ f=>?_) (λs n i e h=>by simp only[zx,h]<;>rfl) (λs n i x j h=>by simp only[zx,h]<;>rfl)
 exact(xy (o7 m f)).to.bind (g:=λ_ a=>λ_ _ b=>.ok ((f,a),b)) (λ_ _=>Fine.pure (λ_ _=>trivial)) qm qm
theorem A8(m:dX):∀(k a:Nat)(M:List (Nat×List yc)),Fine Any (λ_ _=>True) (λs n j=>nX m s n k a M j)
 | 0,_,M=>Fine.pure (λ_ _=>trivial)
 | k+1,a,M=>(QV m a).bind (g:=λ_ x=>λs n j=>nX m s n k (x.1+1) (M++[x]) j) (λ_ x=>(A8 m k _ _).to) (λs n i e h=>by simp only[nX,h]<;>rfl) (λs n i x j h=>by simp only[nX,h]<;>rfl)
structure iX(N:Nat)(m:dX):Prop where
 dx:m.dx.length<=20/\∀x∈m.dx,VQ N x
 funcs:m.funcs.length<=20/\∀x∈m.funcs,mJ N x
 tables:m.tables.length<=1/\∀x∈m.tables,Ls N x
 fP:m.fP.length<=1/\∀x∈m.fP,Ls N x
 dI:m.dI.length<=10/\∀x∈m.dI,UD N x
 dw:m.dw.length<=20/\∀x∈m.dw,Ro N x
 starts:m.starts.length<=1/\∀x∈m.starts,mJ N x
 elems:m.elems.length<=5/\∀x∈m.elems,Ii N x
 dF:m.dF.length<=20/\∀x∈m.dF,Ed N x
 data:m.data.length<=10/\∀x∈m.data,UG N x
def lu(m:dX)(n:Nat)(m1:dX):Prop:=∀N,n<=N->iX N m->iX N m1
theorem lu.refl(m:dX)(n:Nat):lu m n m:=λ_ _ h=>h
theorem mJ.le{n N:Nat}{x:Int×Nat}(h:mJ n x)(a:n<=N):mJ N x:=⟨h.1,h.2.1,qam h.2.2 a⟩
theorem Kz(m:dX):Fine Any (lu m) (pQ m):=
 (ji 20 LY).bind (g:=λ_ xs=>λ_ _ j=>.ok ({m with dx:=xs},j)) (λ_ xs=>Fine.pure (λn h N a hm=>⟨h.2.2,hm.funcs,hm.tables,hm.fP,hm.dI,hm.dw,hm.starts,hm.elems,hm.dF,hm.data⟩)) (λs n i e h=>by simp only[pQ,h]<;>rfl) (λs n i x j h=>by simp only[pQ,h]<;>rfl)
theorem Ky(m:dX):Fine Any (lu m) (pO m):=
 (ji 20 ku).bind (g:=λ_ xs=>λ_ _ j=>.ok ({m with funcs:=xs},j)) (λ_ xs=>Fine.pure (λn h N a hm=>⟨hm.dx,⟨h.2.2.1,λx hx=>(h.2.2.2 x hx).le a⟩,hm.tables,hm.fP,hm.dI,hm.dw,hm.starts,hm.elems,hm.dF,hm.data⟩)) (λs n i e h=>by simp only[pO,h]<;>rfl) (λs n i x j h=>by simp only[pO,h]<;>rfl)
theorem Kw(m:dX):Fine Any (lu m) (pM m):=
 (ji 1 Jl).bind (g:=λ_ xs=>λ_ _ j=>.ok ({m with tables:=xs},j)) (λ_ xs=>Fine.pure (λn h N a hm=>⟨hm.dx,hm.funcs,⟨h.2.2.1,λx hx=>qam (h.2.2.2 x hx) a⟩,hm.fP,hm.dI,hm.dw,hm.starts,hm.elems,hm.dF,hm.data⟩)) (λs n i e h=>by simp only[pM,h]<;>rfl) (λs n i x j h=>by simp only[pM,h]<;>rfl)
theorem Kv(m:dX):Fine Any (lu m) (pK m):=
 (ji 1 GY).bind (g:=λ_ xs=>λ_ _ j=>.ok ({m with fP:=xs},j)) (λ_ xs=>Fine.pure (λn h N a hm=>⟨hm.dx,hm.funcs,hm.tables,⟨h.2.2.1,λx hx=>qam (h.2.2.2 x hx) a⟩,hm.dI,hm.dw,hm.starts,hm.elems,hm.dF,hm.data⟩)) (λs n i e h=>by simp only[pK,h]<;>rfl) (λs n i x j h=>by simp only[pK,h]<;>rfl)
theorem Ku(m:dX):Fine Any (lu m) (pJ m):=
 (ji 10 Ho).bind (g:=λ_ xs=>λ_ _ j=>.ok ({m with dI:=xs},j)) (λ_ xs=>Fine.pure (λn h N a hm=>⟨hm.dx,hm.funcs,hm.tables,hm.fP,⟨h.2.2.1,λx hx=>qam (h.2.2.2 x hx) a⟩,hm.dw,hm.starts,hm.elems,hm.dF,hm.data⟩)) (λs n i e h=>by simp only[pJ,h]<;>rfl) (λs n i x j h=>by simp only[pJ,h]<;>rfl)
theorem Kt(m:dX):Fine Any (lu m) (pI m):=
 (ji 20 Hy).bind (g:=λ_ xs=>λ_ _ j=>.ok ({m with dw:=xs},j)) (λ_ xs=>Fine.pure (λn h N a hm=>⟨hm.dx,hm.funcs,hm.tables,hm.fP,hm.dI,⟨h.2.2.1,λx hx=>⟨qam (h.2.2.2 x hx).1 a,(h.2.2.2 x hx).2.1.le a,(h.2.2.2 x hx).2.2⟩⟩,hm.starts,hm.elems,hm.dF,hm.data⟩)) (λs n i e h=>by simp only[pI,h]<;>rfl) (λs n i x j h=>by simp only[pI,h]<;>rfl)
theorem Kr(m:dX):Fine Any (lu m) (pG m):=
 ku.bind (g:=λ_ x=>λ_ _ j=>.ok ({m with starts:=[x]},j)) (λ_ x=>Fine.pure (λn h N a hm=>⟨hm.dx,hm.funcs,hm.tables,hm.fP,hm.dI,hm.dw,⟨qs,λy hy=>by simp at hy;subst hy;exact h.2.2.le a⟩,hm.elems,hm.dF,hm.data⟩)) (λs n i e h=>by simp only[pG,h]<;>rfl) (λs n i x j h=>by simp only[pG,h]<;>rfl)
theorem Kq(m:dX):Fine Any (lu m) (pF m):=
 (ji 5 Ox).bind (g:=λ_ xs=>λ_ _ j=>.ok ({m with elems:=xs},j)) (λ_ xs=>Fine.pure (λn h N a hm=>⟨hm.dx,hm.funcs,hm.tables,hm.fP,hm.dI,hm.dw,hm.starts,⟨h.2.2.1,λx hx=>⟨qam (h.2.2.2 x hx).1 a,qam (h.2.2.2 x hx).2.1 a,(h.2.2.2 x hx).2.2.1,λy hy=>((h.2.2.2 x hx).2.2.2 y hy).le a⟩⟩,hm.dF,hm.data⟩)) (λs n i e h=>by simp only[pF,h]<;>rfl) (λs n i x j h=>by simp only[pF,h]<;>rfl)
theorem Ir(m:dX):Fine Any (lu m) (mY m):=
 (ji 10 OC).bind (g:=λ_ xs=>λ_ _ j=>.ok ({m with data:=xs},j)) (λ_ xs=>Fine.pure (λn h N a hm=>⟨hm.dx,hm.funcs,hm.tables,hm.fP,hm.dI,hm.dw,hm.starts,hm.elems,hm.dF,⟨h.2.2.1,λx hx=>⟨qam (h.2.2.2 x hx).1 a,qam (h.2.2.2 x hx).2 a⟩⟩⟩)) (λs n i e h=>by simp only[mY,h]<;>rfl) (λs n i x j h=>by simp only[mY,h]<;>rfl)
theorem KE(m:dX):Fine Any (lu m) (lF m):=by
 refine ku.bind (g:=λ_ u=>λs n j=>if u.1=(m.funcs.length:Int) then(match eT pR s n m.funcs.length [] j with
   | .error e=>.error e
   | .ok (cs,a)=>.ok ({m with dF:=cs},a)) else .error (2,u.2)) (λ_ u=>?_) (λs n i e h=>by simp only[lF,h]<;>rfl) (λs n i x j h=>by simp only[lF,h]<;>rfl)
 refine Fine.ite (λ_=>?_) (λ_=>Fine.fail (λn h=>h.2.2.2.2));refine((uC OJ m.funcs.length []).weak (λn h=>⟨trivial,qs⟩) (λn x _ h=>h)).bind (g:=λ_ cs=>λ_ _ a=>.ok ({m with dF:=cs},a)) (λ_ cs=>Fine.pure (λn h N b hm=>?_)) qm qm;refine⟨hm.dx,hm.funcs,hm.tables,hm.fP,hm.dI,hm.dw,hm.starts,hm.elems,⟨?_,λx hx=>?_⟩,hm.data⟩
 .have U:=h.2.2.1;have c:=hm.funcs.1;simp at U;show cs.length<=20;omega
 have:=h.2.2.2 x hx;exact⟨this.1,this.2.1,qam this.2.2 b⟩
theorem DI{a:Type}{P:Nat->a->Prop}{tM:qS->Nat->Nat->Except Err (a×Nat)}(which:Nat)(c:a)(e:Fine Any P tM)(hm:∀n n' x,n'<=n->P n' x->P n x)(h0:∀n,P n c):Fine Any P (kK which c tM):=by
 have hw:=uf e hm;refine⟨?_,?_,?_⟩
 .intro s n i q p _ hi h;unfold kK at h;split at h
  .split at h
   .exact hw.err trivial qo h
   cases h
  cases h
 .intro s n i x j _ hi h;unfold kK at h;split at h
  .split at h
   .have:=hw.ok trivial qo h;exact⟨qo,this.2⟩
   cases h;exact⟨qR,hi,h0 _⟩
  cases h;exact⟨qR,hi,h0 _⟩
 intro s s' n i _ d hi;unfold kK;split
 .rename_i hlt;rw[d.b i hlt,hw.zH trivial d qo]
 rfl
theorem Bq{m:dX}:∀(n n':Nat)(x:dX),n'<=n->lu m n' x->lu m n x:=λ_ _ _ a h N b hm=>h N (qam a b) hm
theorem Bw(m:dX):Fine Any (lu m) (gq m):=
 (xy m.funcs.length).bind (g:=λ_ xs=>λ_ _ j=>.ok ({m with nfuncs:=xs},j)) (λ_ xs=>Fine.pure (λn h N a hm=>⟨hm.dx,hm.funcs,hm.tables,hm.fP,hm.dI,hm.dw,hm.starts,hm.elems,hm.dF,hm.data⟩)) (λs n i e h=>by simp only[gq,h]<;>rfl) (λs n i x j h=>by simp only[gq,h]<;>rfl)
theorem zw(m:dX):Fine Any (lu m) (fC m):=by
 refine(lZ m.funcs.length).bind (g:=λ_ k=>λs n j=>match nX m s n k 0 [] j with
  | .error e=>.error e
  | .ok (xs,a)=>.ok ({m with kD:=xs},a)) (λ_ k=>?_) (λs n i e h=>by simp only[fC,h]<;>rfl) (λs n i x j h=>by simp only[fC,h]<;>rfl)
 exact(A8 m k 0 []).to.bind (g:=λ_ xs=>λ_ _ a=>.ok ({m with kD:=xs},a)) (λ_ xs=>Fine.pure (λn h N b hm=>⟨hm.dx,hm.funcs,hm.tables,hm.fP,hm.dI,hm.dw,hm.starts,hm.elems,hm.dF,hm.data⟩)) qm qm
theorem JJ(m:dX):Fine Any (lu m) (kL m):=by
 refine(kY [4,110,97,109,101]).bind (g:=λ_ _=>λs n j=>match kK 1 m (gq m) s n j with
  | .error e=>.error e
  | .ok (a,j2)=>kK 2 a (fC a) s n j2) (λ_ _=>?_) (λs n i e h=>by simp only[kL,h]<;>rfl) (λs n i x j h=>by simp only[kL,h]<;>rfl)
 refine(DI 1 m (Bw m) Bq (λn=>lu.refl m n)).to.bind (g:=λ_ a=>kK 2 a (fC a)) (λ_ a=>?_) qm qm;exact(DI 2 a (zw a) Bq (λn=>lu.refl a n)).weak (λ_ _=>trivial) (λn x hh h N b hm=>h N b (hh.2.2 N b hm))
theorem Ec(m:dX)(which:Nat):Fine Any (lu m) (oo m which):=by
 unfold oo;split
 .exact JJ m
 .exact Kz m
 .exact Ky m
 .exact Kw m
 .exact Kv m
 .exact Ku m
 .exact Kt m
 .exact Kr m
 .exact Kq m
 .exact KE m
 .exact Ir m
 exact Fine.pure (λn _=>lu.refl m n)
theorem wY(m:dX)(last:Nat):Fine Any (λn x=>lu m n x.1) (lH m last):=by
 refine vw.bind (g:=λi x=>λs n j=>if iZ x<=last then .error (2,i) else if 10<iZ x/\m.dF.length≠m.funcs.length then .error (2,i) else match eX (oo m x) s n j with
   | .error e=>.error e
   | .ok (a,b)=>.ok ((a,iZ x),b)) (λi x=>?_) (λs n i e h=>by simp only[lH,h]<;>rfl) (λs n i x j h=>by simp only[lH,h]<;>rfl)
 refine Fine.ite (λ_=>Fine.fail (λn h=>h.2.1)) (λ_=>Fine.ite (λ_=>Fine.fail (λn h=>h.2.1)) (λ_=>?_));exact(uf (Ec m x) Bq).to.bind (g:=λ_ a=>λ_ _ b=>.ok ((a,iZ x),b)) (λ_ a=>Fine.pure (λn h=>h.2.2)) qm qm
theorem yX{s:qS}{n:Nat}:∀(k:Nat)(m:dX)(last i:Nat),i<=n->(∀{q p},iJ s n k m last i=.error (q,p)->q=2/\p<=n)/\∀{b j},iJ s n k m last i=.ok (b,j)->(iX n m->iX n b)/\b.dF.length=b.funcs.length:=by
 intro k;induction k with
 | zero=>intro m last i hi;exact⟨λh=>by simp[iJ]at h;obtain⟨rfl,rfl⟩:=h;exact⟨rfl,hi⟩,λh=>by simp[iJ]at h⟩
 | succ k c=>
  intro m last i hi;refine⟨λh=>?_,λh=>?_⟩
  .unfold iJ at h;split at h
   .split at h<;>cases h;exact⟨rfl,hi⟩
   split at h
   .rename_i a;cases h;exact(wY m last).err trivial hi a
   rename_i a;have:=(wY m last).ok trivial hi a;exact(c _ _ _ this.2.1).1 h
  unfold iJ at h;split at h
  .split at h<;>cases h;rename_i hc;exact⟨λh=>h,hc⟩
  split at h
  .cases h
  rename_i a;have:=(wY m last).ok trivial hi a;have d:=(c _ _ _ this.2.1).2 h;exact⟨λhm=>d.1 (this.2.2 n qR hm),d.2⟩
theorem iX.new(N:Nat):iX N dX.new:=by
 refine⟨⟨?_,?_⟩,⟨?_,?_⟩,⟨?_,?_⟩,⟨?_,?_⟩,⟨?_,?_⟩,⟨?_,?_⟩,⟨?_,?_⟩,⟨?_,?_⟩,⟨?_,?_⟩,⟨?_,?_⟩⟩<;>simp[dX.new]
theorem DD{s:qS}{q p:Nat}(h:kH s=.error (q,p)):q=2/\p<=s.size:=by
 unfold kH at h;split at h
 .rename_i a;cases h;exact(kY _).err trivial qZ a
 rename_i a;have:=(kY _).ok trivial qZ a;exact(yX _ _ _ _ this.2.1).1 h
theorem xg{s:qS}{m:dX}{j:Nat}(h:kH s=.ok (m,j)):iX s.size m/\m.dF.length=m.funcs.length:=by
 unfold kH at h;split at h
 .cases h
 rename_i b;have:=(kY _).ok trivial qZ b;have a:=(yX _ _ _ _ this.2.1).2 h;exact⟨a.1 (iX.new _),a.2⟩
theorem BX{s s':qS}{n n' i x j:Nat}(a:Alike n s s')(c:n<=n')(h:iW s n i=.ok (x,j)):iW s' n' i=.ok (x,j):=by
 unfold iW at h;split at h<;>cases h;rename_i hi;rw[dY qo,a.b i hi]
theorem CQ{ts:qM}{s s':qS}{n n' i x j:Nat}(a:Alike n s s')(c:n<=n')(h:iO ts s n i=.ok (x,j)):iO ts s' n' i=.ok (x,j):=by
 unfold iO at h ⊢;split at h
 .rename_i hi;rw[qac (show i<n' by omega),<-a.b i hi];exact h
 cases h
theorem rC{s s':qS}{n n':Nat}(a:Alike n s s')(b:n<=n'):∀(ts:qM)(i:Nat){j:Nat},fQ ts s n i=.ok ((),j)->fQ ts s' n' i=.ok ((),j)
 | [],i,j,h=>h
 | t::ts,i,j,h=>by
  unfold fQ at h ⊢;rcases ho:iO [t] s n i with e|⟨x,k⟩
  .rw[ho]at h;cases h
  rw[ho]at h;rw[CQ a b ho];exact rC a b ts k h
theorem Es{s s':qS}{n n' start:Nat}(d:Alike n s s')(f:n<=n'):∀(m k:Nat)(z:Int)(j:Nat){x:Int×Nat}{a:Nat},wR s n start m k z j=.ok (x,a)->wR s' n' start m k z j=.ok (x,a):=by
 intro m;induction m with
 | zero=>intro k z j x a h;simp[wR]at h
 | succ m e=>
  intro k z j x a h;unfold wR at h ⊢;by_cases c:j<n
  .rw[dY c]at h;rw[dY (show j<n' by omega),<-d.b j c];simp only at h ⊢;split
   .rename_i hc;rw[qac hc]at h;cases h
   rename_i hc;rw[qaa hc]at h;split
   .rename_i hl;rw[qac hl]at h;exact h
   rename_i hl;rw[qaa hl]at h;exact e _ _ _ h
  rw[gQ c]at h;cases h
theorem FX{s s':qS}{n n' i:Nat}{x:Int×Nat}{j:Nat}(a:Alike n s s')(b:n<=n')(h:uM s n i=.ok (x,j)):uM s' n' i=.ok (x,j):=Es a b _ _ _ _ h
theorem yj{b:Type}{P:Nat->b->Prop}{tM:qS->Nat->Nat->Except Err (b×Nat)}(d:Fine Any P tM){s s':qS}{n n' i:Nat}{x:b}{j:Nat}(c:Alike n s s')(f:n<=n')(h:eX tM s n i=.ok (x,j)):eX tM s' n' i=.ok (x,j):=by
 unfold eX at h ⊢;rcases ho:uM s n i with e|⟨⟨v,a⟩,k⟩
 .rw[ho]at h;cases h
 have hf:=iY ho;rw[ho]at h;rw[FX c f ho];simp only at h ⊢;by_cases hv:(n:Int) - (k:Int)<v
 .rw[qac hv]at h;split at h<;>cases h
 rw[qaa hv]at h;rw[qaa (show ¬(n':Int) - (k:Int)<v by omega)];rw[<-d.zH trivial (c.less qo) qo];exact h
theorem CO{m:dX}{last:Nat}{s s':qS}{n n' i:Nat}{x:dX×Nat}{j:Nat}(b:Alike n s s')(c:n<=n')(h:lH m last s n i=.ok (x,j)):lH m last s' n' i=.ok (x,j):=by
 unfold lH at h ⊢;rcases ho:iW s n i with e|u
 .rw[ho]at h;cases h
 obtain⟨u,k⟩:=u;rw[ho]at h;rw[BX b c ho];simp only at h ⊢;split
 .rename_i hc;rw[qac hc]at h;cases h
 rename_i hc;rw[qaa hc]at h;split
 .rename_i a;rw[qac a]at h;cases h
 rename_i a;rw[qaa a]at h;rcases hw:eX (oo m u) s n k with e|⟨d,f⟩
 .rw[hw]at h;cases h
 rw[hw]at h;rw[yj (Ec m u) b c hw];exact h
theorem Po{m:dX}{last:Nat}{s:qS}{n:Nat}:∃p,lH m last s (n+1) n=.error (2,p)/\(p=n\/p=n+1):=by
 unfold lH;rw[dY (Nat.lt_succ_self n)];simp only;split
 .exact⟨n,rfl,.inl rfl⟩
 split
 .exact⟨n,rfl,.inl rfl⟩
 have a:uM s (n+1) (n+1)=.error (2,n+1):=by
  unfold uM;rw[show(5:Nat)=4+1 from rfl];unfold wR;rw[gQ qo]
 refine⟨n+1,?_,.inr rfl⟩;simp only[eX,a]
theorem CP{s s':qS}{n:Nat}(l:Alike n s s'):∀(k:Nat)(m:dX)(last i:Nat){c:dX}{j:Nat},i<=n->12<last+k->(∀{d r f},lH m last s n i=.ok ((d,r),f)->last<r)->iJ s n k m last i=.ok (c,j)->∃p,iJ s' (n+1) k m last i=.error (2,p)/\(p=n\/p=n+1):=by
 intro k;induction k with
 | zero=>intro m last i c j hi X g h;simp[iJ]at h
 | succ k o=>
  intro m last i c j hi X g h;unfold iJ at h ⊢;by_cases q:n<=i
  .have hin:i=n:=qo;subst hin;obtain⟨p,hp,t⟩:=Po (m:=m) (last:=last) (s:=s') (n:=i);rw[qaa (show ¬i+1<=i by omega),hp];exact⟨p,rfl,t⟩
  rw[qaa q]at h;rw[qaa (show ¬n+1<=i by omega)];rcases b:lH m last s n i with e|⟨⟨d,r⟩,f⟩
  .rw[b]at h;cases h
  rw[b]at h;rw[CO l (Nat.le_succ n) b];simp only at h ⊢;have U:=(wY m last).ok trivial hi b;have u:=g b;refine o _ _ _ U.2.1 qo ?_ h;intro v w x a;unfold lH at a;split at a
  .cases a
  split at a
  .cases a
  rename_i y;split at a
  .cases a
  split at a
  .cases a
  cases a;omega
theorem SN{s s':qS}{m:dX}{j:Nat}(c:s'.size=s.size+1)(b:Alike s.size s s')(h:kH s=.ok (m,j)):∃p,kH s'=.error (2,p)/\(p=s.size\/p=s.size+1):=by
 unfold kH at h ⊢;rw[c];rcases ho:fQ [0,97,115,109,1,0,0,0] s s.size 0 with e|⟨⟨⟩,k⟩
 .rw[ho]at h;cases h
 rw[ho]at h;rw[rC b (Nat.le_succ _) _ _ ho];simp only at h ⊢;have U:=(kY _).ok trivial qZ ho;refine CP b _ _ _ _ U.2.1 qo ?_ h;intro d f g a;unfold lH at a;split at a
 .cases a
 split at a
 .cases a
 split at a
 .cases a
 split at a
 .cases a
 cases a;omega
def nC:List pW->Nat->Prop
 | [],_=>True
 | b::bs,n=>b.dK<=n/\nC bs b.dK
theorem nC.le:∀{a:List pW}{n m:Nat},nC a n->n<=m->nC a m
 | [],_,_,_,_=>trivial
 | _::_,_,_,h,hm=>⟨qam h.1 hm,h.2⟩
structure Tidy(Z:Bd):Prop where
 kR:nC Z.dn Z.dB.length
 short:∀b∈Z.dn,b.takes.length<=8/\b.dL.length<=8
theorem Tidy.dK{Z:Bd}(h:Tidy Z):Z.dJ.dK<=Z.dB.length:=by
 obtain⟨stk,c,a⟩:=Z;cases c with
 | nil=>exact qZ
 | cons b c=>exact h.kR.1
theorem oV{bl:pW}{a k:Nat}{stk b:qM}(hf:bl.dK<=stk.length)(h:iR bl a stk=.ok (k,b)):bl.dK<=b.length/\b.length<=stk.length/\b=stk.take b.length:=by
 unfold iR at h;split at h
 .split at h<;>cases h;exact⟨hf,qR,qs⟩
 cases h;rename_i c;refine⟨qt,qs,?_⟩;simp
theorem wV{bl:pW}{a q p:Nat}{stk:qM}(h:iR bl a stk=.error (q,p)):q=4/\p=a:=by
 unfold iR at h;split at h
 .split at h<;>cases h;exact⟨rfl,rfl⟩
 cases h
theorem Ez{bl:pW}{a:Nat}{ks:qM}:∀(i:Nat){stk b:qM},bl.dK<=stk.length->jD bl a ks i stk=.ok b->bl.dK<=b.length/\b.length<=stk.length/\b=stk.take b.length:=by
 intro i;induction i with
 | zero=>intro stk b hf h;simp[jD]at h;subst h;exact⟨hf,qR,qs⟩
 | succ i j=>
  intro stk b hf h;unfold jD at h;rcases ho:iR bl a stk with e|⟨l,m⟩
  .rw[ho]at h;cases h
  rw[ho]at h;simp only at h;have U:=oV hf ho;split at h
  .cases h
  have c:=j U.1 h;refine⟨c.1,qo,?_⟩;rw[c.2.2,U.2.2,qcg];congr 1
  have:=c.2.1;simp;omega
theorem Jj{bl:pW}{a:Nat}{ks:qM}:∀(i:Nat){stk:qM}{q p:Nat},jD bl a ks i stk=.error (q,p)->q=4/\p=a:=by
 intro i;induction i with
 | zero=>intro stk q p h;simp[jD]at h
 | succ i b=>
  intro stk q p h;unfold jD at h;rcases ho:iR bl a stk with e|⟨c,j⟩
  .rw[ho]at h;cases h;exact wV ho
  rw[ho]at h;simp only at h;split at h
  .cases h;exact⟨rfl,rfl⟩
  exact b h
theorem eO{Z J:Bd}{ks:qM}(hf:Z.dJ.dK<=Z.dB.length)(h:dQ Z ks=.ok J):J.dn=Z.dn/\J.at_=Z.at_/\Z.dJ.dK<=J.dB.length/\J.dB.length<=Z.dB.length/\J.dB=Z.dB.take J.dB.length:=by
 unfold dQ at h;rcases ho:jD Z.dJ Z.at_ ks ks.length Z.dB with e|stk
 .rw[ho]at h;cases h
 rw[ho]at h;cases h;have:=Ez _ hf ho;exact⟨rfl,rfl,this⟩
theorem oL{Z:Bd}{ks:qM}{q p:Nat}(h:dQ Z ks=.error (q,p)):q=4/\p=Z.at_:=by
 unfold dQ at h;rcases ho:jD Z.dJ Z.at_ ks ks.length Z.dB with e|stk
 .rw[ho]at h;cases h;exact Jj _ ho
 rw[ho]at h;cases h
theorem Tidy.take{Z J:Bd}{ks:qM}(c:Tidy Z)(h:dQ Z ks=.ok J):Tidy J:=by
 obtain⟨U,-,e,-,-⟩:=eO c.dK h;obtain⟨stk,i,a⟩:=Z;obtain⟨l,j,m⟩:=J;simp only at U;subst U;cases j with
 | nil=>exact⟨trivial,qs⟩
 | cons b i=>exact⟨⟨e,c.kR.2⟩,c.short⟩
theorem Tidy.put{Z:Bd}(a:Tidy Z)(ks:qM):Tidy (fJ Z ks):=⟨a.kR.le (by simp[fJ]),a.short⟩
theorem Tidy.wI{Z:Bd}(e:Tidy Z)(hb:Z.dn≠[]):Tidy (fV Z):=by
 have hf:=e.dK;obtain⟨stk,h,a⟩:=Z;cases h with
 | nil=>exact absurd rfl hb
 | cons b h=>
  simp only[Bd.dJ,qds]at hf;refine⟨⟨?_,e.kR.2⟩,?_⟩
  .simp[fV,Bd.dJ];omega
  intro c hc;simp[fV,Bd.dJ]at hc;obtain rfl | hc:=hc
  .exact e.short b qs
  exact e.short c (by simp[hc])
def dO(N:Nat)(d:Int)(k:Nat)(f:Bd->Except Err Bd):Prop:=∀Z,Tidy Z->Z.dn≠[]->Z.at_<=N->
 (∀q p,f Z=.error (q,p)->(q=3\/q=4)/\p<=N)/\∀J,f Z=.ok J->Tidy J/\J.at_=Z.at_/\J.dB.length<=Z.dB.length+k/\(J.dn.length:Int)=Z.dn.length+d
section
variable {N:Nat}{d:Int}{k k':Nat}{f g:Bd->Except Err Bd}
theorem dO.then(hf:dO N 0 k f)(b:dO N d k' g){F:Bd->Except Err Bd}(i:∀Z e,f Z=.error e->F Z=.error e)(X:∀Z st1,f Z=.ok st1->F Z=g st1):dO N d (k+k') F:=by
 intro Z j hb l;obtain⟨U,m⟩:=hf Z j hb l;rcases ho:f Z with⟨q,p⟩|st1
 .rw[i _ _ ho];exact⟨λu v h=>by cases h;exact U _ _ ho,λ_ h=>by cases h⟩
 obtain⟨n,w,l1,a⟩:=m _ ho;have o:st1.dn≠[]:=by
  intro c;rw[c]at a;have:Z.dn.length≠0:=by simpa using hb
  simp at a;omega
 obtain⟨r,s⟩:=b st1 n o qo;rw[X _ _ ho];refine⟨r,λJ h=>?_⟩;obtain⟨t,x,l2,y⟩:=s _ h;exact⟨t,qo,qo,qo⟩
theorem dO.take(ks:qM):dO N 0 0 (λZ=>dQ Z ks):=by
 intro Z a hb b;refine⟨λq p h=>?_,λJ h=>?_⟩
 .have:=oL h;exact⟨.inr this.1,qo⟩
 have:=eO a.dK h;exact⟨a.take h,this.2.1,qo,by rw[this.1];simp⟩
theorem dO.put(ks:qM)(h:ks.length<=k):dO N 0 k (λZ=>.ok (fJ Z ks)):=by
 intro Z a hb b;refine⟨λq p h=>(by cases h),λJ h=>?_⟩;cases h;exact⟨a.put ks,rfl,by simp[fJ];omega,by simp[fJ]⟩
theorem dO.wI:dO N 0 0 (λZ=>.ok (fV Z)):=by
 intro Z a hb b;refine⟨λq p h=>(by cases h),λJ h=>?_⟩;cases h;refine⟨a.wI hb,rfl,by simp[fV];omega,?_⟩;have:Z.dn.length≠0:=by simpa using hb
 simp[fV];omega
theorem dO.weak(hf:dO N d k f)(X:k<=k'):dO N d k' f:=λZ a hb b=>⟨(hf Z a hb b).1,λJ h=>⟨((hf Z a hb b).2 J h).1,((hf Z a hb b).2 J h).2.1,by have:=((hf Z a hb b).2 J h).2.2.1;omega,((hf Z a hb b).2 J h).2.2.2⟩⟩
theorem dO.same:dO N 0 k (λZ=>.ok Z):=λZ a _ _=>⟨λ_ _ h=>(by cases h),λJ h=>by cases h;exact⟨a,rfl,qo,qs⟩⟩
theorem dO.fail{q p:Nat}(a:q=3\/q=4)(hp:p<=N):dO N d k (λ_=>.error (q,p)):=λZ _ _ _=>⟨λ_ _ h=>by cases h;exact⟨a,hp⟩,λJ h=>by cases h⟩
theorem dO.here{q:Nat}(a:q=3\/q=4):dO N d k (λZ=>.error (q,Z.at_)):=λZ _ _ b=>⟨λ_ _ h=>by cases h;exact⟨a,b⟩,λJ h=>by cases h⟩
theorem dO.ite{c:Prop}[Decidable c](hf:c->dO N d k f)(a:¬c->dO N d k g):dO N d k (λZ=>if c then f Z else g Z):=by
 by_cases h:c
 .simp only[qac h];exact hf h
 simp only[qaa h];exact a h
theorem dO.ask{a:Type}{r:Except Err a}{P:a->Prop}{G:a->Bd->Except Err Bd}(b:∀q p,r=.error (q,p)->(q=3\/q=4)/\p<=N)(hp:∀x,r=.ok x->P x)(c:∀x,P x->dO N d k (G x)){F:Bd->Except Err Bd}(U:∀e Z,r=.error e->F Z=.error e)(i:∀x Z,r=.ok x->F Z=G x Z):dO N d k F:=by
 intro Z j hb l;obtain⟨q,p⟩|x:=r
 .rw[U _ Z rfl];exact⟨λ_ _ h=>by cases h;exact b _ _ rfl,λ_ h=>by cases h⟩
 rw[i _ Z rfl];exact c x (hp _ rfl) Z j hb l
end
theorem nL{x:Int×Nat}{a q p N:Nat}(hx:mJ N x)(h:fE x a=.error (q,p)):(q=3\/q=4)/\p<=N:=by
 unfold fE at h;split at h<;>cases h;exact⟨.inl rfl,hx.2.2⟩
theorem Dv{x:Int×Nat}{a k:Nat}(hx:0<=x.1)(h:fE x a=.ok k):k<a/\x.1=(k:Int):=by
 unfold fE at h;split at h<;>cases h;omega
theorem dO.enter{N:Nat}(e:Nat){t:Ty}(U:t.ins.length<=8)(i:t.outs.length<=8):dO N 1 8 (iV e t):=by
 intro Z a hb j;unfold iV;rcases ho:dQ Z t.ins with⟨q,p⟩|st1
 .have:=oL ho;exact⟨λ_ _ h=>by cases h;exact⟨.inr this.1,qo⟩,λ_ h=>by cases h⟩
 have hf:=eO a.dK ho;have c:=a.take ho;refine⟨λ_ _ h=>(by cases h),λJ h=>?_⟩;cases h;refine⟨⟨⟨qs,c.kR⟩,?_⟩,hf.2.1,qt,by simp[hf.1]⟩;intro b hb;simp at hb;obtain rfl | hb:=hb
 .exact⟨U,i⟩
 exact c.short b hb
theorem mP{Z:Bd}(e:Tidy Z)(hb:Z.dn≠[]):(∀q p,jv Z=.error (q,p)->q=4/\p=Z.at_)/\∀left J,jv Z=.ok (left,J)->left=Z.dJ/\Tidy J/\J.at_=Z.at_/\J.dB.length<=Z.dB.length/\J.dn=Z.dn.tail/\left.takes.length<=8/\left.dL.length<=8:=by
 unfold jv;rcases ho:dQ Z Z.dJ.dL with⟨q,p⟩|st1
 .have:=oL ho;exact⟨λ_ _ h=>by cases h;exact this,λ_ _ h=>by cases h⟩
 have hf:=eO e.dK ho;have i:=e.take ho;simp only;split
 .rename_i hl;refine⟨λ_ _ h=>(by cases h),λleft J h=>?_⟩;cases h;obtain⟨stk,j,a⟩:=Z;obtain⟨m,l,n⟩:=st1;simp only at hf;obtain⟨rfl,rfl,-⟩:=hf;cases l with
  | nil=>exact absurd rfl hb
  | cons b j=>simp only[Bd.dJ,qds]at hl;exact⟨rfl,⟨by simpa [hl] using i.kR.2,λc hc=>i.short c (by simp at hc ⊢;exact .inr hc)⟩,rfl,by simpa using (eO e.dK ho).2.2.2.1,rfl,e.short b qs⟩
 exact⟨λ_ _ h=>by cases h;exact⟨rfl,rfl⟩,λ_ _ h=>by cases h⟩
theorem Oj{Z:Bd}(hb:Z.dn≠[]):Z.dJ∈Z.dn:=by
 obtain⟨stk,c,a⟩:=Z;cases c with
 | nil=>exact absurd rfl hb
 | cons b c=>simp[Bd.dJ]
theorem oK{Z:Bd}{x:Int×Nat}{N:Nat}(a:Tidy Z)(hx:mJ N x):(∀q p,gX Z x=.error (q,p)->(q=3\/q=4)/\p<=N)/\∀ks,gX Z x=.ok ks->ks.length<=8:=by
 unfold gX;rcases ho:fE x Z.dn.length with⟨q,p⟩|k
 .exact⟨λ_ _ h=>by cases h;exact nL hx ho,λ_ h=>by cases h⟩
 refine⟨λ_ _ h=>(by cases h),λks h=>?_⟩;cases h;have X:=(Dv hx.1 ho).1;have hm:Z.dn.getD k pW.none∈Z.dn:=by simp[X]
 have:=a.short _ hm;unfold dZ;split<;>omega
theorem Ta{Z J:Bd}(h:J.dn=Z.dn)(x:Int×Nat):gX J x=gX Z x:=by unfold gX;rw[h]
theorem rG{m:dX}{x:Int×Nat}{N:Nat}(hm:iX N m)(hx:mJ N x):(∀q p,iH m x=.error (q,p)->(q=3\/q=4)/\p<=N)/\∀t,iH m x=.ok t->t.ins.length<=8/\t.outs.length<=8:=by
 unfold iH;rcases ho:fE x m.dx.length with⟨q,p⟩|k
 .exact⟨λ_ _ h=>by cases h;exact nL hx ho,λ_ h=>by cases h⟩
 refine⟨λ_ _ h=>(by cases h),λt h=>?_⟩;cases h;have X:=(Dv hx.1 ho).1;have:=hm.dx.2 _ (show m.dx.getD k ⟨[],[]⟩∈m.dx by simp[X]);exact⟨this.1,qam this.2 qo⟩
theorem nU{m:dX}{N:Nat}(hm:iX N m)(f:Nat):(dM m f).ins.length<=8/\(dM m f).outs.length<=8:=by
 unfold dM;generalize (m.funcs.getD f (0,0)).1.toNat=k;by_cases h:k<m.dx.length
 .have:=hm.dx.2 _ (show m.dx.getD k ⟨[],[]⟩∈m.dx by simp[h]);exact⟨this.1,qam this.2 qo⟩
 have:m.dx.getD k ⟨[],[]⟩=⟨[],[]⟩:=by simp[show m.dx.length<=k by omega]
 rw[this];simp
theorem sG{m:dX}{y:fO}{N:Nat}(hm:iX N m)(hy:nJ N y):(∀q p,eU m y=.error (q,p)->(q=3\/q=4)/\p<=N)/\∀t,eU m y=.ok t->t.ins.length<=8/\t.outs.length<=8:=by
 unfold eU;split
 .exact rG hm hy.1
 refine⟨λ_ _ h=>(by cases h),λt h=>?_⟩;cases h;exact⟨qs,qam hy.2.2.2.1 qo⟩
theorem dO.call{N:Nat}{t:Ty}(h:t.outs.length<=8):dO N 0 8 (kT t):=
 ((dO.take t.ins).then (dO.put t.outs h) (F:=kT t) (λZ e h=>by simp only[kT,h]<;>rfl) (λZ st1 h=>by simp only[kT,h]<;>rfl)).weak qo
def opens(x:Nat):Int:=if x=2\/x=3\/x=4 then 1 else if x=11 then -1 else 0
theorem zL{m:dX}{y:fO}{N:Nat}(hm:iX N m)(hy:nJ N y)(x:Nat):dO N (opens x) 16 (dR m x y):=by
 obtain⟨s,u⟩:=sG hm hy;unfold dR;refine dO.ite (λh=>?_) (λh0=>dO.ite (λh=>?_) (λU=>dO.ite (λh=>?_) (λI=>dO.ite (λh=>?_) (λK=>dO.ite (λh=>?_) (λz=>?_)))))
 .subst h;exact dO.wI.weak qo
 .have:opens x=1:=by unfold opens;rw[qac qo]
  rw[this];exact dO.ask (G:=λt=>iV x t) s u (λt a=>(dO.enter x a.1 a.2).weak qo) qm qm
 .subst h;refine dO.ask (G:=λt=>λZ=>match dQ Z [127] with
   | .error e=>.error e
   | .ok st1=>iV 4 t st1) s u (λt a=>?_) qm qm
  exact((dO.take [127]).then (dO.enter 4 a.1 a.2) qm qm).weak qo
 .subst h;intro Z a hb v;obtain⟨l1,l2⟩:=mP a hb;dsimp only;rcases ho:jv Z with⟨q,p⟩|⟨left,st1⟩
  .have:=l1 _ _ ho;exact⟨λ_ _ h=>by cases h;exact⟨.inr this.1,qo⟩,λ_ h=>by cases h⟩
  obtain⟨rfl,c,n,A,i,j,o⟩:=l2 _ _ ho;simp only;have B:Z.dn.length≠0:=by simpa using hb
  by_cases r:st1.dn=[]
  ·
   have w:=c.put Z.dJ.takes;unfold iV;simp only;rcases X:dQ (fJ st1 Z.dJ.takes) Z.dJ.takes with⟨q,p⟩|L
   .have:=oL X;exact⟨λ_ _ h=>by cases h;exact⟨.inr this.1,by have:=this.2;simp[fJ]at this;omega⟩,λ_ h=>by cases h⟩
   have hf:=eO w.dK X;have l:=w.take X;refine⟨λ_ _ h=>(by cases h),λJ h=>?_⟩;cases h;have hl:st1.dn.length=0:=by rw[r];rfl
   rw[i]at hl;simp at hl;refine⟨⟨⟨qs,l.kR⟩,?_⟩,by rw[hf.2.1];simp[fJ,n],?_,?_⟩
   .intro b hbm;simp at hbm;obtain rfl | hbm:=hbm
    .exact⟨j,o⟩
    exact l.short b hbm
   .have:=hf.2.2.2.1;simp[fJ]at this ⊢;omega
   rw[show opens 5=0 from rfl];simp[hf.1,fJ,r];omega
  have C:=(dO.put (N:=N) (k:=8) Z.dJ.takes j).then (dO.enter (N:=N) 5 (t:=⟨Z.dJ.takes,Z.dJ.dL⟩) j o) (F:=λst1=>iV 5 ⟨Z.dJ.takes,Z.dJ.dL⟩ (fJ st1 Z.dJ.takes)) (λ_ _ h=>by cases h) (λ_ _ h=>by cases h;rfl);obtain⟨D,E⟩:=C st1 c r qo;refine⟨D,λJ h=>?_⟩;obtain⟨l,M,O,H⟩:=E _ h;refine⟨l,qo,qo,?_⟩;rw[H,i,show opens 5=0 from rfl];simp;omega
 .subst h;intro Z a hb v;obtain⟨l1,l2⟩:=mP a hb;dsimp only;rcases ho:jv Z with⟨q,p⟩|⟨left,st1⟩
  .have:=l1 _ _ ho;exact⟨λ_ _ h=>by cases h;exact⟨.inr this.1,qo⟩,λ_ h=>by cases h⟩
  obtain⟨rfl,c,n,A,i,j,o⟩:=l2 _ _ ho;have B:Z.dn.length≠0:=by simpa using hb
  simp only;split
  .exact⟨λ_ _ h=>by cases h;exact⟨.inr rfl,v⟩,λ_ h=>by cases h⟩
  refine⟨λ_ _ h=>(by cases h),λJ h=>?_⟩;cases h;refine⟨c.put _,n,by simp[fJ];omega,?_⟩;rw[show opens 11= -1 from rfl];simp[fJ,i];omega
 have:opens x=0:=by unfold opens;rw[qaa qo,qaa z]
 rw[this];exact dO.same
theorem uD{Z:Bd}{N:Nat}(a:Tidy Z):∀(xs:List (Int×Nat)) (M:List (qM)),(∀x∈xs,mJ N x)->(∀ks∈M,ks.length<=8)->
  (∀q p,iy Z xs M=.error (q,p)->(q=3\/q=4)/\p<=N)/\∀r,iy Z xs M=.ok r->r.length=M.length+xs.length/\∀ks∈r,ks.length<=8
 | [],M,_,L=>⟨λ_ _ h=>by simp[iy]at h,λr h=>by simp[iy]at h;subst h;exact⟨qs,L⟩⟩
 | x::xs,M,U,L=>by
  obtain⟨l1,l2⟩:=oK a (U x qs);unfold iy;rcases ho:gX Z x with⟨q,p⟩|ks
  .exact⟨λ_ _ h=>by cases h;exact l1 _ _ ho,λ_ h=>by cases h⟩
  have:=uD a xs (M++[ks]) (λy hy=>U y (by simp[hy])) (λk X=>by obtain h | h:=qar.1 X;exact L k h;simp at h;subst h;exact l2 _ ho);exact⟨this.1,λr h=>⟨by have:=(this.2 r h).1;simp at this ⊢;omega,(this.2 r h).2⟩⟩
theorem A7{Z:Bd}{last:qM}:∀(r:List (qM)) {q p:Nat},jG Z last r=.error (q,p)->q=4/\p=Z.at_
 | [],q,p,h=>by simp[jG]at h
 | ks::r,q,p,h=>by
  unfold jG at h;split at h
  .cases h;exact⟨rfl,rfl⟩
  split at h
  .rename_i ho;cases h;exact oL ho
  exact A7 r h
theorem zI{y:fO}{N:Nat}(hy:nJ N y):dO N 0 16 (fU y):=by
 intro Z a hb w;unfold fU;obtain⟨l1,-⟩:=uD a y.dA [] hy.2.2.1 qs;obtain⟨i,-⟩:=oK a hy.1;rcases U:iy Z y.dA [] with⟨q,p⟩|j
 .exact⟨λ_ _ h=>by cases h;exact l1 _ _ U,λ_ h=>by cases h⟩
 simp only;rcases l:gX Z y.num with⟨q,p⟩|last
 .exact⟨λ_ _ h=>by cases h;exact i _ _ l,λ_ h=>by cases h⟩
 simp only;rcases b:dQ Z [127] with⟨q,p⟩|st1
 .have:=oL b;exact⟨λ_ _ h=>by cases h;exact⟨.inr this.1,qo⟩,λ_ h=>by cases h⟩
 have c:=eO a.dK b;have m:=a.take b;simp only;rcases n:jG st1 last j with⟨q,p⟩|u
 .have:=A7 _ n;exact⟨λ_ _ h=>by cases h;exact⟨.inr this.1,qo⟩,λ_ h=>by cases h⟩
 simp only;have o:st1.dn≠[]:=by rw[c.1];exact hb
 obtain⟨r,s⟩:=((dO.take (N:=N) last).then dO.wI (F:=λZ=>match dQ Z last with
  | .error e=>.error e
  | .ok st2=>.ok (fV st2)) qm qm) st1 m o qo
 refine⟨r,λJ h=>?_⟩;obtain⟨t,x,z,v⟩:=s _ h;exact⟨t,qo,qo,by rw[v,c.1]⟩
theorem dO.label{N:Nat}{x:Int×Nat}(hx:mJ N x){d:Int}{k:Nat}{G:qM->Bd->Except Err Bd}(b:∀ks,ks.length<=8->dO N d k (G ks)){F:Bd->Except Err Bd}(U:∀e Z,gX Z x=.error e->F Z=.error e)(c:∀ks Z,gX Z x=.ok ks->F Z=G ks Z):dO N d k F:=by
 intro Z a hb i;obtain⟨l1,l2⟩:=oK a hx;rcases ho:gX Z x with⟨q,p⟩|ks
 .rw[U _ _ ho];exact⟨λ_ _ h=>by cases h;exact l1 _ _ ho,λ_ h=>by cases h⟩
 rw[c _ _ ho];exact b ks (l2 _ ho) Z a hb i
theorem BP{m:dX}{y:fO}{N:Nat}(hm:iX N m)(hy:nJ N y)(x:Nat):dO N 0 16 (dU m x y):=by
 unfold dU;refine dO.ite (λh=>?_) (λh0=>dO.ite (λh=>?_) (λU=>dO.ite (λh=>?_) (λj=>dO.ite (λh=>?_) (λl=>dO.ite (λh=>?_) (λn=>dO.ite (λh=>?_) (λo=>dO.same))))))
 .refine dO.label hy.1 (G:=λks=>λZ=>match dQ Z ks with
   | .error e=>.error e
   | .ok st1=>.ok (fV st1)) (λks _=>?_) qm qm
  exact((dO.take ks).then dO.wI qm qm).weak qo
 .refine dO.label hy.1 (G:=λks=>λZ=>match dQ Z [127] with
   | .error e=>.error e
   | .ok st1=>match dQ st1 ks with
    | .error e=>.error e
    | .ok st2=>.ok (fJ st2 ks)) (λks b=>?_) qm qm
  exact((dO.take [127]).then (((dO.take ks).then (dO.put (k:=8) ks b) (F:=λst1=>match dQ st1 ks with
    | .error e=>.error e
    | .ok st2=>.ok (fJ st2 ks)) qm qm)) qm qm).weak qo
 .exact zI hy
 .intro Z a hb ha;exact(((dO.take (N:=N) (Z.dn.getD (Z.dn.length - 1) pW.none).dL).then dO.wI (F:=λJ=>match dQ J (Z.dn.getD (Z.dn.length - 1) pW.none).dL with
   | .error e=>.error e
   | .ok st1=>.ok (fV st1)) qm qm).weak (k':=16) qo) Z a hb ha
 .exact dO.ask (P:=λ_=>True) (r:=fE y.num m.funcs.length) (G:=λf=>kT (dM m f)) (λq p h=>nL hy.1 h) (λ_ _=>trivial) (λf _=>(dO.call (nU hm f).2).weak qo) qm qm
 refine dO.ite (λ_=>dO.here (.inl rfl)) (λ_=>?_);obtain⟨c,i⟩:=rG hm hy.1;refine dO.ask (G:=λt=>λZ=>match dQ Z [127] with
  | .error e=>.error e
  | .ok st1=>kT t st1) c i (λt a=>?_) qm qm
 exact((dO.take [127]).then (dO.call a.2) qm qm).weak qo
theorem dO.top{N:Nat}{d:Int}{k:Nat}{G:Nat->Bd->Except Err Bd}(l:∀x,dO N d k (G x)){F:Bd->Except Err Bd}(U:∀e Z,fe Z=.error e->F Z=.error e)(m:∀x Z st1,fe Z=.ok (x,st1)->F Z=G x st1):dO N d k F:=by
 intro Z i hb n;rcases ho:fe Z with⟨q,p⟩|x
 .rw[U _ _ ho];unfold fe at ho;split at ho
  .rename_i h;cases ho;have:=wV h;exact⟨λ_ _ h=>by cases h;exact⟨.inr this.1,qo⟩,λ_ h=>by cases h⟩
  cases ho
 obtain⟨x,st1⟩:=x;rw[m _ _ _ ho];unfold fe at ho;split at ho
 .cases ho
 rename_i h;cases ho;have hf:=oV i.dK h;rename_i stk;have o:Tidy {Z with dB:=stk}:=by
  obtain⟨s,j,a⟩:=Z;cases j with
  | nil=>exact absurd rfl hb
  | cons b j=>exact⟨⟨hf.1,i.kR.2⟩,i.short⟩
 obtain⟨r,c⟩:=l x {Z with dB:=stk} o hb n;exact⟨r,λJ h=>⟨(c J h).1,(c J h).2.1,by have:=(c J h).2.2.1;simp at this;omega,(c J h).2.2.2⟩⟩
theorem yK{N:Nat}:dO N 0 16 fH:=by
 intro c j l i;have m:dO N 0 16 (λZ=>match dQ Z [127] with
  | .error e=>.error e
  | .ok st1=>match fe st1 with
   | .error e=>.error e
   | .ok (a,h)=>match fe h with
    | .error e=>.error e
    | .ok (first,b)=>if a≠0/\a≠(if first=0 then a else first) then .error (4,c.at_) else .ok (fJ b [if first=0 then a else first])):=by
  refine((dO.take [127]).then (k':=16) (g:=λst1=>match fe st1 with
   | .error e=>.error e
   | .ok (a,h)=>match fe h with
    | .error e=>.error e
    | .ok (first,b)=>if a≠0/\a≠(if first=0 then a else first) then .error (4,c.at_) else .ok (fJ b [if first=0 then a else first])) ?_ qm qm).weak qo
  refine dO.top (G:=λa=>λh=>match fe h with
    | .error e=>.error e
    | .ok (first,b)=>if a≠0/\a≠(if first=0 then a else first) then .error (4,c.at_) else .ok (fJ b [if first=0 then a else first])) (λa=>?_) qm qm
  refine dO.top (G:=λfirst=>λb=>if a≠0/\a≠(if first=0 then a else first) then .error (4,c.at_) else .ok (fJ b [if first=0 then a else first])) (λfirst=>?_) qm qm;exact dO.ite (λ_=>dO.fail (.inr rfl) i) (λ_=>dO.put _ qs)
 exact m c j l i
theorem tN{m:dX}{x:Int×Nat}{N:Nat}(hx:mJ N x):∀q p,gD m x=.error (q,p)->(q=3\/q=4)/\p<=N:=by
 unfold gD;rcases ho:fE x m.dI.length with⟨q,p⟩|k
 .exact λ_ _ h=>by cases h;exact nL hx ho
 exact λ_ _ h=>by cases h
theorem zJ{ls:qM}{y:fO}{N:Nat}(hy:nJ N y)(x:Nat):dO N 0 16 (fT ls x y):=by
 refine dO.ask (P:=λ_=>True) (r:=fE y.num ls.length) (G:=λk=>λZ=>match(if x=32 then .ok Z else dQ Z [ls.getD k 0]) with
  | .error e=>.error e
  | .ok st1=>if x=33 then .ok st1 else .ok (fJ st1 [ls.getD k 0])) (λq p h=>nL hy.1 h) (λ_ _=>trivial) (λk _=>?_) (λe Z h=>by simp only[fT,h]<;>rfl) (λt Z h=>by simp only[fT,h]<;>rfl)
 refine(dO.then (k:=0) (k':=16) (f:=λZ=>if x=32 then .ok Z else dQ Z [ls.getD k 0]) (dO.ite (λ_=>dO.same) (λ_=>dO.take _)) (g:=λst1=>if x=33 then .ok st1 else .ok (fJ st1 [ls.getD k 0])) (dO.ite (λ_=>dO.same) (λ_=>dO.put _ qs)) qm qm).weak qo
theorem wL{m:dX}{ls:qM}{y:fO}{N:Nat}(hy:nJ N y)(x:Nat):dO N 0 16 (eF m ls x y):=by
 unfold eF;refine dO.ite (λh=>?_) (λh0=>dO.ite (λh=>?_) (λU=>dO.ite (λh=>?_) (λa=>dO.ite (λh=>?_) (λb=>zJ hy x))))
 .exact dO.top (G:=λ_=>λZ=>.ok Z) (λ_=>dO.same) qm qm
 .exact yK
 .exact dO.ask (P:=λ_=>True) (r:=gD m y.num) (G:=λg=>λZ=>.ok (fJ Z [g.kind])) (tN hy.1) (λ_ _=>trivial) (λg _=>dO.put _ qs) qm qm
 exact dO.ask (P:=λ_=>True) (r:=gD m y.num) (G:=λg=>λZ=>if g.sO then dQ Z [g.kind] else .error (4,Z.at_)) (tN hy.1) (λ_ _=>trivial) (λg _=>dO.ite (λ_=>(dO.take _).weak qo) (λ_=>dO.here (.inr rfl))) qm qm
theorem iP{N:Nat}(a:Nat)(b:qM):dO N 0 16 (gy a b):=
 ((dO.take b).then (k':=16) (dO.put [a] qs) (λZ e h=>by simp only[gy,h]<;>rfl) (λZ st1 h=>by simp only[gy,h]<;>rfl)).weak qo
theorem DU{N:Nat}(x k:Nat)(y:fO):dO N 0 16 (kN x k y):=by
 unfold kN;refine dO.ite (λ_=>dO.here (.inr rfl)) (λ_=>?_);exact((dO.take [127]).then (k':=16) (dO.put [k] qs) qm qm).weak qo
theorem Ap{N:Nat}(x k:Nat)(y:fO):dO N 0 16 (jq x k y):=by
 unfold jq;exact dO.ite (λ_=>dO.here (.inr rfl)) (λ_=>(dO.take _).weak qo)
theorem yM{m:dX}{y:fO}{N:Nat}(x:Nat):dO N 0 16 (eG m x y):=by
 unfold eG;refine dO.ite (λ_=>dO.here (.inl rfl)) (λ_=>dO.ite (λ_=>dO.put _ qs) (λ_=>dO.ite (λ_=>?_) (λ_=>dO.ite (λ_=>DU _ _ _) (λ_=>dO.ite (λ_=>DU _ _ _) (λ_=>dO.ite (λ_=>Ap _ _ _) (λ_=>dO.ite (λ_=>Ap _ _ _) (λ_=>dO.same)))))));exact((dO.take [127]).then (k':=16) (dO.put [127] qs) qm qm).weak qo
theorem yL{N:Nat}(x:Nat):dO N 0 16 (gG x):=by
 unfold gG;exact dO.ite (λ_=>dO.put _ qs) (λ_=>dO.ite (λ_=>dO.put _ qs) (λ_=>dO.ite (λ_=>iP _ _) (λ_=>dO.ite (λ_=>iP _ _) (λ_=>dO.ite (λ_=>iP _ _) (λ_=>dO.ite (λ_=>iP _ _) (λ_=>dO.ite (λ_=>iP _ _) (λ_=>dO.ite (λ_=>iP _ _) (λ_=>dO.ite (λ_=>iP _ _) (λ_=>dO.ite (λ_=>iP _ _) (λ_=>dO.ite (λ_=>iP _ _) (λ_=>iP _ _)))))))))))
theorem tC{m:dX}{ls:qM}{y:fO}{N:Nat}(hm:iX N m)(hy:nJ N y)(x:Nat):dO N (opens x) 16 (iG m ls x y):=by
 unfold iG;refine dO.ite (λ_=>zL hm hy x) (λh=>?_);have:opens x=0:=by unfold opens;rw[qaa qo,qaa qo]
 rw[this];exact dO.ite (λ_=>BP hm hy x) (λ_=>dO.ite (λ_=>wL hy x) (λ_=>dO.ite (λ_=>yM x) (λ_=>yL x)))
theorem zY{os os':qM}{j x:Nat}(h:x8 os (some os') j x):(os'.length:Int)=os.length+opens x:=by
 obtain⟨_,_,h⟩ | ⟨U,e,a,c⟩:=h
 .cases h
 cases c;unfold gp at a;unfold opens;split at a
 .rename_i hx;rw[qac (by simpa using hx)];split at a<;>cases a;simp
 rename_i hx;rw[qaa (by simpa using hx)];split at a
 .rename_i h5;subst h5;split at a<;>cases a;rename_i hl;rw[qaa qo];cases os with
  | nil=>simp at hl
  | cons o os=>simp
 split at a
 .rename_i b;cases a;rw[qac b];cases os with
  | nil=>exact absurd ⟨b,rfl⟩ U
  | cons o os=>simp;omega
 rename_i b;cases a;rw[qaa b];simp
def TH:qS:=⟨#[0,97,115,109,1,0,0,0,1,6,1,96,1,127,1,127,3,2,1,0,7,6,1,2,105,100,0,0,10,6,1,4,0,32,0,11,0,20,4,110,97,109,101,1,5,1,0,2,105,100,2,6,1,0,1,0,1,120]⟩
def TG:qS:=⟨#[0,97,115,109,1,0,0,0,2]⟩
def Iz(s:qS):Except Err Unit:=match kH s with
 | .error e=>.error e
 | .ok (m,_)=>zC s m
def answer(r:Except Err Unit):Nat×Nat:=match r with
 | .error e=>e
 | .ok _=>(0,0)
theorem XA:answer (Iz TH)=(0,0):=by decide+kernel
theorem Wm:answer (Iz TG)=(2,8):=by decide+kernel
end Go.Proofs.YtfkcodlceoghpaaGreatDoor
