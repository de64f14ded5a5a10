import Derived.Test.YtfkcodlceoghpaaGreatDoorX36
namespace Go.Proofs.YtfkcodlceoghpaaGreatDoor.Zev
set_option linter.unusedSimpArgs false
set_option linter.unusedVariables false
open Go.Deep
theorem q8:∀{a b:Option Addr},xV a b=true->a=b
 | none,none,_=>rfl
 | none,some _,h=>by simp[xV]at h
 | some _,none,h=>by simp[xV]at h
 | some ⟨i,o,p⟩,some ⟨i',o',p'⟩,h=>by
  simp only[xV,qab]at h;obtain⟨⟨h1,h2⟩,h3⟩:=h;have:=qaa h1;have:=qaa h2;subst_vars
  cases p<;>cases p'<;>simp[vQ]at h3 ⊢;exact h3
theorem uB:∀{a b:Option Nat},uC a b=true->a=b
 | none,none,_=>rfl
 | none,some _,h=>by simp[uC]at h
 | some _,none,h=>by simp[uC]at h
 | some i,some j,h=>by rw[qaa (show Nat.beq i j=true from h)]
theorem ny:∀{x c:List UInt8},oq x c=true->x=c
 | [],[],_=>rfl
 | [],_::_,h=>by simp[oq]at h
 | _::_,[],h=>by simp[oq]at h
 | a::l,b::m,h=>by
  simp only[oq,qab]at h;rw[ny h.2,UInt8.toNat_inj.1 (qaa h.1)]
theorem uS{x a:Int}(h:rX x a=true):x=a:=by
 cases x<;>cases a<;>simp only[rX]at h
 .rw[qaa h]
 .cases h
 .cases h
 rw[qaa h]
theorem uO{a b:IntKind}(h:tO a b=true):a=b:=by
 cases a<;>cases b<;>first | rfl | (exact absurd h (by decide))
theorem pR{x:Bool}{b:qv}(h:pU x b=true):.bool x=b:=by
 cases b<;>simp[pU]at h;cases x<;>simp_all
theorem uu{k:IntKind}{n:Int}{b:qv}(h:wU k n b=true):.int k n=b:=by
 cases b<;>simp only[wU,qab,qai]at h;rw[uO h.1,uS h.2]
theorem um{x:ByteArray}{b:qv}(h:wR x.data.toList b=true):.string x=b:=by
 cases b<;>simp only[wR,qai]at h;have:=ny h;obtain⟨⟨x⟩⟩:=x;rename_i a;obtain⟨⟨a⟩⟩:=a;simp at this;subst this;rfl
theorem uo{a:Option Addr}{b:qv}(h:wS a b=true):.pointer a=b:=by
 cases b<;>simp only[wS,qai]at h;rw[q8 h]
theorem nY{a:Option Addr}{l c:Nat}{b:qv}(h:lQ a l c b=true):.slice a l c=b:=by
 cases b<;>simp only[lQ,qab,qai]at h;rw[q8 h.1.1,qaa h.1.2,qaa h.2]
theorem uq{a:Option Nat}{b:qv}(h:wT a b=true):.map a=b:=by
 cases b<;>simp only[wT,qai]at h;rw[uB h]
theorem pM{b:qv}(h:pO b=true):.nilFunc=b:=by cases b<;>simp[pO]at h;rfl
theorem pJ{b:qv}(h:pK b=true):.nilIface=b:=by cases b<;>simp[pK]at h;rfl
theorem uk{x:Array qv}{b:qv}(h:wQ x.toList b=true):.tuple x=b:=by
 cases b<;>simp only[wQ,qab,qai]at h;rename_i a;obtain⟨x⟩:=x;obtain⟨a⟩:=a;cases x<;>cases a<;>simp at h ⊢
theorem kD{k:FloatKind}{a im:Nat}{b:qv}(h:iA k a im b=true):.complex k a im=b:=by
 cases b<;>simp only[iA,qab,qai]at h;rename_i c _ _;have h1:=qaa h.1.1;have:k=c:=by cases k<;>cases c<;>first | rfl | (cases h1)
 rw[this,qaa h.1.2,qaa h.2]
theorem mF{a b:qv}(h:tV a b=true):a=b:=by
 cases a<;>simp only[tV,qai]at h
 .exact pR h
 .exact uu h
 .exact kD h
 .exact um h
 .exact uo h
 .exact nY h
 .exact uq h
 .exact pM h
 .exact pJ h
 exact uk h
theorem fI{p:qv->qv->Bool}(hp:∀a b,p a b=true->a=b):∀{x c:qV},all2 p x c=true->x=c
 | [],[],_=>rfl
 | [],_::_,h=>by simp[all2]at h
 | _::_,[],h=>by simp[all2]at h
 | a::l,b::m,h=>by
  simp only[all2,qab]at h;rw[hp _ _ h.1,fI hp h.2]
theorem nM{x a:Bool}(h:vD x a=true):x=a:=by cases x<;>cases a<;>simp[vD]at h ⊢
theorem iX:∀{x d:List FieldStep},fQ x d=true->x=d
 | [],[],_=>rfl
 | [],_::_,h=>by simp[fQ]at h
 | _::_,[],h=>by simp[fQ]at h
 | ⟨a,b,c⟩::l,⟨a',b',c'⟩::m,h=>by
  simp only[fQ,qab]at h;obtain⟨⟨⟨h1,h2⟩,h3⟩,h4⟩:=h;rw[iX h4,qaa h1,qaa h2,nM h3]
theorem uX{f g:Fn}(h:xE f g=true):f=g:=by
 cases f<;>cases g<;>simp only[xE,qai,qab]at h
 .rw[qaa h]
 .rename_i p _ _ _ q _ _;obtain⟨⟨⟨h1,h2⟩,h3⟩,h4⟩:=h;obtain⟨p⟩:=p;obtain⟨q⟩:=q;rw[qaa h1,qaa h3,nM h4,show p=q from iX h2]
 rw[qaa h]
theorem jO{x a:Array qv}(h:x.toList=a.toList):x=a:=by obtain⟨x⟩:=x;obtain⟨a⟩:=a;simp at h;rw[h]
theorem gH{p:qv->qv->Bool}(hp:∀a b,p a b=true->a=b):∀a b,nP p a b=true->a=b:=by
 intro a b h;cases a<;>simp only[nP]at h<;>first | exact mF h | skip
 .cases b<;>simp only[Ak,qab,qai]at h;rw[uX h.1.1,jO (fI hp h.1.2),jO (fI hp h.2)]
 .cases b<;>simp only[pQ,qab,qai]at h;rw[qaa h.1,hp _ _ h.2]
 .cases b<;>simp only[yz,qai]at h;rw[jO (fI hp h)]
 cases b<;>simp only[vP,qai]at h;rw[jO (fI hp h)]
theorem lD{a b:qv}(h:oL a b=true):a=b:=
 gH (gH (gH (gH (λ_ _=>mF)))) a b h
section
variable {P:qp}{T:Tab}{e:Env}{s:AS}{g:G}{K:bR}
theorem oG{c:Call}(a:bA P (.call c)=true):nA (.call c) P T e s g K=nA (.call c) P T e s g (λv s'=>s'=s/\K v s'):=by
 obtain⟨d,args,ts⟩:=c;cases d<;>simp only[bA,qai]at a;rename_i b;cases b<;>simp only[pI,qai]at a;all_goals simp only[nA,vV,kJ,xg,aY,w9,true_and]
theorem lN{o:Op}(b:bA P o=true):nA o P T e s g K=nA o P T e s g (λv s'=>s'=s/\K v s'):=by
 cases o
 case call c=>exact oG b
 case convert a d x=>have b:(!eT P d)=true:=b;simp only[qau]at b;simp only[nA,vU,b,bF,true_and]
 all_goals first
  | (simp only[bA,qai]at b;done)
  | (simp only[nA,rJ,jE,rQ,wZ,xm,zJ,aY,lW,jD,lY,jC,lX,rP,iD,rR,true_and];done)
end
theorem xx:∀{t:TV}{n:Nat}{a:Prop}{K:qv->Prop},xy t n a K->(aC t n=none/\a)\/∃v,aC t n=some v/\K v:=by
 intro t;induction t with
 | nil=>intro n a K h;exact .inl ⟨bI n,h⟩
 | node b o v l r d f=>
  intro n a K h;cases n with
  | zero=>
   cases v with
   | none=>exact .inl ⟨rfl,h⟩
   | some v=>exact .inr ⟨v,rfl,h⟩
  | succ m=>
   have c: @Bool.rec (λ_=>Prop) (xy r (Nat.div m 2) a K) (xy l (Nat.div m 2) a K) (Nat.beq (Nat.mod m 2) 0):=h;rw[dh]at c;simp only[aC];change if m%2=0 then xy l (m / 2) a K else xy r (m / 2) a K at c
   split at c
   .rename_i e;simp only[qaj e];exact d c
   rename_i e;simp only[qae e];exact f c
theorem ig{r:TV}:∀{l:List Tmp}{t:TV}{K:TV->Prop},small l r t K->∃a,K a/\∀x v,aC a x=some v->aC t x=some v\/(x∈l/\aC r x=some v):=by
 intro l;induction l with
 | nil=>intro t K h;exact⟨t,h,λ_ _ k=>.inl k⟩
 | cons b l i=>
  intro t K h;have j:xy r b (small l r t K) (λv=>iq t b v (λt=>small l r t K)):=h;obtain⟨_,k⟩ | ⟨v,m,k⟩:=xx j
  .obtain⟨a,k1,c⟩:=i k;refine⟨a,k1,λx u d=>?_⟩;obtain q | ⟨f,g⟩:=c x u d
   .exact .inl q
   exact .inr ⟨qac _ f,g⟩
  obtain⟨p,f,g⟩:=dL k;obtain⟨a,k1,c⟩:=i g;refine⟨a,k1,λx u d=>?_⟩;obtain q | ⟨n,o⟩:=c x u d
  .rw[f]at q;by_cases e:x=b
   .subst e;simp at q;subst q;exact .inr ⟨qag,m⟩
   simp[e]at q;exact .inl q
  exact .inr ⟨qac _ n,o⟩
end Go.Proofs.YtfkcodlceoghpaaGreatDoor.Zev
