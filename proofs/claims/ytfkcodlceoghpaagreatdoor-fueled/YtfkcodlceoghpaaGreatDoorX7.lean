import Derived.OrdersHeld
import Derived.Test.YtfkcodlceoghpaaGreatDoorX2
namespace Go.Proofs.YtfkcodlceoghpaaGreatDoor
set_option maxHeartbeats 1600000
set_option maxRecDepth 100000
set_option linter.unusedSimpArgs false
set_option linter.unusedVariables false
open Go.RowKit Go.Proofs.Tryz
section
variable {P:Program}{ops:Array Oper}{Q:Exit->Act->qW->Prop}{md:Region.Mode}{S:qW->Prop}{x:Nat}
def jo(P:Program)(md:Region.Mode)(ops:Array Oper)(Q:Exit->Act->World->Prop)(S:World->Prop)(x:Nat):Nat->Array Bool->Act->World->Prop
 | 0,listed,a,w=>Region.ready md ops listed=[]/\Q .normal a w
 | fuel+1,listed,a,w=>
  (Region.ready md ops listed=[]->Q .normal a w)/\
  ∀i∈Region.ready md ops listed,wpOp P ops Q i (λa' w'=>(i=x\/S w')/\jo P md ops Q S x fuel (listed.setIfInBounds i true) a' w') a w
theorem vP:∀(fuel:Nat)(b:Array Bool)(a:Act)(w:qW),jo P md ops Q S x fuel b a w->wpAny P md ops Q fuel b a w
 | 0,_,_,_,h=>h
 | fuel+1,_,_,_,h=>⟨h.1,λi hi=>wpOp_mono (λc w' h'=>vP fuel _ c w' h'.2) (h.2 i hi)⟩
def chainB(md:Region.Mode)(ops:Array Oper)(listed:Array Bool):List Nat->Bool
 | []=>true
 | [c]=>!listed.getD c true
 | c::d::rest=>!listed.getD c true&&(((ops[c]?).map (·.after.any λe=>Region.binds md e&&e.on==d)).getD false)&&chainB md ops listed (d::rest)
theorem Ef{f:Array Bool}{j i:Nat}(l:j∈Region.ready md ops f)(m:j≠i):∀(cs:qM),chainB md ops f (cs++[i])=true->∀c∈cs++[i],j≠c
 | [],h,c,hc=>by
  simp only[qay,qak]at hc;subst hc;exact m
 | [d],h,c,hc=>by
  simp only[qax,qay,chainB,qaz]at h;simp only[qax,qay,qav,List.not_mem_nil,or_false]at hc;obtain rfl | rfl:=hc
  .rintro rfl;obtain⟨-,o,ho,n⟩:=mem_ready.1 l;have b:=h.1.2;rw[ho]at b;simp only[Option.map_some,qdl]at b;obtain⟨e,p,hb⟩:∃e∈o.after,(Region.binds md e&&e.on==i)=true:=by
    exact Array.any_eq_true'.1 b
   simp only[qaz,qcn]at hb;have a:=n e p hb.1;rw[hb.2]at a;have g:=h.2;simp only[Bool.not_eq_true']at g;obtain h' | h':=Nat.lt_or_ge i f.size
   .simp[h']at a g;rw[g]at a;cases a
   simp[Array.getElem?_eq_none h']at a
  exact m
 | d::k::rest,h,c,hc=>by
  have U:chainB md ops f ((k::rest)++[i])=true:=by
   simp only[qax,chainB,qaz]at h ⊢;exact h.2
  rw[qax,qav]at hc;obtain rfl | hc:=hc
  .rintro rfl;obtain⟨-,o,ho,n⟩:=mem_ready.1 l;simp only[qax,chainB,qaz]at h;have b:=h.1.2;rw[ho]at b;simp only[Option.map_some,qdl]at b;obtain⟨e,p,hb⟩:∃e∈o.after,(Region.binds md e&&e.on==k)=true:=by
    exact Array.any_eq_true'.1 b
   simp only[qaz,qcn]at hb;have a:=n e p hb.1;rw[hb.2]at a;have g:f.getD k true=false:=by
    cases rest with
    | nil=>simp only[qay,chainB,qaz,Bool.not_eq_true']at h;exact h.2.1.1
    | cons r rs=>simp only[qax,chainB,qaz,Bool.not_eq_true']at h;exact h.2.1.1
   obtain h' | h':=Nat.lt_or_ge k f.size
   .simp[h']at a g;rw[g]at a;cases a
   simp[Array.getElem?_eq_none h']at a
  exact Ef l m (k::rest) U c hc
theorem Ee{a:Array Bool}{j:Nat}:∀(cs:qM),(∀c∈cs,j≠c)->chainB md ops a cs=true->chainB md ops (a.setIfInBounds j true) cs=true
 | [],_,_=>rfl
 | [c],hn,h=>by
  simp only[chainB]at h ⊢;rw[getD_set_ne true (hn c qs)];exact h
 | c::d::rest,hn,h=>by
  simp only[chainB,qaz]at h ⊢;refine⟨⟨?_,h.1.2⟩,Ee (d::rest) (λb hc=>hn b (by simp only[qav]at hc ⊢;exact .inr hc)) h.2⟩;rw[getD_set_ne true (hn c qs)];exact h.1.1
theorem Em{i:Nat}{g:Oper}{v:qv}{cs:qM}(hi:ops[i]?=some g)(s:∀(j:Nat)(o:Oper) cs b,ops[j]?=some o->o.op≠.select cs b)
  (hQ:∀c a w,Q (.panic c) (a.put g.dst v) w->Q (.panic c) a w):
  ∀(fuel:Nat)(d:Array Bool)(a:Act)(w:qW),
   (∀j l,ops[j]?=some l->j≠i->d.getD j true=false->(∀e∈l.after,Region.binds md e=true->e.on≠i)->g.apart ops l=true)->
   i∈Region.ready md ops d->chainB md ops d (x::cs++[i])=true->YieldsIf P ops S g v a->S w->
   jo P md ops Q S x fuel (d.setIfInBounds i true) (a.put g.dst v) w->jo P md ops Q S x (fuel+1) d a w:=by
 intro fuel;induction fuel with
 | zero=>
  intro d a w _ m _ hy n H;refine⟨λh=>(by rw[h]at m;cases m),λj p=>?_⟩;by_cases f:j=i
  .subst f;exact hy.wpOp hi n ⟨.inr n,H⟩
  have:=ready_mono p f;rw[H.1]at this;cases this
 | succ fuel C=>
  intro d a w t m u hy n H;refine⟨λh=>(by rw[h]at m;cases m),λj p=>?_⟩;by_cases f:j=i
  .subst f;exact hy.wpOp hi n ⟨.inr n,H⟩
  have U:=H.2 j (ready_mono p f);have y:=Ef p f (x::cs) u;have D:j≠x:=y x qs;obtain⟨z,l,r,E⟩:=mem_ready.1 p;have F:∀e∈l.after,Region.binds md e=true->e.on≠i:=λe G hb I=>by
   have U:=E e G hb;have h0:=(mem_ready.1 m).1;rw[I]at U;obtain h' | h':=Nat.lt_or_ge i d.size
   .simp[h']at h0 U;rw[h0]at U;cases U
   simp[Array.getElem?_eq_none h']at U
  have J:=wpOp_putIf r (t j l r f z F) (λcs b=>s i g cs b hi) (λcs b=>s j l cs b r) hQ hy U;have K:∀k ok,ops[k]?=some ok->k≠i->(d.setIfInBounds j true).getD k true=false->
    (∀e∈ok.after,Region.binds md e=true->e.on≠i)->g.apart ops ok=true:=λk ok X L A hno=>by
   refine t k ok X L ?_ hno;by_cases B:j=k
   .subst B;exact z
   rw[getD_set_ne true B]at A;exact A
  refine wpOp_mono (λM w' q=>⟨q.2.1,C (d.setIfInBounds j true) M w' K (ready_mono m (Ne.symm f)) (Ee _ y u) q.1 (q.2.1.resolve_left D) ?_⟩) J;rw[Array.setIfInBounds_comm _ _ f];exact q.2.2
theorem FV{i:Nat}{d:Oper}{v:qv}{fuel:Nat}{b:Array Bool}{a:Act}{w:qW}(cs:qM)(hi:ops[i]?=some d)
  (e:Region.noSelect ops=true) (hf:Region.free md ops b i=true) (f:(Region.ready md ops b).contains i=true) (hc:chainB md ops b (x::cs++[i])=true)
  (hQ:∀c a w,Q (.panic c) (a.put d.dst v) w->Q (.panic c) a w) (hy:YieldsIf P ops S d v a) (g:S w)
  (h:jo P md ops Q S x fuel (b.setIfInBounds i true) (a.put d.dst v) w):jo P md ops Q S x (fuel+1) b a w:=
 Em hi (Region.noSelect_spec e) hQ fuel b a w (Region.free_spec hi hf) (by simpa using f) hc hy g h
theorem wP{l:List Oper}{i:Nat}{d:Oper}{v:qv}{fuel:Nat}{b:Array Bool}{a:Act}{w:qW}(cs:qM)(hi:l[i]?=some d)
  (e:Region.noSelect l.toArray=true) (hf:Region.free md l.toArray b i=true) (f:(Region.ready md l.toArray b).contains i=true) (hc:chainB md l.toArray b (x::cs++[i])=true)
  (hQ:∀c a w,Q (.panic c) (a.put d.dst v) w->Q (.panic c) a w) (hy:YieldsIf P l.toArray S d v a) (g:S w)
  (h:jo P md l.toArray Q S x fuel (b.setIfInBounds i true) (a.put d.dst v) w):jo P md l.toArray Q S x (fuel+1) b a w:=
 FV cs (by simpa using hi) e hf f hc hQ hy g h
theorem jm{l:List Oper}{i:Nat}{o:Oper}{K:Act->qW->Prop}{a:Act}{w:qW}(ho:l[i]?=some o)
  (h:∀K':Act->qW->Prop,(∀a w,K a w->K' a w)->if Region.wanted o (yielded l.toArray a.tmps)=true then Oper.wp P o a w K' Q else K' (a.put o.dst undef) w):wpOp P l.toArray Q i K a w:=
 wpOp_step (by simpa using ho) h
theorem zX{i:Nat}{fuel:Nat}{b:Array Bool}{a:Act}{w:qW}(c:Region.ready md ops b=[i])
  (h:wpOp P ops Q i (λe w'=>(i=x\/S w')/\jo P md ops Q S x fuel (b.setIfInBounds i true) e w') a w):jo P md ops Q S x (fuel+1) b a w:=
 ⟨λh0=>(by rw[c]at h0;cases h0),λj d=>(by rw[c,qak]at d;subst d;exact h)⟩
theorem yR{b:Array Bool}{a:Act}{w:qW}(c:Region.ready md ops b=[])(h:Q .normal a w):
  ∀fuel,jo P md ops Q S x fuel b a w
 | 0=>⟨c,h⟩
 | _+1=>⟨λ_=>h,by rw[c];simp⟩
theorem FU{id:Nat}{a:Act}{w:qW}(S:qW->Prop)(x:Nat)(hm:P.follows .mixedOrders=true)
  (h:jo P .any ops Q S x ops.size (Array.replicate ops.size false) a w.drew):(Code.region id ops true).wp P Q a w:=
 wp_region_any hm (vP _ _ _ _ h)
end
theorem Ya{W:qW}{b o:Nat}{v:qv}(hl:b<W.heap.size)(h:W.cell? (qA b o)=some v):∀a,qK W a->a.cell? (qA b o)=some v:=λ_ d=>(d.cell (p:=(qA b o)) hl (λc=>c)).trans h
def lst(l:List Oper)(k:Nat):Array Bool:=(List.replicate k true++List.replicate (l.length - k) false).toArray
theorem Lr(l:List Oper)(k:Nat)(h:k<l.length):(lst l k).setIfInBounds k true=lst l (k+1):=by
 unfold lst;rw[qy];congr 1
 obtain⟨n,a⟩:∃n,l.length - k=n+1:=⟨l.length - k - 1,qo⟩;rw[a,List.replicate_succ,qcp _ _ qs,show l.length - (k+1)=n by omega];simp[List.replicate_succ']
def fc(md:Region.Mode)(ops:Array Oper)(i:Nat):Nat->Nat->Option (List Nat)
 | 0,_=>none
 | f+1,c=>match ops[c]? with
  | none=>none
  | some o=>
   let ds:=(o.after.toList.filter (Region.binds md)).map (·.on)
   if ds.contains i then some [] else ds.findSome? λd=>(fc md ops i f d).map (d:: ·)
section
variable {P:Program}{md:Region.Mode}{Q:Exit->Act->qW->Prop}{S:qW->Prop}{x k:Nat}{l:List Oper}
def jh(P:Program)(md:Region.Mode)(l:List Oper)(Q:Exit->Act->World->Prop)(S:World->Prop)(x fuel k:Nat)(a:Act)(w:World):Prop:=jo P md l.toArray Q S x fuel (lst l k) a w
theorem jU{id:Nat}{a:Act}{w:qW}(S:qW->Prop)(x:Nat)(h:jh P .any l Q S x l.length 0 a w.drew)(hm:P.follows .mixedOrders=true:=by kernel_rfl):(Code.region id l.toArray true).wp P Q a w:=by
 refine FU S x hm ?_;unfold jh lst at h;simpa using h
theorem nE{b:Oper}{v:qv}{fuel:Nat}{a d:Act}{w:qW}(e:S w)(h:jh P md l Q S x fuel (k+1) d w)
  (hi:l[k]?=some b:=by rfl) (f:Region.noSelect l.toArray=true:=by kernel_rfl) (hf:Region.free md l.toArray (lst l k) k=true:=by kernel_rfl) (g:(Region.ready md l.toArray (lst l k)).contains k=true:=by kernel_rfl) (hc:chainB md l.toArray (lst l k) (x::(fc md l.toArray k l.length x).getD []++[k])=true:=by kernel_rfl)
  (hQ:∀c a w,Q (.panic c) (a.put b.dst v) w->Q (.panic c) a w:=by exact λ_ _ _ h=>h) (hy:YieldsIf P l.toArray S b v a:=by(refine Or.inl ⟨by rfl,?_⟩;intro _ _;go_simp;try with_reducible rfl))
  (i:a.put b.dst v=d:=by(dsimp only[Act.put,qy,qz,qw])):jh P md l Q S x (fuel+1) k a w:=by
 refine wP _ hi f hf g hc hQ hy e ?_;rw[Lr _ _ (qae.1 hi).1,i];exact h
theorem jO{o:Oper}{fuel:Nat}{a:Act}{w:qW}(h:∀K':Act->qW->Prop,(∀a w,(k=x\/S w)->jh P md l Q S x fuel (k+1) a w->K' a w)->if Region.wanted o (yielded l.toArray a.tmps)=true then Oper.wp P o a w K' Q else K' (a.put o.dst undef) w)
  (ho:l[k]?=some o:=by rfl) (b:Region.ready md l.toArray (lst l k)=[k]:=by kernel_rfl):jh P md l Q S x (fuel+1) k a w:=by
 refine zX b (jm ho (λK c=>h K (λe w' U d=>c _ _ ⟨U,?_⟩)));rw[Lr _ _ (qae.1 ho).1];exact d
theorem Wq{a:Act}{w:qW}{fuel:Nat}(h:Q .normal a w)(hr:Region.ready md l.toArray (lst l k)=[]:=by kernel_rfl):jh P md l Q S x fuel k a w:=yR hr h _
theorem iU{o:Oper}{fuel:Nat}{a:Act}{w:qW}(h:∀K':Act->qW->Prop,(∀a w,Q .normal a w->K' a w)->if Region.wanted o (yielded l.toArray a.tmps)=true then Oper.wp P o a w K' Q else K' (a.put o.dst undef) w)
  (ho:l[x]?=some o:=by rfl) (hr:Region.ready md l.toArray (lst l x)=[x]:=by kernel_rfl) (b:Region.ready md l.toArray (lst l (x+1))=[]:=by kernel_rfl):jh P md l Q S x (fuel+1) x a w:=
 jO (λK c=>h K (λa w d=>c a w (.inl rfl) (Wq d b))) ho hr
end
section
variable {P:Program}{md:Region.Mode}{Q:Exit->Act->qW->Prop}{S:qW->Prop}{x:Nat}{l:List Oper}{listed:Array Bool}
theorem jb(k:Nat){b:Oper}{v:qv}{fuel:Nat}{a d:Act}{w:qW}(e:S w)(h:jo P md l.toArray Q S x fuel (listed.setIfInBounds k true) d w)
  (hi:l[k]?=some b:=by rfl) (f:Region.noSelect l.toArray=true:=by kernel_rfl) (hf:Region.free md l.toArray listed k=true:=by kernel_rfl) (g:(Region.ready md l.toArray listed).contains k=true:=by kernel_rfl) (hc:chainB md l.toArray listed (x::(fc md l.toArray k l.length x).getD []++[k])=true:=by kernel_rfl)
  (hQ:∀c a w,Q (.panic c) (a.put b.dst v) w->Q (.panic c) a w:=by exact λ_ _ _ h=>h) (hy:YieldsIf P l.toArray S b v a:=by(refine Or.inl ⟨by rfl,?_⟩;intro _ _;go_simp;try with_reducible rfl))
  (i:a.put b.dst v=d:=by(dsimp only[Act.put,qy,qz,qw])):jo P md l.toArray Q S x (fuel+1) listed a w:=by
 refine wP _ hi f hf g hc hQ hy e ?_;rw[i];exact h
theorem oJ(k:Nat){o:Oper}{fuel:Nat}{a:Act}{w:qW}(h:∀K':Act->qW->Prop,(∀a w,(k=x\/S w)->jo P md l.toArray Q S x fuel (listed.setIfInBounds k true) a w->K' a w)->if Region.wanted o (yielded l.toArray a.tmps)=true then Oper.wp P o a w K' Q else K' (a.put o.dst undef) w)
  (ho:l[k]?=some o:=by rfl) (b:Region.ready md l.toArray listed=[k]:=by kernel_rfl):jo P md l.toArray Q S x (fuel+1) listed a w:=
 zX b (jm ho (λK c=>h K (λe w' U d=>c _ _ ⟨U,d⟩)))
theorem xE{o:Oper}{fuel:Nat}{a:Act}{w:qW}(h:∀K':Act->qW->Prop,(∀a w,Q .normal a w->K' a w)->if Region.wanted o (yielded l.toArray a.tmps)=true then Oper.wp P o a w K' Q else K' (a.put o.dst undef) w)
  (ho:l[x]?=some o:=by rfl) (b:Region.ready md l.toArray listed=[x]:=by kernel_rfl) (c:Region.ready md l.toArray (listed.setIfInBounds x true)=[]:=by kernel_rfl):jo P md l.toArray Q S x (fuel+1) listed a w:=
 oJ x (λK d=>h K (λa w e=>d a w (.inl rfl) (yR c e _))) ho b
end
theorem JG(k:Nat)(a b:Int):∃r:Bool,∀w:qW,qC 298 #[qB k,qI a,qI b] w λe w'=>e=.returned (.bool r)/\w'=w:=by
 by_cases h0:k=0
 .subst h0;show ∃r:Bool,∀w:qW,qC 298 #[qB 0,qI a,qI b] w λe w'=>e=.returned (.bool r)/\w'=w;exact Cb
 have c:((k:Int)==0)=false:=by simp;omega
 by_cases U:k=1
 .subst U;show ∃r:Bool,∀w:qW,qC 298 #[qB 1,qI a,qI b] w λe w'=>e=.returned (.bool r)/\w'=w;clear c h0;exact Cb
 have f:((k:Int)==1)=false:=by simp;omega
 by_cases d:k=2
 .subst d;show ∃r:Bool,∀w:qW,qC 298 #[qB 2,qI a,qI b] w λe w'=>e=.returned (.bool r)/\w'=w;clear c h0 f U;exact Cb
 have i:((k:Int)==2)=false:=by simp;omega
 by_cases g:k=3
 .subst g;show ∃r:Bool,∀w:qW,qC 298 #[qB 3,qI a,qI b] w λe w'=>e=.returned (.bool r)/\w'=w;clear c h0 f U i d;exact Cb
 have l:((k:Int)==3)=false:=by simp;omega
 by_cases j:k=4
 .subst j;show ∃r:Bool,∀w:qW,qC 298 #[qB 4,qI a,qI b] w λe w'=>e=.returned (.bool r)/\w'=w;clear c h0 f U i d l g;exact Cb
 have n:((k:Int)==4)=false:=by simp;omega
 by_cases m:k=5
 .subst m;show ∃r:Bool,∀w:qW,qC 298 #[qB 5,qI a,qI b] w λe w'=>e=.returned (.bool r)/\w'=w;clear c h0 f U i d l g n j;exact Cb
 have p:((k:Int)==5)=false:=by simp;omega
 by_cases o:k=6
 .subst o;show ∃r:Bool,∀w:qW,qC 298 #[qB 6,qI a,qI b] w λe w'=>e=.returned (.bool r)/\w'=w;clear c h0 f U i d l g n j p m;exact Cb
 have s:((k:Int)==6)=false:=by simp;omega
 by_cases q:k=7
 .subst q;show ∃r:Bool,∀w:qW,qC 298 #[qB 7,qI a,qI b] w λe w'=>e=.returned (.bool r)/\w'=w;clear c h0 f U i d l g n j p m s o;exact Cb
 have u:((k:Int)==7)=false:=by simp;omega
 by_cases t:k=8
 .subst t;show ∃r:Bool,∀w:qW,qC 298 #[qB 8,qI a,qI b] w λe w'=>e=.returned (.bool r)/\w'=w;clear c h0 f U i d l g n j p m s o u q;exact Cb
 have x:((k:Int)==8)=false:=by simp;omega
 by_cases v:k=9
 .subst v;show ∃r:Bool,∀w:qW,qC 298 #[qB 9,qI a,qI b] w λe w'=>e=.returned (.bool r)/\w'=w;clear c h0 f U i d l g n j p m s o u q x t;exact Cb
 have y:((k:Int)==9)=false:=by simp;omega
 clear h0 U d g j m o q t v;exact Cb
theorem JF(k:Nat)(a b:Int):∃r:Bool,∀w:qW,qC 299 #[qB k,.int .u64 a,.int .u64 b] w λe w'=>e=.returned (.bool r)/\w'=w:=by
 by_cases h0:k=0
 .subst h0;show ∃r:Bool,∀w:qW,qC 299 #[qB 0,.int .u64 a,.int .u64 b] w λe w'=>e=.returned (.bool r)/\w'=w;exact Cc
 have c:((k:Int)==0)=false:=by simp;omega
 by_cases U:k=1
 .subst U;show ∃r:Bool,∀w:qW,qC 299 #[qB 1,.int .u64 a,.int .u64 b] w λe w'=>e=.returned (.bool r)/\w'=w;clear c h0;exact Cc
 have f:((k:Int)==1)=false:=by simp;omega
 by_cases d:k=2
 .subst d;show ∃r:Bool,∀w:qW,qC 299 #[qB 2,.int .u64 a,.int .u64 b] w λe w'=>e=.returned (.bool r)/\w'=w;clear c h0 f U;exact Cc
 have i:((k:Int)==2)=false:=by simp;omega
 by_cases g:k=3
 .subst g;show ∃r:Bool,∀w:qW,qC 299 #[qB 3,.int .u64 a,.int .u64 b] w λe w'=>e=.returned (.bool r)/\w'=w;clear c h0 f U i d;exact Cc
 have l:((k:Int)==3)=false:=by simp;omega
 by_cases j:k=4
 .subst j;show ∃r:Bool,∀w:qW,qC 299 #[qB 4,.int .u64 a,.int .u64 b] w λe w'=>e=.returned (.bool r)/\w'=w;clear c h0 f U i d l g;exact Cc
 have n:((k:Int)==4)=false:=by simp;omega
 by_cases m:k=5
 .subst m;show ∃r:Bool,∀w:qW,qC 299 #[qB 5,.int .u64 a,.int .u64 b] w λe w'=>e=.returned (.bool r)/\w'=w;clear c h0 f U i d l g n j;exact Cc
 have p:((k:Int)==5)=false:=by simp;omega
 by_cases o:k=6
 .subst o;show ∃r:Bool,∀w:qW,qC 299 #[qB 6,.int .u64 a,.int .u64 b] w λe w'=>e=.returned (.bool r)/\w'=w;clear c h0 f U i d l g n j p m;exact Cc
 have s:((k:Int)==6)=false:=by simp;omega
 by_cases q:k=7
 .subst q;show ∃r:Bool,∀w:qW,qC 299 #[qB 7,.int .u64 a,.int .u64 b] w λe w'=>e=.returned (.bool r)/\w'=w;clear c h0 f U i d l g n j p m s o;exact Cc
 have u:((k:Int)==7)=false:=by simp;omega
 by_cases t:k=8
 .subst t;show ∃r:Bool,∀w:qW,qC 299 #[qB 8,.int .u64 a,.int .u64 b] w λe w'=>e=.returned (.bool r)/\w'=w;clear c h0 f U i d l g n j p m s o u q;exact Cc
 have x:((k:Int)==8)=false:=by simp;omega
 by_cases v:k=9
 .subst v;show ∃r:Bool,∀w:qW,qC 299 #[qB 9,.int .u64 a,.int .u64 b] w λe w'=>e=.returned (.bool r)/\w'=w;clear c h0 f U i d l g n j p m s o u q x t;exact Cc
 have y:((k:Int)==9)=false:=by simp;omega
 clear h0 U d g j m o q t v;exact Cc
theorem QY(w:qW):qC 342 #[.int .u64 4294967295] w λe w'=>e=.returned (qJ 32)/\w'=w:=by
 go_enter func342,ntmps342;go_wp2;go_ret;exact⟨qk,rfl⟩
theorem QX(w:qW):qC 342 #[.int .u64 18446744073709551615] w λe w'=>e=.returned (qJ 64)/\w'=w:=by
 go_enter func342,ntmps342;go_wp2;go_ret;exact⟨qk,rfl⟩
theorem NT{x:Int}(h0:4294967296<=x)(U:65536<=x / 4294967296)(a:256<=x / 4294967296 / 65536)(b:0<=x / 4294967296 / 65536 / 256)(c:x / 4294967296 / 65536 / 256<256):∃r:Int,∀w:qW,qC 342 #[.int .u64 x] w λe w'=>e=.returned (qJ r)/\w'=w:=by
 apply Exists.intro;intro w;go_enter func342,ntmps342;exact zg
theorem NU{x:Int}(h0:4294967296<=x)(U:65536<=x / 4294967296)(a:x / 4294967296 / 65536<256)(b:0<=x / 4294967296 / 65536)(c:x / 4294967296 / 65536<256):∃r:Int,∀w:qW,qC 342 #[.int .u64 x] w λe w'=>e=.returned (qJ r)/\w'=w:=by
 apply Exists.intro;intro w;go_enter func342,ntmps342;exact zg
theorem NV{x:Int}(h0:4294967296<=x)(U:x / 4294967296<65536)(a:256<=x / 4294967296)(b:0<=x / 4294967296 / 256)(c:x / 4294967296 / 256<256):∃r:Int,∀w:qW,qC 342 #[.int .u64 x] w λe w'=>e=.returned (qJ r)/\w'=w:=by
 apply Exists.intro;intro w;go_enter func342,ntmps342;exact zg
theorem NW{x:Int}(h0:4294967296<=x)(U:x / 4294967296<65536)(a:x / 4294967296<256)(b:0<=x / 4294967296)(c:x / 4294967296<256):∃r:Int,∀w:qW,qC 342 #[.int .u64 x] w λe w'=>e=.returned (qJ r)/\w'=w:=by
 apply Exists.intro;intro w;go_enter func342,ntmps342;exact zg
theorem NY{x:Int}(h0:x<4294967296)(U:65536<=x)(a:256<=x / 65536)(b:0<=x / 65536 / 256)(c:x / 65536 / 256<256):∃r:Int,∀w:qW,qC 342 #[.int .u64 x] w λe w'=>e=.returned (qJ r)/\w'=w:=by
 apply Exists.intro;intro w;go_enter func342,ntmps342;exact zg
theorem NZ{x:Int}(h0:x<4294967296)(U:65536<=x)(a:x / 65536<256)(b:0<=x / 65536)(c:x / 65536<256):∃r:Int,∀w:qW,qC 342 #[.int .u64 x] w λe w'=>e=.returned (qJ r)/\w'=w:=by
 apply Exists.intro;intro w;go_enter func342,ntmps342;exact zg
theorem N7{x:Int}(h0:x<4294967296)(U:x<65536)(a:256<=x)(b:0<=x / 256)(c:x / 256<256):∃r:Int,∀w:qW,qC 342 #[.int .u64 x] w λe w'=>e=.returned (qJ r)/\w'=w:=by
 apply Exists.intro;intro w;go_enter func342,ntmps342;exact zg
theorem N8{x:Int}(h0:x<4294967296)(U:x<65536)(a:x<256)(b:0<=x)(c:x<256):∃r:Int,∀w:qW,qC 342 #[.int .u64 x] w λe w'=>e=.returned (qJ r)/\w'=w:=by
 apply Exists.intro;intro w;go_enter func342,ntmps342;exact zg
theorem GZ(x:Int)(hx:0<=x)(b:x<18446744073709551616):∃r:Int,∀w:qW,qC 342 #[.int .u64 x] w λe w'=>e=.returned (qJ r)/\w'=w:=by
 by_cases h0:4294967296<=x
 .by_cases U:65536<=x / 4294967296
  .by_cases a:256<=x / 4294967296 / 65536
   .exact NT h0 U a qo qo
   have a:x / 4294967296 / 65536<256:=qo;exact NU h0 U a qo qo
  have U:x / 4294967296<65536:=qo;by_cases a:256<=x / 4294967296
  .exact NV h0 U a qo qo
  have a:x / 4294967296<256:=qo;exact NW h0 U a qo qo
 have h0:x<4294967296:=qo;by_cases U:65536<=x
 .by_cases a:256<=x / 65536
  .exact NY h0 U a qo qo
  have a:x / 65536<256:=qo;exact NZ h0 U a qo qo
 have U:x<65536:=qo;by_cases a:256<=x
 .exact N7 h0 U a qo qo
 have a:x<256:=qo;exact N8 h0 U a qo qo
theorem lX(w:qW):qC 325 #[] w λe w'=>e=.returned (qJ 32)/\w'=w:=by
 have a:=qH (QY w);go_enter func325,ntmps325;go_wp2_with fail
 refine a.o.mono ?_;exact TW
theorem lW(w:qW):qC 331 #[] w λe w'=>e=.returned (qJ 64)/\w'=w:=by
 have a:=qH (QX w);go_enter func331,ntmps331;go_wp2_with fail
 refine a.o.mono ?_;exact TW
theorem Lp(x:Int):∃r:Int,∀w:qW,qC 344 #[.int .u64 x] w λe w'=>e=.returned (qJ r)/\w'=w:=by
 apply Exists.intro;intro w;go_enter func344,ntmps344;exact zg
def Gz(T:Nat->Int)(w:World):Prop:=4<w.heap.size/\∀j:Nat,j<64->w.cell? (qA 4 j)=some (qB (T j))
theorem Gz.kept{T:Nat->Int}{w w':qW}(h:Gz T w)(X:qK w w'):Gz T w':=⟨qad h.1 X.size,λj a=>(X.cell (p:=(qA 4 j)) h.1 (λc=>c)).trans (h.2 j a)⟩
theorem U4(T:Nat->Int):∃r:Int,∀w:qW,Gz T w->qC 343 #[.int .u64 0] w λe w'=>e=.returned (qJ r)/\w'=w:=by
 apply Exists.intro;intro w a;go_enter func343,ntmps343;go_wp2;go_ret;exact⟨rfl,rfl⟩
theorem U3(T:Nat->Int){x:Int}(hb:(x==0)=false):∃r:Int,∀w:qW,Gz T w->qC 343 #[.int .u64 x] w λe w'=>e=.returned (qJ r)/\w'=w:=by
 have c:0<=IntKind.u64.wrap (bits BinOp.and IntKind.u64 x (IntKind.u64.wrap (-x))*285870213051353865) / 288230376151711744/\IntKind.u64.wrap (bits BinOp.and IntKind.u64 x (IntKind.u64.wrap (-x))*285870213051353865) / 288230376151711744<64:=by rw[qcy (_*_)];omega
 have b:(IntKind.u64.wrap (bits BinOp.and IntKind.u64 x (IntKind.u64.wrap (-x))*285870213051353865) / 288230376151711744).toNat<64:=qo;apply Exists.intro;intro w a;have hc:=a.2 _ b;have d:=a.1;go_enter func343,ntmps343;exact zg
theorem KZ(T:Nat->Int)(x:Int):∃r:Int,∀w:qW,Gz T w->qC 343 #[.int .u64 x] w λe w'=>e=.returned (qJ r)/\w'=w:=by
 by_cases h:x=0
 .subst h;exact U4 T
 exact U3 T (by simp[h])
end Go.Proofs.YtfkcodlceoghpaaGreatDoor
