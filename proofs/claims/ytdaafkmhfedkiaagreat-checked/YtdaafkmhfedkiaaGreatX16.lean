import Derived.Test.YtdaafkmhfedkiaaGreatProg
import Derived.Test.YtdaafkmhfedkiaaGreatX2
namespace Go.Proofs.YtdaafkmhfedkiaaGreat
set_option maxHeartbeats 200000
set_option maxRecDepth 100000
open Go.RowKit Go.Proofs.Tryz
section
variable {P:Program} {ops:Array Oper} {Q:Exit->Act->qW->Prop} {md:Region.Mode} {S:qW->Prop} {x:Nat}
def kM(P:Program)(md:Region.Mode)(ops:Array Oper)(Q:Exit->Act->World->Prop)(S:World->Prop)(x:Nat):Nat->Array Bool->Act->World->Prop
 | 0,listed,a,w=>Region.ready md ops listed=[]/\Q .normal a w
 | fuel+1,listed,a,w=>
  (Region.ready md ops listed=[]->Q .normal a w)/\
  ∀i∈Region.ready md ops listed,wpOp P ops Q i (fun a' w'=>(i=x\/S w')/\kM P md ops Q S x fuel (listed.setIfInBounds i true) a' w') a w
theorem Ie:∀(fuel:Nat) (b:Array Bool) (a:Act) (w:qW),kM P md ops Q S x fuel b a w->wpAny P md ops Q fuel b a w
 | 0,_,_,_,h=>h
 | fuel+1,_,_,_,h=>⟨h.1,fun i c=>wpOp_mono (fun d w' h'=>Ie fuel _ d w' h'.2) (h.2 i c)⟩
def chainB(md:Region.Mode)(ops:Array Oper)(listed:Array Bool):List Nat->Bool
 | []=>true
 | [c]=>!listed.getD c true
 | c::d::rest=>!listed.getD c true&&(((ops[c]?).map (·.after.any fun e=>Region.binds md e&&e.on==d)).getD false)&&chainB md ops listed (d::rest)
theorem Od{a:Array Bool}{j i:Nat}(f:j∈Region.ready md ops a)(g:j≠i):∀(cs:qM),chainB md ops a (cs++[i])=true->∀c∈cs++[i],j≠c
 | [],h,c,hc=>by
  simp only[List.nil_append,List.mem_singleton] at hc;subst hc;exact g
 | [d],h,c,hc=>by
  simp only[List.cons_append,List.nil_append,chainB,Bool.and_eq_true] at h;simp only[List.cons_append,List.nil_append,List.mem_cons,List.not_mem_nil,or_false] at hc;rcases hc with rfl | rfl
  .rintro rfl;obtain⟨-,o,k,l⟩:=mem_ready.1 f;have L:=h.1.2;rw[k] at L;simp only[Option.map_some,Option.getD_some] at L;obtain⟨e,m,hb⟩:∃e∈o.after,(Region.binds md e&&e.on==i)=true:=by
    exact Array.any_eq_true'.1 L
   simp only[Bool.and_eq_true,beq_iff_eq] at hb;have h3:=l e m hb.1;rw[hb.2] at h3;have h4:=h.2;simp only[Bool.not_eq_true'] at h4;rcases Nat.lt_or_ge i a.size with h' | h'
   .simp[h'] at h3 h4;rw[h4] at h3;cases h3
   simp[Array.getElem?_eq_none h'] at h3
  exact g
 | d::b::rest,h,c,hc=>by
  have U:chainB md ops a ((b::rest)++[i])=true:=by
   simp only[List.cons_append,chainB,Bool.and_eq_true] at h ⊢;exact h.2
  rw[List.cons_append,List.mem_cons] at hc;rcases hc with rfl | hc
  .rintro rfl;obtain⟨-,o,k,l⟩:=mem_ready.1 f;simp only[List.cons_append,chainB,Bool.and_eq_true] at h;have L:=h.1.2;rw[k] at L;simp only[Option.map_some,Option.getD_some] at L;obtain⟨e,m,hb⟩:∃e∈o.after,(Region.binds md e&&e.on==b)=true:=by
    exact Array.any_eq_true'.1 L
   simp only[Bool.and_eq_true,beq_iff_eq] at hb;have h3:=l e m hb.1;rw[hb.2] at h3;have h4:a.getD b true=false:=by
    cases rest with
    | nil=>simp only[List.nil_append,chainB,Bool.and_eq_true,Bool.not_eq_true'] at h;exact h.2.1.1
    | cons r rs=>simp only[List.cons_append,chainB,Bool.and_eq_true,Bool.not_eq_true'] at h;exact h.2.1.1
   rcases Nat.lt_or_ge b a.size with h' | h'
   .simp[h'] at h3 h4;rw[h4] at h3;cases h3
   simp[Array.getElem?_eq_none h'] at h3
  exact Od f g (b::rest) U c hc
theorem Oc{a:Array Bool}{j:Nat}:∀(cs:qM),(∀c∈cs,j≠c)->chainB md ops a cs=true->chainB md ops (a.setIfInBounds j true) cs=true
 | [],_,_=>rfl
 | [c],hn,h=>by
  simp only[chainB] at h ⊢;rw[getD_set_ne true (hn c qs)];exact h
 | c::d::rest,hn,h=>by
  simp only[chainB,Bool.and_eq_true] at h ⊢;refine⟨⟨?_,h.1.2⟩,Oc (d::rest) (fun c' hc=>hn c' (by simp only[List.mem_cons] at hc ⊢;exact .inr hc)) h.2⟩;rw[getD_set_ne true (hn c qs)];exact h.1.1
theorem Ox{i:Nat}{g:Oper}{v:qv}{cs:qM}(q:ops[i]?=some g)(s:∀(j:Nat) (o:Oper) cs b,ops[j]?=some o->o.op≠.select cs b)
  (D:∀c a w,Q (.panic c) (a.put g.dst v) w->Q (.panic c) a w):
  ∀(fuel:Nat) (d:Array Bool) (a:Act) (w:qW),
   (∀j l,ops[j]?=some l->j≠i->d.getD j true=false->(∀e∈l.after,Region.binds md e=true->e.on≠i)->g.apart ops l=true)->
   i∈Region.ready md ops d->chainB md ops d (x::cs++[i])=true->YieldsIf P ops S g v a->S w->
   kM P md ops Q S x fuel (d.setIfInBounds i true) (a.put g.dst v) w->kM P md ops Q S x (fuel+1) d a w:=by
 intro fuel;induction fuel with
 | zero=>
  intro d a w _ m _ hy n H;refine⟨fun h=>(by rw[h] at m;cases m),fun j p=>?_⟩;by_cases f:j=i
  .subst f;exact hy.wpOp q n ⟨.inr n,H⟩
  have:=ready_mono p f;rw[H.1] at this;cases this
 | succ fuel E=>
  intro d a w t m u hy n H;refine⟨fun h=>(by rw[h] at m;cases m),fun j p=>?_⟩;by_cases f:j=i
  .subst f;exact hy.wpOp q n ⟨.inr n,H⟩
  have U:=H.2 j (ready_mono p f);have y:=Od p f (x::cs) u;have F:j≠x:=y x qs;obtain⟨z,l,r,G⟩:=mem_ready.1 p;have I:∀e∈l.after,Region.binds md e=true->e.on≠i:=fun e J hb K=>by
   have U:=G e J hb;have A:=(mem_ready.1 m).1;rw[K] at U;rcases Nat.lt_or_ge i d.size with h' | h'
   .simp[h'] at A U;rw[A] at U;cases U
   simp[Array.getElem?_eq_none h'] at U
  have L:=wpOp_putIf r (t j l r f z I) (fun cs b=>s i g cs b q) (fun cs b=>s j l cs b r) D hy U;have M:∀k ok,ops[k]?=some ok->k≠i->(d.setIfInBounds j true).getD k true=false->
    (∀e∈ok.after,Region.binds md e=true->e.on≠i)->g.apart ops ok=true:=fun k ok X N B hno=>by
   refine t k ok X N ?_ hno;by_cases C:j=k
   .subst C;exact z
   rw[getD_set_ne true C] at B;exact B
  refine wpOp_mono (fun O w' h3=>⟨h3.2.1,E (d.setIfInBounds j true) O w' M (ready_mono m (Ne.symm f)) (Oc _ y u) h3.1 (h3.2.1.resolve_left F) ?_⟩) L;rw[Array.setIfInBounds_comm _ _ f];exact h3.2.2
theorem Qm{i:Nat}{d:Oper}{v:qv}{fuel:Nat}{b:Array Bool}{a:Act}{w:qW}(cs:qM)(e:ops[i]?=some d)
  (f:Region.noSelect ops=true) (hf:Region.free md ops b i=true) (g:(Region.ready md ops b).contains i=true) (hc:chainB md ops b (x::cs++[i])=true)
  (j:∀c a w,Q (.panic c) (a.put d.dst v) w->Q (.panic c) a w) (hy:YieldsIf P ops S d v a) (k:S w)
  (h:kM P md ops Q S x fuel (b.setIfInBounds i true) (a.put d.dst v) w):kM P md ops Q S x (fuel+1) b a w:=
 Ox e (Region.noSelect_spec f) j fuel b a w (Region.free_spec e hf) (by simpa using g) hc hy k h
theorem jD{l:List Oper}{i:Nat}{d:Oper}{v:qv}{fuel:Nat}{b:Array Bool}{a:Act}{w:qW}(cs:qM)(e:l[i]?=some d)
  (f:Region.noSelect l.toArray=true) (hf:Region.free md l.toArray b i=true) (g:(Region.ready md l.toArray b).contains i=true) (hc:chainB md l.toArray b (x::cs++[i])=true)
  (j:∀c a w,Q (.panic c) (a.put d.dst v) w->Q (.panic c) a w) (hy:YieldsIf P l.toArray S d v a) (k:S w)
  (h:kM P md l.toArray Q S x fuel (b.setIfInBounds i true) (a.put d.dst v) w):kM P md l.toArray Q S x (fuel+1) b a w:=
 Qm cs (by simpa using e) f hf g hc j hy k h
theorem dn{l:List Oper}{i:Nat}{o:Oper}{K:Act->qW->Prop}{a:Act}{w:qW}(b:l[i]?=some o)
  (h:∀K':Act->qW->Prop,(∀a w,K a w->K' a w)->if Region.wanted o (yielded l.toArray a.tmps)=true then Oper.wp P o a w K' Q else K' (a.put o.dst undef) w):wpOp P l.toArray Q i K a w:=
 wpOp_step (by simpa using b) h
theorem dx{i:Nat}{fuel:Nat}{b:Array Bool}{a:Act}{w:qW}(c:Region.ready md ops b=[i])
  (h:wpOp P ops Q i (fun f w'=>(i=x\/S w')/\kM P md ops Q S x fuel (b.setIfInBounds i true) f w') a w):kM P md ops Q S x (fuel+1) b a w:=
 ⟨fun d=>(by rw[c] at d;cases d),fun j e=>(by rw[c,List.mem_singleton] at e;subst e;exact h)⟩
theorem dM{b:Array Bool}{a:Act}{w:qW}(c:Region.ready md ops b=[])(h:Q .normal a w):
  ∀fuel,kM P md ops Q S x fuel b a w
 | 0=>⟨c,h⟩
 | _+1=>⟨fun _=>h,by rw[c];simp⟩
theorem zO{id:Nat}{a:Act}{w:qW}(S:qW->Prop)(x:Nat)(b:P.follows .mixedOrders=true)
  (h:kM P .any ops Q S x ops.size (Array.replicate ops.size false) a w.drew):(Code.region id ops true).wp P Q a w:=
 wp_region_any b (Ie _ _ _ _ h)
end
theorem dX{W:qW}{b o:Nat}{v:qv}(d:b<W.heap.size)(h:W.cell? (qA b o)=some v):∀a,qK W a->a.cell? (qA b o)=some v:=fun _ e=>(e.cell (p:=(qA b o)) d (fun c=>c)).trans h
def lst(l:List Oper)(k:Nat):Array Bool:=(List.replicate k true++List.replicate (l.length - k) false).toArray
theorem VY(l:List Oper)(k:Nat)(h:k<l.length):(lst l k).setIfInBounds k true=lst l (k+1):=by
 unfold lst;rw[qy];congr 1
 obtain⟨n,a⟩:∃n,l.length - k=n+1:=⟨l.length - k - 1,qo⟩;rw[a,List.replicate_succ,List.set_append_right _ _ qs,show l.length - (k+1)=n by omega];simp[List.replicate_succ']
def fc(md:Region.Mode)(ops:Array Oper)(i:Nat):Nat->Nat->Option (List Nat)
 | 0,_=>none
 | f+1,c=>match ops[c]? with
  | none=>none
  | some o=>
   let ds:=(o.after.toList.filter (Region.binds md)).map (·.on)
   if ds.contains i then some [] else ds.findSome? fun d=>(fc md ops i f d).map (d:: ·)
section
variable {P:Program} {md:Region.Mode} {Q:Exit->Act->qW->Prop} {S:qW->Prop} {x k:Nat} {l:List Oper}
def y8(P:Program)(md:Region.Mode)(l:List Oper)(Q:Exit->Act->World->Prop)(S:World->Prop)(x fuel k:Nat)(a:Act)(w:World):Prop:=kM P md l.toArray Q S x fuel (lst l k) a w
theorem kQ{id:Nat}{a:Act}{w:qW}(S:qW->Prop)(x:Nat)(h:y8 P .any l Q S x l.length 0 a w.drew)(hm:P.follows .mixedOrders=true:=by kernel_rfl):(Code.region id l.toArray true).wp P Q a w:=by
 refine zO S x hm ?_;unfold y8 lst at h;simpa using h
theorem pQ{b:Oper}{v:qv}{fuel:Nat}{a d:Act}{w:qW}(f:S w)(h:y8 P md l Q S x fuel (k+1) d w)
  (e:l[k]?=some b:=by rfl) (g:Region.noSelect l.toArray=true:=by kernel_rfl) (hf:Region.free md l.toArray (lst l k) k=true:=by kernel_rfl) (i:(Region.ready md l.toArray (lst l k)).contains k=true:=by kernel_rfl) (hc:chainB md l.toArray (lst l k) (x::(fc md l.toArray k l.length x).getD []++[k])=true:=by kernel_rfl)
  (j:∀c a w,Q (.panic c) (a.put b.dst v) w->Q (.panic c) a w:=by exact fun _ _ _ h=>h) (hy:YieldsIf P l.toArray S b v a:=by(refine Or.inl ⟨by rfl,?_⟩;intro _ _;go_simp;try with_reducible rfl))
  (m:a.put b.dst v=d:=by(dsimp only[Act.put,qy,qz,qw])):y8 P md l Q S x (fuel+1) k a w:=by
 refine jD _ e g hf i hc j hy f ?_;rw[VY _ _ (List.getElem?_eq_some_iff.1 e).1,m];exact h
theorem Cf{o:Oper}{fuel:Nat}{a:Act}{w:qW}(h:∀K':Act->qW->Prop,(∀a w,(k=x\/S w)->y8 P md l Q S x fuel (k+1) a w->K' a w)->if Region.wanted o (yielded l.toArray a.tmps)=true then Oper.wp P o a w K' Q else K' (a.put o.dst undef) w)
  (b:l[k]?=some o:=by rfl) (c:Region.ready md l.toArray (lst l k)=[k]:=by kernel_rfl):y8 P md l Q S x (fuel+1) k a w:=by
 refine dx c (dn b (fun K d=>h K (fun e w' U L=>d _ _ ⟨U,?_⟩)));rw[VY _ _ (List.getElem?_eq_some_iff.1 b).1];exact L
theorem af9{a:Act}{w:qW}{fuel:Nat}(h:Q .normal a w)(hr:Region.ready md l.toArray (lst l k)=[]:=by kernel_rfl):y8 P md l Q S x fuel k a w:=dM hr h _
theorem uW{o:Oper}{fuel:Nat}{a:Act}{w:qW}(h:∀K':Act->qW->Prop,(∀a w,Q .normal a w->K' a w)->if Region.wanted o (yielded l.toArray a.tmps)=true then Oper.wp P o a w K' Q else K' (a.put o.dst undef) w)
  (b:l[x]?=some o:=by rfl) (hr:Region.ready md l.toArray (lst l x)=[x]:=by kernel_rfl) (c:Region.ready md l.toArray (lst l (x+1))=[]:=by kernel_rfl):y8 P md l Q S x (fuel+1) x a w:=
 Cf (fun K d=>h K (fun a w hq=>d a w (.inl rfl) (af9 hq c))) b hr
end
section
variable {P:Program} {md:Region.Mode} {Q:Exit->Act->qW->Prop} {S:qW->Prop} {x:Nat}
theorem tk{l:List Oper}{d:Oper}{v:qv}{fuel:Nat}{b:Array Bool}{a e:Act}{w:qW}(i:Nat)(cs:qM)(f:S w)(h:kM P md l.toArray Q S x fuel (b.setIfInBounds i true) e w)
  (g:l[i]?=some d:=by rfl) (j:Region.noSelect l.toArray=true:=by kernel_rfl) (hf:Region.free md l.toArray b i=true:=by kernel_rfl) (k:(Region.ready md l.toArray b).contains i=true:=by kernel_rfl) (hc:chainB md l.toArray b (x::cs++[i])=true:=by kernel_rfl)
  (m:∀c a w,Q (.panic c) (a.put d.dst v) w->Q (.panic c) a w:=by exact fun _ _ _ h=>h) (hy:YieldsIf P l.toArray S d v a:=by(refine Or.inl ⟨by rfl,?_⟩;intro _ _;go_simp;try with_reducible rfl))
  (n:a.put d.dst v=e:=by(dsimp only[Act.put,qy,qz,qw])):kM P md l.toArray Q S x (fuel+1) b a w:=
 jD cs g j hf k hc m hy f (n▸h)
end
structure fZ(w0 w:World)(l:List (Nat×List Value)):Prop where
 kept:qK w0 w
 blk:∀p∈l,(w0.heap.size<=p.1/\p.1<w.heap.size)/\kY w p.1 p.2
 nd:(l.map (·.1)).Nodup
section
variable {w0 w w':qW} {l:List (Nat×qV)} {g:Nat} {cs:qV} {p p2:Nat×qV}
theorem fZ.start(w:qW):fZ w w []:=⟨Kept.refl _ _,qs,qs⟩
theorem fZ.c(h:fZ w0 w l)(k j:Nat){v:qv}(X:l[k]?=some (g,cs):=by rfl)(hj:cs[j]?=some v:=by rfl):w.cell? (qA g j)=some v/\w.frozen? (qA g j)=false:=by
 have U:=(h.blk _ (List.mem_of_getElem? X)).2 j (List.getElem?_eq_some_iff.1 hj).1;simp only[List.getD_eq_getElem?_getD,hj,Option.getD_some] at U;exact U
theorem fZ.q(_:fZ w0 w l)(k j:Nat){v:qv}(X:l[k]?=some (g,cs):=by rfl)(hj:cs[j]?=some v:=by rfl):∀W,fZ w0 W l->W.cell? (qA g j)=some v:=fun _ h=>(h.c k j X hj).1
theorem fZ.lt(h:fZ w0 w l)(k:Nat)(X:l[k]?=some (g,cs):=by rfl):g<w.heap.size:=(h.blk _ (List.mem_of_getElem? X)).1.2
theorem fZ.ge(h:fZ w0 w l)(k:Nat)(X:l[k]?=some (g,cs)):w0.heap.size<=g:=(h.blk _ (List.mem_of_getElem? X)).1.1
theorem fZ.ne{g':Nat}{d:qV}(h:fZ w0 w l)(a b:Nat)(c:l[a]?=some (g,cs))(hb:l[b]?=some (g',d))(f:a≠b):¬g=g':=by
 intro e;have U:(l.map (·.1))[a]?=(l.map (·.1))[b]?:=by simp[c,hb,e]
 exact f ((List.getElem?_inj (by simpa using (List.getElem?_eq_some_iff.1 c).1) h.nd).1 U)
theorem fZ.to(h:fZ w0 w l)(X:qK w w'):fZ w0 w' l:=
 ⟨h.kept.trans X,fun p hp=>⟨⟨(h.blk p hp).1.1,Nat.lt_of_lt_of_le (h.blk p hp).1.2 X.size⟩,(h.blk p hp).2.kept X (h.blk p hp).1.2 (fun c=>c)⟩,h.nd⟩
theorem fZ.alloc(h:fZ w0 w l)(o:Obj):fZ w0 (w.alloc o) l:=h.to (qr.alloc o)
theorem fZ.drew(h:fZ w0 w l):fZ w0 w.drew l:=h.to qr.drew
theorem fZ.drewN(h:fZ w0 w l)(k:Nat):fZ w0 (w.drewN k) l:=h.to (qr.drewN k)
theorem fZ.set(h:fZ w0 w l)(k j:Nat)(v:qv)(X:l[k]?=some (g,cs):=by rfl):fZ w0 (w.setCell (qA g j) v) (l.set k (g,cs.set j v)):=by
 obtain⟨hkl,hk'⟩:=List.getElem?_eq_some_iff.1 X;refine⟨h.kept.setCell (p:=(qA g j)) (fun c=>absurd (h.ge k X) (by simp at c;omega)) _,fun p hp=>?_,?_⟩
 .obtain⟨n,hn⟩:=List.mem_iff_getElem?.1 hp;rw[List.getElem?_set] at hn;split at hn
  .rename_i e;subst e;cases hn;have U:=h.blk _ (List.mem_of_getElem? X);exact⟨by simpa using U.1,U.2.set j v⟩
  rename_i e;have U:=h.blk p (List.mem_of_getElem? hn);exact⟨by simpa using U.1,U.2.dA (h.ne k n X hn e) v⟩
 have e:(l.set k (g,cs.set j v)).map (·.1)=l.map (·.1):=by
  have e1:(l.map (·.1))[k]'(by simpa using hkl)=g:=by simp[hk']
  rw[List.map_set];simp only[<-e1];exact List.set_getElem_self _
 rw[e];exact h.nd
theorem fZ.add(h:fZ w0 w l)(X:qK w w')(c:w.heap.size<=g)(d:g<w'.heap.size)(hb:kY w' g cs):fZ w0 w' (l++[(g,cs)]):=by
 have U:=h.to X;refine⟨U.kept,fun p hp=>?_,?_⟩
 .rcases List.mem_append.1 hp with hp | hp
  .exact U.blk p hp
  cases List.mem_singleton.1 hp;exact⟨⟨Nat.le_trans h.kept.size c,d⟩,hb⟩
 rw[List.map_append,List.nodup_append];refine⟨h.nd,qs,fun a f b hb e=>?_⟩;simp only[List.map_cons,List.map_nil,List.mem_singleton] at hb;obtain⟨p,hp,rfl⟩:=List.mem_map.1 f;have:=(h.blk p hp).1.2;omega
theorem fZ.new(h:fZ w0 w l)(c:Array qv)(t:TypeId):fZ w0 (w.alloc (.cells c t)) (l++[(w.heap.size,c.toList)]):=
 h.add (qr.alloc _) qR qs (kY.new w c t)
theorem fZ.Ue(h:fZ w0 w l)(c:Array qv)(t:TypeId)(g:Nat)(b:w.heap.size=g):fZ w0 (w.alloc (.cells c t)) (l++[(g,c.toList)]):=b▸h.new c t
theorem fZ.sub(h:fZ w0 w l){b:List (Nat×qV)}(c:List.Sublist b l):fZ w0 w b:=
 ⟨h.kept,fun p hp=>h.blk p (c.mem hp),h.nd.sublist (c.map _)⟩
theorem fZ.cL(h:fZ w0 w (l++[(g,cs)]))(j:Nat){v:qv}(hj:cs[j]?=some v:=by rfl):w.cell? (qA g j)=some v/\w.frozen? (qA g j)=false:=h.c l.length j qs hj
theorem fZ.qL(_:fZ w0 w (l++[(g,cs)]))(j:Nat){v:qv}(hj:cs[j]?=some v:=by rfl):∀W,fZ w0 W (l++[(g,cs)])->W.cell? (qA g j)=some v:=fun _ h=>(h.cL j hj).1
theorem fZ.ltL(h:fZ w0 w (l++[(g,cs)])):g<w.heap.size:=h.lt l.length (cs:=cs) qs
theorem fZ.afG(h:fZ w0 w (l++[(g,cs)]))(j:Nat)(v:qv):fZ w0 (w.setCell (qA g j) v) (l++[(g,cs.set j v)]):=by
 have:=h.set l.length j v (g:=g) (cs:=cs) qs;simpa using this
theorem fZ.app(h:fZ w0 w l){E:TypeId}{size A:Nat}{ys:qV}(d:w'.ownsRow w.heap.size E size (.slice (some (qA g 0)) 1 A) 1 ys)(e:w.grownBy w' (Value.slice none 0 0).ownBlock)(f:ys.length=size):fZ w0 w' (l++[(g,ys)]):=by
 have X:qK w w':=(Kept.iB e).mono (fun k _ c=>by simp[Value.ownBlock] at c);have L:=d.lt g rfl;refine h.add X L.1 L.2 (fun i j=>?_);rcases d.2 with⟨b,_⟩ | ⟨g',A,cur,b,hb,hgg,U,L,h3,h4⟩
 .cases b
 cases b;refine⟨?_,by simp[World.frozen?,hgg]⟩;have hi':i<1*size:=qo;exact agn
variable {P:Program} {o:Oper} {a:Act} {W:qW} {s x:Operand} {t E:TypeId} {z:qv} {size bytes:Nat} {news:qV}
theorem Ov{K:Act->qW->Prop}{Q:Exit->Act->qW->Prop}(c:(P.info? E).map (fun i=>(i.zero,i.size,i.bytes))=some (some z,size,bytes))(d:P.underlying t=some (.slice E))(h:fZ w0 W l)
  (e:∀g A w',fZ w0 w' (l++[(g,news)])->K (a.put o.dst (.slice (some (qA g 0)) 1 A)) w')
  (f:o.op=.call {callee:=.builtin .append,args:= #[s,x],argTypes:= #[t,t]}:=by rfl) (k:a.eval s=qN:=by rfl) {b:Nat} (hx:a.eval x=.slice (some (qA b 0)) 1 1:=by rfl) (hb:W.heap.size=b:=by first | rfl | simp)
  (m:z.cells.size=size:=by rfl) (n:0<size:=by omega) (G:bytes<=1000:=by omega) (q:news.length=size:=by rfl) (U:∀u∈news,u.oneCell'=true:=by simp[Value.oneCell']):o.wp P a (W.alloc (.cells news.toArray E)) K Q:=by
 obtain⟨r,v,y,B,C⟩:=info_parts c;subst hb;refine wp_append_lies _ s x t f (W.heap.size+1) E r z size bytes d v y B C m n (qN) 0 [] k (World.ownsRow_nil _ _ _ _) ⟨W.heap.size,0,none⟩ 1 1 news hx qo
  (fun j u D=>World.news_of_block (cs:=news.toArray) (t:=E) (fr:=(0,0)) (heap_alloc_new W _) j u (by simpa using D)) U qo (by unfold maxLen;omega) qo qs (W.heap.size+1) qs (fun g A w' L h3 h4 h5=>e g A w' ?_)
 have F:w'.ownsRow (W.alloc (.cells news.toArray E)).heap.size E size (.slice (some (qA g 0)) 1 A) 1 news:=by simpa using L
 exact(h.alloc _).app F h3 q
theorem yL{K:Act->qW->Prop}{Q:Exit->Act->qW->Prop}{c:Array Oper}{F:Prop}(d:(P.info? E).map (fun i=>(i.zero,i.size,i.bytes))=some (some z,size,bytes))(e:P.underlying t=some (.slice E))(h:fZ w0 W l)
  (f:∀g A w',fZ w0 w' (l++[(g,news)])->K (a.put o.dst (.slice (some (qA g 0)) 1 A)) w') (j:o.guard=none:=by rfl)
  (k:o.op=.call {callee:=.builtin .append,args:= #[s,x],argTypes:= #[t,t]}:=by rfl) (m:a.eval s=qN:=by rfl) {b:Nat} (hx:a.eval x=.slice (some (qA b 0)) 1 1:=by rfl) (hb:W.heap.size=b:=by first | rfl | simp)
  (n:z.cells.size=size:=by rfl) (q:0<size:=by omega) (r:bytes<=1000:=by omega) (v:news.length=size:=by rfl) (U:∀u∈news,u.oneCell'=true:=by simp[Value.oneCell']):if Region.wanted o (yielded c a.tmps)=true then Oper.wp P o a (W.alloc (.cells news.toArray E)) K Q else F:=by
 rw[if_pos (by simp[Region.wanted,j])];exact Ov d e h f k m hx hb n q r v U
theorem fZ.rm(h:fZ w0 w l)(k:Nat):fZ w0 w (l.eraseIdx k):=h.sub (List.eraseIdx_sublist _ _)
theorem fZ.left(h:fZ w0 w (l++[p])):fZ w0 w l:=h.sub (List.sublist_append_left _ _)
theorem fZ.drop2(h:fZ w0 w (l++[p]++[p2])):fZ w0 w (l++[p2]):=h.sub (List.Sublist.append (List.sublist_append_left _ _) (List.Sublist.refl _))
def AJ(w0:World)(v:Value)(l:List (Nat×List Value))(e:Ending)(w':World):Prop:=e=.returned v/\fZ w0 w' l
end
theorem Tn{P:Program}{d:Region.Mode}{b:Array Oper}{Q:Exit->Act->qW->Prop}{S:qW->Prop}{x i j fuel:Nat}{e:Array Bool}{a:Act}{w:qW}(g:Region.ready d b e=[i,j])
  (U:wpOp P b Q i (fun f w'=>(i=x\/S w')/\kM P d b Q S x fuel (e.setIfInBounds i true) f w') a w) (L:wpOp P b Q j (fun f w'=>(j=x\/S w')/\kM P d b Q S x fuel (e.setIfInBounds j true) f w') a w):kM P d b Q S x (fuel+1) e a w:=
 ⟨fun h=>(by rw[g] at h;cases h),fun k X=>(by rw[g] at X;rcases List.mem_cons.1 X with rfl | X;exact U;cases List.mem_singleton.1 X;exact L)⟩
theorem Bv{P:Program}{Q:Exit->Act->qW->Prop}{ops:List Oper}{w0 w:qW}{l:List (Nat×qV)}{id:Nat}{a:Act}(_:fZ w0 w l)(x:Nat)(hh:y8 P .any ops Q (fun W=>fZ w0 W l) x ops.length 0 a w.drew)(hm:P.follows .mixedOrders=true:=by kernel_rfl):(Code.region id ops.toArray true).wp P Q a w:=kQ _ x hh hm
def toks:List (Nat×qS×Nat):=[(40,⟨#[40]⟩,0),(119,⟨#[109,111,100,117,108,101]⟩,1),(40,⟨#[40]⟩,8),(119,⟨#[102,117,110,99]⟩,9),(119,⟨#[36,105,100]⟩,14),(40,⟨#[40]⟩,18),(119,⟨#[112,97,114,97,109]⟩,19),(119,⟨#[36,120]⟩,25),(119,⟨#[105,51,50]⟩,28),(41,⟨#[41]⟩,31),(40,⟨#[40]⟩,33),(119,⟨#[114,101,115,117,108,116]⟩,34),(119,⟨#[105,51,50]⟩,41),(41,⟨#[41]⟩,44),(119,⟨#[108,111,99,97,108,46,103,101,116]⟩,46),(119,⟨#[36,120]⟩,56),(41,⟨#[41]⟩,58),(40,⟨#[40]⟩,60),(119,⟨#[101,120,112,111,114,116]⟩,61),(113,⟨#[105,100]⟩,68),(40,⟨#[40]⟩,73),(119,⟨#[102,117,110,99]⟩,74),(119,⟨#[36,105,100]⟩,79),(41,⟨#[41]⟩,82),(41,⟨#[41]⟩,83),(41,⟨#[41]⟩,84),(0,⟨#[]⟩,85)]
def zT(t:Nat×qS×Nat):List Value:=[qB t.1,.string t.2.1,qJ t.2.2]
def txC(tb A i Y:Nat)(ids uses:Value):List Value:=[.slice (some (qA tb 0)) 27 A,qJ i,qP Y,qJ 0,qJ 0,ids,uses,qJ (-1),qJ (-1),qJ (-1),qJ 0,qN]
section
variable {w0 w:qW} {x tb A i Y:Nat} {ids uses:qv} {r:List (Nat×qV)} {c p:Nat} {s:qS}
theorem Dk:∀{ts:List (Nat×qS×Nat)} {k:Nat} {t:Nat×qS×Nat},ts[k]?=some t->∀o,o<3->(ts.flatMap zT)[k*3+o]?=(zT t)[o]?
 | [],k,t,h,_,_=>by simp at h
 | y::ys,0,t,h,o,ho=>by
  simp at h;subst h;have:o=0\/o=1\/o=2:=qo;rcases this with rfl | rfl | rfl<;>rfl
 | y::ys,k+1,t,h,o,ho=>by
  have U:=Dk (ts:=ys) (k:=k) (by simpa using h) o ho;rw[List.flatMap_cons,List.getElem?_append_right (by simp[zT];omega),<-U];congr 1
  simp[zT];omega
abbrev TL(x tb A i Y:Nat)(ids uses:Value)(r:List (Nat×List Value)):List (Nat×List Value):=(x,txC tb A i Y ids uses)::(tb,toks.flatMap zT)::r
theorem TL.c0:∀W,fZ w0 W (TL x tb A i Y ids uses r)->W.cell? (qA x 0)=some (.slice (some (qA tb 0)) 27 A):=fun _ h=>(h.c 0 0 rfl rfl).1
theorem TL.c1:∀W,fZ w0 W (TL x tb A i Y ids uses r)->W.cell? (qA x 1)=some (qJ i):=fun _ h=>(h.c 0 1 rfl rfl).1
theorem TL.tok(k:Nat)(a:toks[k]?=some (c,s,p)):∀W,fZ w0 W (TL x tb A i Y ids uses r)->W.cell? ⟨tb,k*3,none⟩=some (qB c)/\W.cell? ⟨tb,k*3+1,none⟩=some (.string s)/\W.cell? ⟨tb,k*3+2,none⟩=some (qJ p):=fun _ h=>
 ⟨(h.c 1 _ rfl (Dk a 0 qo)).1,(h.c 1 _ rfl (Dk a 1 qo)).1,(h.c 1 _ rfl (Dk a 2 qo)).1⟩
theorem iR(h:fZ w0 w (TL x tb A i Y ids uses r))(b:toks[i]?=some (c,s,p)):
  qC 20 #[qP x] w (AJ w0 (.agg #[qB c,.string s,qJ p]) (TL x tb A i Y ids uses r)):=by
 have f:(i:Int)<27:=by have:i<27:=(List.getElem?_eq_some_iff.1 b).1;omega
 have H:=hide h;have g:= @TL.c0 w0 x tb A i Y ids uses r;have j:= @TL.c1 w0 x tb A i Y ids uses r;have k:= @TL.tok w0 x tb A i Y ids uses r c p s i b;clear b h;go_enter func20,ntmps20;go_wp2_with fail
 have d:=H.o.alloc (.cells #[qB 0,.string ⟨#[]⟩,qJ 0] 54);refine Bv d 10 ?_;iterate 10 refine pQ d.drew ?_
 refine uW (fun K e=>?_);go_simp;refine e _ _ ?_;go_wp2;refine bodyPost_ret (v:=.agg #[qB c,.string s,qJ p]) ?_ rfl ?_
 .simp[results,results20,go_sem]
 exact⟨rfl,(H.o.alloc _).drew⟩
theorem Dc(h:fZ w0 w (TL x tb A i Y ids uses r))(d:toks[i+1]?=some (c,s,p)):
  qC 19 #[qP x] w (AJ w0 (.agg #[qB c,.string s,qJ p]) (TL x tb A i Y ids uses r)):=by
 have f:(i:Int)+1<27:=by have:i+1<27:=(List.getElem?_eq_some_iff.1 d).1;omega
 have H:=hide h;have hx:=h.lt 0;have g:= @TL.c0 w0 x tb A i Y ids uses r;have j:= @TL.c1 w0 x tb A i Y ids uses r;have k:= @TL.tok w0 x tb A i Y ids uses r c p s (i+1) d;clear d h;have l:IntKind.i64.wrap ((i:Int)+1)=(i:Int)+1:=IntWalk.i64_in _ ⟨qo,qo⟩;have m:(0:Int)<=(i:Int)+1:=qo;go_enter func19,ntmps19;go_wp2_with fail
 have b:=H.o.alloc (.cells #[qB 0,.string ⟨#[]⟩,qJ 0] 54);refine Bv b 10 ?_;iterate 10 refine pQ b.drew ?_
 refine uW (fun K e=>?_);go_simp;refine e _ _ ?_;go_wp2_with fail
 refine Bv b.drew 11 ?_;iterate 11 refine pQ b.drew.drew ?_
 refine uW (fun K e=>?_);go_simp;refine e _ _ ?_;go_wp2;refine bodyPost_ret (v:=.agg #[qB c,.string s,qJ p]) ?_ rfl ?_
 .simp[results,results19,go_sem]
 exact⟨rfl,(H.o.alloc _).drew.drew⟩
theorem ft(a b c:qv)(w:qW):(Instr.field 54 (.agg #[a,b,c]) 0).run prog w=.ok a w/\(Instr.field 54 (.agg #[a,b,c]) 1).run prog w=.ok b w/\(Instr.field 54 (.agg #[a,b,c]) 2).run prog w=.ok c w:=⟨qk,qk,qk⟩
theorem Mc{c:Nat}{n:Int}(h:¬(c:Int)=n):((c:Int)==n)=false:=beq_eq_false_iff_ne.2 h
theorem vG(h:fZ w0 w (TL x tb A i Y ids uses r))(a:toks[i]?=some (c,s,p))(q:qS):
  qC 40 #[qP x,.string q] w (AJ w0 (.bool (c==119&&s.toList==q.toList)) (TL x tb A i Y ids uses r)):=by
 have H:=hide h;have b:=hide a;have hf:=ft;clear a h;go_enter func40,ntmps40;go_wp2_with fail
 refine(iR H.o b.o).mono ?_;rintro e d ⟨rfl,U⟩;by_cases hc:c=119
 .subst hc;go_wp2_with fail
  refine(iR U b.o).mono ?_;rintro e f ⟨rfl,L⟩;go_wp2;go_ret;exact⟨rfl,L⟩
 have g:=Mc (c:=c) (n:=119) qo;go_wp2;go_ret;exact⟨by simp[hc],U⟩
theorem zz(h:fZ w0 w (TL x tb A i Y ids uses r))(a:toks[i]?=some (c,s,p)){c' p':Nat}{s':qS}(b:c=40->toks[i+1]?=some (c',s',p'))(q:qS):
  qC 17 #[qP x,.string q] w (AJ w0 (.bool (c==40&&(c'==119&&s'.toList==q.toList))) (TL x tb A i Y ids uses r)):=by
 have H:=hide h;have f:=hide a;have g:=hide b;have hf:=ft;obtain⟨k,-⟩:=h.c 0 3;have hx:=h.lt 0;clear a h b;go_enter func17,ntmps17;go_wp2_with fail
 refine(iR H.o f.o).mono ?_;rintro e l ⟨rfl,U⟩;by_cases hc:c=40
 .have HU':=hide (g.o hc);subst hc;go_wp2_with fail
  refine(Dc U HU'.o).mono ?_;rintro e m ⟨rfl,L⟩;by_cases d:c'=119
  .subst d;go_wp2_with fail
   refine(Dc L HU'.o).mono ?_;rintro e t ⟨rfl,h3⟩;go_wp2;go_ret;exact⟨rfl,h3⟩
  have j:=Mc (c:=c') (n:=119) qo;go_wp2;go_ret;exact⟨by simp[d],L⟩
 have j:=Mc (c:=c) (n:=40) qo;go_wp2;go_ret;exact⟨by simp[hc],U⟩
theorem Oj(h:fZ w0 w (TL x tb A i Y ids uses r))(a:toks[i]?=some (40,s,p)){p':Nat}{s':qS}(b:toks[i+1]?=some (119,s',p')):
  qC 45 #[qP x,.string s'] w (AJ w0 (.bool true) (TL x tb A (i+2) Y ids uses r)):=by
 have H:=hide h;have d:=hide a;have f:=hide b;have g:IntKind.i64.wrap ((i:Int)+2)=(i:Int)+2:=by have:i<27:=(List.getElem?_eq_some_iff.1 a).1;exact IntWalk.i64_in _ ⟨qo,qo⟩
 clear a h b;go_enter func45,ntmps45;go_wp2_with fail
 refine(zz H.o d.o (fun _=>f.o) s').mono ?_;rintro e j ⟨rfl,U⟩;obtain⟨k,l⟩:=U.c 0 1;have hx:=U.lt 0;rw[show(40==40&&(119==119&&s'.toList==s'.toList))=true by simp];go_wp2;go_ret;exact⟨rfl,U.set 0 1 (qJ ((i+2:Nat):Int)) rfl⟩
theorem KI(h:fZ w0 w (TL x tb A i Y ids uses r))(a:toks[i]?=some (c,s,p)){c' p':Nat}{s':qS}(b:c=40->toks[i+1]?=some (c',s',p'))(q:qS)(d:(c==40&&(c'==119&&s'.toList==q.toList))=false):
  qC 45 #[qP x,.string q] w (AJ w0 (.bool false) (TL x tb A i Y ids uses r)):=by
 have H:=hide h;have f:=hide a;have g:=hide b;have j:=hide d;clear a h b d;go_enter func45,ntmps45;go_wp2_with fail
 refine(zz H.o f.o g.o q).mono ?_;rintro e k ⟨rfl,U⟩;rw[j.o];go_wp2;go_ret;exact⟨rfl,U⟩
theorem vJ(h:fZ w0 w (TL x tb A i Y ids uses r))(a:toks[i]?=some (c,s,p)):
  qC 15 #[qP x,qB c] w (AJ w0 (.tuple #[]) (TL x tb A (i+1) Y ids uses r)):=by
 have H:=hide h;have b:=hide a;have hf:=ft;have d:IntKind.i64.wrap ((i:Int)+1)=(i:Int)+1:=by have:i<27:=(List.getElem?_eq_some_iff.1 a).1;exact IntWalk.i64_in _ ⟨qo,qo⟩
 clear a h;go_enter func15,ntmps15;go_wp2_with fail
 refine(iR H.o b.o).mono ?_;rintro e f ⟨rfl,U⟩;exact afa
theorem Yy(h:fZ w0 w (TL x tb A i Y ids uses r))(a:toks[i]?=some (119,s,p)):
  qC 16 #[qP x,.string s] w (AJ w0 (.tuple #[]) (TL x tb A (i+1) Y ids uses r)):=by
 have H:=hide h;have b:=hide a;have d:IntKind.i64.wrap ((i:Int)+1)=(i:Int)+1:=by have:i<27:=(List.getElem?_eq_some_iff.1 a).1;exact IntWalk.i64_in _ ⟨qo,qo⟩
 clear a h;go_enter func16,ntmps16;go_wp2_with fail
 refine(vG H.o b.o s).mono ?_;rintro e f ⟨rfl,U⟩;rw[show(119==119&&s.toList==s.toList)=true by simp];exact afa
theorem Vv(h:fZ w0 w (TL x tb A i Y ids uses r))(a:toks[i]?=some (41,s,p)):
  qC 22 #[qP x] w (AJ w0 (.tuple #[]) (TL x tb A (i+1) Y ids uses r)):=by
 have H:=hide h;have b:=hide a;have hf:=ft;have d:IntKind.i64.wrap ((i:Int)+1)=(i:Int)+1:=by have:i<27:=(List.getElem?_eq_some_iff.1 a).1;exact IntWalk.i64_in _ ⟨qo,qo⟩
 clear a h;go_enter func22,ntmps22;go_wp2_with fail
 refine(iR H.o b.o).mono ?_;rintro e f ⟨rfl,U⟩;exact afa
end
section
variable {w0 w:qW} {x tb A i Y:Nat} {ids uses:qv} {r:List (Nat×qV)} {c p:Nat} {s n:qS}
def Qh(s n:qS):Prop:=(s=⟨#[36,105,100]⟩/\n=⟨#[105,100]⟩)\/(s=⟨#[36,120]⟩/\n=⟨#[120]⟩)
theorem Vp(a:Qh s n)(w:qW)(m:Int):qC 116 #[.string s,.int .u64 m] w fun e w'=>e=.returned (.tuple #[.int .u64 0,.bool false])/\w'=w:=by
 rcases a with⟨rfl,rfl⟩ | ⟨rfl,rfl⟩
 .have b:(((⟨#[36,105,100]⟩:qS)[0]' qx).toNat:Int)=36:=rfl;exact ad6
 have b:(((⟨#[36,120]⟩:qS)[0]' qx).toNat:Int)=36:=rfl;exact ad6
theorem Oq(h:fZ w0 w (TL x tb A i Y ids uses r))(a:toks[i]?=some (119,s,p))(b:Qh s n):
  qC 72 #[qP x] w (AJ w0 (.tuple #[qJ 0,.bool false]) (TL x tb A i Y ids uses r)):=by
 have H:=hide h;have d:=hide a;have f:=hide b;have hf:=ft;clear a h b;go_enter func72,ntmps72;go_wp2_with fail
 refine(iR H.o d.o).mono ?_;rintro e j ⟨rfl,U⟩;go_wp2_with fail
 refine(Vp f.o _ _).mono ?_;rintro e g ⟨rfl,rfl⟩;obtain⟨k,-⟩:=U.c 0 3;have hx:=U.lt 0;go_wp2_with fail
 refine(iR U d.o).mono ?_;rintro e g ⟨rfl,L⟩;go_wp2;go_ret2
 exact⟨rfl,L⟩
theorem YB(h:fZ w0 w (TL x tb A i Y (qN) uses r))(a b:qS):
  qC 23 #[qP x,.string a,.string b] w (AJ w0 (qJ (-1)) (TL x tb A i Y (qN) uses r)):=by
 have H:=hide h;obtain⟨d,-⟩:=h.c 0 5;have hx:=h.lt 0;clear h;exact ad5
theorem YA{g d k:Nat}{a b:qS}(h:fZ w0 w (TL x tb A i Y (.slice (some (qA g 0)) 1 d) uses r))(X:r[k]?=some (g,[.string a,.string b,qJ 0])):
  qC 23 #[qP x,.string a,.string b] w (AJ w0 (qJ 0) (TL x tb A i Y (.slice (some (qA g 0)) 1 d) uses r)):=by
 have H:=hide h;obtain⟨e,-⟩:=h.c 0 5;obtain⟨f,-⟩:=h.c (k+2) 0 X rfl;obtain⟨j,-⟩:=h.c (k+2) 1 X rfl;obtain⟨l,-⟩:=h.c (k+2) 2 X rfl;have hx:=h.lt 0;have m:=h.lt (k+2) X;clear h X;exact ad5
end
end Go.Proofs.YtdaafkmhfedkiaaGreat
