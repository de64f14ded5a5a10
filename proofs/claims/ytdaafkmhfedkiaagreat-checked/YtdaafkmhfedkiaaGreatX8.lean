import Derived.Test.YtdaafkmhfedkiaaGreatX7
namespace Go.Proofs.YtdaafkmhfedkiaaGreat
set_option maxHeartbeats 1600000
set_option maxRecDepth 100000
open Go.RowKit Go.Proofs.Tryz
section
variable {α:Type} {tM:qS->Nat->Nat->Except Err (α×Nat)} {s:qS} {n:Nat} {P:α->Prop}
theorem CF(c:∀i x j,tM s n i=.ok (x,j)->P x):∀(k:Nat) (M:List α) (j:Nat) {xs:List α} {a:Nat},(∀x∈M,P x)->eO tM s n k M j=.ok (xs,a)->xs.length=M.length+k/\∀x∈xs,P x
 | 0,M,j,xs,a,ha,h=>by simp[eO] at h;obtain⟨rfl,-⟩:=h;exact⟨rfl,ha⟩
 | k+1,M,j,xs,a,ha,h=>by
  unfold eO at h;rcases b:tM s n j with e|⟨x,d⟩
  .rw[b] at h;cases h
  rw[b] at h;have:=CF c k (M++[x]) d (by
   intro y hy;rcases List.mem_append.1 hy with hy | hy
   .exact ha y hy
   simp at hy;subst hy;exact c _ _ _ b) h
  refine⟨?_,this.2⟩;have U:=this.1;simp at U;omega
theorem Fa{most i:Nat}{xs:List α}{j:Nat}(b:∀i x j,tM s n i=.ok (x,j)->P x)(h:dY most tM s n i=.ok (xs,j)):xs.length<=most/\∀x∈xs,P x:=by
 unfold dY at h;rcases a:eZ most s n i with e|⟨k,c⟩
 .rw[a] at h;cases h
 rw[a] at h;have hc:=(gD a).1;have:=CF b k [] c qs h;refine⟨?_,this.2⟩;have U:=this.1;simp at U;omega
end
theorem WX{s:qS}{n i j:Nat}{t:Ty}(h:vT s n i=.ok (t,j)):t.ins.length<=8:=by
 unfold vT at h;split at h
 .cases h
 split at h
 .cases h
 rename_i U;split at h
 .cases h
 cases h;exact(Fa (P:=fun _=>True) (fun _ _ _ _=>trivial) U).1
theorem DV{s:qS}{n:Nat}:∀(k:Nat) (M:qM) (j:Nat) {xs:qM} {a:Nat},M.length<=50->iJ s n k M j=.ok (xs,a)->xs.length<=50
 | 0,M,j,xs,a,ha,h=>by simp[iJ] at h;obtain⟨rfl,-⟩:=h;exact ha
 | k+1,M,j,xs,a,ha,h=>by
  unfold iJ at h;rcases b:eZ (50 - M.length) s n j with e|⟨c,d⟩
  .rw[b] at h;cases h
  rw[b] at h;have hc:=(gD b).1;simp only at h;rcases X:kJ s n d with e|⟨f,g⟩
  .rw[X] at h;cases h
  rw[X] at h;exact DV k _ _ qt h
theorem Vd{s:qS}{n i j:Nat}{x:YQ}(h:vg s n i=.ok (x,j)):x.1.length<=50:=by
 obtain⟨a,b,h⟩:=zS h;unfold oK at h;split at h
 .cases h
 rename_i ls c U;split at h
 .cases h
 cases h;unfold nJ at U;split at U
 .cases U
 exact DV _ _ _ qs U
theorem aek{s:qS}{n i j:Nat}{x:Int×Nat}(h:uM s n i=.ok (x,j)):0<=x.1/\x.1<=4294967295:=by
 obtain⟨v,a⟩:=x;have:=mW h;exact⟨this.1,this.2.1⟩
theorem Tq{α:Type}{tM:qS->Nat->Nat->Except Err (α×Nat)}{s:qS}{n i:Nat}{x:α}{j:Nat}(h:fK tM s n i=.ok (x,j)):i<j:=by
 unfold fK at h;split at h
 .cases h
 rename_i v a c b;have:=mW b;split at h
 .split at h<;>cases h
 split at h
 .cases h
 split at h
 .cases h
 cases h;omega
theorem UT{m b:fE}{last x:Nat}{s:qS}{n i j:Nat}(g:KJ m last)(a:last<jL x)(k:Ready m x)(h:uZ m x s n i=.ok (b,j)):KJ b (jL x):=by
 obtain⟨hf,h8,h10,h12⟩:=g;obtain⟨l,o⟩:=k.known;rcases(show x=0\/x=1\/x=3\/x=4\/x=5\/x=6\/x=7\/x=8\/x=9\/x=10\/x=11 by omega) with rfl | rfl | rfl | rfl | rfl | rfl | rfl | rfl | rfl | rfl | rfl;all_goals
  first
  | have a:last<1:=a
  | skip
 .have h:oD m s n i=.ok (b,j):=h;have e:b.dm=m.dm/\b.funcs=m.funcs/\b.dQ=m.dQ:=by
   unfold oD at h;split at h
   .cases h
   split at h
   .cases h
   rename_i d;obtain⟨xs,rfl⟩:=Jt d;rcases Ni h with rfl | ⟨_,_,h⟩
   .exact⟨rfl,rfl,rfl⟩
   unfold gq at h;split at h
   .cases h
   split at h
   .cases h
   cases h;exact⟨rfl,rfl,rfl⟩
  refine⟨⟨?_,?_,?_,?_,?_⟩,fun c=>absurd c qx,fun c=>absurd c qx,fun c=>absurd c qx⟩
  .rw[e.1];exact hf.dm
  .rw[e.1];exact hf.ins
  .rw[e.2.1];exact hf.funcs
  .rw[e.2.1];exact hf.nums
  rw[e.2.2];exact hf.QW
 .have h:wQ m s n i=.ok (b,j):=h;unfold wQ at h;split at h
  .cases h
  rename_i d;cases h;have:=Fa (P:=fun t:Ty=>t.ins.length<=8) (fun _ _ _ f=>WX f) d;exact⟨⟨this.1,this.2,hf.funcs,hf.nums,hf.QW⟩,fun _=>h8 qo,fun _=>h10 qo,fun _=>h12 qo⟩
 .have a:last<3:=a;have h:wP m s n i=.ok (b,j):=h;unfold wP at h;split at h
  .cases h
  rename_i d;cases h;have:=Fa (P:=fun x:Int×Nat=>0<=x.1/\x.1<=4294967295) (fun _ _ _ f=>aek f) d;exact⟨⟨hf.dm,hf.ins,this.1,this.2,hf.QW⟩,fun _=>h8 qo,fun _=>h10 qo,fun _=>h12 qo⟩
 .have a:last<4:=a;have h:wO m s n i=.ok (b,j):=h;unfold wO at h;exact ac3
 .have a:last<5:=a;have h:wM m s n i=.ok (b,j):=h;unfold wM at h;exact ac3
 .have a:last<6:=a;have h:wL m s n i=.ok (b,j):=h;unfold wL at h;exact ac3
 .have a:last<7:=a;have h:wK m s n i=.ok (b,j):=h;unfold wK at h;exact ac3
 .have a:last<8:=a;have h:wJ m s n i=.ok (b,j):=h;unfold wJ at h;exact ad9
 .have a:last<9:=a;have h:wI m s n i=.ok (b,j):=h;unfold wI at h;exact ad9
 .have a:last<10:=a;have h:rA m s n i=.ok (b,j):=h;unfold rA at h;split at h
  .cases h
  split at h
  .split at h
   .cases h
   rename_i d;cases h;have:=CF (P:=fun x:YQ=>x.1.length<=50) (fun _ _ _ f=>Vd f) _ _ _ qs d;exact⟨⟨hf.dm,hf.ins,hf.funcs,hf.nums,this.2⟩,fun c=>absurd c qx,fun c=>absurd c qx,fun _=>h12 qo⟩
  cases h
 have a:last<11:=a;have h:sV m s n i=.ok (b,j):=h;unfold sV at h;split at h
 .cases h
 cases h;exact⟨⟨hf.dm,hf.ins,hf.funcs,hf.nums,hf.QW⟩,fun c=>absurd c qx,fun c=>absurd c qx,fun _=>h12 qo⟩
theorem Xp{m d:fE}{last b:Nat}{s:qS}{n i j:Nat}(f:KJ m last)(h:sw m last s n i=.ok ((d,b),j)):KJ d b/\last<b/\i<j:=by
 unfold sw at h;rcases a:lD s n i with e|⟨x,k⟩
 .rw[a] at h;cases h
 rw[a] at h;simp only at h;have p:i<k:=by
  unfold lD at a;split at a
  .cases a;omega
  cases a
 by_cases g:jL x<=last
 .rw[if_pos g] at h;cases h
 rw[if_neg g] at h;by_cases hc:10<jL x/\m.dQ.length≠m.funcs.length
 .rw[if_pos hc] at h;cases h
 rw[if_neg hc] at h;split at h
 .cases h
 rename_i hw;cases h;have q:=Tq hw;obtain⟨r,t,l⟩:=zS hw;have o:=f.ready (x:=x) qo (fun c=>by
  by_cases e:m.dQ.length=m.funcs.length
  .exact e
  exact absurd ⟨c,e⟩ hc)
 exact⟨UT f qo o l,qo,qo⟩
theorem Qz(s:qS)(w:qW):qC 78 #[.string s] w fun e w'=>e=.returned (.agg #[.string s,qJ 0,qJ s.size])/\qK w w':=by
 go_enter func78,ntmps78;go_wp2;refine bodyPost_ret (v:=.agg #[.string s,qJ 0,qJ s.size]) ?_ rfl ⟨rfl,?_⟩
 .simp[results,results78,go_sem]
 exact qr.alloc _
def kV(s:qS)(n:Nat):Nat->fE->Nat->Nat->Except Err (fE×Nat)
 | 0,_,_,i=>.error (2,i)
 | k+1,m,last,i=>
  if n<=i then(if m.dQ.length=m.funcs.length then .ok (m,i) else .error (2,i))
  else match sw m last s n i with
   | .error e=>.error e
   | .ok ((m1,rk),j)=>kV s n k m1 rk j
def nO(s:qS):Except Err (fE×Nat):=
 match gz [0,97,115,109,1,0,0,0] s s.size 0 with
 | .error e=>.error e
 | .ok (_,j)=>kV s s.size 13 fE.new 0 j
theorem KJ.new:KJ fE.new 0:=⟨⟨by simp[fE.new],by simp[fE.new],by simp[fE.new],by simp[fE.new],by simp[fE.new]⟩,fun _=>rfl,fun _=>rfl,fun _=>rfl⟩
def Fields.nil:Fields:=⟨qN,qN,qN,qN,qN,qN,qN,qN,qN,qN,qN,qN⟩
theorem uO.new(s:qS)(ok:qD)(w:qW):uO s ok w Fields.nil fE.new:=
 ⟨⟨[],Row.nil _ _ _ _,trivial⟩,Row.nil _ _ _ _,Row.nil _ _ _ _,Row.nil _ _ _ _,Row.nil _ _ _ _,Row.nil _ _ _ _,Row.nil _ _ _ _,⟨[],Row.nil _ _ _ _,trivial⟩,⟨[],Row.nil _ _ _ _,trivial⟩,Row.nil _ _ _ _,Row.nil _ _ _ _,⟨[],Row.nil _ _ _ _,trivial⟩,fun _=>rfl,fun _=>rfl,fun _=>rfl⟩
theorem Rd.new{w:qW}{s:qS}{g:Nat}{t:TypeId}(h:s.size<=5000)(i:g=w.heap.size):Rd (w.alloc (.cells #[.string s,qJ 0,qJ s.size] t)) g s 0 s.size:=by
 subst i;obtain⟨⟨a,b⟩,⟨c,d⟩,⟨e,f⟩⟩:=(kY.new w #[.string s,qJ 0,qJ s.size] t).three;exact⟨a,c,e,b,d,f,qZ,qR,h⟩
theorem TR{s:qS}{n k last i:Nat}{m:fE}(X:0<k)(a:n<=i):kV s n k m last i=if m.dQ.length=m.funcs.length then .ok (m,i) else .error (2,i):=by
 obtain⟨j,rfl⟩:∃j,k=j+1:=⟨k - 1,qo⟩;simp[kV,a]
theorem TQ{s:qS}{n k last i:Nat}{m:fE}{e:Err}(X:0<k)(a:i<n)(h:sw m last s n i=.error e):kV s n k m last i=.error e:=by
 obtain⟨j,rfl⟩:∃j,k=j+1:=⟨k - 1,qo⟩;simp[kV,h,show ¬n<=i by omega]
theorem Xv{s:qS}{n k last i a b:Nat}{m c:fE}(X:0<k)(d:i<n)(h:sw m last s n i=.ok ((c,a),b)):kV s n k m last i=kV s n (k - 1) c a b:=by
 obtain⟨j,rfl⟩:∃j,k=j+1:=⟨k - 1,qo⟩;simp[kV,h,show ¬n<=i by omega]
theorem Xq{m b:fE}{last a:Nat}{s:qS}{n i j:Nat}(h:sw m last s n i=.ok ((b,a),j)):a<=12:=by
 unfold sw at h;split at h
 .cases h
 split at h
 .cases h
 split at h
 .cases h
 split at h
 .cases h
 cases h;exact Je _
def Bq(s:qS)(w:World)(e:Ending)(w':World):Prop:=
 qK w w'/\(∀m j,nO s=.ok (m,j)->∃b Y B,e=.returned (qP Y)/\w.heap.size<=Y/\Y<B/\w.heap.size<=b/\b<B/\kC s (fun g=>B<=g) w' b Y m)/\∀q p,nO s=.error (q,p)->e=iK q p
theorem Bq.err{s:qS}{w w':qW}{q p:Nat}(a:nO s=.error (q,p))(X:qK w w'):Bq s w (iK q p) w':=
 ⟨X,fun m j h=>by(rw[a] at h;cases h),fun b p' h=>by rw[a] at h;cases h;rfl⟩
theorem Kept.ag5{S:qD}{w w':qW}(h:Kept S w w')(a:∀k,k<w.heap.size->¬S k):qK w w':=h.mono (fun k X hh=>a k X hh)
theorem ZG(s:qS)(w:qW)(hs:s.size<=5000):qC 55 #[.string s] w (Bq s w):=by
 have ag:∀(x:Bool) (w:qW),(Op.unary .not (.bool x)).run prog w=.ok (.bool (!x)) w:=fun _ _=>rfl;go_enter func55,ntmps55;go_wp2_with fail
 refine(Qz s _).mono ?_;rintro e I ⟨rfl,J⟩;have ah:=J.size;go_wp2_with fail
 refine(Gf (Rd.new hs rfl) qx).mono ?_;rintro e c ⟨z,f,l⟩;have r:qK w c:=(J.alloc _).fresh z (fun k X (e:k=I.heap.size)=>qo);have ai:=z.size;have K:tl {data:= #[0,97,115,109,1,0,0,0]} 0=[0,97,115,109,1,0,0,0]:=by rfl
 rw[K] at f l;clear z K;rcases a:gz [0,97,115,109,1,0,0,0] s s.size 0 with⟨q,p⟩|xj
 .obtain rfl:=l _ _ a;exact⟨rfl,Bq.err (by simp[nO,a]) r⟩
 obtain⟨_,L⟩:=xj;obtain⟨u,rfl,-,M⟩:=f _ _ a;have N:qh (nO s=kV s s.size 13 fE.new 0 L):=by show _=_;simp[nO,a]
 clear f l a;have aa:=M.lt;generalize aj:I.heap.size=b at*;have O:kC s (fun g=>c.heap.size+1<=g) (c.alloc (.cells #[qN,qN,qN,qN,qN,qN,qN,qN,qN,qN,qN,qN] 146)) b c.heap.size fE.new:=
  ⟨Fields.nil,OB.new aa rfl,uO.new _ _ _⟩
 have P:=hide O;clear O;go_wp2;go_loopw [5] (fun q wr=>∃(k j last:Nat) (m:fE),last<=12/\13 - last<=k/\q=qJ last/\Rd wr b s j s.size/\qK w wr/\kC s (fun g=>c.heap.size+1<=g) wr b c.heap.size m/\c.heap.size+1<=wr.heap.size/\KJ m last/\nO s=kV s s.size k m last j) (fun q _=>12 - (intOf q).toNat)
 case atStart=>exact⟨13,L,0,fE.new,qo,qo,rfl,M.alloc _,r.alloc _,P.o,qs,KJ.new,N.o⟩
 obtain⟨k,j,last,m,hl,X,rfl,n,A,Q,R,S,T⟩:=hrel;have C:=hide T;have t:=hide Q;have U:=hide S;clear T Q S P N;by_cases V:j<s.size
 .have hd:decide (s.size<=j)=false:=by simp;omega
  go_wp2_with fail
  refine(wo n).mono ?_;rintro e w3 ⟨rfl,d,rfl⟩;have D:=n.drewN d;have E:=A.drewN d;have F:=hide (t.o.call (w':=wr.drewN d) (qr.drewN _) qo);clear t;go_wp2_with fail
  refine(Qw (B:=c.heap.size+1) last D F.o qo qo R U.o).mono ?_;rintro e v ⟨G,f,l⟩;have W:qK w v:=E.fresh G (fun i hi hh=>hh.elim (fun e=>qo) (fun e=>by have:=r.size;omega));have ab:c.heap.size+1<=v.heap.size:=Nat.le_trans R G.size;clear G;rcases a:sw m last s s.size j with⟨q,p⟩|⟨⟨m1,rk⟩,j2⟩
  .obtain rfl:=l _ _ a;exact⟨rfl,Bq.err (C.o.trans (TQ qo V a)) W⟩
  obtain⟨u,rfl,⟨hv,Y⟩,ac⟩:=f _ _ a;subst hv;obtain⟨Z,ak,-⟩:=Xp U.o a;have ad:=Xq a;have HH:=hide (C.o.trans (Xv qo V a));have ae:=hide Y;have af:=hide Z;clear f l a Y Z;go_wp2;go_roundw
  case rel=>exact⟨k - 1,j2,rk,m1,ad,qo,by go_num,ac,W,ae.o,ab,af.o,HH.o⟩
  simp[intOf];omega
 have hd:decide (s.size<=j)=true:=by simp;omega
 have hj:=n.le;have H:=hide (C.o.trans (TR qo qo));go_wp2_with fail
 refine(wo n).mono ?_;rintro e w3 ⟨rfl,d,rfl⟩;have D:=n.drewN d;have E:=A.drewN d;have F:=hide (t.o.call (w':=wr.drewN d) (qr.drewN _) qo);go_wp2_with fail
 refine(wR D).mono ?_;rintro e v ⟨rfl,rfl⟩;go_wp2_with fail
 refine(yD _ F.o).mono ?_;rintro e v ⟨⟨k4,rfl⟩,y⟩;by_cases hc:m.dQ.length=m.funcs.length
 .rw[if_pos hc] at y;subst y;have HR:=hide (H.o.trans (if_pos hc));clear hc H;go_wp2;go_ret;refine⟨A.drewN _,fun m' j' h=>?_,fun q p h=>by(rw[HR.o] at h;cases h)⟩;rw[HR.o] at h;cases h;exact⟨b,c.heap.size,c.heap.size+1,rfl,r.size,qo,qo,qo,t.o.call (qr.drewN _) qo⟩
 rw[if_neg hc] at y;subst y;exact⟨rfl,Bq.err (H.o.trans (if_neg hc)) (E.drewN _)⟩
structure Alike(n:Nat)(s s':qS):Prop where
 l:n<=s.size
 r:n<=s'.size
 b:∀k,k<n->bt s k=bt s' k
theorem Alike.less{n m:Nat}{s s':qS}(h:Alike n s s')(a:m<=n):Alike m s s':=⟨Nat.le_trans a h.l,Nat.le_trans a h.r,fun k X=>h.b k (Nat.lt_of_lt_of_le X a)⟩
structure Fine{α:Type}(H:Nat->Prop)(Pr:Nat->α->Prop)(f:qS->Nat->Nat->Except Err (α×Nat)):Prop where
 err:∀{s n i q p},H n->i<=n->f s n i=.error (q,p)->q=2/\p<=n
 ok:∀{s n i x j},H n->i<=n->f s n i=.ok (x,j)->i<=j/\j<=n/\Pr n x
 GX:∀{s s' n i},H n->Alike n s s'->i<=n->f s n i=f s' n i
section
variable {α β:Type} {H H':qD} {P:Nat->α->Prop} {Q:Nat->β->Prop}
theorem Fine.bind{f:qS->Nat->Nat->Except Err (α×Nat)}{g:Nat->α->qS->Nat->Nat->Except Err (β×Nat)}{F:qS->Nat->Nat->Except Err (β×Nat)}(hf:Fine H P f)(l:∀i x,Fine (fun n=>H n/\i<=n/\P n x) Q (g i x))
  (d:∀s n i e,f s n i=.error e->F s n i=.error e) (X:∀s n i x j,f s n i=.ok (x,j)->F s n i=g i x s n j):Fine H Q F:=by
 refine⟨?_,?_,?_⟩
 .intro s n i q p b c h;rcases a:f s n i with⟨r,p'⟩|⟨x,j⟩
  .rw[d _ _ _ _ a] at h;cases h;exact hf.err b c a
  rw[X _ _ _ _ _ a] at h;obtain⟨U,L,h3⟩:=hf.ok b c a;exact(l i x).err ⟨b,c,h3⟩ L h
 .intro s n i y k b c h;rcases a:f s n i with e|⟨x,j⟩
  .rw[d _ _ _ _ a] at h;cases h
  rw[X _ _ _ _ _ a] at h;obtain⟨U,L,h3⟩:=hf.ok b c a;obtain⟨h4,h5,o⟩:=(l i x).ok ⟨b,c,h3⟩ L h;exact⟨qo,h5,o⟩
 intro s s' n i b m c;have hc:=hf.GX b m c;rcases a:f s n i with e|⟨x,j⟩
 .rw[d _ _ _ _ a,d _ _ _ _ (hc.symm.trans a)]
 obtain⟨U,L,h3⟩:=hf.ok b c a;rw[X _ _ _ _ _ a,X _ _ _ _ _ (hc.symm.trans a)];exact(l i x).GX ⟨b,c,h3⟩ m L
theorem Fine.pure{y:α}(h:∀n,H n->P n y):Fine H P (fun _ _ j=>.ok (y,j)):=
 ⟨fun _ _ h=>(by cases h),fun a b h'=>(by cases h';exact⟨qR,b,h _ a⟩),fun _ _ _=>rfl⟩
theorem Fine.fail{p:Nat}(h:∀n,H n->p<=n):Fine H P (fun _ _ _=>.error (2,p)):=
 ⟨fun a _ h'=>(by cases h';exact⟨rfl,h _ a⟩),fun _ _ h=>(by cases h),fun _ _ _=>rfl⟩
theorem Fine.ite{c:Prop}[Decidable c]{f g:qS->Nat->Nat->Except Err (α×Nat)}(hf:c->Fine H P f)(a:¬c->Fine H P g):Fine H P (fun s n i=>if c then f s n i else g s n i):=by
 by_cases h:c
 .simp only[if_pos h];exact hf h
 simp only[if_neg h];exact a h
theorem Fine.weak{f:qS->Nat->Nat->Except Err (α×Nat)}{c:Nat->α->Prop}(hf:Fine H P f)(hh:∀n,H' n->H n)(hp:∀n x,H' n->P n x->c n x):Fine H' c f:=
 ⟨fun a b h=>hf.err (hh _ a) b h,fun a b h=>⟨(hf.ok (hh _ a) b h).1,(hf.ok (hh _ a) b h).2.1,hp _ _ a (hf.ok (hh _ a) b h).2.2⟩,fun a d b=>hf.GX (hh _ a) d b⟩
theorem Fine.to{f:qS->Nat->Nat->Except Err (α×Nat)}(hf:Fine (fun _=>True) P f):Fine H P f:=hf.weak (fun _ _=>trivial) (fun _ _ _ h=>h)
end
abbrev Any:Nat->Prop:=fun _=>True
theorem Oe:Fine Any (fun _ x=>x<256) lD:=by
 refine⟨?_,?_,?_⟩
 .intro s n i q p _ a h;unfold lD at h;split at h<;>cases h;exact⟨rfl,qR⟩
 .intro s n i x j _ a h;unfold lD at h;split at h<;>cases h;exact⟨qo,qo,xg _ _⟩
 intro s s' n i _ c a;unfold lD;split
 .rw[c.b i (by assumption)]
 rfl
theorem nR(ts:qM):Fine Any (fun _ x=>x∈ts) (iO ts):=by
 refine⟨?_,?_,?_⟩
 .intro s n i q p _ a h;unfold iO at h;split at h
  .split at h<;>cases h;exact⟨rfl,a⟩
  cases h;exact⟨rfl,qR⟩
 .intro s n i x j _ a h;have:=vB h;exact⟨qo,qo,this.1⟩
 intro s s' n i _ c a;unfold iO;split
 .rw[c.b i (by assumption)]
 rfl
theorem rO:∀ts:qM,Fine Any (fun _ _=>True) (gz ts)
 | []=>Fine.weak (P:=fun _ _=>True) (H:=Any) (Fine.pure (fun _ _=>trivial)) (fun _ h=>h) (fun _ _ _ h=>h)
 | t::ts=>(nR [t]).bind (g:=fun _ _=>gz ts) (fun _ _=>(rO ts).to) (fun s n i e h=>by simp[gz,h]) (fun s n i x j h=>by simp[gz,h])
theorem Y5{s:qS}{n start:Nat}:∀(m k:Nat) (z:Int) (j:Nat) {q p:Nat},start<=n->j<=n->yw s n start m k z j=.error (q,p)->q=2/\p<=n:=by
 intro m;induction m with
 | zero=>intro k z j q p b a h;simp[yw] at h;obtain⟨rfl,rfl⟩:=h;exact⟨rfl,a⟩
 | succ m d=>
  intro k z j q p b a h;unfold yw at h;by_cases c:j<n
  .rw[eB c] at h;simp only at h;split at h
   .cases h;exact⟨rfl,a⟩
   split at h
   .cases h
   exact d _ _ _ b qo h
  rw[iW c] at h;cases h;exact⟨rfl,qR⟩
theorem Y6{s s':qS}{n start:Nat}(ha:Alike n s s'):∀(m k:Nat) (z:Int) (j:Nat),j<=n->yw s n start m k z j=yw s' n start m k z j:=by
 intro m;induction m with
 | zero=>intro k z j hj;rfl
 | succ m ih=>intro k z j hj;unfold yw;exact adX
def vY(n:Nat)(x:Int×Nat):Prop:=0<=x.1/\x.1<=4294967295/\x.2<=n
theorem pM:Fine Any vY uM:=
 ⟨fun _ b h=>Y5 _ _ _ _ b b h,fun {s n i x j} _ b h=>by obtain⟨v,a⟩:=x;have:=mW h;exact⟨qo,qo,this.1,this.2.1,qt⟩,fun _ c b=>Y6 c _ _ _ _ b⟩
theorem ZA{K room:Nat}{s:qS}{n:Nat}:∀(m k:Nat) (z:Int) (j:Nat) {q p:Nat},j<=n->yO K room s n m k z j=.error (q,p)->q=2/\p<=n:=by
 intro m;induction m with
 | zero=>intro k z j q p a h;simp[yO] at h;obtain⟨rfl,rfl⟩:=h;exact⟨rfl,a⟩
 | succ m c=>
  intro k z j q p a h;unfold yO at h;by_cases b:j<n
  .rw[eB b] at h;simp only at h;split at h
   .cases h;exact⟨rfl,a⟩
   split at h
   .cases h
   exact c _ _ _ qo h
  rw[iW b] at h;cases h;exact⟨rfl,qR⟩
theorem ZB{K room:Nat}{s s':qS}{n:Nat}(ha:Alike n s s'):∀(m k:Nat) (z:Int) (j:Nat),j<=n->yO K room s n m k z j=yO K room s' n m k z j:=by
 intro m;induction m with
 | zero=>intro k z j hj;rfl
 | succ m ih=>intro k z j hj;unfold yO;exact adX
theorem EN(K room:Nat):Fine Any (fun _ _=>True) (sM K room):=
 ⟨fun _ a h=>ZA _ _ _ _ a h,fun _ a h=>by have:=zY h;exact⟨qo,qo,trivial⟩,fun _ b a=>ZB b _ _ _ _ a⟩
theorem tF(most:Nat):Fine Any (fun _ k=>k<=most) (eZ most):=
 pM.bind (g:=fun _ x=>fun _ _ j=>if(most:Int)<x.1 then .error (2,x.2) else .ok (x.1.toNat,j)) (fun i x=>Fine.ite (fun _=>Fine.fail (fun n h=>h.2.2.2.2)) (fun h=>Fine.pure (fun n _=>qo)))
  (fun s n i e h=>by simp[eZ,h]) (fun s n i x j h=>by simp[eZ,h])
theorem Vh{s s':qS}{n i k:Nat}(a:Alike n s s')(X:i+k<=n):s.extract i (i+k)=s'.extract i (i+k):=by
 have c:=a.l;have d:=a.r;apply ByteArray.ext;apply Array.ext
 .simp[ByteArray.data_extract];have U:s.data.size=s.size:=rfl;have L:s'.data.size=s'.size:=rfl;omega
 intro j U L;simp only[ByteArray.data_extract] at U L ⊢;simp only[Array.getElem_extract];simp at U;have h3:s.data.size=s.size:=rfl;have h4:=a.b (i+j) qo;rw[zH qo,zH qo] at h4;exact UInt8.toNat_inj.1 h4
theorem EG(k:Nat):Fine Any (fun _ t=>t.size<=k) (kZ k):=by
 refine⟨?_,?_,?_⟩
 .intro s n i q p _ a h;unfold kZ at h;split at h<;>cases h;exact⟨rfl,qR⟩
 .intro s n i x j _ a h;unfold kZ at h;split at h<;>cases h;refine⟨qo,qo,?_⟩;simp;omega
 intro s s' n i _ b a;unfold kZ;split
 .rfl
 rw[Vh b qo]
theorem Af{α:Type}{H:qD}{P:Nat->α->Prop}{tM:qS->Nat->Nat->Except Err (α×Nat)}(a:Fine H P tM):∀(k:Nat) (M:List α),Fine (fun n=>H n/\∀x∈M,P n x) (fun n xs=>xs.length=M.length+k/\∀x∈xs,P n x) (fun s n j=>eO tM s n k M j)
 | 0,M=>Fine.pure (fun n h=>⟨qs,h.2⟩)
 | k+1,M=>(a.weak (H':=fun n=>H n/\∀x∈M,P n x) (fun _ h=>h.1) (fun _ _ _ h=>h)).bind (g:=fun _ x=>fun s n j=>eO tM s n k (M++[x]) j)
   (fun i x=>(Af a k (M++[x])).weak (fun n h=>⟨h.1.1,fun y hy=>by rcases List.mem_append.1 hy with U | U;exact h.1.2 y U;simp at U;subst U;exact h.2.2⟩) (fun n xs _ h=>⟨by have:=h.1;simp at this;omega,h.2⟩))
   (fun s n i e h=>by simp[eO,h]) (fun s n i x j h=>by simp[eO,h])
theorem mU{α:Type}{H:qD}{P:Nat->α->Prop}{tM:qS->Nat->Nat->Except Err (α×Nat)}(most:Nat)(a:Fine H P tM):Fine H (fun n xs=>xs.length<=most/\∀x∈xs,P n x) (dY most tM):=
 (tF most).to.bind (g:=fun _ k=>fun s n j=>eO tM s n k [] j) (fun i k=>(Af a k []).weak (fun n h=>⟨h.1,qs⟩) (fun n xs h hh=>⟨by have:=hh.1;have:=h.2.2;simp at*;omega,hh.2⟩))
  (fun s n i e h=>by simp[dY,h]) (fun s n i x j h=>by simp[dY,h])
theorem zQ{α:Type}{P:Nat->α->Prop}{tM:qS->Nat->Nat->Except Err (α×Nat)}(c:Fine Any P tM)(m:∀n g x,g<=n->P g x->P n x):Fine Any P (fK tM):=by
 refine⟨?_,?_,?_⟩
 .intro s n i q p _ d h;rcases b:uM s n i with⟨l,p'⟩|⟨⟨v,a⟩,j⟩
  .unfold fK at h;rw[b] at h;cases h;exact pM.err trivial d b
  have hf:=mW b;unfold fK at h;rw[b] at h;simp only at h;split at h
  .rcases L:tM s n j with⟨l,p'⟩|⟨y,k⟩
   .rw[L] at h;cases h;exact c.err trivial qo L
   rw[L] at h;cases h;exact⟨rfl,(c.ok trivial qo L).2.1⟩
  rcases L:tM s (j+v.toNat) j with⟨l,p'⟩|⟨y,k⟩
  .rw[L] at h;cases h;have:=c.err trivial qo L;exact⟨this.1,qo⟩
  rw[L] at h;have:=c.ok trivial qo L;simp only at h;split at h<;>cases h;exact⟨rfl,qo⟩
 .intro s n i y k _ d h;rcases b:uM s n i with e|⟨⟨v,a⟩,j⟩
  .unfold fK at h;rw[b] at h;cases h
  have hf:=mW b;unfold fK at h;rw[b] at h;simp only at h;split at h
  .rcases L:tM s n j with e|⟨y,k⟩
   .rw[L] at h;cases h
   rw[L] at h;cases h
  rcases L:tM s (j+v.toNat) j with e|⟨z,k'⟩
  .rw[L] at h;cases h
  rw[L] at h;have:=c.ok trivial qo L;simp only at h;split at h<;>cases h;exact⟨qo,qo,m _ _ _ qo this.2.2⟩
 intro s s' n i _ f d;unfold fK;rw[<-pM.GX trivial f d];rcases b:uM s n i with e|⟨⟨v,a⟩,j⟩
 .rfl
 have hf:=mW b;simp only;split
 .rw[c.GX trivial f qo]
 rw[c.GX trivial (f.less qo) qo]
def aga(n:Nat)(c:Cst):Prop:=c.at_<=n
def V6(n:Nat)(x:Hf):Prop:=x.at_<=n
def adJ(n:Nat)(x:MF):Prop:=x.first.at_<=n
def adK(n:Nat)(x:Ql):Prop:=x.nameAt<=n/\vY n x.idx/\x.Tc<=3
def afC(_:Nat)(x:Ty):Prop:=x.ins.length<=8/\x.outs.length<=4
def aav(n:Nat)(x:Qi):Prop:=x.at_<=n/\x.place.at_<=n/\x.funcs.length<=20/\∀y∈x.funcs,vY n y
def adL(n:Nat)(x:Dat):Prop:=x.at_<=n/\x.place.at_<=n
def Wz(n:Nat)(x:YQ):Prop:=x.1.length<=50/\x.2.1<=x.2.2/\x.2.2<=n
def wB(n:Nat)(y:ic):Prop:=vY n y.num/\y.dF.length<=20/\(∀x∈y.dF,vY n x)/\y.dH.length<=1/\0<=y.align
theorem Bf:Fine Any (fun _ x=>x=127\/x=126) kJ:=(nR [127,126]).weak (fun _ h=>h) (fun _ x _ h=>by simpa using h)
theorem CX:Fine Any aga ku:=by
 refine(nR [65,66]).bind (g:=fun i x=>fun s n j=>match(if x=65 then sM 4 4 s n j else sM 9 1 s n j) with
  | .error e=>.error e
  | .ok (v,a)=>match iO [11] s n a with
   | .error e=>.error e
   | .ok (_,j3)=>.ok (⟨i,if x=65 then 127 else 126,v⟩,j3)) (fun i x=>?_) (fun s n i e h=>by simp only[ku,h]<;>rfl) (fun s n i x j h=>by simp only[ku,h]<;>rfl)
 refine Fine.bind (P:=fun _ _=>True) (f:=fun s n j=>if x=65 then sM 4 4 s n j else sM 9 1 s n j) (Fine.ite (fun _=>(EN 4 4).to) (fun _=>(EN 9 1).to))
  (g:=fun _ v=>fun s n a=>match iO [11] s n a with
   | .error e=>.error e
   | .ok (_,j3)=>.ok (⟨i,if x=65 then 127 else 126,v⟩,j3)) (fun k v=>?_) (fun s n i e h=>by simp only[h]<;>rfl) (fun s n i x j h=>by simp only[h]<;>rfl)
 exact(nR [11]).to.bind (g:=fun _ _=>fun _ _ j=>.ok (⟨i,if x=65 then 127 else 126,v⟩,j)) (fun _ _=>Fine.pure (fun n h=>h.1.1.2.1)) (fun s n i e h=>by simp only[h]<;>rfl) (fun s n i x j h=>by simp only[h]<;>rfl)
theorem Rf:Fine Any V6 xu:=by
 refine(nR [0,1]).bind (g:=fun i x=>fun s n j=>match uM s n j with
  | .error e=>.error e
  | .ok ((v,_),a)=>if x=1 then(match uM s n a with
    | .error e=>.error e
    | .ok ((m,_),b)=>.ok (⟨i,v,m,true⟩,b)) else .ok (⟨i,v,0,false⟩,a)) (fun i x=>?_) (fun s n i e h=>by simp only[xu,h]<;>rfl) (fun s n i x j h=>by simp only[xu,h]<;>rfl)
 refine pM.to.bind (g:=fun _ u=>fun s n a=>if x=1 then(match uM s n a with
    | .error e=>.error e
    | .ok ((m,_),b)=>.ok (⟨i,u.1,m,true⟩,b)) else .ok (⟨i,u.1,0,false⟩,a)) (fun k u=>?_) (fun s n i e h=>by simp only[h]<;>rfl) (fun s n i x j h=>by simp only[h]<;>rfl)
 refine Fine.ite (fun _=>?_) (fun _=>Fine.pure (fun n h=>h.1.2.1));exact pM.to.bind (g:=fun _ w=>fun _ _ b=>.ok (⟨i,u.1,w.1,true⟩,b)) (fun _ _=>Fine.pure (fun n h=>h.1.1.2.1)) (fun s n i e h=>by simp only[h]<;>rfl) (fun s n i x j h=>by simp only[h]<;>rfl)
theorem TI:Fine Any V6 um:=
 (nR [112]).bind (g:=fun _ _=>xu) (fun _ _=>Rf.to) (fun s n i e h=>by simp only[um,h]<;>rfl) (fun s n i x j h=>by simp only[um,h]<;>rfl)
theorem Ru:Fine Any adJ mH:=by
 refine Bf.bind (g:=fun _ k=>fun s n j=>match iO [0,1] s n j with
  | .error e=>.error e
  | .ok (x,b)=>match ku s n b with
   | .error e=>.error e
   | .ok (c,a)=>.ok (⟨k,x==1,c⟩,a)) (fun i k=>?_) (fun s n i e h=>by simp only[mH,h]<;>rfl) (fun s n i x j h=>by simp only[mH,h]<;>rfl)
 refine(nR [0,1]).to.bind (g:=fun _ x=>fun s n b=>match ku s n b with
   | .error e=>.error e
   | .ok (c,a)=>.ok (⟨k,x==1,c⟩,a)) (fun _ x=>?_) (fun s n i e h=>by simp only[h]<;>rfl) (fun s n i x j h=>by simp only[h]<;>rfl)
 exact CX.to.bind (g:=fun _ c=>fun _ _ a=>.ok (⟨k,x==1,c⟩,a)) (fun _ c=>Fine.pure (fun n h=>h.2.2)) (fun s n i e h=>by simp only[h]<;>rfl) (fun s n i x j h=>by simp only[h]<;>rfl)
theorem RP:Fine Any adK nA:=by
 refine(tF 20).bind (g:=fun i k=>fun s n j=>match kZ k s n j with
  | .error e=>.error e
  | .ok (t,c)=>if kF t 0=false then .error (2,i) else match iO [0,1,2,3] s n c with
   | .error e=>.error e
   | .ok (x,b)=>match uM s n b with
    | .error e=>.error e
    | .ok (u,a)=>.ok (⟨i,t,x,u⟩,a)) (fun i k=>?_) (fun s n i e h=>by simp only[nA,h]<;>rfl) (fun s n i x j h=>by simp only[nA,h]<;>rfl)
 refine(EG k).to.bind (g:=fun _ t=>fun s n c=>if kF t 0=false then .error (2,i) else match iO [0,1,2,3] s n c with
   | .error e=>.error e
   | .ok (x,b)=>match uM s n b with
    | .error e=>.error e
    | .ok (u,a)=>.ok (⟨i,t,x,u⟩,a)) (fun _ t=>?_) (fun s n i e h=>by simp only[h]<;>rfl) (fun s n i x j h=>by simp only[h]<;>rfl)
 refine Fine.ite (fun _=>Fine.fail (fun n h=>h.1.2.1)) (fun _=>?_)
 refine(nR [0,1,2,3]).to.bind (g:=fun _ x=>fun s n b=>match uM s n b with
    | .error e=>.error e
    | .ok (u,a)=>.ok (⟨i,t,x,u⟩,a)) (fun _ x=>?_) (fun s n i e h=>by simp only[h]<;>rfl) (fun s n i x j h=>by simp only[h]<;>rfl)
 refine pM.to.bind (g:=fun _ u=>fun _ _ a=>.ok (⟨i,t,x,u⟩,a)) (fun _ u=>Fine.pure (fun n h=>?_)) (fun s n i e h=>by simp only[h]<;>rfl) (fun s n i x j h=>by simp only[h]<;>rfl);refine⟨h.1.1.1.2.1,h.2.2,?_⟩;have:=h.1.2.2;simp at this;show x<=3;omega
theorem Yj:Fine Any adL xe:=by
 refine(nR [0]).bind (g:=fun i _=>fun s n j=>match ku s n j with
  | .error e=>.error e
  | .ok (c,d)=>match eZ 100 s n d with
   | .error e=>.error e
   | .ok (k,b)=>match kZ k s n b with
    | .error e=>.error e
    | .ok (t,a)=>.ok (⟨i,c,t⟩,a)) (fun i _=>?_) (fun s n i e h=>by simp only[xe,h]<;>rfl) (fun s n i x j h=>by simp only[xe,h]<;>rfl)
 refine CX.to.bind (g:=fun _ c=>fun s n d=>match eZ 100 s n d with
   | .error e=>.error e
   | .ok (k,b)=>match kZ k s n b with
    | .error e=>.error e
    | .ok (t,a)=>.ok (⟨i,c,t⟩,a)) (fun _ c=>?_) (fun s n i e h=>by simp only[h]<;>rfl) (fun s n i x j h=>by simp only[h]<;>rfl)
 refine(tF 100).to.bind (g:=fun _ k=>fun s n b=>match kZ k s n b with
    | .error e=>.error e
    | .ok (t,a)=>.ok (⟨i,c,t⟩,a)) (fun _ k=>?_) (fun s n i e h=>by simp only[h]<;>rfl) (fun s n i x j h=>by simp only[h]<;>rfl)
 exact(EG k).to.bind (g:=fun _ t=>fun _ _ a=>.ok (⟨i,c,t⟩,a)) (fun _ t=>Fine.pure (fun n h=>⟨h.1.1.1.2.1,h.1.1.2.2⟩)) (fun s n i e h=>by simp only[h]<;>rfl) (fun s n i x j h=>by simp only[h]<;>rfl)
theorem WV:Fine Any afC vT:=by
 refine(nR [96]).bind (g:=fun _ _=>fun s n j=>match dY 8 kJ s n j with
  | .error e=>.error e
  | .ok (a,d)=>match dY 4 kJ s n d with
   | .error e=>.error e
   | .ok (c,b)=>.ok (⟨a,c⟩,b)) (fun i _=>?_) (fun s n i e h=>by simp only[vT,h]<;>rfl) (fun s n i x j h=>by simp only[vT,h]<;>rfl)
 refine(mU 8 Bf).to.bind (g:=fun _ a=>fun s n d=>match dY 4 kJ s n d with
   | .error e=>.error e
   | .ok (c,b)=>.ok (⟨a,c⟩,b)) (fun _ a=>?_) (fun s n i e h=>by simp only[h]<;>rfl) (fun s n i x j h=>by simp only[h]<;>rfl)
 exact(mU 4 Bf).to.bind (g:=fun _ c=>fun _ _ b=>.ok (⟨a,c⟩,b)) (fun _ c=>Fine.pure (fun n h=>⟨h.1.2.2.1,h.2.2.1⟩)) (fun s n i e h=>by simp only[h]<;>rfl) (fun s n i x j h=>by simp only[h]<;>rfl)
theorem Yh:Fine Any aav xW:=by
 refine(nR [0]).bind (g:=fun i _=>fun s n j=>match ku s n j with
  | .error e=>.error e
  | .ok (c,b)=>match dY 20 uM s n b with
   | .error e=>.error e
   | .ok (l,a)=>.ok (⟨i,c,l⟩,a)) (fun i _=>?_) (fun s n i e h=>by simp only[xW,h]<;>rfl) (fun s n i x j h=>by simp only[xW,h]<;>rfl)
 refine CX.to.bind (g:=fun _ c=>fun s n b=>match dY 20 uM s n b with
   | .error e=>.error e
   | .ok (l,a)=>.ok (⟨i,c,l⟩,a)) (fun _ c=>?_) (fun s n i e h=>by simp only[h]<;>rfl) (fun s n i x j h=>by simp only[h]<;>rfl)
 exact(mU 20 pM).to.bind (g:=fun _ l=>fun _ _ a=>.ok (⟨i,c,l⟩,a)) (fun _ l=>Fine.pure (fun n h=>⟨h.1.1.2.1,h.1.2.2,h.2.2.1,h.2.2.2⟩)) (fun s n i e h=>by simp only[h]<;>rfl) (fun s n i x j h=>by simp only[h]<;>rfl)
theorem Na:Fine Any (fun _ _=>True) o6:=by
 refine⟨?_,?_,?_⟩
 .intro s n i q p _ a h;unfold o6 at h;split at h<;>cases h;exact⟨rfl,qR⟩
 .intro s n i x j _ a h;unfold o6 at h;split at h<;>cases h;exact⟨qo,qo,trivial⟩
 intro s s' n i _ c a;unfold o6;split
 .rw[c.b i (by assumption)]
 rfl
theorem KC{n:Nat}:wB n ic.none:=⟨⟨by simp[ic.none],by simp[ic.none],by simp[ic.none]⟩,by simp[ic.none],by simp[ic.none],by simp[ic.none],by simp[ic.none]⟩
theorem Vk:Fine Any wB jI:=by
 refine⟨?_,?_,?_⟩
 .intro s n i q p _ a h;unfold jI at h;rcases hp:o6 s n i with⟨f,p'⟩|⟨x,j⟩
  .rw[hp] at h;cases h;exact Na.err trivial a hp
  rw[hp] at h;simp only at h;split at h
  .cases h
  split at h
  .cases h
  rcases b:sM 4 5 s n i with⟨f,p'⟩|⟨v,g⟩
  .rw[b] at h;cases h;exact(EN 4 5).err trivial a b
  rw[b] at h;simp only at h;split at h<;>cases h;exact⟨rfl,a⟩
 .intro s n i y e _ a h;have c:=Oh h;unfold jI at h;rcases hp:o6 s n i with e|⟨x,j⟩
  .rw[hp] at h;cases h
  have k:i<n:=by unfold o6 at hp;split at hp;assumption;cases hp
  rw[hp] at h;simp only at h;split at h
  .cases h;exact⟨c,qo,⟨by simp[ic.none],by simp[ic.none],by simp[ic.none]⟩,by simp[ic.none],by simp[ic.none],qs,by simp[ic.none]⟩
  split at h
  .cases h;exact⟨c,qo,KC⟩
  rcases b:sM 4 5 s n i with e|⟨v,g⟩
  .rw[b] at h;cases h
  have l:=zY b;rw[b] at h;simp only at h;split at h<;>cases h;exact⟨c,qo,⟨qt,qt,a⟩,by simp[ic.none],by simp[ic.none],by simp[ic.none],by simp[ic.none]⟩
 intro s s' n i _ d a;unfold jI;rw[Na.GX trivial d a,(EN 4 5).GX trivial d a]
theorem sI(a x:Nat):Fine (fun n=>a<=n) wB (jc a x):=by
 unfold jc;refine Fine.ite (fun _=>Vk.to) (fun _=>Fine.ite (fun _=>?_) (fun _=>Fine.ite (fun _=>?_) (fun _=>Fine.ite (fun _=>?_) (fun _=>Fine.ite (fun _=>?_) (fun _=>Fine.ite (fun _=>?_) (fun _=>Fine.ite (fun _=>?_) (fun _=>Fine.ite (fun _=>?_) (fun _=>Fine.ite (fun _=>?_) (fun _=>?_)))))))))
 .refine(mU 20 pM).to.bind (g:=fun _ ls=>fun s n j=>match uM s n j with
   | .error e=>.error e
   | .ok (u,b)=>.ok ({ic.none with num:=u,dF:=ls},b)) (fun _ ls=>?_) (fun s n i e h=>by simp only[h]<;>rfl) (fun s n i x j h=>by simp only[h]<;>rfl)
  exact pM.to.bind (g:=fun _ u=>fun _ _ b=>.ok ({ic.none with num:=u,dF:=ls},b)) (fun _ u=>Fine.pure (fun n h=>⟨h.2.2,h.1.2.2.1,h.1.2.2.2,by simp[ic.none],by simp[ic.none]⟩)) (fun s n i e h=>by simp only[h]<;>rfl) (fun s n i x j h=>by simp only[h]<;>rfl)
 .refine pM.to.bind (g:=fun _ al=>fun s n j=>match uM s n j with
   | .error e=>.error e
   | .ok (u,b)=>.ok ({ic.none with align:=al.1,num:=u},b)) (fun _ al=>?_) (fun s n i e h=>by simp only[h]<;>rfl) (fun s n i x j h=>by simp only[h]<;>rfl)
  exact pM.to.bind (g:=fun _ u=>fun _ _ b=>.ok ({ic.none with align:=al.1,num:=u},b)) (fun _ u=>Fine.pure (fun n h=>⟨h.2.2,by simp[ic.none],by simp[ic.none],by simp[ic.none],h.1.2.2.1⟩)) (fun s n i e h=>by simp only[h]<;>rfl) (fun s n i x j h=>by simp only[h]<;>rfl)
 .exact pM.to.bind (g:=fun _ u=>fun _ _ j=>.ok ({ic.none with num:=u},j)) (fun _ u=>Fine.pure (fun n h=>⟨h.2.2,by simp[ic.none],by simp[ic.none],by simp[ic.none],by simp[ic.none]⟩)) (fun s n i e h=>by simp only[h]<;>rfl) (fun s n i x j h=>by simp only[h]<;>rfl)
 .refine pM.to.bind (g:=fun _ u=>fun s n j=>match iO [0] s n j with
   | .error e=>.error e
   | .ok (_,b)=>.ok ({ic.none with num:=u},b)) (fun _ u=>?_) (fun s n i e h=>by simp only[h]<;>rfl) (fun s n i x j h=>by simp only[h]<;>rfl)
  exact(nR [0]).to.bind (g:=fun _ _=>fun _ _ b=>.ok ({ic.none with num:=u},b)) (fun _ _=>Fine.pure (fun n h=>⟨h.1.2.2,by simp[ic.none],by simp[ic.none],by simp[ic.none],by simp[ic.none]⟩)) (fun s n i e h=>by simp only[h]<;>rfl) (fun s n i x j h=>by simp only[h]<;>rfl)
 .exact(nR [0]).to.bind (g:=fun _ _=>fun _ _ j=>.ok (ic.none,j)) (fun _ _=>Fine.pure (fun n h=>KC)) (fun s n i e h=>by simp only[h]<;>rfl) (fun s n i x j h=>by simp only[h]<;>rfl)
 .exact(EN 4 4).to.bind (g:=fun _ v=>fun _ _ j=>.ok ({ic.none with val:=v},j)) (fun _ _=>Fine.pure (fun n _=>⟨⟨by simp[ic.none],by simp[ic.none],by simp[ic.none]⟩,by simp[ic.none],by simp[ic.none],by simp[ic.none],by simp[ic.none]⟩)) (fun s n i e h=>by simp only[h]<;>rfl) (fun s n i x j h=>by simp only[h]<;>rfl)
 .exact(EN 9 1).to.bind (g:=fun _ v=>fun _ _ j=>.ok ({ic.none with val:=v},j)) (fun _ _=>Fine.pure (fun n _=>⟨⟨by simp[ic.none],by simp[ic.none],by simp[ic.none]⟩,by simp[ic.none],by simp[ic.none],by simp[ic.none],by simp[ic.none]⟩)) (fun s n i e h=>by simp only[h]<;>rfl) (fun s n i x j h=>by simp only[h]<;>rfl)
 .exact Fine.pure (fun n h=>KC)
 exact Fine.fail (fun n h=>h)
theorem Nq{os:qM}{a x q p:Nat}(h:je os a x=.error (q,p)):q=2/\p=a:=by
 unfold je at h;repeat' split at h
 all_goals first | (cases h;exact⟨rfl,rfl⟩) | cases h
theorem CG{s:qS}{n:Nat}:∀(fuel:Nat) (os:qM) (j:Nat),j<=n->
  (∀{q p},mo s n fuel os j=.error (q,p)->q=2/\p<=n)/\(∀{e},mo s n fuel os j=.ok e->j<=e/\e<=n)/\∀{s'},Alike n s s'->mo s n fuel os j=mo s' n fuel os j:=by
 intro fuel;induction fuel with
 | zero=>
  intro os j f;refine⟨fun h=>?_,fun h=>?_,fun _=>rfl⟩
  .simp[mo] at h;obtain⟨rfl,rfl⟩:=h;exact⟨rfl,qR⟩
  simp[mo] at h
 | succ fuel d=>
  intro os j f;by_cases a:j<n
  .refine⟨?_,?_,?_⟩
   .intro q p h;unfold mo at h;rw[eB a] at h;simp only at h;split at h
    .rename_i e hn;split at hn
     .cases hn
     cases h;have:=Nq hn;exact⟨this.1,qo⟩
    split at h
    .rename_i hb;cases h;exact(sI j (bt s j)).err qo qo hb
    rename_i hb;have:=(sI j (bt s j)).ok qo qo hb;split at h
    .cases h
    exact(d _ _ this.2.1).1 h
   .intro e h;unfold mo at h;rw[eB a] at h;simp only at h;split at h
    .cases h
    split at h
    .cases h
    rename_i hb;have:=(sI j (bt s j)).ok qo qo hb;split at h
    .cases h;exact⟨qo,this.2.1⟩
    have:=(d _ _ this.2.1).2.1 h;omega
   intro s' c;unfold mo;rw[eB a,eB a,<-c.b j a];simp only;rw[<-(sI j (bt s j)).GX qo c qo];split
   .rfl
   split
   .rfl
   rename_i hb;have:=(sI j (bt s j)).ok qo qo hb;split
   .rfl
   exact(d _ _ this.2.1).2.2 c
  refine⟨fun {q p} h=>?_,fun {e} h=>?_,fun {s'} c=>?_⟩
  .unfold mo at h;rw[iW a] at h;cases h;exact⟨rfl,qR⟩
  .unfold mo at h;rw[iW a] at h;cases h
  unfold mo;rw[iW a,iW a]
theorem BJ:∀(k:Nat) (M:qM),M.length<=50->Fine Any (fun _ ls=>ls.length<=50) (fun s n j=>iJ s n k M j)
 | 0,M,h=>Fine.pure (fun _ _=>h)
 | k+1,M,h=>by
  refine(tF (50 - M.length)).bind (g:=fun _ m=>fun s n d=>match kJ s n d with
   | .error e=>.error e
   | .ok (a,b)=>iJ s n k (M++List.replicate m a) b) (fun _ m=>?_) (fun s n i e h=>by simp only[iJ,h]<;>rfl) (fun s n i x j h=>by simp only[iJ,h]<;>rfl)
  by_cases c:m<=50 - M.length
  .exact Bf.to.bind (g:=fun _ a=>fun s n b=>iJ s n k (M++List.replicate m a) b) (fun _ a=>(BJ k _ qt).to) (fun s n i e h=>by simp only[h]<;>rfl) (fun s n i x j h=>by simp only[h]<;>rfl)
  exact⟨fun hh=>absurd hh.2.2 c,fun hh=>absurd hh.2.2 c,fun hh=>absurd hh.2.2 c⟩
theorem QY:Fine Any (fun _ ls=>ls.length<=50) nJ:=
 pM.bind (g:=fun _ u=>fun s n j=>iJ s n u.1.toNat [] j) (fun _ u=>(BJ _ [] qs).to) (fun s n i e h=>by simp only[nJ,h]<;>rfl) (fun s n i x j h=>by simp only[nJ,h]<;>rfl)
theorem Sl:Fine Any Wz oK:=by
 refine QY.bind (g:=fun _ ls=>fun s n j=>match zk s n j with
  | .error e=>.error e
  | .ok e=>.ok ((ls,j,n),e)) (fun _ ls=>?_) (fun s n i e h=>by simp only[oK,h]<;>rfl) (fun s n i x j h=>by simp only[oK,h]<;>rfl)
 refine⟨?_,?_,?_⟩
 .intro s n i q p _ b h;rcases a:zk s n i with⟨d,p'⟩|e
  .rw[a] at h;cases h;exact(CG _ _ _ b).1 a
  rw[a] at h;cases h
 .intro s n i x j hH b h;rcases a:zk s n i with e|e
  .rw[a] at h;cases h
  rw[a] at h;cases h;have:=(CG _ _ _ b).2.1 a;exact⟨this.1,this.2,hH.2.2,b,qR⟩
 intro s s' n i _ c b;have:zk s n i=zk s' n i:=(CG _ _ _ b).2.2 c;simp only[this]
theorem Yp:Fine Any Wz vg:=zQ Sl (fun _ _ _ a h=>⟨h.1,h.2.1,Nat.le_trans h.2.2 a⟩)
theorem JF(a end_:Nat):Fine Any (fun _ _=>True) (oJ a end_):=
 pM.bind (g:=fun _ x=>fun _ _ j=>if x.1<(a:Int)\/(end_:Int)<=x.1 then .error (2,x.2) else .ok (x.1.toNat,j)) (fun i x=>Fine.ite (fun _=>Fine.fail (fun n h=>h.2.2.2.2)) (fun _=>Fine.pure (fun _ _=>trivial)))
  (fun s n i e h=>by simp only[oJ,h]<;>rfl) (fun s n i x j h=>by simp only[oJ,h]<;>rfl)
theorem XJ(b:List zM)(f many:Nat):Fine Any (fun _ _=>True) (wY b f many):=by
 refine(JF f many).bind (g:=fun _ c=>fun s n j=>match eZ 20 s n j with
  | .error e=>.error e
  | .ok (k,d)=>match kZ k s n d with
   | .error e=>.error e
   | .ok (t,a)=>if iE t&&!qQ b t then .ok ((c,t),a) else .error (2,j)) (fun _ c=>?_) (fun s n i e h=>by simp only[wY,h]<;>rfl) (fun s n i x j h=>by simp only[wY,h]<;>rfl)
 refine(tF 20).to.bind (g:=fun i k=>fun s n d=>match kZ k s n d with
   | .error e=>.error e
   | .ok (t,a)=>if iE t&&!qQ b t then .ok ((c,t),a) else .error (2,i)) (fun i k=>?_) (fun s n i e h=>by simp only[h]<;>rfl) (fun s n i x j h=>by simp only[h]<;>rfl)
 exact(EG k).to.bind (g:=fun _ t=>fun _ _ a=>if iE t&&!qQ b t then .ok ((c,t),a) else .error (2,i)) (fun _ t=>Fine.ite (fun _=>Fine.pure (fun _ _=>trivial)) (fun _=>Fine.fail (fun n h=>h.1.2.1))) (fun s n i e h=>by simp only[h]<;>rfl) (fun s n i x j h=>by simp only[h]<;>rfl)
theorem DU(many:Nat):∀(k a:Nat) (M:List zM),Fine Any (fun _ _=>True) (fun s n j=>lU many s n k a M j)
 | 0,_,M=>Fine.pure (fun _ _=>trivial)
 | k+1,a,M=>(XJ M a many).bind (g:=fun _ x=>fun s n j=>lU many s n k (x.1+1) (M++[x]) j) (fun _ x=>(DU many k _ _).to) (fun s n i e h=>by simp only[lU,h]<;>rfl) (fun s n i x j h=>by simp only[lU,h]<;>rfl)
theorem DT(many:Nat):Fine Any (fun _ _=>True) (jy many):=
 (tF many).bind (g:=fun _ k=>fun s n j=>lU many s n k 0 [] j) (fun _ k=>(DU many k 0 []).to) (fun s n i e h=>by simp only[jy,h]<;>rfl) (fun s n i x j h=>by simp only[jy,h]<;>rfl)
theorem ZZ(m:fE)(c:Nat):Fine Any (fun _ _=>True) (E9 m c):=by
 refine(JF c m.funcs.length).bind (g:=fun _ f=>fun s n j=>match jy (qY m f) s n j with
  | .error e=>.error e
  | .ok (a,b)=>.ok ((f,a),b)) (fun _ f=>?_) (fun s n i e h=>by simp only[E9,h]<;>rfl) (fun s n i x j h=>by simp only[E9,h]<;>rfl)
 exact(DT (qY m f)).to.bind (g:=fun _ a=>fun _ _ b=>.ok ((f,a),b)) (fun _ _=>Fine.pure (fun _ _=>trivial)) (fun s n i e h=>by simp only[h]<;>rfl) (fun s n i x j h=>by simp only[h]<;>rfl)
theorem JB(m:fE):∀(k a:Nat) (M:List (Nat×List zM)),Fine Any (fun _ _=>True) (fun s n j=>sF m s n k a M j)
 | 0,_,M=>Fine.pure (fun _ _=>trivial)
 | k+1,a,M=>(ZZ m a).bind (g:=fun _ x=>fun s n j=>sF m s n k (x.1+1) (M++[x]) j) (fun _ x=>(JB m k _ _).to) (fun s n i e h=>by simp only[sF,h]<;>rfl) (fun s n i x j h=>by simp only[sF,h]<;>rfl)
structure mK(N:Nat)(m:fE):Prop where
 dm:m.dm.length<=20/\∀x∈m.dm,afC N x
 funcs:m.funcs.length<=20/\∀x∈m.funcs,vY N x
 tables:m.tables.length<=1/\∀x∈m.tables,V6 N x
 jT:m.jT.length<=1/\∀x∈m.jT,V6 N x
 dB:m.dB.length<=10/\∀x∈m.dB,adJ N x
 dw:m.dw.length<=20/\∀x∈m.dw,adK N x
 starts:m.starts.length<=1/\∀x∈m.starts,vY N x
 elems:m.elems.length<=5/\∀x∈m.elems,aav N x
 dQ:m.dQ.length<=20/\∀x∈m.dQ,Wz N x
 data:m.data.length<=10/\∀x∈m.data,adL N x
def rV(m:fE)(n:Nat)(m1:fE):Prop:=∀N,n<=N->mK N m->mK N m1
theorem rV.refl(m:fE)(n:Nat):rV m n m:=fun _ _ h=>h
theorem vY.le{n N:Nat}{x:Int×Nat}(h:vY n x)(a:n<=N):vY N x:=⟨h.1,h.2.1,Nat.le_trans h.2.2 a⟩
theorem U6(m:fE):Fine Any (rV m) (wQ m):=
 (mU 20 WV).bind (g:=fun _ xs=>fun _ _ j=>.ok ({m with dm:=xs},j)) (fun _ xs=>Fine.pure (fun n h N b a=>⟨h.2.2,a.funcs,a.tables,a.jT,a.dB,a.dw,a.starts,a.elems,a.dQ,a.data⟩)) (fun s n i e h=>by simp only[wQ,h]<;>rfl) (fun s n i x j h=>by simp only[wQ,h]<;>rfl)
theorem U5(m:fE):Fine Any (rV m) (wP m):=
 (mU 20 pM).bind (g:=fun _ xs=>fun _ _ j=>.ok ({m with funcs:=xs},j)) (fun _ xs=>Fine.pure (fun n h N b a=>⟨a.dm,⟨h.2.2.1,fun x hx=>(h.2.2.2 x hx).le b⟩,a.tables,a.jT,a.dB,a.dw,a.starts,a.elems,a.dQ,a.data⟩)) (fun s n i e h=>by simp only[wP,h]<;>rfl) (fun s n i x j h=>by simp only[wP,h]<;>rfl)
theorem U3(m:fE):Fine Any (rV m) (wO m):=
 (mU 1 TI).bind (g:=fun _ xs=>fun _ _ j=>.ok ({m with tables:=xs},j)) (fun _ xs=>Fine.pure (fun n h N b a=>⟨a.dm,a.funcs,⟨h.2.2.1,fun x hx=>Nat.le_trans (h.2.2.2 x hx) b⟩,a.jT,a.dB,a.dw,a.starts,a.elems,a.dQ,a.data⟩)) (fun s n i e h=>by simp only[wO,h]<;>rfl) (fun s n i x j h=>by simp only[wO,h]<;>rfl)
theorem UZ(m:fE):Fine Any (rV m) (wM m):=
 (mU 1 Rf).bind (g:=fun _ xs=>fun _ _ j=>.ok ({m with jT:=xs},j)) (fun _ xs=>Fine.pure (fun n h N b a=>⟨a.dm,a.funcs,a.tables,⟨h.2.2.1,fun x hx=>Nat.le_trans (h.2.2.2 x hx) b⟩,a.dB,a.dw,a.starts,a.elems,a.dQ,a.data⟩)) (fun s n i e h=>by simp only[wM,h]<;>rfl) (fun s n i x j h=>by simp only[wM,h]<;>rfl)
theorem UY(m:fE):Fine Any (rV m) (wL m):=
 (mU 10 Ru).bind (g:=fun _ xs=>fun _ _ j=>.ok ({m with dB:=xs},j)) (fun _ xs=>Fine.pure (fun n h N b a=>⟨a.dm,a.funcs,a.tables,a.jT,⟨h.2.2.1,fun x hx=>Nat.le_trans (h.2.2.2 x hx) b⟩,a.dw,a.starts,a.elems,a.dQ,a.data⟩)) (fun s n i e h=>by simp only[wL,h]<;>rfl) (fun s n i x j h=>by simp only[wL,h]<;>rfl)
theorem UX(m:fE):Fine Any (rV m) (wK m):=
 (mU 20 RP).bind (g:=fun _ xs=>fun _ _ j=>.ok ({m with dw:=xs},j)) (fun _ xs=>Fine.pure (fun n h N b a=>⟨a.dm,a.funcs,a.tables,a.jT,a.dB,⟨h.2.2.1,fun x hx=>⟨Nat.le_trans (h.2.2.2 x hx).1 b,(h.2.2.2 x hx).2.1.le b,(h.2.2.2 x hx).2.2⟩⟩,a.starts,a.elems,a.dQ,a.data⟩)) (fun s n i e h=>by simp only[wK,h]<;>rfl) (fun s n i x j h=>by simp only[wK,h]<;>rfl)
theorem UW(m:fE):Fine Any (rV m) (wJ m):=
 pM.bind (g:=fun _ x=>fun _ _ j=>.ok ({m with starts:=[x]},j)) (fun _ x=>Fine.pure (fun n h N b a=>⟨a.dm,a.funcs,a.tables,a.jT,a.dB,a.dw,⟨qs,fun y hy=>by simp at hy;subst hy;exact h.2.2.le b⟩,a.elems,a.dQ,a.data⟩)) (fun s n i e h=>by simp only[wJ,h]<;>rfl) (fun s n i x j h=>by simp only[wJ,h]<;>rfl)
theorem UU(m:fE):Fine Any (rV m) (wI m):=
 (mU 5 Yh).bind (g:=fun _ xs=>fun _ _ j=>.ok ({m with elems:=xs},j)) (fun _ xs=>Fine.pure (fun n h N b a=>⟨a.dm,a.funcs,a.tables,a.jT,a.dB,a.dw,a.starts,⟨h.2.2.1,fun x hx=>⟨Nat.le_trans (h.2.2.2 x hx).1 b,Nat.le_trans (h.2.2.2 x hx).2.1 b,(h.2.2.2 x hx).2.2.1,fun y hy=>((h.2.2.2 x hx).2.2.2 y hy).le b⟩⟩,a.dQ,a.data⟩)) (fun s n i e h=>by simp only[wI,h]<;>rfl) (fun s n i x j h=>by simp only[wI,h]<;>rfl)
theorem Sa(m:fE):Fine Any (rV m) (sV m):=
 (mU 10 Yj).bind (g:=fun _ xs=>fun _ _ j=>.ok ({m with data:=xs},j)) (fun _ xs=>Fine.pure (fun n h N b a=>⟨a.dm,a.funcs,a.tables,a.jT,a.dB,a.dw,a.starts,a.elems,a.dQ,⟨h.2.2.1,fun x hx=>⟨Nat.le_trans (h.2.2.2 x hx).1 b,Nat.le_trans (h.2.2.2 x hx).2 b⟩⟩⟩)) (fun s n i e h=>by simp only[sV,h]<;>rfl) (fun s n i x j h=>by simp only[sV,h]<;>rfl)
theorem U9(m:fE):Fine Any (rV m) (rA m):=by
 refine pM.bind (g:=fun _ u=>fun s n j=>if u.1=(m.funcs.length:Int) then(match eO vg s n m.funcs.length [] j with
   | .error e=>.error e
   | .ok (cs,b)=>.ok ({m with dQ:=cs},b)) else .error (2,u.2)) (fun _ u=>?_) (fun s n i e h=>by simp only[rA,h]<;>rfl) (fun s n i x j h=>by simp only[rA,h]<;>rfl)
 refine Fine.ite (fun _=>?_) (fun _=>Fine.fail (fun n h=>h.2.2.2.2));refine((Af Yp m.funcs.length []).weak (fun n h=>⟨trivial,qs⟩) (fun n x _ h=>h)).bind (g:=fun _ cs=>fun _ _ b=>.ok ({m with dQ:=cs},b)) (fun _ cs=>Fine.pure (fun n h N c a=>?_)) (fun s n i e h=>by simp only[h]<;>rfl) (fun s n i x j h=>by simp only[h]<;>rfl);refine⟨a.dm,a.funcs,a.tables,a.jT,a.dB,a.dw,a.starts,a.elems,⟨?_,fun x hx=>?_⟩,a.data⟩
 .have U:=h.2.2.1;have L:=a.funcs.1;simp at U;show cs.length<=20;omega
 have:=h.2.2.2 x hx;exact⟨this.1,this.2.1,Nat.le_trans this.2.2 c⟩
theorem Nh{c:Type}{P:Nat->c->Prop}{tM:qS->Nat->Nat->Except Err (c×Nat)}(which:Nat)(x0:c)(g:Fine Any P tM)(k:∀n d x,d<=n->P d x->P n x)(e:∀n,P n x0):Fine Any P (nQ which x0 tM):=by
 have hw:=zQ g k;refine⟨?_,?_,?_⟩
 .intro s n i q p _ a h;unfold nQ at h;split at h
  .split at h
   .exact hw.err trivial qo h
   cases h
  cases h
 .intro s n i x j _ a h;unfold nQ at h;split at h
  .split at h
   .have:=hw.ok trivial qo h;exact⟨qo,this.2⟩
   cases h;exact⟨qR,a,e _⟩
  cases h;exact⟨qR,a,e _⟩
 intro s s' n i _ f a;unfold nQ;split
 .rename_i hlt;rw[f.b i hlt,hw.GX trivial f qo]
 rfl
theorem JL{m:fE}:∀(n a:Nat) (x:fE),a<=n->rV m a x->rV m n x:=fun _ _ _ b h N c d=>h N (Nat.le_trans b c) d
theorem JQ(m:fE):Fine Any (rV m) (iQ m):=
 (DT m.funcs.length).bind (g:=fun _ xs=>fun _ _ j=>.ok ({m with nfuncs:=xs},j)) (fun _ xs=>Fine.pure (fun n h N b a=>⟨a.dm,a.funcs,a.tables,a.jT,a.dB,a.dw,a.starts,a.elems,a.dQ,a.data⟩)) (fun s n i e h=>by simp only[iQ,h]<;>rfl) (fun s n i x j h=>by simp only[iQ,h]<;>rfl)
theorem GA(m:fE):Fine Any (rV m) (gq m):=by
 refine(tF m.funcs.length).bind (g:=fun _ k=>fun s n j=>match sF m s n k 0 [] j with
  | .error e=>.error e
  | .ok (xs,b)=>.ok ({m with kR:=xs},b)) (fun _ k=>?_) (fun s n i e h=>by simp only[gq,h]<;>rfl) (fun s n i x j h=>by simp only[gq,h]<;>rfl)
 exact(JB m k 0 []).to.bind (g:=fun _ xs=>fun _ _ b=>.ok ({m with kR:=xs},b)) (fun _ xs=>Fine.pure (fun n h N c a=>⟨a.dm,a.funcs,a.tables,a.jT,a.dB,a.dw,a.starts,a.elems,a.dQ,a.data⟩)) (fun s n i e h=>by simp only[h]<;>rfl) (fun s n i x j h=>by simp only[h]<;>rfl)
theorem Uh(m:fE):Fine Any (rV m) (oD m):=by
 refine(rO [4,110,97,109,101]).bind (g:=fun _ _=>fun s n j=>match nQ 1 m (iQ m) s n j with
  | .error e=>.error e
  | .ok (a,j2)=>nQ 2 a (gq a) s n j2) (fun _ _=>?_) (fun s n i e h=>by simp only[oD,h]<;>rfl) (fun s n i x j h=>by simp only[oD,h]<;>rfl)
 refine(Nh 1 m (JQ m) JL (fun n=>rV.refl m n)).to.bind (g:=fun _ a=>nQ 2 a (gq a)) (fun _ a=>?_) (fun s n i e h=>by simp only[h]<;>rfl) (fun s n i x j h=>by simp only[h]<;>rfl);exact(Nh 2 a (GA a) JL (fun n=>rV.refl a n)).weak (fun _ _=>trivial) (fun n x hh h N b c=>h N b (hh.2.2 N b c))
theorem NZ(m:fE)(which:Nat):Fine Any (rV m) (uZ m which):=by
 unfold uZ;split
 .exact Uh m
 .exact U6 m
 .exact U5 m
 .exact U3 m
 .exact UZ m
 .exact UY m
 .exact UX m
 .exact UW m
 .exact UU m
 .exact U9 m
 .exact Sa m
 exact Fine.pure (fun n _=>rV.refl m n)
theorem Dz(m:fE)(last:Nat):Fine Any (fun n x=>rV m n x.1) (sw m last):=by
 refine Oe.bind (g:=fun i x=>fun s n j=>if jL x<=last then .error (2,i) else if 10<jL x/\m.dQ.length≠m.funcs.length then .error (2,i) else match fK (uZ m x) s n j with
   | .error e=>.error e
   | .ok (a,b)=>.ok ((a,jL x),b)) (fun i x=>?_) (fun s n i e h=>by simp only[sw,h]<;>rfl) (fun s n i x j h=>by simp only[sw,h]<;>rfl)
 refine Fine.ite (fun _=>Fine.fail (fun n h=>h.2.1)) (fun _=>Fine.ite (fun _=>Fine.fail (fun n h=>h.2.1)) (fun _=>?_));exact(zQ (NZ m x) JL).to.bind (g:=fun _ a=>fun _ _ b=>.ok ((a,jL x),b)) (fun _ a=>Fine.pure (fun n h=>h.2.2)) (fun s n i e h=>by simp only[h]<;>rfl) (fun s n i x j h=>by simp only[h]<;>rfl)
theorem FP{s:qS}{n:Nat}:∀(k:Nat) (m:fE) (last i:Nat),i<=n->(∀{q p},kV s n k m last i=.error (q,p)->q=2/\p<=n)/\∀{c j},kV s n k m last i=.ok (c,j)->(mK n m->mK n c)/\c.dQ.length=c.funcs.length:=by
 intro k;induction k with
 | zero=>intro m last i a;exact⟨fun h=>by simp[kV] at h;obtain⟨rfl,rfl⟩:=h;exact⟨rfl,a⟩,fun h=>by simp[kV] at h⟩
 | succ k d=>
  intro m last i a;refine⟨fun h=>?_,fun h=>?_⟩
  .unfold kV at h;split at h
   .split at h<;>cases h;exact⟨rfl,a⟩
   split at h
   .rename_i b;cases h;exact(Dz m last).err trivial a b
   rename_i b;have:=(Dz m last).ok trivial a b;exact(d _ _ _ this.2.1).1 h
  unfold kV at h;split at h
  .split at h<;>cases h;rename_i hc;exact⟨fun h=>h,hc⟩
  split at h
  .cases h
  rename_i b;have:=(Dz m last).ok trivial a b;have L:=(d _ _ _ this.2.1).2 h;exact⟨fun e=>L.1 (this.2.2 n qR e),L.2⟩
theorem mK.new(N:Nat):mK N fE.new:=by
 refine⟨⟨?_,?_⟩,⟨?_,?_⟩,⟨?_,?_⟩,⟨?_,?_⟩,⟨?_,?_⟩,⟨?_,?_⟩,⟨?_,?_⟩,⟨?_,?_⟩,⟨?_,?_⟩,⟨?_,?_⟩⟩<;>simp[fE.new]
theorem afo{s:qS}{q p:Nat}(h:nO s=.error (q,p)):q=2/\p<=s.size:=by
 unfold nO at h;split at h
 .rename_i a;cases h;exact(rO _).err trivial qZ a
 rename_i a;have:=(rO _).ok trivial qZ a;exact(FP _ _ _ _ this.2.1).1 h
theorem DI{s:qS}{m:fE}{j:Nat}(h:nO s=.ok (m,j)):mK s.size m/\m.dQ.length=m.funcs.length:=by
 unfold nO at h;split at h
 .cases h
 rename_i a;have:=(rO _).ok trivial qZ a;have L:=(FP _ _ _ _ this.2.1).2 h;exact⟨L.1 (mK.new _),L.2⟩
theorem Ky{s s':qS}{n a i x j:Nat}(c:Alike n s s')(e:n<=a)(h:lD s n i=.ok (x,j)):lD s' a i=.ok (x,j):=by
 unfold lD at h;split at h<;>cases h;rename_i d;rw[eB qo,c.b i d]
theorem Lm{ts:qM}{s s':qS}{n a i x j:Nat}(c:Alike n s s')(d:n<=a)(h:iO ts s n i=.ok (x,j)):iO ts s' a i=.ok (x,j):=by
 unfold iO at h ⊢;split at h
 .rename_i hi;rw[if_pos (show i<a by omega),<-c.b i hi];exact h
 cases h
theorem yl{s s':qS}{n b:Nat}(c:Alike n s s')(d:n<=b):∀(ts:qM) (i:Nat) {j:Nat},gz ts s n i=.ok ((),j)->gz ts s' b i=.ok ((),j)
 | [],i,j,h=>h
 | t::ts,i,j,h=>by
  unfold gz at h ⊢;rcases a:iO [t] s n i with e|⟨x,k⟩
  .rw[a] at h;cases h
  rw[a] at h;rw[Lm c d a];exact yl c d ts k h
theorem OC{s s':qS}{n c start:Nat}(f:Alike n s s')(i:n<=c):∀(m k:Nat) (z:Int) (j:Nat) {x:Int×Nat} {a:Nat},yw s n start m k z j=.ok (x,a)->yw s' c start m k z j=.ok (x,a):=by
 intro m;induction m with
 | zero=>intro k z j x a h;simp[yw] at h
 | succ m g=>
  intro k z j x a h;unfold yw at h ⊢;by_cases d:j<n
  .rw[eB d] at h;rw[eB (show j<c by omega),<-f.b j d];simp only at h ⊢;split
   .rename_i hc;rw[if_pos hc] at h;cases h
   rename_i hc;rw[if_neg hc] at h;split
   .rename_i e;rw[if_pos e] at h;exact h
   rename_i e;rw[if_neg e] at h;exact g _ _ _ h
  rw[iW d] at h;cases h
theorem Qp{s s':qS}{n a i:Nat}{x:Int×Nat}{j:Nat}(b:Alike n s s')(c:n<=a)(h:uM s n i=.ok (x,j)):uM s' a i=.ok (x,j):=OC b c _ _ _ _ h
theorem EF{c:Type}{P:Nat->c->Prop}{tM:qS->Nat->Nat->Except Err (c×Nat)}(l:Fine Any P tM){s s':qS}{n d i:Nat}{x:c}{j:Nat}(f:Alike n s s')(m:n<=d)(h:fK tM s n i=.ok (x,j)):fK tM s' d i=.ok (x,j):=by
 unfold fK at h ⊢;rcases b:uM s n i with e|⟨⟨v,a⟩,k⟩
 .rw[b] at h;cases h
 have hf:=mW b;rw[b] at h;rw[Qp f m b];simp only at h ⊢;by_cases g:(n:Int) - (k:Int)<v
 .rw[if_pos g] at h;split at h<;>cases h
 rw[if_neg g] at h;rw[if_neg (show ¬(d:Int) - (k:Int)<v by omega)];rw[<-l.GX trivial (f.less qo) qo];exact h
theorem Lh{m:fE}{last:Nat}{s s':qS}{n c i:Nat}{x:fE×Nat}{j:Nat}(d:Alike n s s')(f:n<=c)(h:sw m last s n i=.ok (x,j)):sw m last s' c i=.ok (x,j):=by
 unfold sw at h ⊢;rcases a:lD s n i with e|u
 .rw[a] at h;cases h
 obtain⟨u,k⟩:=u;rw[a] at h;rw[Ky d f a];simp only at h ⊢;split
 .rename_i hc;rw[if_pos hc] at h;cases h
 rename_i hc;rw[if_neg hc] at h;split
 .rename_i b;rw[if_pos b] at h;cases h
 rename_i b;rw[if_neg b] at h;rcases hw:fK (uZ m u) s n k with e|⟨g,l⟩
 .rw[hw] at h;cases h
 rw[hw] at h;rw[EF (NZ m u) d f hw];exact h
theorem Zw{m:fE}{last:Nat}{s:qS}{n:Nat}:∃p,sw m last s (n+1) n=.error (2,p)/\(p=n\/p=n+1):=by
 unfold sw;rw[eB (Nat.lt_succ_self n)];simp only;split
 .exact⟨n,rfl,.inl rfl⟩
 split
 .exact⟨n,rfl,.inl rfl⟩
 have a:uM s (n+1) (n+1)=.error (2,n+1):=by
  unfold uM;rw[show(5:Nat)=4+1 from rfl];unfold yw;rw[iW qo]
 refine⟨n+1,?_,.inr rfl⟩;simp only[fK,a]
theorem Lj{s s':qS}{n:Nat}(l:Alike n s s'):∀(k:Nat) (m:fE) (last i:Nat) {b:fE} {j:Nat},i<=n->12<last+k->(∀{c r d},sw m last s n i=.ok ((c,r),d)->last<r)->kV s n k m last i=.ok (b,j)->∃p,kV s' (n+1) k m last i=.error (2,p)/\(p=n\/p=n+1):=by
 intro k;induction k with
 | zero=>intro m last i b j f X g h;simp[kV] at h
 | succ k o=>
  intro m last i b j f X g h;unfold kV at h ⊢;by_cases q:n<=i
  .have hin:i=n:=qo;subst hin;obtain⟨p,hp,t⟩:=Zw (m:=m) (last:=last) (s:=s') (n:=i);rw[if_neg (show ¬i+1<=i by omega),hp];exact⟨p,rfl,t⟩
  rw[if_neg q] at h;rw[if_neg (show ¬n+1<=i by omega)];rcases a:sw m last s n i with e|⟨⟨c,r⟩,d⟩
  .rw[a] at h;cases h
  rw[a] at h;rw[Lh l (Nat.le_succ n) a];simp only at h ⊢;have U:=(Dz m last).ok trivial f a;have L:=g a;refine o _ _ _ U.2.1 qo ?_ h;intro u v w h3;unfold sw at h3;split at h3
  .cases h3
  split at h3
  .cases h3
  rename_i x;split at h3
  .cases h3
  split at h3
  .cases h3
  cases h3;omega
theorem abT{s s':qS}{m:fE}{j:Nat}(c:s'.size=s.size+1)(b:Alike s.size s s')(h:nO s=.ok (m,j)):∃p,nO s'=.error (2,p)/\(p=s.size\/p=s.size+1):=by
 unfold nO at h ⊢;rw[c];rcases a:gz [0,97,115,109,1,0,0,0] s s.size 0 with e|⟨⟨⟩,k⟩
 .rw[a] at h;cases h
 rw[a] at h;rw[yl b (Nat.le_succ _) _ _ a];simp only at h ⊢;have U:=(rO _).ok trivial qZ a;refine Lj b _ _ _ _ U.2.1 qo ?_ h;intro d f g h3;unfold sw at h3;split at h3
 .cases h3
 split at h3
 .cases h3
 split at h3
 .cases h3
 split at h3
 .cases h3
 cases h3;omega
def Df{α:Type}(s:qS)(Pr:α->Prop)(f:qS->Nat->Nat->Except Err (α×Nat)):Prop:=∀⦃n i x j⦄,f s n i=.ok (x,j)->Pr x
theorem Df.within{a:Type}{s:qS}{b:a->Prop}{f:qS->Nat->Nat->Except Err (a×Nat)}(h:Df s b f):Df s b (fK f):=by
 intro n i x j hx;unfold fK at hx;split at hx
 .cases hx
 split at hx
 .split at hx<;>cases hx
 split at hx
 .cases hx
 rename_i c;split at hx<;>cases hx;exact h c
theorem Df.eO{a:Type}{s:qS}{b:a->Prop}{f:qS->Nat->Nat->Except Err (a×Nat)}(h:Df s b f){n:Nat}:∀(k:Nat) (M:List a) (j:Nat) {xs:List a} {d:Nat},(∀x∈M,b x)->eO f s n k M j=.ok (xs,d)->∀x∈xs,b x:=by
 intro k;induction k with
 | zero=>intro M j xs d e hx;unfold Go.Proofs.YtdaafkmhfedkiaaGreat.eO at hx;cases hx;exact e
 | succ k g=>
  intro M j xs d e hx;unfold Go.Proofs.YtdaafkmhfedkiaaGreat.eO at hx;split at hx
  .cases hx
  rename_i i;refine g _ _ (fun x l=>?_) hx;rcases List.mem_append.1 l with c | c
  .exact e x c
  simp at c;subst c;exact h i
def nL(s:qS)(m:fE):Prop:=∀c∈m.dQ,∃j,zk s c.2.2 c.2.1=.ok j
theorem Yn(s:qS):Df s (fun c:YQ=>∃j,zk s c.2.2 c.2.1=.ok j) vg:=by
 refine Df.within (f:=oK) ?_;intro n i x j h;unfold oK at h;split at h
 .cases h
 split at h
 .cases h
 rename_i a;cases h;exact⟨_,a⟩
theorem Nc{a:Type}{s:qS}{b:a->Prop}{f:qS->Nat->Nat->Except Err (a×Nat)}(which:Nat)(x0:a)(c:b x0)(h:Df s b f):Df s b (nQ which x0 f):=by
 intro n i x j hx;unfold nQ at hx;split at hx
 .split at hx
  .exact h.within hx
  cases hx;exact c
 cases hx;exact c
theorem JP{s:qS}{m:fE}(a:nL s m):Df s (nL s) (iQ m):=by
 intro n i x j h;unfold iQ at h;split at h<;>cases h;exact a
theorem Gz{s:qS}{m:fE}(a:nL s m):Df s (nL s) (gq m):=by
 intro n i x j h;unfold gq at h;split at h
 .cases h
 split at h<;>cases h;exact a
theorem Ug{s:qS}{m:fE}(a:nL s m):Df s (nL s) (oD m):=by
 intro n i x j h;unfold oD at h;split at h
 .cases h
 split at h
 .cases h
 rename_i b;have U:=Nc 1 m a (JP a) b;exact Nc 2 _ U (Gz U) h
theorem U8{s:qS}(m:fE):Df s (nL s) (rA m):=by
 intro n i x j h;unfold rA at h;split at h
 .cases h
 split at h
 .split at h
  .cases h
  rename_i a;cases h;exact(Yn s).eO _ _ _ qs a
 cases h
theorem Yl{s:qS}{m:fE}(a:nL s m)(which:Nat):Df s (nL s) (uZ m which):=by
 intro n i x j h;unfold uZ at h;split at h
 .exact Ug a h
 .unfold wQ at h;split at h<;>cases h;exact a
 .unfold wP at h;split at h<;>cases h;exact a
 .unfold wO at h;split at h<;>cases h;exact a
 .unfold wM at h;split at h<;>cases h;exact a
 .unfold wL at h;split at h<;>cases h;exact a
 .unfold wK at h;split at h<;>cases h;exact a
 .unfold wJ at h;split at h<;>cases h;exact a
 .unfold wI at h;split at h<;>cases h;exact a
 .exact U8 m h
 .unfold sV at h;split at h<;>cases h;exact a
 cases h;exact a
theorem Zu{s:qS}{m:fE}(a:nL s m)(last:Nat):Df s (fun x:fE×Nat=>nL s x.1) (sw m last):=by
 intro n i x j h;unfold sw at h;split at h
 .cases h
 split at h
 .cases h
 split at h
 .cases h
 split at h
 .cases h
 rename_i b;cases h;exact(Yl a _).within b
theorem QD{s:qS}{n:Nat}:∀(k:Nat) (m:fE) (last i:Nat) {a:fE} {j:Nat},nL s m->kV s n k m last i=.ok (a,j)->nL s a:=by
 intro k;induction k with
 | zero=>intro m last i a j b h;simp[kV] at h
 | succ k c=>
  intro m last i a j b h;unfold kV at h;split at h
  .split at h<;>cases h;exact b
  split at h
  .cases h
  rename_i d;exact c _ _ _ (Zu b last d) h
theorem QC{s:qS}{m:fE}{j:Nat}(h:nO s=.ok (m,j)):nL s m:=by
 unfold nO at h;split at h
 .cases h
 exact QD _ _ _ _ (by intro c hc;simp[fE.new] at hc) h
end Go.Proofs.YtdaafkmhfedkiaaGreat
