import Derived.Test.YtdaafkmhfedkiaaGreatX27
namespace Go.Proofs.YtdaafkmhfedkiaaGreat
set_option maxHeartbeats 200000
open Go.RowKit Go.Proofs.Tryz
def Lp(last:Nat):Nat:=if last=0 then 0 else if last=1 then 1 else last - 1
theorem UI:∀(l:Fin 13) (x:Fin 256),l.val=2\/((jL x.val<=l.val->lq x.val (Lp l.val)=11)/\(l.val<jL x.val->lq x.val (Lp l.val)<11/\uq.getD (lq x.val (Lp l.val)) 0=x.val/\lq x.val (Lp l.val)+1=Lp (jL x.val)/\jL x.val≠2/\(10<jL x.val↔8<lq x.val (Lp l.val))/\Lp l.val<=lq x.val (Lp l.val))):=by decide+kernel
def CU(s:qS)(q:Nat×RM×RS):RS:=if q.1<=8/\0<q.2.1.tys.length then dL q.2.2 s.size else q.2.2
structure agR(s:qS)(last nx:Nat)(m:fE)(r:RM):Prop where
 at_:nx=Lp last
 le:last<=12
 ne:last≠2
 mod:uN s m r
 f20:m.funcs.length<=20
 c0:nx<=8->m.dQ=[]
 c1:8<nx->m.dQ.length=m.funcs.length
section
variable {s:qS}
theorem H7{q:Nat×RM×RS}{p:Nat}(h:q.2.2.bad=some p):(CU s q).bad=some p:=by
 unfold CU;split
 .exact iy h
 exact h
theorem Ww{Z:RS}{a:Nat}{r:RM}(h:Z.bad≠none):∀f:Nat,jZ s f a r Z=(a,r,Z)
 | 0=>rfl
 | f+1=>by
  unfold jZ;rw[if_pos (.inl h)]
theorem abS:∀(k last a:Nat) (m:fE) (r:RM) (i f:Nat),13<=k+last->12<=f+a->agR s last a m r->i<=s.size->match kV s s.size k m last i with
  | .ok (m',_)=>(CU s (jZ s f a r ⟨i,s.size,none⟩)).bad=none/\uN s m' (jZ s f a r ⟨i,s.size,none⟩).2.1/\m'.dQ.length=m'.funcs.length
  | .error e=>e.1=2/\(CU s (jZ s f a r ⟨i,s.size,none⟩)).bad=some e.2:=by
 intro k;induction k with
 | zero=>intro last a m r i f U _ hI _;have:=hI.le;omega
 | succ k z=>
  intro last a m r i f U L hI N;have O:=hI.le;have u:=hI.at_;have P:a<=11:=by
   rw[u];unfold Lp;split
   .omega
   split<;>omega
  obtain⟨g,rfl⟩:∃g,f=g+1:=⟨f - 1,qo⟩;have A:m.funcs.length=r.tys.length:=hI.mod.funcs.1;have b:m.dQ.length=m.funcs.length↔¬(a<=8/\0<r.tys.length):=by
   by_cases h:a<=8
   .rw[hI.c0 h,<-A,List.length_nil];omega
   simp[h,hI.c1 qo]
  unfold kV;by_cases l:s.size<=i
  .obtain rfl:i=s.size:=qo;have n:jZ s (g+1) a r ⟨s.size,s.size,none⟩=(a,r,⟨s.size,s.size,none⟩):=by
    unfold jZ;rw[if_pos (.inr qR)]
   rw[if_pos l,n];unfold CU;by_cases hc:m.dQ.length=m.funcs.length
   .rw[if_pos hc];simp only;rw[if_neg (b.1 hc)];exact⟨rfl,hI.mod,hc⟩
   rw[if_neg hc];simp only;rw[if_pos (Decidable.of_not_not (fun c=>hc (b.2 c)))];exact⟨trivial,rfl⟩
  rw[if_neg l];have v:i<s.size:=qo;have n:jZ s (g+1) a r ⟨i,s.size,none⟩=if lq (bt s i) a=11\/(a<=8/\8<lq (bt s i) a/\0<r.tys.length) then(a,r,dL ⟨i+1,s.size,none⟩ i) else jZ s g (lq (bt s i) a+1) (Tu s (pR s (lq (bt s i) a) r) ⟨i+1,s.size,none⟩).1 (Tu s (pR s (lq (bt s i) a) r) ⟨i+1,s.size,none⟩).2:=by
   conv=>lhs;unfold jZ
   rw[if_neg (fun c=>c.elim (fun d=>d rfl) l),l9 v];rfl
  rw[n];have hf:=(UI ⟨last,qo⟩ ⟨bt s i,xg s i⟩).resolve_left hI.ne;simp only at hf;rw[<-u] at hf;unfold sw;rw[eB v];simp only;by_cases o:jL (bt s i)<=last
  .rw[if_pos o,if_pos (.inl (hf.1 o))];exact⟨rfl,H7 rfl⟩
  rw[if_neg o];obtain⟨B,C,D,E,p,Q⟩:=hf.2 qo;by_cases hc:10<jL (bt s i)/\m.dQ.length≠m.funcs.length
  .have hc2:a<=8/\0<r.tys.length:=Decidable.of_not_not (fun c=>hc.2 (b.2 c));rw[if_pos hc,if_pos (.inr ⟨hc2.1,p.1 hc.1,hc2.2⟩)];exact⟨rfl,H7 rfl⟩
  rw[if_neg hc,if_neg (fun c=>c.elim (fun d=>qo) (fun d=>hc ⟨p.2 d.2.1,fun e=>b.1 e ⟨d.1,d.2.2⟩⟩))];have q:=OU (aev hI.mod hI.f20 _ B) (abr (r:=r) (lq (bt s i) a));rw[C] at q;rcases w:fK (uZ m (bt s i)) s s.size (i+1) with e|⟨F,G⟩
  .obtain⟨t,j⟩:=q.err qo qR w;rw[Ww (iI j)];exact⟨t,H7 j⟩
  obtain⟨H,t,⟨j,I,x,J,K⟩,R,M⟩:=q.ok qo qR w;rw[t];simp only;refine z (jL (bt s i)) (lq (bt s i) a+1) F H G g qo qo ⟨D,Je _,E,j,K,fun h=>?_,fun h=>?_⟩ M
  .rw[x qo];exact hI.c0 qo
  by_cases y:lq (bt s i) a=8
  .exact I y
  rw[x y,J qo];exact Decidable.of_not_not (fun c=>hc ⟨p.2 qo,c⟩)
theorem Jc(s:qS):match nO s with
  | .ok (m,_)=>(dR s).2.bad=none/\uN s m (dR s).1/\m.dQ.length=m.funcs.length
  | .error e=>e.1=2/\(dR s).2.bad=some e.2:=by
 have b:dR s=((jZ s 12 0 RM.none (lV s magic ⟨0,s.size,none⟩)).2.1,CU s (jZ s 12 0 RM.none (lV s magic ⟨0,s.size,none⟩))):=by
  unfold dR pW CU;with_reducible rfl
 rw[b];unfold nO;rw[show([0,97,115,109,1,0,0,0]:qM)=magic from rfl];have U:=Al (s:=s) qR magic 0 qZ;rcases a:gz magic s s.size 0 with e|⟨u,j⟩
 .rw[a] at U;rw[Ww (iI U.2)];exact⟨U.1,H7 U.2⟩
 rw[a] at U;obtain⟨d,g,f⟩:=U;rw[d];simp only;exact abS 13 0 0 fE.new RM.none j 12 qo qo ⟨rfl,qo,qo,⟨nD.nil,nD.nil,.inl ⟨rfl,rfl⟩,.inl ⟨rfl,rfl⟩,nD.nil,nD.nil,.inl ⟨rfl,rfl⟩,nD.nil,nD.nil,nD.nil⟩,by simp[fE.new],fun _=>rfl,fun c=>qo⟩ f
end
end Go.Proofs.YtdaafkmhfedkiaaGreat
