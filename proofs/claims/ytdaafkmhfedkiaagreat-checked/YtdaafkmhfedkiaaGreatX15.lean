import Derived.Test.YtdaafkmhfedkiaaGreatX14
namespace Go.Proofs.YtdaafkmhfedkiaaGreat
set_option maxHeartbeats 3200000
set_option maxRecDepth 100000
open Go.RowKit Go.Proofs.Tryz
structure MC where
 kind:Nat
 val:Int
 at_:Nat
def MC.cells(c:MC):List Value:=[qB c.kind,qJ c.val,qJ c.at_]
def jS(s:qS)(Z:RS):MC×RS:=
 if(dO s Z).1=65 then(⟨105,(sS s 4 8 16 7 (dO s Z).2).1,Z.at_⟩,gY s 11 (sS s 4 8 16 7 (dO s Z).2).2)
 else if(dO s Z).1=66 then(⟨108,(sS s 9 1 2 63 (dO s Z).2).1,Z.at_⟩,gY s 11 (sS s 9 1 2 63 (dO s Z).2).2)
 else(⟨105,0,Z.at_⟩,gY s 11 (dL (dO s Z).2 Z.at_))
structure fA where
 op:Nat
 at_:Nat
 xn:Int
 pX:Nat
 off:Int
 val:Int
 dF:List (Nat×Nat)
 dH:Nat
 kind:Nat
def fA.cells(i:fA)(lv:Value):List Value:=[qJ i.op,qJ i.at_,qJ i.xn,qJ i.pX,qJ i.off,qJ i.val,lv,qJ i.dH,qB i.kind]
def iZ(s:qS)(i:fA)(Z:RS):fA×RS:=
 if Z.bad≠none then(i,Z)
 else if Z.at_<Z.end_/\bt s Z.at_=64 then(i,{Z with at_:=Z.at_+1})
 else if Z.at_<Z.end_/\(bt s Z.at_=127\/bt s Z.at_=126) then({i with dH:=1,kind:=(jq s Z).1},(jq s Z).2)
 else({i with dH:=2,xn:=(sS s 4 16 32 3 Z).1,pX:=Z.at_},if(sS s 4 16 32 3 Z).1<0 then dL (sS s 4 16 32 3 Z).2 Z.at_ else(sS s 4 16 32 3 Z).2)
section
variable {S:qD} {w w':qW} {x Y:Nat} {s:qS} {Z:RS}
theorem yA(h:eu w x s Z Y):qC 99 #[qP x] w fun e w'=>e=.returned (.agg (jS s Z).1.cells.toArray)/\eu w' x s (jS s Z).2 Y/\Kept (only x) w w':=by
 have aa:=fP h;have hx:=h.lt;obtain⟨-,⟨I1,J1⟩,-,-,-⟩:=h.blk.five;have HI:=hide h;clear h;go_enter func99,ntmps99;go_wp2_with fail
 refine(o5 ((HI.o.alloc _).alloc _)).mono ?_;rintro e E ⟨rfl,hI,X⟩;have F:OB E x w.heap.size [qB 0,qJ 0,qJ 0]:=((OB.new (c:= #[qB 0,qJ 0,qJ 0]) (t:=74) hx rfl).alloc _).call X;have l:OB E x (w.heap.size+1) [qB 105,qJ 0,qJ Z.at_]:=(OB.new (w:=w.alloc (.cells #[qB 0,qJ 0,qJ 0] 74)) (g:=w.heap.size+1) (c:= #[qB 105,qJ 0,qJ Z.at_]) (t:=74) qt qs).call X;have D:Kept (only x) w E:=((qr.alloc _).alloc _).trans X;have m:qh (jS s Z=if(dO s Z).1=65 then(⟨105,(sS s 4 8 16 7 (dO s Z).2).1,Z.at_⟩,gY s 11 (sS s 4 8 16 7 (dO s Z).2).2)
  else if(dO s Z).1=66 then(⟨108,(sS s 9 1 2 63 (dO s Z).2).1,Z.at_⟩,gY s 11 (sS s 9 1 2 63 (dO s Z).2).2)
  else(⟨105,0,Z.at_⟩,gY s 11 (dL (dO s Z).2 Z.at_))):=rfl
 clear X I1 J1;generalize dO s Z=os at*;obtain⟨b,st1⟩:=os;simp only at hI m ⊢;have ad:=D.size;obtain⟨⟨G,H⟩,⟨I,J⟩,⟨K,M⟩⟩:=l.blk.three;have ae:=l.lt;have af:¬w.heap.size+1=x:=l.ne;by_cases U:b=65
 .have t1:((b:Int)==65)=true:=by simp;omega
  have i:qh (jS s Z=(⟨105,(sS s 4 8 16 7 st1).1,Z.at_⟩,gY s 11 (sS s 4 8 16 7 st1).2)):=by show _=_;rw[m.o,if_pos U]
  clear m U;go_wp2_with fail
  refine(QH hI).mono ?_;rintro e O ⟨rfl,n,d⟩;generalize sS s 4 8 16 7 st1=N at*;obtain⟨z,ab⟩:=N;simp only at n i ⊢;have j:=l.call d;obtain⟨⟨M0,N0⟩,⟨M1,N1⟩,⟨M2,N2⟩⟩:=j.blk.three;have ac:=j.lt;have p:=(D.trans d).new (g:=w.heap.size+1) (o:=1) qo (qJ z);have q:=j.set 1 (qJ z);have r:=(F.call d).other (g':=w.heap.size+1) (o:=1) qo (qJ z);clear G H I J K M;go_wp2_with fail
  refine(nP (n.other j.ne _) 11).mono ?_;rintro e P ⟨rfl,u,f⟩;have k:=q.call f;have a:=r.call f;have y:=p.trans f;obtain⟨⟨Q,R⟩,⟨T,V⟩,⟨W,K2⟩⟩:=k.blk.three;obtain⟨⟨A,Q0⟩,⟨B,Q1⟩,⟨C,Q2⟩⟩:=a.blk.three;have lL:=k.lt;have lR:=a.lt;go_wp2;refine bodyPost_ret (v:=.agg #[qB 105,qJ z,qJ Z.at_]) ?_ rfl ⟨by rw[i.o];rfl,by rw[i.o];exact(((u).other a.ne _).other a.ne _).other a.ne _,(((y).new qo _).new qo _).new qo _⟩;simp[results,results99,go_sem,A,B,C]
 have t1:((b:Int)==65)=false:=by simp;omega
 by_cases L:b=66
 .have t2:((b:Int)==66)=true:=by simp;omega
  have i:qh (jS s Z=(⟨108,(sS s 9 1 2 63 st1).1,Z.at_⟩,gY s 11 (sS s 9 1 2 63 st1).2)):=by show _=_;rw[m.o,if_neg U,if_pos L]
  clear m U L;go_wp2_with fail
  refine(QG (hI.other l.ne _)).mono ?_;rintro e O ⟨rfl,n,d⟩;generalize sS s 9 1 2 63 st1=N at*;obtain⟨z,ab⟩:=N;simp only at n i ⊢;have j:=(l.set 0 (qB 108)).call d;obtain⟨⟨M0,N0⟩,⟨M1,N1⟩,⟨M2,N2⟩⟩:=j.blk.three;have ac:=j.lt;have p:=((D.new (g:=w.heap.size+1) (o:=0) qo (qB 108)).trans d).new (g:=w.heap.size+1) (o:=1) qo (qJ z);have q:=j.set 1 (qJ z);have r:=((F.other (g':=w.heap.size+1) (o:=0) qo (qB 108)).call d).other (g':=w.heap.size+1) (o:=1) qo (qJ z);clear G H I J K M;go_wp2_with fail
  refine(nP (n.other j.ne _) 11).mono ?_;rintro e P ⟨rfl,u,f⟩;have k:=q.call f;have a:=r.call f;have y:=p.trans f;obtain⟨⟨Q,R⟩,⟨T,V⟩,⟨W,K2⟩⟩:=k.blk.three;obtain⟨⟨A,Q0⟩,⟨B,Q1⟩,⟨C,Q2⟩⟩:=a.blk.three;have lL:=k.lt;have lR:=a.lt;go_wp2;refine bodyPost_ret (v:=.agg #[qB 108,qJ z,qJ Z.at_]) ?_ rfl ⟨by rw[i.o];rfl,by rw[i.o];exact(((u).other a.ne _).other a.ne _).other a.ne _,(((y).new qo _).new qo _).new qo _⟩;simp[results,results99,go_sem,A,B,C]
 have t2:((b:Int)==66)=false:=by simp;omega
 have i:qh (jS s Z=(⟨105,0,Z.at_⟩,gY s 11 (dL st1 Z.at_))):=by show _=_;rw[m.o,if_neg U,if_neg L]
 clear m U L;go_wp2_with fail
 refine(gH hI Z.at_ aa).mono ?_;rintro e O ⟨rfl,n,d⟩;have q:=l.call d;have p:=D.trans d;have r:=F.call d;clear G H I J K M;go_wp2_with fail
 refine(nP n 11).mono ?_;rintro e P ⟨rfl,u,f⟩;have k:=q.call f;have a:=r.call f;have y:=p.trans f;obtain⟨⟨Q,R⟩,⟨T,V⟩,⟨W,K2⟩⟩:=k.blk.three;obtain⟨⟨A,Q0⟩,⟨B,Q1⟩,⟨C,Q2⟩⟩:=a.blk.three;have lL:=k.lt;have lR:=a.lt;go_wp2;refine bodyPost_ret (v:=.agg #[qB 105,qJ 0,qJ Z.at_]) ?_ rfl ⟨by rw[i.o];rfl,by rw[i.o];exact(((u).other a.ne _).other a.ne _).other a.ne _,(((y).new qo _).new qo _).new qo _⟩;simp[results,results99,go_sem,A,B,C]
theorem kY.nine{w:qW}{g:Nat}{a b c d e f h i j:qv}(hb:kY w g [a,b,c,d,e,f,h,i,j]):
  (w.cell? (qA g 0)=some a/\w.frozen? (qA g 0)=false)/\(w.cell? (qA g 1)=some b/\w.frozen? (qA g 1)=false)/\(w.cell? (qA g 2)=some c/\w.frozen? (qA g 2)=false)/\
  (w.cell? (qA g 3)=some d/\w.frozen? (qA g 3)=false)/\(w.cell? (qA g 4)=some e/\w.frozen? (qA g 4)=false)/\(w.cell? (qA g 5)=some f/\w.frozen? (qA g 5)=false)/\
  (w.cell? (qA g 6)=some h/\w.frozen? (qA g 6)=false)/\(w.cell? (qA g 7)=some i/\w.frozen? (qA g 7)=false)/\(w.cell? (qA g 8)=some j/\w.frozen? (qA g 8)=false):=
 ⟨hb 0 qs,hb 1 qs,hb 2 qs,hb 3 qs,hb 4 qs,hb 5 qs,hb 6 qs,hb 7 qs,hb 8 qs⟩
theorem TW{ib:Nat}{i:fA}{lv:qv}(h:eu w x s Z Y)(b:OB w x ib (i.cells lv)):qC 217 #[qP x,qP ib] w fun e w'=>qU e/\eu w' x s (iZ s i Z).2 Y/\OB w' x ib ((iZ s i Z).1.cells lv)/\Kept (fun k=>k=x\/k=ib) w w':=by
 have hat:=fP h;have hx:=h.lt;have y:=b.lt;have hne:¬ib=x:=b.ne;have HI:=hide h;have HO:=hide b;have l:=h.le;have f:=h.big;have m:=h.sz;obtain⟨a,e,bad⟩:=Z;obtain⟨⟨A,B⟩,⟨n,C⟩,⟨r,D⟩,⟨g,E⟩,-⟩:=h.blk.five;obtain⟨⟨F,G⟩,⟨H,I⟩,⟨J,K⟩,⟨L,M⟩,⟨N,O⟩,⟨Q,R⟩,⟨T,U⟩,⟨V,W⟩,⟨L8,K8⟩⟩:=b.blk.nine;simp only at n r g l f hat;clear h b;cases bad with
 | some q=>
  have hz:(0:Int)<=gX (some q):=fO qs;have vK:qh (iZ s i ⟨a,e,some q⟩=(i,⟨a,e,some q⟩)):=by show _=_;simp[iZ]
  generalize gX (some q)=z at*;go_enter func217,ntmps217;go_wp2;first | go_end0 | refine bodyPost_ret (results_none rfl _ _ _) rfl ?_
  rw[vK.o];exact⟨rfl,HI.o,HO.o,Kept.refl _ _⟩
 | none=>
  simp only[gX] at g;by_cases d:a<e
  .have has:a<s.size:=qo;have hb:=zH has;have t:(a:Int)<(e:Int):=qo;have aa:(a:Int)<(s.size:Int):=qo;by_cases h64:bt s a=64
   .have u:(((s[a].toNat:Nat):Int)==64)=true:=by simp;omega
    have vK:qh (iZ s i ⟨a,e,none⟩=(i,⟨a+1,e,none⟩)):=by show _=_;simp[iZ,d,h64]
    clear h64 hb;go_enter func217,ntmps217;go_wp2;first | go_end0 | refine bodyPost_ret (results_none rfl _ _ _) rfl ?_
    rw[vK.o];exact⟨rfl,⟨HI.o.blk.set 1 (qJ ((a:Int)+1)),by simp only;omega,f,m,fun q hq=>by cases hq⟩,HO.o.other (fun c=>hne c.symm) _,qr.setCell (p:=(qA x 1)) (fun _=>.inl rfl) _⟩
   have u:(((s[a].toNat:Nat):Int)==64)=false:=by simp;omega
   by_cases X:bt s a=127\/bt s a=126
   .have vK:qh (iZ s i ⟨a,e,none⟩=({i with dH:=1,kind:=(jq s ⟨a,e,none⟩).1},(jq s ⟨a,e,none⟩).2)):=by show _=_;simp[iZ,d,h64,X]
    have t2:((((s[a].toNat:Nat):Int)==127)||(((s[a].toNat:Nat):Int)==126))=true:=by simp;omega
    by_cases h127:bt s a=127
    .have j:(((s[a].toNat:Nat):Int)==127)=true:=by simp;omega
     exact agM
    have j:(((s[a].toNat:Nat):Int)==127)=false:=by simp;omega
    have v:(((s[a].toNat:Nat):Int)==126)=true:=by simp;omega
    exact agM
   have j:(((s[a].toNat:Nat):Int)==127)=false:=by simp;omega
   have v:(((s[a].toNat:Nat):Int)==126)=false:=by simp;omega
   have vK:qh (iZ s i ⟨a,e,none⟩=({i with dH:=2,xn:=(sS s 4 16 32 3 ⟨a,e,none⟩).1,pX:=a},if(sS s 4 16 32 3 ⟨a,e,none⟩).1<0 then dL (sS s 4 16 32 3 ⟨a,e,none⟩).2 a else(sS s 4 16 32 3 ⟨a,e,none⟩).2)):=by show _=_;simp[iZ,h64,X]
   clear h64 hb X;exact Zz4
  have t:¬(a:Int)<(e:Int):=qo;have vK:qh (iZ s i ⟨a,e,none⟩=({i with dH:=2,xn:=(sS s 4 16 32 3 ⟨a,e,none⟩).1,pX:=a},if(sS s 4 16 32 3 ⟨a,e,none⟩).1<0 then dL (sS s 4 16 32 3 ⟨a,e,none⟩).2 a else(sS s 4 16 32 3 ⟨a,e,none⟩).2)):=by show _=_;simp[iZ,d]
  exact Zz4
end
end Go.Proofs.YtdaafkmhfedkiaaGreat
