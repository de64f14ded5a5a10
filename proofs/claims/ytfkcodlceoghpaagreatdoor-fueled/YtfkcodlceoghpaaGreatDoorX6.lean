import Derived.Deep.AppendLies
import Derived.Deep.RegionHeld3
import Derived.Deep.RegionLaw
import Derived.RegionDies
import Derived.Test.YtfkcodlceoghpaaGreatDoorX4
import Derived.Test.YtfkcodlceoghpaaGreatDoorX5
namespace Go.Proofs.YtfkcodlceoghpaaGreatDoor
set_option maxHeartbeats 3200000
set_option maxRecDepth 100000
set_option linter.unusedSimpArgs false
set_option linter.unusedVariables false
open Go.RowKit Go.Proofs.Tryz
theorem Eu{w:qW}{b:Nat}{s:qS}{i n:Nat}(h:Rd w b s i n):
  qC 170 #[qP b] w (Out w b s n (We (λg=>w.heap.size<=g)) (rA s n i)):=by
 have ai:=h.lt;have aj:=gu;go_enter func170,ntmps170;go_wp2_with fail
 refine(one_any (ts:=[96]) (((h.alloc _).alloc _).alloc _) (oq 96 qs rfl) qs qo qs).mono ?_;rintro e B⟨z,a,d⟩;have C:=((((Kept.refl (only b) w).alloc _).alloc _).alloc _).trans z;have Y:OB B b (w.heap.size) [qN,qN]:=(((OB.new (b:=b) (g:=w.heap.size) (c:= #[qN,qN]) (by first | omega | (simp;omega)) qs).alloc _).alloc _).call z;have m:OB B b (w.heap.size+1) [qN,qN]:=((OB.new (b:=b) (g:=w.heap.size+1) (c:= #[qN,qN]) (by first | omega | (simp;omega)) qs).alloc _).call z;clear z;rcases ho:iO [96] s n i with⟨q,p⟩|D
 .obtain rfl:=d _ _ ho;exact⟨rfl,Out.dG (by simp[rA,ho]) C⟩
 obtain⟨x,j⟩:=D;obtain⟨u,rfl,-,Z⟩:=a _ _ ho;have E:=qH ho;clear a d ho;have ak:=C.size;go_wp2_with fail
 refine(xC 8 Z qo).mono ?_;rintro e M⟨A,a,d⟩;have F:=C.trans A;have aa:OB M b (w.heap.size) [qN,qN]:=Y.call A;have f:OB M b (w.heap.size+1) [qN,qN]:=m.call A;clear A;rcases ho:eB 8 jM s n j with⟨q,p⟩|D
 .obtain rfl:=d _ _ ho;exact⟨rfl,Out.dG (by simp[rA,E.o,ho]) F⟩
 obtain⟨l,j2⟩:=D;obtain⟨vi,rfl,G,ab⟩:=a _ _ ho;have N:=qH ho;clear a d ho;have al:=F.size;obtain⟨r,t,rfl⟩:=Row.shape G;obtain⟨⟨O,P⟩,⟨Q,R⟩⟩:=f.blk.two;go_wp2_with fail
 refine(xC 4 (ab.dD f.ne _) qo).mono ?_;rintro e H⟨y,a,d⟩;have I:=(F.new qo _).trans y;have J:OB H b (w.heap.size) [qN,qN]:=(aa.other qo _).call y;have S:OB H b (w.heap.size+1) [(qX r l t),qN]:=(f.set 0 (qX r l t)).call y;clear O P Q R;have T:dH (λg=>B.heap.size<=g) l H (qX r l t):=Row.call (Row.other G (λk X=>by have:=m.lt;omega) _) y (λk X=>qo);clear y;rcases ho:eB 4 jM s n j2 with⟨q,p⟩|⟨K,j3⟩
 .obtain rfl:=d _ _ ho;exact⟨rfl,Out.dG (by simp[rA,E.o,N.o,ho]) I⟩
 obtain⟨vo,rfl,L,ac⟩:=a _ _ ho;have ad:=qH ho;clear a d ho;have am:=I.size;obtain⟨U,V,rfl⟩:=Row.shape L;obtain⟨⟨ae,an⟩,⟨af,ao⟩⟩:=J.blk.two;obtain⟨⟨O,P⟩,⟨Q,R⟩⟩:=S.blk.two;have HH:qh (rA s n i=.ok (⟨l,K⟩,j3)):=by show _=_;simp[rA,E.o,N.o,ad.o]
 have ag:=qH T;have ah:=qH L;clear T L G;go_wp2;refine qal (v:=.agg #[(qX r l t),(qX U K V)]) ?_ rfl (Out.dN HH.o (((I.new qo _).new qR _).new qR _) ⟨(qX r l t),(qX U K V),rfl,?_,?_⟩ (((ac.dD S.ne _).dD J.ne _).dD J.ne _))
 .simp[results,results170,go_sem,ae,af]
 .exact Row.mono (Row.other (Row.other (Row.other ag.o (g:=w.heap.size+1) (o:=1) (λk X=>by have:=m.lt;omega) _) (g:=w.heap.size) (o:=0) (λk X=>by have:=m.lt;omega) _) (g:=w.heap.size) (o:=1) (λk X=>by have:=m.lt;omega) _) (λg _ W=>by have:=m.lt;omega)
 exact Row.mono (Row.other (Row.other (Row.other ah.o (g:=w.heap.size+1) (o:=1) (λk X=>by have:=f.lt;simp at X;omega) _) (g:=w.heap.size) (o:=0) (λk X=>by have:=f.lt;simp at X;omega) _) (g:=w.heap.size) (o:=1) (λk X=>by have:=f.lt;simp at X;omega) _) (λg _ W=>by have:=f.lt;simp at W;omega)
theorem zk{w:qW}{b:Nat}{s:qS}{i n:Nat}(h:Rd w b s i n):
  qC 180 #[qP b] w (Out w b s n (Ux (λg=>w.heap.size<=g)) (tQ s n i)):=by
 have ai:=h.lt;have aj:=gu;go_enter func180,ntmps180;go_wp2_with fail
 refine(oz (h.alloc _)).mono ?_;rintro e w0⟨rfl,rfl⟩;go_wp2_with fail
 refine(one_any (ts:=[0]) (((h.alloc _).alloc _).alloc _) (oq 0 qs rfl) qs qo qs).mono ?_;rintro e F⟨m,d,f⟩;have y:=((((Kept.refl (only b) w).alloc _).alloc _).alloc _).trans m;have U:OB F b (w.heap.size) [qJ 0,qJ 0,qB 0,qJ 0,qN]:=(((OB.new (b:=b) (g:=w.heap.size) (c:= #[qJ 0,qJ 0,qB 0,qJ 0,qN]) (by first | omega | (simp;omega)) qs).alloc _).alloc _).call m;have V:OB F b (w.heap.size+1) [qJ i,qJ 0,qB 0,qJ 0,qN]:=((OB.new (b:=b) (g:=w.heap.size+1) (c:= #[qJ i,qJ 0,qB 0,qJ 0,qN]) (by first | omega | (simp;omega)) qs).alloc _).call m;clear m;rcases ho:iO [0] s n i with⟨q,p⟩|z
 .obtain rfl:=f _ _ ho;exact⟨rfl,Out.dG (by simp[tQ,ho]) y⟩
 obtain⟨x,j⟩:=z;obtain⟨u,rfl,-,W⟩:=d _ _ ho;have A:=qH ho;clear d f ho;have ak:=y.size;go_wp2_with fail
 refine(kV W).mono ?_;rintro e G⟨r,d,f⟩;have B:=y.trans r;have Y:OB G b (w.heap.size) [qJ 0,qJ 0,qB 0,qJ 0,qN]:=U.call r;have a:OB G b (w.heap.size+1) [qJ i,qJ 0,qB 0,qJ 0,qN]:=V.call r;clear r;rcases ho:ja s n j with⟨q,p⟩|z
 .obtain rfl:=f _ _ ho;exact⟨rfl,Out.dG (by simp[tQ,A.o,ho]) B⟩
 obtain⟨c,Z⟩:=z;obtain⟨u,rfl,hv,aa⟩:=d _ _ ho;obtain rfl:u=.agg #[qJ c.at_,qB c.kind,qJ c.val]:=hv;have H:=qH ho;clear d f ho;have al:=B.size;obtain⟨⟨I,J⟩,⟨K,L⟩,⟨M,N⟩,⟨O,P⟩,⟨Q,R⟩⟩:=a.blk.five;go_wp2_with fail
 refine(uA 20 168 uM (((aa.dD a.ne _).dD a.ne _).dD a.ne _) qo Ib (λ_ _ hr=>nD hr)).mono ?_;rintro e S⟨t,d,f⟩;have C:=(((B.new qo _).new qo _).new qo _).trans t;have l:OB S b (w.heap.size) [qJ 0,qJ 0,qB 0,qJ 0,qN]:=(((Y.other qo _).other qo _).other qo _).call t;have T:OB S b (w.heap.size+1) [qJ i,(qJ c.at_),(qB c.kind),(qJ c.val),qN]:=(((a.set 1 (qJ c.at_)).set 2 (qB c.kind)).set 3 (qJ c.val)).call t;clear I J K L M N O P Q R;clear t;rcases ho:eB 20 uM s n Z with⟨q,p⟩|⟨D,j3⟩
 .obtain rfl:=f _ _ ho;exact⟨rfl,Out.dG (by simp[tQ,A.o,H.o,ho]) C⟩
 obtain⟨vl,rfl,E,ab⟩:=d _ _ ho;have ac:=qH ho;clear d f ho;have am:=C.size;obtain⟨pl,cl,rfl⟩:=Row.shape E;obtain⟨⟨ad,an⟩,⟨ae,ao⟩,⟨af,ap⟩,⟨ag,aq⟩,⟨ah,ar⟩⟩:=l.blk.five;obtain⟨⟨I,J⟩,⟨K,L⟩,⟨M,N⟩,⟨O,P⟩,⟨Q,R⟩⟩:=T.blk.five;have HH:qh (tQ s n i=.ok (⟨i,c,D⟩,j3)):=by show _=_;simp[tQ,A.o,H.o,ac.o]
 have HV:=qH E;clear E;go_wp2;refine qal (v:=.agg #[qJ i,qJ c.at_,qB c.kind,qJ c.val,(qX pl D cl)]) ?_ rfl (Out.dN HH.o ((((((C.new qo _).new qR _).new qR _).new qR _).new qR _).new qR _) ⟨(qX pl D cl),rfl,?_⟩ ((((((ab.dD T.ne _).dD l.ne _).dD l.ne _).dD l.ne _).dD l.ne _).dD l.ne _))
 .simp[results,results180,go_sem,ad,ae,af,ag,ah]
 exact Row.mono (Row.other (Row.other (Row.other (Row.other (Row.other (Row.other HV.o (g:=w.heap.size+1) (o:=4) (λk X=>by have:=a.lt;simp at X;omega) _) (g:=w.heap.size) (o:=0) (λk X=>by have:=a.lt;simp at X;omega) _) (g:=w.heap.size) (o:=1) (λk X=>by have:=a.lt;simp at X;omega) _) (g:=w.heap.size) (o:=2) (λk X=>by have:=a.lt;simp at X;omega) _) (g:=w.heap.size) (o:=3) (λk X=>by have:=a.lt;simp at X;omega) _) (g:=w.heap.size) (o:=4) (λk X=>by have:=a.lt;simp at X;omega) _) (λg _ hg=>by have:=a.lt;simp at hg;omega)
theorem uK(x:Nat)(w:qW):
  qC 201 #[qB x] w λe w'=>e=.returned (.bool (BG x))/\w'=w:=by
 by_cases U:32<=x
 .by_cases L:x<=126
  .have a:decide ((32:Int)<=(x:Int))=true:=by simp;omega
   have b:decide ((x:Int)<=(126:Int))=true:=by simp;omega
   have HH:qh (BG x=((x:Int) !=34&&(x:Int) !=92)):=by
    show _=_;have c:((x:Int) !=34)=(x !=34):=by rw[Bool.eq_iff_iff];simp;omega
    have d:((x:Int) !=92)=(x !=92):=by rw[Bool.eq_iff_iff];simp;omega
    simp[BG,U,L,c,d]
   clear U L;cases t3:((x:Int) !=34) with
   | true=>exact UJ
   | false=>exact UJ
  have a:decide ((32:Int)<=(x:Int))=true:=by simp;omega
  have b:decide ((x:Int)<=(126:Int))=false:=by simp;omega
  have HH:qh (BG x=false):=by show _=_;simp[BG,L]
  clear U L;go_enter func201,ntmps201;exact xZ
 have a:decide ((32:Int)<=(x:Int))=false:=by simp;omega
 have HH:qh (BG x=false):=by show _=_;simp[BG,U]
 clear U;go_enter func201,ntmps201;exact xZ
theorem KR{t:qS}{k:Nat}(h:k<t.size)(hx:BG t[k].toNat=true):ni t k=ni t (k+1):=by
 unfold ni;rw[uW h];simp[hx]
theorem OP{t:qS}{k:Nat}(h:k<t.size)(hx:BG t[k].toNat=false):ni t k=false:=by
 unfold ni;rw[uW h];simp[hx]
theorem KT{t:qS}{k:Nat}(h:t.size<=k):ni t k=true:=by
 unfold ni;rw[Jh h];rfl
theorem F4{k:Nat}{s:qS}{n i:Nat}{t:qS}{j:Nat}(h:jL k s n i=.ok (t,j))(a:n<=s.size)(hi:i<=n):t.size=k/\j=i+k/\j<=n:=by
 unfold jL at h;split at h
 .cases h
 cases h;refine⟨?_,rfl,qo⟩;rw[ByteArray.size_extract];omega
theorem BD(t:qS)(w:qW)(d:t.size<=20):qC 220 #[.string t] w λe w'=>e=.returned (.bool (ni t 0))/\w'=w:=by
 have f:∀(x:Bool)(w:qW),(Op.unary .not (.bool x)).run prog w=.ok (.bool (!x)) w:=λ_ _=>rfl;have g:(t.size:Int)<=20:=qo;go_enter func220,ntmps220;go_wp2;go_loop [3,6] (λ_ q=>∃k:Nat,k<=t.size/\q=qJ k/\ni t 0=ni t k) (λ_ q=>t.size - (intOf q).toNat)
 case atStart=>exact⟨0,qZ,rfl,rfl⟩
 obtain⟨k,X,rfl,b⟩:=hrel;have a:=qH b;clear b;by_cases c:k<t.size
 .have hlt':(k:Int)<(t.size:Int):=qo;cases hx:BG t[k].toNat with
  | true=>
   have HN:=qH (a.o.trans (KR c hx));have HX:=qH hx;clear hx;go_wp2_with fail
   refine(uK _ _).mono ?_;exact UR
  | false=>
   have HN:=qH (a.o.trans (OP c hx));have HX:=qH hx;clear hx;go_wp2_with fail
   refine(uK _ _).mono ?_;rintro e w3⟨rfl,rfl⟩;rw[HX.o];go_wp2;go_ret;exact⟨by simp[HN.o],rfl⟩
 have HN:=qH (a.o.trans (KT qo));go_wp2;go_ret;exact⟨by rw[HN.o];rfl,rfl⟩
theorem Ah{w:qW}{b:Nat}{s:qS}{i n:Nat}(h:Rd w b s i n):
  qC 178 #[qP b] w (Out w b s n Uw (jy s n i)):=by
 have ao:=h.lt;have ap:=gu;go_enter func178,ntmps178;go_wp2_with fail
 refine(oz (h.alloc _)).mono ?_;rintro e w0⟨rfl,rfl⟩;go_wp2_with fail
 refine(count_any 20 ((h.alloc _).alloc _) qo).mono ?_;rintro e X⟨y,d,f⟩;have O:=(((Kept.refl (only b) w).alloc _).alloc _).trans y;have ab:OB X b (w.heap.size) [qJ 0,.string {data:= #[]},qB 0,qI 0,qJ 0]:=((OB.new (b:=b) (g:=w.heap.size) (c:= #[qJ 0,.string {data:= #[]},qB 0,qI 0,qJ 0]) (by first | omega | (simp;omega)) qs).alloc _).call y;have ac:OB X b (w.heap.size+1) [qJ i,.string {data:= #[]},qB 0,qI 0,qJ 0]:=(OB.new (b:=b) (g:=w.heap.size+1) (c:= #[qJ i,.string {data:= #[]},qB 0,qI 0,qJ 0]) (by first | omega | (simp;omega)) qs).call y;clear y;rcases ho:fD 20 s n i with⟨q,p⟩|r
 .obtain rfl:=f _ _ ho;exact⟨rfl,Out.dG (by simp[jy,ho]) O⟩
 obtain⟨P,j⟩:=r;obtain⟨u,rfl,hv,Q⟩:=d _ _ ho;obtain rfl:u=qJ P:=hv;have l:=qH ho;clear d f ho;have aq:=O.size;have ar:=(fA l.o).1;go_wp2_with fail
 refine(zZ P Q qo).mono ?_;rintro e Y⟨z,d,f⟩;have A:=O.trans z;have ad:OB Y b (w.heap.size) [qJ 0,.string {data:= #[]},qB 0,qI 0,qJ 0]:=ab.call z;have R:OB Y b (w.heap.size+1) [qJ i,.string {data:= #[]},qB 0,qI 0,qJ 0]:=ac.call z;clear z;rcases ho:jL P s n j with⟨q,p⟩|r
 .obtain rfl:=f _ _ ho;exact⟨rfl,Out.dG (by simp[jy,l.o,ho]) A⟩
 obtain⟨k,j2⟩:=r;obtain⟨u,rfl,hv,Z⟩:=d _ _ ho;obtain rfl:u=.string k:=hv;have t:=qH ho;clear d f ho;have au:=A.size;have ae:k.size<=20:=by have:=(F4 t.o Q.big Q.le).1;omega
 obtain⟨⟨B,C⟩,⟨D,E⟩,⟨F,G⟩,⟨H,I⟩,⟨J,K⟩⟩:=R.blk.five;have aw:∀(x:Bool)(w:qW),(Op.unary .not (.bool x)).run prog w=.ok (.bool (!x)) w:=λ_ _=>rfl;go_wp2_with fail
 refine(BD _ _ ae).mono ?_;rintro e L⟨rfl,rfl⟩;cases hx:ni k 0 with
 | false=>
   have HN:=qH hx;clear hx;go_wp2_with fail
   refine(fZ _ _).mono ?_;rintro e L⟨rfl,rfl⟩;exact⟨rfl,Out.dG (by simp[jy,l.o,t.o,HN.o]) (A.new qo _)⟩
 | true=>
   have S:=qH hx;clear hx;go_wp2_with fail
   refine(one_any (ts:=[0,1,2,3]) ((Z.dD R.ne _).alloc _) (OO 0 1 2 3 qs rfl rfl rfl rfl) qs (by simp;have:=Z.lt;omega) qs).mono ?_;rintro e L⟨M,d,f⟩;have T:=((A.new qo _).alloc _).trans M;have af:OB L b (w.heap.size) [qJ 0,.string {data:= #[]},qB 0,qI 0,qJ 0]:=((ad.other qo _).alloc _).call M;have U:OB L b (w.heap.size+1) [qJ i,(.string k),qB 0,qI 0,qJ 0]:=((R.set 1 (.string k)).alloc _).call M;clear M;rcases ho:iO [0,1,2,3] s n j2 with⟨q,p⟩|r
   .obtain rfl:=f _ _ ho;exact⟨rfl,Out.dG (by simp[jy,l.o,t.o,S.o,ho]) T⟩
   obtain⟨x,j3⟩:=r;obtain⟨u,rfl,hv,ag⟩:=d _ _ ho;obtain rfl:u=qB x:=hv;have aa:=qH ho;clear d f ho;have ax:=T.size;clear B C D E F G H I J K;obtain⟨⟨B,C⟩,⟨D,E⟩,⟨F,G⟩,⟨H,I⟩,⟨J,K⟩⟩:=U.blk.five;go_wp2_with fail
   refine(nD (ag.dD U.ne _)).mono ?_;rintro e w4⟨N,d,f⟩;have V:=(T.new qo _).trans N;have m:OB w4 b (w.heap.size) [qJ 0,.string {data:= #[]},qB 0,qI 0,qJ 0]:=(af.other qo _).call N;have W:OB w4 b (w.heap.size+1) [qJ i,(.string k),(qB x),qI 0,qJ 0]:=(U.set 2 (qB x)).call N;clear B C D E F G H I J K;clear N;rcases ho:uM s n j3 with⟨q,p⟩|⟨⟨v,a⟩,j4⟩
   .obtain rfl:=f _ _ ho;exact⟨rfl,Out.dG (by simp[jy,l.o,t.o,S.o,aa.o,ho]) V⟩
   obtain⟨u,rfl,hv,ah⟩:=d _ _ ho;obtain rfl:u=.agg #[qI v,qJ a]:=hv;have ai:=qH ho;clear d f ho;have ay:=V.size;obtain⟨⟨aj,aA⟩,⟨ak,aB⟩,⟨al,aC⟩,⟨am,aD⟩,⟨an,aE⟩⟩:=m.blk.five;obtain⟨⟨B,C⟩,⟨D,E⟩,⟨F,G⟩,⟨H,I⟩,⟨J,K⟩⟩:=W.blk.five;have HH:qh (jy s n i=.ok (⟨i,k,x,(v,a)⟩,j4)):=by show _=_;simp[jy,l.o,t.o,S.o,aa.o,ai.o]
   go_wp2;refine qal (v:=.agg #[qJ i,.string k,qB x,qI v,qJ a]) ?_ rfl (Out.dN HH.o (((((((V.new qo _).new qo _).new qR _).new qR _).new qR _).new qR _).new qR _) rfl (((((((ah.dD W.ne _).dD W.ne _).dD m.ne _).dD m.ne _).dD m.ne _).dD m.ne _).dD m.ne _));simp[results,results178,go_sem,aj,ak,al,am,an]
theorem Tryz.TB:(prog.info? 100).map (λi=>(i.zero,i.size,i.bytes))=some (some (.agg #[qN,qN]),2,48):=qk
theorem EN{w:qW}{b:Nat}{s:qS}{i n:Nat}(most K:Nat)(tM:qS->Nat->Nat->Except Err (Ty×Nat))(h:Rd w b s i n)(hm:most<=50)(hc:Enters K)
  (F:∀y j,Rd y b s j n->qC K #[qP b] y (Out y b s n (We (λg=>y.heap.size<=g)) (tM s n j))):
  qC 169 #[qP b,qJ most,.func (.func K) #[] #[]] w (Out w b s n (gI 100 2 nZ (λg=>w.heap.size<=g)) (eB most tM s n i)):=by
 obtain⟨W,Y,Z,aa,ab⟩:=qap Tryz.TB;have ad:∀(args:Array qv)(w:qW),(callFunc K args).run prog w=.ok (.enter K args) w:=hc;have HT:=qH F;clear F;go_enter func169,ntmps169;go_wp2_with fail
 refine(count_any most h qo).mono ?_;rintro e y⟨hk1,z,iC⟩;rcases ho:fD most s n i with⟨q,p⟩|xj
 .exact IG
 obtain⟨cnt,G⟩:=xj;obtain⟨u,rfl,hv,hrd⟩:=z _ _ ho;obtain rfl:u=qJ cnt:=hv;have ae:=(fA ho).1;have H:qh (eB most tM s n i=eT tM s n cnt [] G):=by show _=_;simp[eB,ho]
 clear z iC ho;go_wp2;go_loopw [7,12] (λv q wr=>∃(k j:Nat)(ks:List Ty),k<=cnt/\ks.length=k/\q=qJ k/\Rd wr b s j n/\Kept (only b) w wr/\gI 100 2 nZ (λg=>w.heap.size<=g) ks wr v/\eB most tM s n i=eT tM s n (cnt - k) ks j) (λ_ q _=>cnt - (intOf q).toNat)
 case atStart=>exact⟨0,G,[],qZ,rfl,rfl,hrd,hk1,⟨[],Row.nil _ _ _ _,trivial⟩,H.o⟩
 obtain⟨k,j,ks,X,hl,rfl,hrd,hkp,I,J⟩:=hrel;have HE:=qH J;have HL:=qH I;clear J H I;by_cases af:k<cnt
 .have hlt':(k:Int)<(cnt:Int):=qo;go_wp2_with fail
  refine(HT.o _ _ hrd).mono ?_;rintro e r⟨B,z,iC⟩;have hk3:=hkp.trans B;obtain⟨css,L,M⟩:=HL.o;have N:Row (λg=>w.heap.size<=g) r 100 2 u7 ks.length css.flatten:=L.kept B (λg _ a (e:g=b)=>by have:=h.lt;omega);have O:Each (λx cs=>nZ (λg=>w.heap.size<=g) x r cs/\cs.length=2) ks css:=M.to (λx cs hh=>⟨hh.1.kept B (λg _ a (e:g=b)=>by have:=h.lt;omega),hh.2⟩);have ag:=hkp.size;clear L M HL B hkp;have Q:=qH O;clear O;rcases ho:tM s n j with⟨q,p⟩|⟨x,j2⟩
  .exact IJ
  obtain⟨u,rfl,hv,ac⟩:=z _ _ ho;obtain⟨vi,vo,rfl,C,D⟩:=hv;obtain⟨d,f,rfl⟩:=Row.shape C;obtain⟨l,m,rfl⟩:=Row.shape D;have R:qh (nZ (λg=>w.heap.size<=g) x r [qX d x.ins f,qX l x.outs m]):=by
   exact⟨_,_,rfl,Row.mono C (λg _ a=>qo),Row.mono D (λg _ a=>qo)⟩
  have HH:qh (eB most tM s n i=eT tM s n (cnt - (k+1)) (ks++[x]) j2):=HE.o.trans (jZ qo ho);clear z iC ho hrd C D;have S:=((N.nK (λg a=>a)).alloc (.cells #[qX d x.ins f,qX l x.outs m] 100)).alloc (.cells #[qX d x.ins f,qX l x.outs m] 100);have t:=qH S;have ah:=hk3.size;clear S N;go_wp2_with (at_builtin;refine qbv _ rfl _ _ 46 rfl w.heap.size 100 W (.agg #[qN,qN]) 2 48 underlying46 Y Z aa ab rfl qx _ _ _ rfl t.o ⟨r.heap.size+1,0,none⟩ 1 1 [qX d x.ins f,qX l x.outs m] rfl rfl ?c1 ?c2 ?c3 ?c4 ?c5 ?_)
  case c1=>exact cells_at qs rfl
  case c2=>intro u T;simp at T;obtain rfl | rfl:=T<;>rfl
  case c3=>unfold maxLen;omega
  case c4=>omega
  case c5=>simp;omega
  intro v' w3 U A _;have hk4:=iD ((hk3.alloc _).alloc _) t.o qR A;have zA:=jk ((ac.alloc _).alloc _) t.o h.lt A;have E:qK r ((r.alloc (.cells #[qX d x.ins f,qX l x.outs m] 100)).alloc (.cells #[qX d x.ins f,qX l x.outs m] 100)):=(qr.alloc _).alloc _;have V:gI 100 2 nZ (λg=>w.heap.size<=g) (ks++[x]) w3 v':=by
   refine⟨css++[[qX d x.ins f,qX l x.outs m]],?_,?_⟩
   .have:=Row.mI (ok:=λg=>w.heap.size<=g) U (λg a _=>a);simpa [hl] using this
   refine Each.snoc (Q.o.to (λx cs hh=>⟨(hh.1.kept E (λ_ _ _ c=>c)).grown t.o A,hh.2⟩)) ⟨(nZ.kept R.o E (λ_ _ _ c=>c)).grown t.o A,rfl⟩
  have HR:=qH V;clear U A V t Q R E;exact Xl
 exact WH
theorem Tryz.Tv:(prog.info? 125).map (λi=>(i.zero,i.size,i.bytes))=some (some (.agg #[qJ 0,qJ 0,qB 0,qJ 0,qN]),5,56):=qk
theorem zy{w:qW}{b:Nat}{s:qS}{i n:Nat}(most K:Nat)(tM:qS->Nat->Nat->Except Err (Cm×Nat))(h:Rd w b s i n)(hm:most<=50)(hc:Enters K)
  (A:∀l j,Rd l b s j n->qC K #[qP b] l (Out l b s n (Ux (λg=>l.heap.size<=g)) (tM s n j))):
  qC 179 #[qP b,qJ most,.func (.func K) #[] #[]] w (Out w b s n (gI 125 5 kS (λg=>w.heap.size<=g)) (eB most tM s n i)):=by
 obtain⟨R,S,T,U,V⟩:=qap Tryz.Tv;have aa:∀(args:Array qv)(w:qW),(callFunc K args).run prog w=.ok (.enter K args) w:=hc;have W:=qH A;clear A;go_enter func179,ntmps179;go_wp2_with fail
 refine(count_any most h qo).mono ?_;rintro e l⟨hk1,m,iC⟩;rcases ho:fD most s n i with⟨q,p⟩|Y
 .exact IG
 obtain⟨cnt,B⟩:=Y;obtain⟨u,rfl,hv,hrd⟩:=m _ _ ho;obtain rfl:u=qJ cnt:=hv;have ab:=(fA ho).1;have C:qh (eB most tM s n i=eT tM s n cnt [] B):=by show _=_;simp[eB,ho]
 clear m iC ho;go_wp2;go_loopw [7,12] (λv q wr=>∃(k j:Nat)(ks:List Cm),k<=cnt/\ks.length=k/\q=qJ k/\Rd wr b s j n/\Kept (only b) w wr/\gI 125 5 kS (λg=>w.heap.size<=g) ks wr v/\eB most tM s n i=eT tM s n (cnt - k) ks j) (λ_ q _=>cnt - (intOf q).toNat)
 case atStart=>exact⟨0,B,[],qZ,rfl,rfl,hrd,hk1,⟨[],Row.nil _ _ _ _,trivial⟩,C.o⟩
 obtain⟨k,j,ks,X,hl,rfl,hrd,hkp,D,E⟩:=hrel;have HE:=qH E;have HL:=qH D;clear E C D;by_cases ac:k<cnt
 .have hlt':(k:Int)<(cnt:Int):=qo;go_wp2_with fail
  refine(W.o _ _ hrd).mono ?_;rintro e a⟨t,m,iC⟩;have hk3:=hkp.trans t;obtain⟨css,F,G⟩:=HL.o;have H:Row (λg=>w.heap.size<=g) a 125 5 u7 ks.length css.flatten:=F.kept t (λg _ d (e:g=b)=>by have:=h.lt;omega);have I:Each (λx cs=>kS (λg=>w.heap.size<=g) x a cs/\cs.length=5) ks css:=G.to (λx cs hh=>⟨hh.1.kept t (λg _ d (e:g=b)=>by have:=h.lt;omega),hh.2⟩);have ad:=hkp.size;clear F G HL t hkp;have J:=qH I;clear I;rcases ho:tM s n j with⟨q,p⟩|⟨x,j2⟩
  .exact IJ
  obtain⟨u,rfl,hv,Z⟩:=m _ _ ho;obtain⟨vl,rfl,y⟩:=hv;obtain⟨pl,cl,rfl⟩:=Row.shape y;have L:qh (kS (λg=>w.heap.size<=g) x a [qJ x.at_,qJ x.place.at_,qB x.place.kind,qJ x.place.val,qX pl x.funcs cl]):=by
   exact⟨_,rfl,Row.mono y (λg _ d=>qo)⟩
  have HH:qh (eB most tM s n i=eT tM s n (cnt - (k+1)) (ks++[x]) j2):=HE.o.trans (jZ qo ho);clear m iC ho hrd y;have M:=((H.nK (λg d=>d)).alloc (.cells #[qJ x.at_,qJ x.place.at_,qB x.place.kind,qJ x.place.val,qX pl x.funcs cl] 125)).alloc (.cells #[qJ x.at_,qJ x.place.at_,qB x.place.kind,qJ x.place.val,qX pl x.funcs cl] 125);have f:=qH M;have ae:=hk3.size;clear M H;go_wp2_with (at_builtin;refine qbv _ rfl _ _ 70 rfl w.heap.size 125 R (.agg #[qJ 0,qJ 0,qB 0,qJ 0,qN]) 5 56 underlying70 S T U V rfl qx _ _ _ rfl f.o ⟨a.heap.size+1,0,none⟩ 1 1 [qJ x.at_,qJ x.place.at_,qB x.place.kind,qJ x.place.val,qX pl x.funcs cl] rfl rfl ?c1 ?c2 ?c3 ?c4 ?c5 ?_)
  case c1=>exact cells_at qs rfl
  case c2=>intro u N;simp at N;obtain rfl | rfl | rfl | rfl | rfl:=N<;>rfl
  case c3=>unfold maxLen;omega
  case c4=>omega
  case c5=>simp;omega
  intro v' w3 O r _;have hk4:=iD ((hk3.alloc _).alloc _) f.o qR r;have zA:=jk ((Z.alloc _).alloc _) f.o h.lt r;have z:qK a ((a.alloc (.cells #[qJ x.at_,qJ x.place.at_,qB x.place.kind,qJ x.place.val,qX pl x.funcs cl] 125)).alloc (.cells #[qJ x.at_,qJ x.place.at_,qB x.place.kind,qJ x.place.val,qX pl x.funcs cl] 125)):=(qr.alloc _).alloc _;have Q:gI 125 5 kS (λg=>w.heap.size<=g) (ks++[x]) w3 v':=by
   refine⟨css++[[qJ x.at_,qJ x.place.at_,qB x.place.kind,qJ x.place.val,qX pl x.funcs cl]],?_,?_⟩
   .have:=Row.mI (ok:=λg=>w.heap.size<=g) O (λg d _=>d);simpa [hl] using this
   refine Each.snoc (J.o.to (λx cs hh=>⟨(hh.1.kept z (λ_ _ _ c=>c)).grown f.o r,hh.2⟩)) ⟨(kS.kept L.o z (λ_ _ _ c=>c)).grown f.o r,rfl⟩
  have HR:=qH Q;clear O r Q f J L z;exact Xl
 exact WH
theorem RS(x:Nat)(w:qW):
  qC 341 #[qB x] w λe w'=>e=.returned (.bool (pV x))/\w'=w:=by
 by_cases h0:x=0\/x=1\/x=5\/x=11\/x=15\/x=26\/x=27
 .have HH:qh (pV x=true):=by
   show _=_;obtain rfl | rfl | rfl | rfl | rfl | rfl | rfl:=h0<;>rfl
  obtain rfl | rfl | rfl | rfl | rfl | rfl | rfl:=h0;all_goals
   go_enter func341,ntmps341;go_wp2;go_ret;exact⟨by rw[HH.o];rfl,rfl⟩
 have k:((x:Int)==0)=false:=by simp;omega
 have l:((x:Int)==1)=false:=by simp;omega
 have m:((x:Int)==5)=false:=by simp;omega
 have n:((x:Int)==11)=false:=by simp;omega
 have p:((x:Int)==15)=false:=by simp;omega
 have q:((x:Int)==26)=false:=by simp;omega
 have r:((x:Int)==27)=false:=by simp;omega
 by_cases U:69<=x/\x<=90
 .have c:decide ((69:Int)<=(x:Int))=true:=by simp;omega
  have g:decide ((x:Int)<=(90:Int))=true:=by simp;omega
  have HH:qh (pV x=true):=by show _=_;simp[pV,U.1,U.2]
  clear h0 U;go_enter func341,ntmps341;exact xZ
 by_cases a:103<=x/\x<=138
 .have c:decide ((69:Int)<=(x:Int))=true:=by simp;omega
  have g:decide ((x:Int)<=(90:Int))=false:=by simp;omega
  have d:decide ((103:Int)<=(x:Int))=true:=by simp;omega
  have j:decide ((x:Int)<=(138:Int))=true:=by simp;omega
  have HH:qh (pV x=true):=by show _=_;simp[pV,a.1,a.2]
  clear h0 U a;go_enter func341,ntmps341;exact xZ
 have HH:qh (pV x=(x==167||x==172||x==173)):=by
  show _=_;have c1:(decide (69<=x)&&decide (x<=90))=false:=by simp;omega
  have c2:(decide (103<=x)&&decide (x<=138))=false:=by simp;omega
  have c3:(x==0||x==1||x==5||x==11||x==15||x==26||x==27)=false:=by simp;omega
  unfold pV;rw[c1,c2,c3];rfl
 by_cases b:x=167\/x=172\/x=173
 .obtain rfl | rfl | rfl:=b;all_goals
   clear h0 U a;go_enter func341,ntmps341;go_wp2;go_ret;exact⟨by rw[HH.o];rfl,rfl⟩
 have HF:qh (pV x=false):=by show _=_;rw[HH.o];simp;omega
 have s:((x:Int)==167)=false:=by simp;omega
 have t:((x:Int)==172)=false:=by simp;omega
 have u:((x:Int)==173)=false:=by simp;omega
 by_cases f:69<=x
 .have c:decide ((69:Int)<=(x:Int))=true:=by simp;omega
  have g:decide ((x:Int)<=(90:Int))=false:=by simp;omega
  by_cases i:103<=x
  .have d:decide ((103:Int)<=(x:Int))=true:=by simp;omega
   have j:decide ((x:Int)<=(138:Int))=false:=by simp;omega
   clear h0 U a b f i;exact Vr
  have d:decide ((103:Int)<=(x:Int))=false:=by simp;omega
  clear h0 U a b f i;exact Vr
 have c:decide ((69:Int)<=(x:Int))=false:=by simp;omega
 have d:decide ((103:Int)<=(x:Int))=false:=by simp;omega
 clear h0 U a b f;exact Vr
theorem Row.fresh{ok:qD}{w:qW}{E:TypeId}{v:qv}{g:Nat}(a:g=w.heap.size)(b:ok g):Row ok (w.alloc (.cells #[v] E)) E 1 (qL g 1 1) 1 [v]:=by
 subst a;refine⟨⟨qs,.inr ⟨w.heap.size,1,#[v],rfl,qZ,heap_alloc_new w _,qR,by unfold maxLen;omega,qs,qs⟩⟩,λg a=>?_⟩;simp[Value.ownBlock]at a;subst a;exact b
abbrev lY(a e x:Nat):List Value:=[qJ a,qJ e,qB x,.bool false,qN,qI 0,qI 0,qJ 0,qN,qJ 0]
def uE(ok:Nat->Prop)(b c a e x:Nat)(y:fO)(w:World)(v:Value):Prop:=v=.tuple #[]/\IM ok w b c a e x y
theorem IM.new{ok:qD}{w:qW}{b c a e x:Nat}(h:OB w b c (lY a e x)):IM ok w b c a e x fO.none:=
 ⟨_,_,h,Row.nil _ _ _ _,Row.nil _ _ _ _⟩
theorem CJ{w:qW}{b c a e0 x0:Nat}{s:qS}{i n:Nat}(h:Rd w b s i n)(hI:OB w b c (lY a e0 x0)):
  qC 340 #[qP b,qP c] w (eP (both b c) w b s n (uE (λg=>w.heap.size<=g) b c a e0 x0) (jS s n i)):=by
 go_enter func340,ntmps340;go_wp2_with fail
 refine(oz h).mono ?_;rintro e w0⟨rfl,rfl⟩;go_wp2_with fail
 refine(Gx h).mono ?_;rintro e z⟨G,f,l⟩;have A:Kept (both b c) w0 z:=G.fB;have r:=hI.call G;have ai:=G.size;clear G;rcases ho:lJ s n i with⟨q,p⟩|xj
 .obtain rfl:=l _ _ ho;exact⟨rfl,eP.dG (by simp[jS,ho]) A⟩
 obtain⟨x,j⟩:=xj;obtain⟨u,rfl,hv,ac⟩:=f _ _ ho;obtain rfl:u=qB x:=hv;have hj:j=i/\i<n:=by
  unfold lJ at ho;split at ho
  .cases ho;exact⟨rfl,by assumption⟩
  cases ho
 obtain⟨rfl,ad⟩:=hj;have af:bt s j=x:=by unfold lJ at ho;rw[qac ad]at ho;cases ho;rfl
 have HB:=qH af;have B:=qH ho;clear f l ho af;obtain⟨⟨H,I⟩,⟨J,K⟩,⟨L,M⟩,⟨N,O⟩,⟨P,Q⟩,⟨R,S⟩,⟨T,U⟩,⟨V,W⟩,⟨Y,Z⟩,⟨I9,J9⟩⟩:=r.blk.ten;have aj:=r.lt;have aa:=r.ne;by_cases C:x=127\/x=126
 .have t:qh (jS s n j=.ok ({fO.none with dL:=[x]},j+1)):=by show _=_;simp[jS,B.o,C]
  obtain rfl | rfl:=C;all_goals
   go_wp2_with fail
   refine(lQ ((ac.dD aa _).alloc _)).mono ?_;rintro e w2⟨d,f,l⟩;obtain⟨u,rfl,-,D⟩:=f _ _ (dY ad);have y:=((A.mH _).alloc _).trans d.fB;have m:=((r.set 4 (qL z.heap.size 1 1)).alloc _).call d;have ak:=h.lt;have hR:=(Row.fresh (ok:=λg=>w0.heap.size<=g) (w:=z.setCell (qA c 4) (qL z.heap.size 1 1)) (E:=80) (g:=z.heap.size) qs ai).call d (λk X=>qo);clear f l H I J K L M N O P Q R S T U V W Y Z I9 J9 d;have F:=qH m;have HR:=qH hR;clear m hR;go_wp2;go_end0;exact eP.dN t.o y ⟨rfl,_,_,F.o,HR.o,Row.nil _ _ _ _⟩ D
 have n1:((x:Int)==127)=false:=by simp;omega
 have n2:((x:Int)==126)=false:=by simp;omega
 by_cases ab:x=64
 .have t:qh (jS s n j=.ok (fO.none,j+1)):=by show _=_;simp[jS,B.o,ab]
  clear C n1 n2;subst ab;go_wp2_with fail
  refine(lQ ac).mono ?_;rintro e w2⟨d,f,l⟩;obtain⟨u,rfl,-,D⟩:=f _ _ (dY ad);have y:=A.trans d.fB;have m:=r.call d;clear f l H I J K L M N O P Q R S T U V W Y Z I9 J9 d;have F:=qH m;clear m;go_wp2;go_end0;exact eP.dN t.o y ⟨rfl,IM.new F.o⟩ D
 have n3:((x:Int)==64)=false:=by simp;omega
 have HK:=qH C;have ae:=qH ab;clear C ab;go_wp2_with fail
 refine(SI ac).mono ?_;rintro e w2⟨d,f,l⟩;have y:=A.trans d.fB;have m:=r.call d;clear H I J K L M N O P Q R S T U V W Y Z I9 J9 d r A;rcases ho:sM 4 5 s n j with⟨q,p⟩|⟨v,j2⟩
 .obtain rfl:=l _ _ ho;exact⟨rfl,eP.dG (by simp[jS,B.o,HK.o,ae.o,ho]) y⟩
 obtain⟨u,rfl,hv,D⟩:=f _ _ ho;obtain rfl:u=qJ v:=hv;clear f l;by_cases ag:v<0
 .have t:qh (jS s n j=.error (2,j)):=by show _=_;simp[jS,B.o,HK.o,ae.o,ho,ag]
  clear ho;go_wp2_with fail
  refine(fZ _ _).mono ?_;rintro e w3⟨rfl,rfl⟩;exact⟨rfl,eP.dG t.o y⟩
 have t:qh (jS s n j=.ok ({fO.none with typed:=true,num:=(v%4294967296,j)},j2)):=by show _=_;simp[jS,B.o,HK.o,ae.o,ho,ag]
 clear ho;obtain⟨⟨H,I⟩,⟨J,K⟩,⟨L,M⟩,⟨N,O⟩,⟨P,Q⟩,⟨R,S⟩,⟨T,U⟩,⟨V,W⟩,⟨Y,Z⟩,⟨I9,J9⟩⟩:=m.blk.ten;have ah:=((m.set 3 (.bool true)).set 6 (qI (v%4294967296))).set 7 (qJ j);have F:=qH ah;clear ah;go_wp2;go_end0;exact eP.dN t.o (((y.mH _).mH _).mH _) ⟨rfl,_,_,F.o,Row.nil _ _ _ _,Row.nil _ _ _ _⟩ (((D.dD aa _).dD aa _).dD aa _)
theorem Am{w:qW}{b c a f x:Nat}{s:qS}{i n:Nat}(h:Rd w b s i n)(hI:OB w b c (lY a f x))(hx:x=12\/x=13\/x=16\/x=32\/x=33\/x=34\/x=35\/x=36):
  qC 318 #[qP b,qP c] w (eP (both b c) w b s n (uE (λg=>w.heap.size<=g) b c a f x) (iE a x s n i)):=by
 obtain⟨⟨k,l⟩,⟨m,r⟩,⟨t,y⟩,⟨z,A⟩,⟨B,C⟩,⟨D,E⟩,⟨F,G⟩,⟨H,I⟩,⟨J,K⟩,⟨L,M⟩⟩:=hI.blk.ten;have V:=hI.lt;have N:=hI.ne;have W:=gu;obtain rfl | rfl | rfl | rfl | rfl | rfl | rfl | rfl:=hx;all_goals
  go_enter func318,ntmps318;go_wp2_with fail
  refine(nD h).mono ?_;rintro e X⟨d,O,P⟩;have Q:=(Kept.refl (both b c) w).trans d.fB;have R:=hI.call d;clear d k l m r t y z A B C D E F G H I J K L M;rcases ho:uM s n i with⟨q,p⟩|⟨⟨v,p⟩,j⟩
  .obtain rfl:=P _ _ ho;exact⟨rfl,eP.dG (by simp[iE,ho]) Q⟩
  obtain⟨u,rfl,hv,S⟩:=O _ _ ho;obtain rfl:u=.agg #[qI v,qJ p]:=hv;have T:=qH ho;clear O P ho;obtain⟨⟨k,l⟩,⟨m,r⟩,⟨t,y⟩,⟨z,A⟩,⟨B,C⟩,⟨D,E⟩,⟨F,G⟩,⟨H,I⟩,⟨J,K⟩,⟨L,M⟩⟩:=R.blk.ten;have U:=qH ((R.set 6 (qI v)).set 7 (qJ p));go_wp2;go_end0;exact eP.dN (x:=(⟨false,[],0,(v,p),[],0⟩:fO)) (j:=j) (by simp[iE,fO.none,T.o]) ((Q.mH _).mH _) ⟨rfl,_,_,U.o,Row.nil _ _ _ _,Row.nil _ _ _ _⟩ ((S.dD N _).dD N _)
theorem Al{w:qW}{b c a f x:Nat}{s:qS}{i n:Nat}(h:Rd w b s i n)(hI:OB w b c (lY a f x))(hx:x=65):
  qC 318 #[qP b,qP c] w (eP (both b c) w b s n (uE (λg=>w.heap.size<=g) b c a f x) (iE a x s n i)):=by
 obtain⟨⟨k,l⟩,⟨m,r⟩,⟨t,y⟩,⟨z,A⟩,⟨B,C⟩,⟨D,E⟩,⟨F,G⟩,⟨H,I⟩,⟨J,K⟩,⟨L,M⟩⟩:=hI.blk.ten;have V:=hI.lt;have R:=hI.ne;have W:=gu;obtain rfl:=hx;all_goals
  go_enter func318,ntmps318;go_wp2_with fail
  refine(Ld h).mono ?_;rintro e X⟨d,N,O⟩;have P:=(Kept.refl (both b c) w).trans d.fB;have Q:=hI.call d;clear d k l m r t y z A B C D E F G H I J K L M;rcases ho:sM 4 4 s n i with⟨q,p⟩|⟨v,j⟩
  .obtain rfl:=O _ _ ho;exact⟨rfl,eP.dG (by simp[iE,ho]) P⟩
  obtain⟨u,rfl,hv,S⟩:=N _ _ ho;obtain rfl:u=qJ v:=hv;have T:=qH ho;clear N O ho;obtain⟨⟨k,l⟩,⟨m,r⟩,⟨t,y⟩,⟨z,A⟩,⟨B,C⟩,⟨D,E⟩,⟨F,G⟩,⟨H,I⟩,⟨J,K⟩,⟨L,M⟩⟩:=Q.blk.ten;have U:=qH (Q.set 9 (qJ v));go_wp2;go_end0;exact eP.dN (x:=(⟨false,[],0,(0,0),[],v⟩:fO)) (j:=j) (by simp[iE,fO.none,T.o]) (P.mH _) ⟨rfl,_,_,U.o,Row.nil _ _ _ _,Row.nil _ _ _ _⟩ (S.dD R _)
theorem Ak{w:qW}{b c a f x:Nat}{s:qS}{i n:Nat}(h:Rd w b s i n)(hI:OB w b c (lY a f x))(hx:x=66):
  qC 318 #[qP b,qP c] w (eP (both b c) w b s n (uE (λg=>w.heap.size<=g) b c a f x) (iE a x s n i)):=by
 obtain⟨⟨k,l⟩,⟨m,r⟩,⟨t,y⟩,⟨z,A⟩,⟨B,C⟩,⟨D,E⟩,⟨F,G⟩,⟨H,I⟩,⟨J,K⟩,⟨L,M⟩⟩:=hI.blk.ten;have V:=hI.lt;have R:=hI.ne;have W:=gu;obtain rfl:=hx;all_goals
  go_enter func318,ntmps318;go_wp2_with fail
  refine(Lc h).mono ?_;rintro e X⟨d,N,O⟩;have P:=(Kept.refl (both b c) w).trans d.fB;have Q:=hI.call d;clear d k l m r t y z A B C D E F G H I J K L M;rcases ho:sM 9 1 s n i with⟨q,p⟩|⟨v,j⟩
  .obtain rfl:=O _ _ ho;exact⟨rfl,eP.dG (by simp[iE,ho]) P⟩
  obtain⟨u,rfl,hv,S⟩:=N _ _ ho;obtain rfl:u=qJ v:=hv;have T:=qH ho;clear N O ho;obtain⟨⟨k,l⟩,⟨m,r⟩,⟨t,y⟩,⟨z,A⟩,⟨B,C⟩,⟨D,E⟩,⟨F,G⟩,⟨H,I⟩,⟨J,K⟩,⟨L,M⟩⟩:=Q.blk.ten;have U:=qH (Q.set 9 (qJ v));go_wp2;go_end0;exact eP.dN (x:=(⟨false,[],0,(0,0),[],v⟩:fO)) (j:=j) (by simp[iE,fO.none,T.o]) (P.mH _) ⟨rfl,_,_,U.o,Row.nil _ _ _ _,Row.nil _ _ _ _⟩ (S.dD R _)
theorem zl{w:qW}{b c a f x:Nat}{s:qS}{i n:Nat}(h:Rd w b s i n)(hI:OB w b c (lY a f x))(hx:x=63\/x=64):
  qC 318 #[qP b,qP c] w (eP (both b c) w b s n (uE (λg=>w.heap.size<=g) b c a f x) (iE a x s n i)):=by
 obtain⟨⟨k,l⟩,⟨m,r⟩,⟨t,v⟩,⟨z,A⟩,⟨B,C⟩,⟨D,E⟩,⟨F,G⟩,⟨H,I⟩,⟨J,K⟩,⟨L,M⟩⟩:=hI.blk.ten;have U:=hI.lt;have V:=hI.ne;have W:=gu;obtain rfl | rfl:=hx;all_goals
  go_enter func318,ntmps318;go_wp2_with fail
  refine(one_any (ts:=[0]) (h.alloc _) (oq 0 qs rfl) qs (by have:=h.lt;omega) qs).mono ?_;rintro e X⟨d,N,O⟩;have P:=((Kept.refl (both b c) w).alloc _).trans d.fB;have Q:=(hI.alloc _).call d;clear d k l m r t v z A B C D E F G H I J K L M;rcases ho:iO [0] s n i with⟨q,p⟩|⟨y,j⟩
  .obtain rfl:=O _ _ ho;exact⟨rfl,eP.dG (by simp[iE,ho]) P⟩
  obtain⟨u,rfl,-,R⟩:=N _ _ ho;have S:=qH ho;clear N O ho;obtain⟨⟨k,l⟩,⟨m,r⟩,⟨t,v⟩,⟨z,A⟩,⟨B,C⟩,⟨D,E⟩,⟨F,G⟩,⟨H,I⟩,⟨J,K⟩,⟨L,M⟩⟩:=Q.blk.ten;have T:=qH Q;go_wp2;go_end0;exact eP.dN (x:=(⟨false,[],0,(0,0),[],0⟩:fO)) (j:=j) (by simp[iE,fO.none,S.o]) P ⟨rfl,_,_,T.o,Row.nil _ _ _ _,Row.nil _ _ _ _⟩ R
theorem yu{w:qW}{b c a d x:Nat}{s:qS}{i n:Nat}(h:Rd w b s i n)(hI:OB w b c (lY a d x))(hx:x=2\/x=3\/x=4):
  qC 318 #[qP b,qP c] w (eP (both b c) w b s n (uE (λg=>w.heap.size<=g) b c a d x) (iE a x s n i)):=by
 obtain⟨⟨m,r⟩,⟨t,v⟩,⟨z,A⟩,⟨B,C⟩,⟨D,E⟩,⟨F,G⟩,⟨H,I⟩,⟨J,K⟩,⟨L,M⟩,⟨N,O⟩⟩:=hI.blk.ten;have S:=hI.lt;have T:=hI.ne;have U:=gu;obtain rfl | rfl | rfl:=hx;all_goals
  go_enter func318,ntmps318;go_wp2_with fail
  refine(CJ h hI).mono ?_;rintro e V⟨f,k,l⟩;clear m r t v z A B C D E F G H I J K L M N O;rcases ho:jS s n i with⟨q,p⟩|⟨y,j⟩
  .obtain rfl:=l _ _ ho;exact⟨rfl,eP.dG (by simp[iE,ho]) f⟩
  obtain⟨u,rfl,hv,P⟩:=k _ _ ho;have Q:=qH hv;have R:=qH ho;clear k l ho hv;go_wp2;go_end0;exact eP.dN (x:=y) (j:=j) (by simp[iE,R.o]) f ⟨rfl,Q.o.2⟩ P
theorem zm{w:qW}{b c a f x:Nat}{s:qS}{i n:Nat}(h:Rd w b s i n)(hI:OB w b c (lY a f x))(hx:x∉oQ):
  qC 318 #[qP b,qP c] w (eP (both b c) w b s n (uE (λg=>w.heap.size<=g) b c a f x) (iE a x s n i)):=by
 obtain⟨⟨O,P⟩,⟨Q,R⟩,⟨S,T⟩,⟨U,V⟩,⟨W,X⟩,⟨Y,Z⟩,⟨I6,J6⟩,⟨I7,J7⟩,⟨I8,J8⟩,⟨I9,J9⟩⟩:=hI.blk.ten;have j:=qH (KQ (a:=a) (s:=s) (n:=n) (i:=i) hx);simp only[oQ,qav,List.not_mem_nil,or_false,not_or]at hx;obtain⟨k,l,m,p,q,r,t,u,v,y,z,A,B,C,D,E,F,G,H,I,J,K,L,M⟩:=hx;have t2:((x:Int)==2)=false:=by simp;omega
 have t3:((x:Int)==3)=false:=by simp;omega
 have t4:((x:Int)==4)=false:=by simp;omega
 have aa:((x:Int)==14)=false:=by simp;omega
 have ab:((x:Int)==40)=false:=by simp;omega
 have ac:((x:Int)==41)=false:=by simp;omega
 have ad:((x:Int)==44)=false:=by simp;omega
 have ae:((x:Int)==45)=false:=by simp;omega
 have af:((x:Int)==54)=false:=by simp;omega
 have ag:((x:Int)==55)=false:=by simp;omega
 have ah:((x:Int)==58)=false:=by simp;omega
 have ai:((x:Int)==12)=false:=by simp;omega
 have aj:((x:Int)==13)=false:=by simp;omega
 have ak:((x:Int)==16)=false:=by simp;omega
 have al:((x:Int)==32)=false:=by simp;omega
 have am:((x:Int)==33)=false:=by simp;omega
 have an:((x:Int)==34)=false:=by simp;omega
 have ao:((x:Int)==35)=false:=by simp;omega
 have ap:((x:Int)==36)=false:=by simp;omega
 have aq:((x:Int)==17)=false:=by simp;omega
 have ar:((x:Int)==63)=false:=by simp;omega
 have au:((x:Int)==64)=false:=by simp;omega
 have aw:((x:Int)==65)=false:=by simp;omega
 have ax:((x:Int)==66)=false:=by simp;omega
 clear k l m p q r t u v y z A B C D E F G H I J K L M;have ay:∀(x:Bool)(w:qW),(Op.unary .not (.bool x)).run prog w=.ok (.bool (!x)) w:=λ_ _=>rfl;go_enter func318,ntmps318;go_wp2_with fail
 refine(RS _ _).mono ?_;rintro e w1⟨rfl,rfl⟩;cases hb:pV x with
 | true=>
  have d:qh (iE a x s n i=.ok (fO.none,i)):=by show _=_;rw[j.o,hb];rfl
  have N:=qH hI;go_wp2;go_end0;exact eP.dN d.o qr ⟨rfl,IM.new N.o⟩ h
 | false=>
  have d:qh (iE a x s n i=.error (2,a)):=by show _=_;rw[j.o,hb];rfl
  go_wp2_with fail
  refine(fZ _ _).mono ?_;rintro e w3⟨rfl,rfl⟩;exact⟨rfl,eP.dG d.o qr⟩
theorem Aj{w:qW}{b c a R x:Nat}{s:qS}{i n:Nat}(h:Rd w b s i n)(hI:OB w b c (lY a R x))(hx:x=40\/x=41\/x=44\/x=45\/x=54\/x=55\/x=58):
  qC 318 #[qP b,qP c] w (eP (both b c) w b s n (uE (λg=>w.heap.size<=g) b c a R x) (iE a x s n i)):=by
 obtain⟨⟨k,l⟩,⟨m,r⟩,⟨t,y⟩,⟨z,A⟩,⟨B,C⟩,⟨D,E⟩,⟨F,G⟩,⟨H,I⟩,⟨J,K⟩,⟨L,M⟩⟩:=hI.blk.ten;have ac:=hI.lt;have N:=hI.ne;have ad:=gu;obtain rfl | rfl | rfl | rfl | rfl | rfl | rfl:=hx;all_goals
  go_enter func318,ntmps318;go_wp2_with fail
  refine(nD h).mono ?_;rintro e w1⟨O,d,f⟩;have S:=(Kept.refl (both b c) w).trans O.fB;have T:=hI.call O;clear O k l m r t y z A B C D E F G H I J K L M;rcases ho:uM s n i with⟨q,p⟩|X
  .obtain rfl:=f _ _ ho;exact⟨rfl,eP.dG (by simp[iE,ho]) S⟩
  obtain⟨⟨P,pa⟩,j⟩:=X;obtain⟨u,rfl,hv,Y⟩:=d _ _ ho;obtain rfl:u=.agg #[qI P,qJ pa]:=hv;have U:=qH ho;clear d f ho;obtain⟨⟨k,l⟩,⟨m,r⟩,⟨t,y⟩,⟨z,A⟩,⟨B,C⟩,⟨D,E⟩,⟨F,G⟩,⟨H,I⟩,⟨J,K⟩,⟨L,M⟩⟩:=T.blk.ten;go_wp2_with fail
  refine(nD (Y.dD N _)).mono ?_;rintro e w2⟨Q,d,f⟩;have V:=(S.mH _).trans Q.fB;have W:=(T.set 5 (qI P)).call Q;clear Q k l m r t y z A B C D E F G H I J K L M;rcases ho:uM s n j with⟨q,p⟩|⟨⟨v,p⟩,Z⟩
  .obtain rfl:=f _ _ ho;exact⟨rfl,eP.dG (by simp[iE,U.o,ho]) V⟩
  obtain⟨u,rfl,hv,aa⟩:=d _ _ ho;obtain rfl:u=.agg #[qI v,qJ p]:=hv;have ab:=qH ho;clear d f ho;obtain⟨⟨k,l⟩,⟨m,r⟩,⟨t,y⟩,⟨z,A⟩,⟨B,C⟩,⟨D,E⟩,⟨F,G⟩,⟨H,I⟩,⟨J,K⟩,⟨L,M⟩⟩:=W.blk.ten;have HI:=qH ((W.set 6 (qI v)).set 7 (qJ p));go_wp2;go_end0;exact eP.dN (x:=(⟨false,[],P,(v,p),[],0⟩:fO)) (j:=Z) (by simp[iE,fO.none,U.o,ab.o]) ((V.mH _).mH _) ⟨rfl,_,_,HI.o,Row.nil _ _ _ _,Row.nil _ _ _ _⟩ ((aa.dD N _).dD N _)
theorem vD{w:qW}{b c a Q x:Nat}{s:qS}{i n:Nat}(h:Rd w b s i n)(hI:OB w b c (lY a Q x))(hx:x=17):
  qC 318 #[qP b,qP c] w (eP (both b c) w b s n (uE (λg=>w.heap.size<=g) b c a Q x) (iE a x s n i)):=by
 obtain⟨⟨k,l⟩,⟨m,r⟩,⟨t,z⟩,⟨A,B⟩,⟨C,D⟩,⟨E,F⟩,⟨G,H⟩,⟨I,J⟩,⟨K,L⟩,⟨M,N⟩⟩:=hI.blk.ten;have ac:=hI.lt;have R:=hI.ne;have ad:=gu;obtain rfl:=hx;all_goals
  go_enter func318,ntmps318;go_wp2_with fail
  refine(nD h).mono ?_;rintro e w1⟨O,d,f⟩;have S:=(Kept.refl (both b c) w).trans O.fB;have T:=hI.call O;clear O k l m r t z A B C D E F G H I J K L M N;rcases ho:uM s n i with⟨q,p⟩|Y
  .obtain rfl:=f _ _ ho;exact⟨rfl,eP.dG (by simp[iE,ho]) S⟩
  obtain⟨⟨v,p⟩,j⟩:=Y;obtain⟨u,rfl,hv,U⟩:=d _ _ ho;obtain rfl:u=.agg #[qI v,qJ p]:=hv;have V:=qH ho;clear d f ho;obtain⟨⟨k,l⟩,⟨m,r⟩,⟨t,z⟩,⟨A,B⟩,⟨C,D⟩,⟨E,F⟩,⟨G,H⟩,⟨I,J⟩,⟨K,L⟩,⟨M,N⟩⟩:=T.blk.ten;go_wp2_with fail
  refine(one_any (ts:=[0]) (((U.dD R _).dD R _).alloc _) (oq 0 qs rfl) qs (by have:=U.lt;simp;omega) qs).mono ?_;rintro e w2⟨P,d,f⟩;have W:=(((S.mH _).mH _).alloc _).trans P.fB;have X:=(((T.set 6 (qI v)).set 7 (qJ p)).alloc _).call P;clear P k l m r t z A B C D E F G H I J K L M N;rcases ho:iO [0] s n j with⟨q,p⟩|⟨y,Z⟩
  .obtain rfl:=f _ _ ho;exact⟨rfl,eP.dG (by simp[iE,V.o,ho]) W⟩
  obtain⟨u,rfl,-,aa⟩:=d _ _ ho;have ab:=qH ho;clear d f ho;obtain⟨⟨k,l⟩,⟨m,r⟩,⟨t,z⟩,⟨A,B⟩,⟨C,D⟩,⟨E,F⟩,⟨G,H⟩,⟨I,J⟩,⟨K,L⟩,⟨M,N⟩⟩:=X.blk.ten;have HI:=qH X;go_wp2;go_end0;exact eP.dN (x:=(⟨false,[],0,(v,p),[],0⟩:fO)) (j:=Z) (by simp[iE,fO.none,V.o,ab.o]) W ⟨rfl,_,_,HI.o,Row.nil _ _ _ _,Row.nil _ _ _ _⟩ aa
theorem VP{w:qW}{b:Nat}{s:qS}{i n:Nat}{v:Int}{p j:Nat}(h:Rd w b s i n)(a:uM s n i=.ok ((v,p),j)):
  qC 168 #[qP b] w λe w'=>e=.returned (.agg #[qI v,qJ p])/\Rd w' b s j n/\Kept (only b) w w':=by
 refine(nD h).mono ?_;rintro e f⟨X,c,g⟩;obtain⟨u,rfl,hv,d⟩:=c _ _ a;obtain rfl:u=.agg #[qI v,qJ p]:=hv;exact⟨rfl,d,X⟩
theorem Ul{w:qW}{b:Nat}{s:qS}{i n:Nat}{q p:Nat}(h:Rd w b s i n)(hu:uM s n i=.error (q,p)):
  qC 168 #[qP b] w λe w'=>e=fo q p/\Kept (only b) w w':=by
 refine(nD h).mono ?_;exact RZ
theorem OB.kept{S:qD}{w a:qW}{b g:Nat}{cs:qV}(h:OB w b g cs)(X:Kept S w a)(c:¬S g):OB a b g cs:=
 ⟨h.blk.kept X h.lt c,qad h.lt X.size,h.ne⟩
theorem OB.drew{w:qW}{b g:Nat}{cs:qV}(h:OB w b g cs):OB w.drew b g cs:=⟨h.blk,h.lt,h.ne⟩
theorem dP{P:Program}{b:Array Oper}{o:Oper}{a:Act}{w:qW}{K:Act->qW->Prop}{Q:Exit->Act->qW->Prop}{E:Prop}{f:FuncId}{args:Array qv}{R:Ending->qW->Prop}(c:o.guard=none)
  (d:(execOp a.eval o).run P w=.ok (.enter f args) w) (hc:Calls P f args w R) (h:∀e w',R e w'->∃v,e=.returned v/\K (a.put o.dst v) w'):
  if Region.wanted o (yielded b a.tmps)=true then Oper.wp P o a w K Q else E:=by
 have hw:Region.wanted o (yielded b a.tmps)=true:=by simp[Region.wanted,c]
 rw[qac hw];unfold Oper.wp;rw[d];refine hc.mono ?_;intro e w' g;obtain⟨v,rfl,X⟩:=h e w' g;exact X
theorem yt{w:qW}{b c a e0:Nat}{s:qS}{i n:Nat}(h:Rd w b s i n)(hI:OB w b c (lY a e0 14)):
  qC 318 #[qP b,qP c] w (eP (both b c) w b s n (uE (λg=>w.heap.size<=g) b c a e0 14) (iE a 14 s n i)):=by
 obtain⟨i0,ao,ap,aq,ar⟩:=qap Tryz.Kb;obtain⟨⟨J,K⟩,⟨L,M⟩,⟨N,O⟩,⟨P,Q⟩,⟨R,T⟩,⟨U,V⟩,⟨W,Y⟩,⟨Z,J7⟩,⟨C,D⟩,⟨I9,J9⟩⟩:=hI.blk.ten;have aF:=hI.lt;have E:=hI.ne;have aG:=gu;go_enter func318,ntmps318;go_wp2_with fail
 refine(count_any 20 h qo).mono ?_;rintro e w1⟨ad,F,G⟩;have ag:Kept (both b c) w w1:=ad.fB;have au:=hI.call ad;clear ad J K L M N O P Q R T U V W Y Z J7 C D I9 J9;rcases ho:fD 20 s n i with⟨q,p⟩|xj
 .obtain rfl:=G _ _ ho;exact⟨rfl,eP.dG (by simp[iE,eB,ho]) ag⟩
 obtain⟨m,j0⟩:=xj;obtain⟨u,rfl,hv,y⟩:=F _ _ ho;obtain rfl:u=qJ m:=hv;have aH:=(fA ho).1;have HM:qh (eB 20 uM s n i=eT uM s n m [] j0):=by show _=_;simp[eB,ho]
 clear F G ho;go_wp2;go_loopw [45] (λq wr=>∃(k j:Nat)(ls:List (Int×Nat)) (lv:qv),k<=m/\ls.length=k/\q=qJ k/\Rd wr b s j n/\Kept (both b c) w wr/\OB wr b c (lM a e0 14 fO.none (qN) lv)/\
   isRow 93 2 numCells (λg=>w.heap.size<=g) ls wr lv/\eB 20 uM s n i=eT uM s n (m - k) ls j) (λq _=>m - (intOf q).toNat)
 case atStart=>exact⟨0,j0,[],qN,qZ,rfl,rfl,y,ag,au,Row.nil _ _ _ _,HM.o⟩
 obtain⟨k,j,ks,lv,X,hl,rfl,y,aa,z,H,ah⟩:=hrel;subst hl;have HE:=qH ah;clear ah HM;obtain⟨pl,cl,rfl⟩:=Row.shape H;obtain⟨⟨J,K⟩,⟨L,M⟩,⟨N,O⟩,⟨P,Q⟩,⟨R,T⟩,⟨U,V⟩,⟨W,Y⟩,⟨Z,J7⟩,⟨C,D⟩,⟨I9,J9⟩⟩:=z.blk.ten;by_cases aI:ks.length<m
 .have hlt':(ks.length:Int)<(m:Int):=qo;rcases hu:uM s n j with⟨q,p⟩|⟨⟨v,p⟩,j2⟩
  .have I:=qH hu;clear hu;go_wp2_with fail
   go_region_dies
   all_goals
    refine(Ul ?_ I.o).mono ?_
    .exact y.drew
    rintro e l⟨rfl,d⟩;exact⟨rfl,eP.dG (by simp[iE,HE.o,wE (tM:=uM) (show 0<m - ks.length by omega) I.o]) (aa.drew.trans d.fB)⟩
  have I:=qH hu;clear hu;go_wp2_with fail
  have aJ:=y.lt;have ab:qh (∀l,Kept (only b) wr.drew l->l.ownsRow w.heap.size 93 2 (qX pl ks cl) ks.length (ks.flatMap numCells)):=λl hx=>((Row.kept H (S:=λ_=>False) (w':=wr.drew) (qr.drew) (λ_ _ _ c=>c)).call hx (λk X=>by have:=h.lt;omega)).nK (λg hg=>hg);go_region_law (first
    | (refine dP (f:=168) (args:= #[qP b]) (by rfl) (by go_simp) (VP y.drew I.o) ?_;rintro e l⟨rfl,ac,d⟩;refine⟨_,rfl,?_⟩;have q8:l.cell? (qA c 8)=some (qX pl ks cl):=(d.other (show c<wr.drew.heap.size from z.lt) E).trans C;have f8:l.frozen? (qA c 8)=false:=(d.jN (show c<wr.drew.heap.size from z.lt) E).trans D;have aw:c<l.heap.size:=qad (show c<wr.drew.heap.size from z.lt) d.size)
    | ((refine step_append_lies _ (by rfl) _ _ _ (by rfl) w.heap.size 93 i0 _ 2 16 underlying66 ao ap aq ar rfl qo (qX pl ks cl) ks.length (ks.flatMap numCells) (by rfl) ((ab.o _ d).alloc _) ⟨l.heap.size,0,none⟩ 1 1 [qI v,qJ p] (by rfl) (by rfl) (World.news_of_block (cs:= #[qI v,qJ p]) (t:=93) (fr:=(0,0)) (heap_alloc_new l _)) (by simp[Value.oneCell']) qo (by unfold maxLen;omega) qo (by have:=aa.size;have:=d.size;simp at*;omega) (l.heap.size+1) qs ?_;intro r A w3 ai B ax ay;have ae:some c≠(Value.slice pl ks.length cl).ownBlock:=λe=>absurd ((ab.o _ d).lt c e.symm).1 qo;have aA:w3.cell? (qA c 8)=some (qX pl ks cl):=(B.cell_far ⟨c,8,none⟩ qt ae).trans ((qat _ _ _ aw).trans q8);have aB:w3.frozen? (qA c 8)=false:=(B.frozen_far ⟨c,8,none⟩ qt ae).trans ((qch _ _ _ qt).trans f8))))
  all_goals
   have af:=(ab.o _ d).alloc (.cells #[qI v,qJ p] 93);have aC:=(jk (ac.alloc _) af h.lt B).dD (o:=8) E (qL r (ks.length+1) A);have aD:=(iD ((aa.drew.trans d.fB).alloc _) af qR B).mH (o:=8) (qL r (ks.length+1) A);have aj:=(((z.drew.call d).alloc (.cells #[qI v,qJ p] 93)).kept (Kept.gH B) (λe=>ae e.symm)).set 8 (qL r (ks.length+1) A);have ak:isRow 93 2 numCells (λg=>w.heap.size<=g) (ks++[(v,p)]) (w3.setCell (qA c 8) (qL r (ks.length+1) A)) (qL r (ks.length+1) A):=by
    have q:=Row.other (Row.mI (ok:=λg=>w.heap.size<=g) ai (λg hg _=>hg)) (g:=c) (o:=8) (λk X=>qo) (qL r (ks.length+1) A);simpa [isRow,numCells] using q
   have HH:qh (eB 20 uM s n i=eT uM s n (m - (ks.length+1)) (ks++[(v,p)]) j2):=HE.o.trans (jZ qo I.o);have HR:=qH ak;have aE:=qH aj;clear ak ai B ax ay aA aB q8 f8 d af aj ac ab H;go_wp2;go_roundw
   case rel=>exact⟨ks.length+1,j2,ks++[(v,p)],qL r (ks.length+1) A,qo,qs,by go_num,aC,aD,aE.o,HR.o,HH.o⟩
   simp[intOf];omega
 have HH:qh (eB 20 uM s n i=.ok (ks,j)):=by show _=_;rw[HE.o,show m - ks.length=0 by omega];rfl
 go_wp2_with fail
 refine(nD y).mono ?_;rintro e l⟨d,F,G⟩;have al:=aa.trans d.fB;have am:=z.call d;have an:=Row.call H d (λk X=>by have:=h.lt;omega);clear J K L M N O P Q R T U V W Y Z J7 C D I9 J9;rcases ho:uM s n j with⟨q,p⟩|⟨⟨v,p⟩,j2⟩
 .obtain rfl:=G _ _ ho;exact⟨rfl,eP.dG (by simp[iE,HH.o,ho]) al⟩
 obtain⟨u,rfl,hv,ac⟩:=F _ _ ho;obtain rfl:u=.agg #[qI v,qJ p]:=hv;have HO:=qH ho;clear F G ho H d;obtain⟨⟨J,K⟩,⟨L,M⟩,⟨N,O⟩,⟨P,Q⟩,⟨R,T⟩,⟨U,V⟩,⟨W,Y⟩,⟨Z,J7⟩,⟨C,D⟩,⟨I9,J9⟩⟩:=am.blk.ten;have HR:=qH (Row.other (Row.other an (g:=c) (o:=6) (λk X=>qo) (qI v)) (g:=c) (o:=7) (λk X=>qo) (qJ p));have HI:=qH ((am.set 6 (qI v)).set 7 (qJ p));clear an;go_wp2;go_end0;exact eP.dN (x:=(⟨false,[],0,(v,p),ks,0⟩:fO)) (j:=j2) (by simp[iE,fO.none,HH.o,HO.o]) ((al.mH _).mH _) ⟨rfl,_,_,HI.o,Row.nil _ _ _ _,HR.o⟩ ((ac.dD E _).dD E _)
theorem uj{w:qW}{b c a d x:Nat}{s:qS}{i n:Nat}(h:Rd w b s i n)(hI:OB w b c (lY a d x)):
  qC 318 #[qP b,qP c] w (eP (both b c) w b s n (uE (λg=>w.heap.size<=g) b c a d x) (iE a x s n i)):=by
 by_cases hx:x∈oQ
 .by_cases U:x=2\/x=3\/x=4
  .exact yu h hI U
  by_cases e:x=14
  .subst e;exact yt h hI
  by_cases f:x=40\/x=41\/x=44\/x=45\/x=54\/x=55\/x=58
  .exact Aj h hI f
  by_cases j:x=12\/x=13\/x=16\/x=32\/x=33\/x=34\/x=35\/x=36
  .exact Am h hI j
  by_cases k:x=17
  .exact vD h hI k
  by_cases l:x=63\/x=64
  .exact zl h hI l
  by_cases m:x=65
  .exact Al h hI m
  by_cases o:x=66
  .exact Ak h hI o
  exfalso
  simp[oQ]at hx;omega
 exact zm h hI hx
theorem Tryz.info5:(prog.info? 5).map (λi=>(i.zero,i.size,i.bytes))=some (some (qB 0),1,1):=qk
def isOpen(ok:Nat->Prop)(os:List Nat)(w:World)(v:Value):Prop:=Row ok w 5 1 v os.length (byteCells os)
structure jT(ok:Nat->Prop)(w:World)(v:Value)(r:Except Err (List Nat))(e:Ending)(w':World):Prop where
 kept:Kept (λk=>v.ownBlock=some k) w w'
 ok:∀os,r=.ok os->∃v',e=.returned v'/\isOpen (λg=>ok g\/w.heap.size<=g) os w' v'
 err:∀q p,r=.error (q,p)->e=fo q p
theorem jT.dG{ok:qD}{w w':qW}{v:qv}{r:Except Err (qM)}{q p:Nat}(a:r=.error (q,p))(X:Kept (λk=>v.ownBlock=some k) w w'):jT ok w v r (fo q p) w':=
 ⟨X,λos h=>by(rw[a]at h;cases h),λb c h=>by rw[a]at h;cases h;rfl⟩
theorem jT.dN{ok:qD}{w w':qW}{v a:qv}{r:Except Err (qM)}{os:qM}(b:r=.ok os)(X:Kept (λk=>v.ownBlock=some k) w w')(ho:isOpen (λg=>ok g\/w.heap.size<=g) os w' a):jT ok w v r (.returned a) w':=
 ⟨X,λos' h=>by rw[b]at h;cases h;exact⟨a,rfl,ho⟩,λq p h=>by rw[b]at h;cases h⟩
theorem isOpen.some{ok:qD}{os:qM}{w:qW}{v:qv}(h:isOpen ok os w v)(c:os≠[]):∃g A,v=qL g os.length A/\os.length<=A/\
  (∀j y,os[j]?=some y->w.cell? (qA g j)=some (qB (y:Nat)))/\ok g/\g<w.heap.size/\
  (∀m,m<=os.length->isOpen ok (os.take m) w (qL g m A)):=by
 have hl:os.length≠0:=by simpa using c
 have d:=λg=>h.own.cells (g:=g);obtain⟨_,e⟩ | ⟨g,A,f,rfl,hb,a,i,l,n,b⟩:=h.own.2
 .exact absurd e hl
 refine⟨g,A,rfl,i,λj y o=>?_,h.at_ g rfl,(qah.1 a).1,λm hm=>?_⟩
 .have:=d g rfl j (qB y) (by simp[byteCells,o]);have p:(⟨g,0,none⟩:Addr).add j=⟨g,j,none⟩:=by unfold Addr.add;split<;>simp_all
  rwa[p]at this
 refine⟨⟨by simp[byteCells],.inr ⟨g,A,f,?_,hb,a,?_,l,n,?_⟩⟩,λk X=>?_⟩
 .simp[qcj hm]
 .simp;omega
 .simp only[qca,qcj hm,qck]at b ⊢;rw[show byteCells (os.take m)=(byteCells os).take m by simp[byteCells],<-b,qcg,qcj hm]
 simp[Value.ownBlock]at X;subst X;exact h.at_ g rfl
theorem isOpen.kept{S ok:qD}{os:qM}{w w':qW}{v:qv}(h:isOpen ok os w v)(X:Kept S w w')(a:∀g,g<w.heap.size->ok g->¬S g):isOpen ok os w' v:=Row.kept h X a
theorem isOpen.mono{ok ok':qD}{os:qM}{w:qW}{v:qv}(h:isOpen ok os w v)(hm:∀g,g<w.heap.size->ok g->ok' g):isOpen ok' os w v:=Row.mono h hm
theorem MO{ok:qD}{w:qW}{v:qv}{os:qM}{a x:Nat}{c1 c3 c4 c5 y z B C:qv}(d:isOpen ok os w v)(hl:os.length<=50)(hx:x=2\/x=3\/x=4):
  qC 317 #[v,.agg #[qJ a,c1,qB x,c3,c4,c5,y,z,B,C]] w (jT ok w v (gp os a x)):=by
 obtain⟨D,E,F,G,H⟩:=qap Tryz.info5;obtain⟨j,l,rfl⟩:=Row.shape d;have m:=qH d;clear d;have c:x∈[2,3,4]:=by simpa using hx
 by_cases b:os.length=50
 .have I:((os.length:Int)==50)=true:=by simp[b]
  have f:qh (gp os a x=.error (2,a)):=by show gp os a x=_;unfold gp;rw[qac c,qac b]
  clear b c;obtain rfl | rfl | rfl:=hx;all_goals
   go_enter func317,ntmps317;go_wp2_with fail
   refine(fZ _ _).mono ?_;rintro e n⟨rfl,rfl⟩;exact⟨rfl,jT.dG f.o (qr.alloc _)⟩
 have I:((os.length:Int)==50)=false:=by simp;omega
 have f:qh (gp os a x=.ok (os++[x])):=by show gp os a x=_;unfold gp;rw[qac c,qaa b]
 have J:qh (∀h i,((w.alloc h).alloc i).ownsRow 0 5 1 (qX j os l) os.length (byteCells os)):=λh i=>((Row.alloc (Row.alloc m.o h) i)).own;clear b c;obtain rfl | rfl | rfl:=hx;all_goals
  go_enter func317,ntmps317;go_wp2_with (at_builtin;refine wpList_append_lies _ rfl _ _ 50 rfl 0 5 D (qB 0) 1 1 underlying50 E F G H rfl qx _ _ _ rfl (J.o _ _) ⟨w.heap.size+1,0,none⟩ 1 1 [_] rfl rfl (cells_at qs rfl) ?c2 qo ?c3 ?c4 qZ (w.heap.size+1+1) qs ?_)
  case c2=>intro u p;simp at p;subst p;rfl
  case c3=>unfold maxLen;omega
  case c4=>omega
  intro M A n q r s N;have X:Kept (λk=>(Value.slice j os.length l).ownBlock=some k) w n:=((qr.alloc _).alloc _).trans (Kept.gH r);have K:=qH q;have L:=qH s;clear q s r;go_wp2;go_ret;refine jT.dN f.o X ⟨?_,λg t=>?_⟩
  .simpa [byteCells] using K.o
  simp[Value.ownBlock]at t;subst t;obtain hh | hh:=L.o
  .exact .inl (m.o.at_ _ hh)
  exact .inr qo
theorem JE{ok:qD}{w:qW}{v:qv}{os:qM}{a x:Nat}{c1 c3 c4 c5 j k l m:qv}(b:isOpen ok os w v)(hl:os.length<=50)(d:x≠2)(e:x≠3)(f:x≠4)(h:x≠5)(i:x≠11):
  qC 317 #[v,.agg #[qJ a,c1,qB x,c3,c4,c5,j,k,l,m]] w (jT ok w v (gp os a x)):=by
 obtain⟨r,s,rfl⟩:=Row.shape b;have n:qh (gp os a x=.ok os):=by show gp os a x=_;simp[gp,d,e,f,h,i]
 have t:((x:Int)==2)=false:=by simp;omega
 have u:((x:Int)==3)=false:=by simp;omega
 have y:((x:Int)==4)=false:=by simp;omega
 have z:((x:Int)==5)=false:=by simp;omega
 have A:((x:Int)==11)=false:=by simp;omega
 have p:=qH b;clear b d e f h i;go_enter func317,ntmps317;go_wp2;go_ret;exact jT.dN n.o (qr.alloc _) ((p.o.kept (S:=λ_=>False) (qr.alloc _) (λ_ _ _ c=>c)).mono (λg _ q=>.inl q))
theorem Qe{ok:qD}{w:qW}{v:qv}{os:qM}{a:Nat}{c1 c3 c4 c5 h i j k:qv}(b:isOpen ok os w v)(hl:os.length<=50)(d:os≠[]):
  qC 317 #[v,.agg #[qJ a,c1,qB 11,c3,c4,c5,h,i,j,k]] w (jT ok w v (gp os a 11)):=by
 obtain⟨g,A,rfl,q,l,r,s,e⟩:=b.some d;have m:qh (gp os a 11=.ok os.dropLast):=by show gp os a 11=_;simp[gp]
 have n:=qH e;have t:1<=os.length:=List.length_pos_iff.2 d;have f:((os.length:Int) - 1)=((os.length - 1:Nat):Int):=qo;have u:=qH f;clear f e b l;have x:(0:Int)<=(os.length:Int) - 1:=qo;have y:(os.length:Int) - 1<=(A:Int):=qo;go_enter func317,ntmps317;go_wp2;go_ret;refine jT.dN m.o (qr.alloc _) (((isOpen.kept (S:=λ_=>False) (w:=w) ?_ (qr.alloc _) (λ_ _ _ c=>c))).mono (λg _ p=>.inl p));rw[qde];exact n.o _ qo
theorem isOpen.alloc{ok:qD}{os:qM}{w:qW}{v:qv}(h:isOpen ok os w v)(o:Obj):isOpen ok os (w.alloc o) v:=
 h.kept (S:=λ_=>False) (qr.alloc _) (λ_ _ _ c=>c)
theorem MP{ok:qD}{w:qW}{v:qv}{os:qM}{a:Nat}{c1 c3 c4 c5 x z B C:qv}(d:isOpen ok os w v)(hl:os.length<=50):
  qC 317 #[v,.agg #[qJ a,c1,qB 5,c3,c4,c5,x,z,B,C]] w (jT ok w v (gp os a 5)):=by
 obtain⟨D,E,F,G,H⟩:=qap Tryz.info5;by_cases b:os=[]
 .subst b;obtain⟨Q,R,rfl⟩:=Row.shape d;have HH:qh (gp [] a 5=.error (2,a)):=rfl;clear d;exact WR
 have c:=List.getLast?_eq_some_getLast b;generalize os.getLast b=y at c;obtain⟨g,A,rfl,S,f,I,J,i⟩:=d.some b;have T:1<=os.length:=List.length_pos_iff.2 b;have hy:os[os.length - 1]?=some y:=by rw[<-c,qbm]
 have hc:=f (os.length - 1) y hy;have U:∀o,(w.alloc o).cell? ⟨g,os.length - 1,none⟩=some (qB y):=λo=>(qat _ _ _ J).trans hc;have K:=qH i;have V:decide ((os.length:Int) - 1<0)=false:=by simp;omega
 have W:(0:Int)<=(os.length:Int) - 1:=qo;have Y:(os.length:Int) - 1<=(A:Int):=qo;have Z:(os.length:Int) - 1<(os.length:Int):=qo;by_cases m:y=4
 .subst m;have HH:qh (gp os a 5=.ok (os.dropLast++[5])):=by show gp os a 5=_;simp[gp,c]
  have L:qh (∀j l,((w.alloc j).alloc l).ownsRow 0 5 1 (qL g (os.length - 1) A) (os.length - 1) (byteCells os.dropLast)):=λj l=>by
   have q:=((K.o (os.length - 1) qo).alloc j).alloc l;have M:=q.own;rw[qde];simpa using M
  clear i d f c hy b;go_enter func317,ntmps317;go_wp2_with (at_builtin;refine wpList_append_lies _ rfl _ _ 50 rfl 0 5 D (qB 0) 1 1 underlying50 E F G H rfl qx _ _ _ rfl (L.o _ _) ⟨w.heap.size+1,0,none⟩ 1 1 [_] rfl rfl (cells_at qs rfl) ?c2 qo ?c3 ?c4 qZ (w.heap.size+1+1) qs ?_)
  case c2=>intro u n;simp at n;subst n;rfl
  case c3=>unfold maxLen;omega
  case c4=>omega
  intro gg aa w3 p r s ab;have X:Kept (λk=>(Value.slice (some (qA g 0)) os.length A).ownBlock=some k) w w3:=((qr.alloc _).alloc _).trans (Kept.gH r);have N:=qH p;have O:=qH s;clear p s r;go_wp2;go_ret;refine jT.dN HH.o X ⟨?_,λg2 t=>?_⟩
  .have e1:os.length - 1+1=os.length:=qo;have:=N.o;simpa [byteCells,e1] using this
  simp[Value.ownBlock]at t;subst t;obtain hh | hh:=O.o
  .simp[Value.ownBlock]at hh;subst hh;exact .inl I
  exact .inr qo
 have t4:((y:Int) !=4)=true:=by rw[qcm];omega
 have HH:qh (gp os a 5=.error (2,a)):=by show gp os a 5=_;simp[gp,c,m]
 clear i d f c hy b;exact WR
theorem Qg{ok:qD}{w:qW}{v:qv}{os:qM}{a x:Nat}{c1 c3 c4 c5 e f g h:qv}(b:isOpen ok os w v)(hl:os.length<=50)(i:x=11->os≠[]):
  qC 317 #[v,.agg #[qJ a,c1,qB x,c3,c4,c5,e,f,g,h]] w (jT ok w v (gp os a x)):=by
 by_cases U:x=2\/x=3\/x=4
 .exact MO b hl U
 by_cases c:x=5
 .subst c;exact MP b hl
 by_cases d:x=11
 .subst d;exact Qe b hl (i rfl)
 exact JE b hl qo qo qo c d
end Go.Proofs.YtfkcodlceoghpaaGreatDoor
