import Derived.Test.YtfkcodlceoghpaaGreatDoorX2
import Derived.Test.YtfkcodlceoghpaaGreatDoorX3
namespace Go.Proofs.YtfkcodlceoghpaaGreatDoor
set_option maxHeartbeats 800000
set_option maxRecDepth 100000
open Go.RowKit Go.Proofs.Tryz
theorem gu(x y:qv)(w:qW):(Instr.field 93 (.agg #[x,y]) 0).run prog w=.ok x w:=qk
theorem uh{w:qW}{b:Nat}{s:qS}{i n:Nat}(h:Rd w b s i n):
  qC 174 #[qP b] w (Out w b s n Q6 (r9 s n i)):=by
 have ai:=h.lt;have aj:=gu;go_enter func174,ntmps174;go_wp2_with fail
 refine(oz (h.alloc _)).mono ?_;rintro e w0⟨rfl,rfl⟩;go_wp2_with fail
 refine(one_any (ts:=[0,1]) (((h.alloc _).alloc _).alloc _) (xX 0 1 qs rfl rfl) qs qo qs).mono ?_;rintro e X⟨K,d,f⟩;have L:=((((Kept.refl (only b) w).alloc _).alloc _).alloc _).trans K;have Y:OB X b (w.heap.size) [qJ 0,qI 0,qI 0,.bool false]:=(((OB.new (b:=b) (g:=w.heap.size) (c:= #[qJ 0,qI 0,qI 0,.bool false]) (by first | omega | (simp;omega)) qs).alloc _).alloc _).call K;have F:OB X b (w.heap.size+1) [qJ i,qI 0,qI 0,.bool false]:=((OB.new (b:=b) (g:=w.heap.size+1) (c:= #[qJ i,qI 0,qI 0,.bool false]) (by first | omega | (simp;omega)) qs).alloc _).call K;clear K;rcases ho:iO [0,1] s n i with⟨q,p⟩|O
 .obtain rfl:=f _ _ ho;exact⟨rfl,Out.dG (by simp[r9,ho]) L⟩
 obtain⟨x,j⟩:=O;obtain⟨u,rfl,hv,Z⟩:=d _ _ ho;obtain rfl:u=qB x:=hv;have G:=qH ho;clear d f ho;have ak:=L.size;have hx:x=0\/x=1:=by have:=(nO G.o).1;simpa using this
 obtain rfl | rfl:=hx
 .skip
  obtain⟨⟨l,r⟩,⟨t,y⟩,⟨z,A⟩,⟨B,C⟩⟩:=F.blk.four;go_wp2_with fail
  refine(nD (Z.dD F.ne _)).mono ?_;rintro e I⟨k,d,f⟩;have D:=(L.new qo _).trans k;have E:OB I b (w.heap.size) [qJ 0,qI 0,qI 0,.bool false]:=(Y.other qo _).call k;have H:OB I b (w.heap.size+1) [qJ i,qI 0,qI 0,(.bool false)]:=(F.set 3 (.bool false)).call k;clear l r t y z A B C;clear k;rcases ho:uM s n j with⟨q,p⟩|⟨⟨v,a⟩,P⟩
  .obtain rfl:=f _ _ ho;exact⟨rfl,Out.dG (by simp[r9,G.o,ho]) D⟩
  obtain⟨u,rfl,hv,Q⟩:=d _ _ ho;obtain rfl:u=.agg #[qI v,qJ a]:=hv;have M:=qH ho;clear d f ho;have ab:=D.size;obtain⟨⟨R,ac⟩,⟨S,ad⟩,⟨T,ae⟩,⟨U,af⟩⟩:=E.blk.four;obtain⟨⟨l,r⟩,⟨t,y⟩,⟨z,A⟩,⟨B,C⟩⟩:=H.blk.four;have V:qh (r9 s n i=.ok (⟨i,v,0,false⟩,P)):=by show _=_;simp[r9,G.o,M.o]
  go_wp2;refine qal (v:=.agg #[qJ i,qI v,qI 0,.bool false]) ?_ rfl (Out.dN V.o (((((D.new qo _).new qR _).new qR _).new qR _).new qR _) rfl (((((Q.dD H.ne _).dD E.ne _).dD E.ne _).dD E.ne _).dD E.ne _));simp[results,results174,go_sem,R,S,T,U]
 skip
 obtain⟨⟨l,r⟩,⟨t,y⟩,⟨z,A⟩,⟨B,C⟩⟩:=F.blk.four;go_wp2_with fail
 refine(nD (Z.dD F.ne _)).mono ?_;rintro e I⟨k,d,f⟩;have D:=(L.new qo _).trans k;have E:OB I b (w.heap.size) [qJ 0,qI 0,qI 0,.bool false]:=(Y.other qo _).call k;have H:OB I b (w.heap.size+1) [qJ i,qI 0,qI 0,(.bool true)]:=(F.set 3 (.bool true)).call k;clear l r t y z A B C;clear k;rcases ho:uM s n j with⟨q,p⟩|O
 .obtain rfl:=f _ _ ho;exact⟨rfl,Out.dG (by simp[r9,G.o,ho]) D⟩
 obtain⟨⟨v,a⟩,P⟩:=O;obtain⟨u,rfl,hv,Q⟩:=d _ _ ho;obtain rfl:u=.agg #[qI v,qJ a]:=hv;have M:=qH ho;clear d f ho;have ab:=D.size;obtain⟨⟨l,r⟩,⟨t,y⟩,⟨z,A⟩,⟨B,C⟩⟩:=H.blk.four;go_wp2_with fail
 refine(nD (Q.dD H.ne _)).mono ?_;rintro e w3⟨N,d,f⟩;have W:=(D.new qo _).trans N;have J:OB w3 b (w.heap.size) [qJ 0,qI 0,qI 0,.bool false]:=(E.other qo _).call N;have aa:OB w3 b (w.heap.size+1) [qJ i,(qI v),qI 0,(.bool true)]:=(H.set 1 (qI v)).call N;clear l r t y z A B C;clear N;rcases ho:uM s n P with⟨q,p⟩|⟨⟨m,a2⟩,j3⟩
 .obtain rfl:=f _ _ ho;exact⟨rfl,Out.dG (by simp[r9,G.o,M.o,ho]) W⟩
 obtain⟨u,rfl,hv,ag⟩:=d _ _ ho;obtain rfl:u=.agg #[qI m,qJ a2]:=hv;have ah:=qH ho;clear d f ho;have al:=W.size;obtain⟨⟨R,ac⟩,⟨S,ad⟩,⟨T,ae⟩,⟨U,af⟩⟩:=J.blk.four;obtain⟨⟨l,r⟩,⟨t,y⟩,⟨z,A⟩,⟨B,C⟩⟩:=aa.blk.four;have V:qh (r9 s n i=.ok (⟨i,v,m,true⟩,j3)):=by show _=_;simp[r9,G.o,M.o,ah.o]
 go_wp2;refine qal (v:=.agg #[qJ i,qI v,qI m,.bool true]) ?_ rfl (Out.dN V.o (((((W.new qo _).new qR _).new qR _).new qR _).new qR _) rfl (((((ag.dD aa.ne _).dD J.ne _).dD J.ne _).dD J.ne _).dD J.ne _));simp[results,results174,go_sem,R,S,T,U]
theorem CE{w:qW}{b:Nat}{s:qS}{i n:Nat}(h:Rd w b s i n):
  qC 173 #[qP b] w (Out w b s n Q6 (nM s n i)):=by
 have M:=h.lt;have N:=gu;go_enter func173,ntmps173;go_wp2_with fail
 refine(one_any (ts:=[112]) ((h.alloc _).alloc _) (oq 112 qs rfl) qs qo qs).mono ?_;rintro e z⟨k,a,d⟩;have m:=(((Kept.refl (only b) w).alloc _).alloc _).trans k;have A:OB z b (w.heap.size) [qJ 0,qI 0,qI 0,.bool false]:=((OB.new (b:=b) (g:=w.heap.size) (c:= #[qJ 0,qI 0,qI 0,.bool false]) (by first | omega | (simp;omega)) qs).alloc _).call k;clear k;rcases ho:iO [112] s n i with⟨q,p⟩|B
 .obtain rfl:=d _ _ ho;exact⟨rfl,Out.dG (by simp[nM,ho]) m⟩
 obtain⟨x,j⟩:=B;obtain⟨u,rfl,-,C⟩:=a _ _ ho;have y:=qH ho;clear a d ho;have O:=m.size;go_wp2_with fail
 refine(uh C).mono ?_;rintro e D⟨r,a,d⟩;have t:=m.trans r;have f:OB D b (w.heap.size) [qJ 0,qI 0,qI 0,.bool false]:=A.call r;clear r;rcases ho:r9 s n j with⟨q,p⟩|⟨l,E⟩
 .obtain rfl:=d _ _ ho;exact⟨rfl,Out.dG (by simp[nM,y.o,ho]) t⟩
 obtain⟨u,rfl,hv,F⟩:=a _ _ ho;obtain rfl:u=.agg #[qJ l.at_,qI l.least,qI l.most,.bool l.has]:=hv;have G:=qH ho;clear a d ho;have P:=t.size;obtain⟨⟨H,Q⟩,⟨I,R⟩,⟨J,S⟩,⟨K,T⟩⟩:=f.blk.four;have L:qh (nM s n i=.ok (l,E)):=by show _=_;simp[nM,y.o,G.o]
 go_wp2;refine qal (v:=.agg #[qJ l.at_,qI l.least,qI l.most,.bool l.has]) ?_ rfl (Out.dN L.o ((((t.new qR _).new qR _).new qR _).new qR _) rfl ((((F.dD f.ne _).dD f.ne _).dD f.ne _).dD f.ne _));simp[results,results173,go_sem,H,I,J,K]
theorem Ag{w:qW}{b:Nat}{s:qS}{i n:Nat}(h:Rd w b s i n):
  qC 176 #[qP b] w (Out w b s n Uu (jR s n i)):=by
 have ak:=h.lt;have al:=gu;go_enter func176,ntmps176;go_wp2_with fail
 refine(sK ((h.alloc _).alloc _)).mono ?_;rintro e w1⟨L,d,f⟩;have O:=(((Kept.refl (only b) w).alloc _).alloc _).trans L;have ac:OB w1 b (w.heap.size) [qB 0,.bool false,qJ 0,qB 0,qJ 0]:=((OB.new (b:=b) (g:=w.heap.size) (c:= #[qB 0,.bool false,qJ 0,qB 0,qJ 0]) (by first | omega | (simp;omega)) qs).alloc _).call L;have P:OB w1 b (w.heap.size+1) [qB 0,.bool false,qJ 0,qB 0,qJ 0]:=(OB.new (b:=b) (g:=w.heap.size+1) (c:= #[qB 0,.bool false,qJ 0,qB 0,qJ 0]) (by first | omega | (simp;omega)) qs).call L;clear L;rcases ho:jM s n i with⟨q,p⟩|Q
 .obtain rfl:=f _ _ ho;exact⟨rfl,Out.dG (by simp[jR,ho]) O⟩
 obtain⟨k,j⟩:=Q;obtain⟨u,rfl,hv,ad⟩:=d _ _ ho;obtain rfl:u=qB k:=hv;have I:=qH ho;clear d f ho;have am:=O.size;obtain⟨⟨r,t⟩,⟨y,z⟩,⟨A,B⟩,⟨C,D⟩,⟨E,F⟩⟩:=P.blk.five;go_wp2_with fail
 refine(one_any (ts:=[0,1]) ((ad.dD P.ne _).alloc _) (xX 0 1 qs rfl rfl) qs qt qs).mono ?_;rintro e w2⟨M,d,f⟩;have N:=((O.new qo _).alloc _).trans M;have aa:OB w2 b (w.heap.size) [qB 0,.bool false,qJ 0,qB 0,qJ 0]:=((ac.other qo _).alloc _).call M;have H:OB w2 b (w.heap.size+1) [(qB k),.bool false,qJ 0,qB 0,qJ 0]:=((P.set 0 (qB k)).alloc _).call M;clear r t y z A B C D E F;clear M;rcases ho:iO [0,1] s n j with⟨q,p⟩|Q
 .obtain rfl:=f _ _ ho;exact⟨rfl,Out.dG (by simp[jR,I.o,ho]) N⟩
 obtain⟨x,j2⟩:=Q;obtain⟨u,rfl,hv,ab⟩:=d _ _ ho;obtain rfl:u=qB x:=hv;have J:=qH ho;clear d f ho;have an:=N.size;have hx:x=0\/x=1:=by have:=(nO J.o).1;simpa using this
 obtain rfl | rfl:=hx
 .skip
  obtain⟨⟨r,t⟩,⟨y,z⟩,⟨A,B⟩,⟨C,D⟩,⟨E,F⟩⟩:=H.blk.five;go_wp2_with fail
  refine(kV (ab.dD H.ne _)).mono ?_;rintro e K⟨l,d,f⟩;have G:=(N.new qo _).trans l;have a:OB K b (w.heap.size) [qB 0,.bool false,qJ 0,qB 0,qJ 0]:=(aa.other qo _).call l;have m:OB K b (w.heap.size+1) [(qB k),(.bool false),qJ 0,qB 0,qJ 0]:=(H.set 1 (.bool false)).call l;clear r t y z A B C D E F;clear l;rcases ho:ja s n j2 with⟨q,p⟩|⟨c,R⟩
  .obtain rfl:=f _ _ ho;exact⟨rfl,Out.dG (by simp[jR,I.o,J.o,ho]) G⟩
  obtain⟨u,rfl,hv,S⟩:=d _ _ ho;obtain rfl:u=.agg #[qJ c.at_,qB c.kind,qJ c.val]:=hv;have T:=qH ho;clear d f ho;have ae:=G.size;obtain⟨⟨U,af⟩,⟨V,ag⟩,⟨W,ah⟩,⟨X,ai⟩,⟨Y,aj⟩⟩:=a.blk.five;obtain⟨⟨r,t⟩,⟨y,z⟩,⟨A,B⟩,⟨C,D⟩,⟨E,F⟩⟩:=m.blk.five;have Z:qh (jR s n i=.ok (⟨k,false,c⟩,R)):=by show _=_;simp[jR,I.o,J.o,T.o]
  go_wp2;refine qal (v:=.agg #[qB k,.bool false,qJ c.at_,qB c.kind,qJ c.val]) ?_ rfl (Out.dN Z.o ((((((((G.new qo _).new qo _).new qo _).new qR _).new qR _).new qR _).new qR _).new qR _) rfl ((((((((S.dD m.ne _).dD m.ne _).dD m.ne _).dD a.ne _).dD a.ne _).dD a.ne _).dD a.ne _).dD a.ne _));simp[results,results176,go_sem,U,V,W,X,Y]
 skip
 obtain⟨⟨r,t⟩,⟨y,z⟩,⟨A,B⟩,⟨C,D⟩,⟨E,F⟩⟩:=H.blk.five;go_wp2_with fail
 refine(kV (ab.dD H.ne _)).mono ?_;rintro e K⟨l,d,f⟩;have G:=(N.new qo _).trans l;have a:OB K b (w.heap.size) [qB 0,.bool false,qJ 0,qB 0,qJ 0]:=(aa.other qo _).call l;have m:OB K b (w.heap.size+1) [(qB k),(.bool true),qJ 0,qB 0,qJ 0]:=(H.set 1 (.bool true)).call l;clear r t y z A B C D E F;clear l;rcases ho:ja s n j2 with⟨q,p⟩|⟨c,R⟩
 .obtain rfl:=f _ _ ho;exact⟨rfl,Out.dG (by simp[jR,I.o,J.o,ho]) G⟩
 obtain⟨u,rfl,hv,S⟩:=d _ _ ho;obtain rfl:u=.agg #[qJ c.at_,qB c.kind,qJ c.val]:=hv;have T:=qH ho;clear d f ho;have ae:=G.size;obtain⟨⟨U,af⟩,⟨V,ag⟩,⟨W,ah⟩,⟨X,ai⟩,⟨Y,aj⟩⟩:=a.blk.five;obtain⟨⟨r,t⟩,⟨y,z⟩,⟨A,B⟩,⟨C,D⟩,⟨E,F⟩⟩:=m.blk.five;have Z:qh (jR s n i=.ok (⟨k,true,c⟩,R)):=by show _=_;simp[jR,I.o,J.o,T.o]
 go_wp2;refine qal (v:=.agg #[qB k,.bool true,qJ c.at_,qB c.kind,qJ c.val]) ?_ rfl (Out.dN Z.o ((((((((G.new qo _).new qo _).new qo _).new qR _).new qR _).new qR _).new qR _).new qR _) rfl ((((((((S.dD m.ne _).dD m.ne _).dD m.ne _).dD a.ne _).dD a.ne _).dD a.ne _).dD a.ne _).dD a.ne _));simp[results,results176,go_sem,U,V,W,X,Y]
theorem EC{w:qW}{b:Nat}{s:qS}{i n:Nat}(h:Rd w b s i n):
  qC 183 #[qP b] w (Out w b s n Uy (pz s n i)):=by
 have am:=h.lt;have an:=gu;go_enter func183,ntmps183;go_wp2_with fail
 refine(oz (h.alloc _)).mono ?_;rintro e w0⟨rfl,rfl⟩;go_wp2_with fail
 refine(one_any (ts:=[0]) (((h.alloc _).alloc _).alloc _) (oq 0 qs rfl) qs qo qs).mono ?_;rintro e I⟨m,a,d⟩;have A:=((((Kept.refl (only b) w).alloc _).alloc _).alloc _).trans m;have X:OB I b (w.heap.size) [qJ 0,qJ 0,qB 0,qJ 0,.string {data:= #[]}]:=(((OB.new (b:=b) (g:=w.heap.size) (c:= #[qJ 0,qJ 0,qB 0,qJ 0,.string {data:= #[]}]) (by first | omega | (simp;omega)) qs).alloc _).alloc _).call m;have Y:OB I b (w.heap.size+1) [qJ i,qJ 0,qB 0,qJ 0,.string {data:= #[]}]:=((OB.new (b:=b) (g:=w.heap.size+1) (c:= #[qJ i,qJ 0,qB 0,qJ 0,.string {data:= #[]}]) (by first | omega | (simp;omega)) qs).alloc _).call m;clear m;rcases ho:iO [0] s n i with⟨q,p⟩|k
 .obtain rfl:=d _ _ ho;exact⟨rfl,Out.dG (by simp[pz,ho]) A⟩
 obtain⟨x,j⟩:=k;obtain⟨u,rfl,-,Z⟩:=a _ _ ho;have r:=qH ho;clear a d ho;have ao:=A.size;go_wp2_with fail
 refine(kV Z).mono ?_;rintro e J⟨t,a,d⟩;have B:=A.trans t;have aa:OB J b (w.heap.size) [qJ 0,qJ 0,qB 0,qJ 0,.string {data:= #[]}]:=X.call t;have l:OB J b (w.heap.size+1) [qJ i,qJ 0,qB 0,qJ 0,.string {data:= #[]}]:=Y.call t;clear t;rcases ho:ja s n j with⟨q,p⟩|k
 .obtain rfl:=d _ _ ho;exact⟨rfl,Out.dG (by simp[pz,r.o,ho]) B⟩
 obtain⟨c,j2⟩:=k;obtain⟨u,rfl,hv,ab⟩:=a _ _ ho;obtain rfl:u=.agg #[qJ c.at_,qB c.kind,qJ c.val]:=hv;have C:=qH ho;clear a d ho;have ap:=B.size;obtain⟨⟨K,L⟩,⟨M,N⟩,⟨O,P⟩,⟨Q,R⟩,⟨S,T⟩⟩:=l.blk.five;go_wp2_with fail
 refine(count_any 100 (((ab.dD l.ne _).dD l.ne _).dD l.ne _) qo).mono ?_;rintro e U⟨y,a,d⟩;have D:=(((B.new qo _).new qo _).new qo _).trans y;have ac:OB U b (w.heap.size) [qJ 0,qJ 0,qB 0,qJ 0,.string {data:= #[]}]:=(((aa.other qo _).other qo _).other qo _).call y;have ad:OB U b (w.heap.size+1) [qJ i,(qJ c.at_),(qB c.kind),(qJ c.val),.string {data:= #[]}]:=(((l.set 1 (qJ c.at_)).set 2 (qB c.kind)).set 3 (qJ c.val)).call y;clear K L M N O P Q R S T;clear y;rcases ho:fD 100 s n j2 with⟨q,p⟩|k
 .obtain rfl:=d _ _ ho;exact⟨rfl,Out.dG (by simp[pz,r.o,C.o,ho]) D⟩
 obtain⟨E,j3⟩:=k;obtain⟨u,rfl,hv,ae⟩:=a _ _ ho;obtain rfl:u=qJ E:=hv;have F:=qH ho;clear a d ho;have aq:=D.size;have ar:=(fA F.o).1;go_wp2_with fail
 refine(zZ E ae qo).mono ?_;rintro e V⟨z,a,d⟩;have G:=D.trans z;have f:OB V b (w.heap.size) [qJ 0,qJ 0,qB 0,qJ 0,.string {data:= #[]}]:=ac.call z;have W:OB V b (w.heap.size+1) [qJ i,(qJ c.at_),(qB c.kind),(qJ c.val),.string {data:= #[]}]:=ad.call z;clear z;rcases ho:jL E s n j3 with⟨q,p⟩|⟨H,j4⟩
 .obtain rfl:=d _ _ ho;exact⟨rfl,Out.dG (by simp[pz,r.o,C.o,F.o,ho]) G⟩
 obtain⟨u,rfl,hv,af⟩:=a _ _ ho;obtain rfl:u=.string H:=hv;have ag:=qH ho;clear a d ho;have au:=G.size;obtain⟨⟨ah,aw⟩,⟨ai,ax⟩,⟨aj,ay⟩,⟨ak,aA⟩,⟨al,aB⟩⟩:=f.blk.five;obtain⟨⟨K,L⟩,⟨M,N⟩,⟨O,P⟩,⟨Q,R⟩,⟨S,T⟩⟩:=W.blk.five;have HH:qh (pz s n i=.ok (⟨i,c,H⟩,j4)):=by show _=_;simp[pz,r.o,C.o,F.o,ag.o]
 go_wp2;refine qal (v:=.agg #[qJ i,qJ c.at_,qB c.kind,qJ c.val,.string H]) ?_ rfl (Out.dN HH.o ((((((G.new qo _).new qR _).new qR _).new qR _).new qR _).new qR _) rfl ((((((af.dD W.ne _).dD f.ne _).dD f.ne _).dD f.ne _).dD f.ne _).dD f.ne _));simp[results,results183,go_sem,ah,ai,aj,ak,al]
end Go.Proofs.YtfkcodlceoghpaaGreatDoor
