import Derived.RangeFuncIn
import Derived.Test.YtfkcodlceoghpaaGreatDoorX2
import Derived.Test.YtfkcodlceoghpaaGreatDoorX3
namespace Go.Proofs.YtfkcodlceoghpaaGreatDoor
set_option maxHeartbeats 800000
set_option maxRecDepth 100000
open Go.RowKit Go.Proofs.Tryz
def isRow{α:Type}(E:TypeId)(size:Nat)(cells:α->List Value)(ok:Nat->Prop)(xs:List α)(w:World)(v:Value):Prop:=Row ok w E size v xs.length (xs.flatMap cells)
theorem cells_at{w:qW}{g:Nat}{c:Array qv}{t:TypeId}{l:qV}(a:g=w.heap.size)(hl:l=c.toList):∀j u,l[j]?=some u->(w.alloc (.cells c t)).cell? ((⟨g,0,none⟩:Addr).add j)=some u:=by
 intro j u b;subst a hl;have d:(⟨w.heap.size,0,none⟩:Addr).add j=⟨w.heap.size,j,none⟩:=by unfold Addr.add;split<;>simp_all
 rw[d,qco];simpa using b
theorem Tryz.Kb:(prog.info? 93).map (λi=>(i.zero,i.size,i.bytes))=some (some (.agg #[qI 0,qJ 0]),2,16):=qk
theorem uA{w:qW}{b:Nat}{s:qS}{i n:Nat}(most K:Nat)(tM:qS->Nat->Nat->Except Err ((Int×Nat)×Nat))(h:Rd w b s i n)(hm:most<=50)(hc:Enters K)
  (l:∀c j,Rd c b s j n->qC K #[qP b] c (Out c b s n isNum (tM s n j))):
  qC 171 #[qP b,qJ most,.func (.func K) #[] #[]] w (Out w b s n (isRow 93 2 numCells (λg=>w.heap.size<=g)) (eB most tM s n i)):=by
 obtain⟨C,D,E,F,G⟩:=qap Tryz.Kb;have N:∀(args:Array qv)(w:qW),(callFunc K args).run prog w=.ok (.enter K args) w:=hc;have H:=qH l;clear l;go_enter func171,ntmps171;go_wp2_with fail
 refine(count_any most h qo).mono ?_;rintro e c⟨hk1,a,iC⟩;rcases ho:fD most s n i with⟨q,p⟩|I
 .exact IG
 obtain⟨cnt,m⟩:=I;obtain⟨u,rfl,hv,hrd⟩:=a _ _ ho;obtain rfl:u=qJ cnt:=hv;have O:=(fA ho).1;have r:qh (eB most tM s n i=eT tM s n cnt [] m):=by show _=_;simp[eB,ho]
 clear a iC ho;go_wp2;go_loopw [7,12] (λv q wr=>∃(k j:Nat)(ks:List (Int×Nat)),k<=cnt/\ks.length=k/\q=qJ k/\Rd wr b s j n/\Kept (only b) w wr/\isRow 93 2 numCells (λg=>w.heap.size<=g) ks wr v/\eB most tM s n i=eT tM s n (cnt - k) ks j) (λ_ q _=>cnt - (intOf q).toNat)
 case atStart=>exact⟨0,m,[],qZ,rfl,rfl,hrd,hk1,Row.nil _ _ _ _,r.o⟩
 obtain⟨k,j,ks,X,hl,rfl,hrd,hkp,hrow,t⟩:=hrel;have HE:=qH t;clear t r;by_cases Q:k<cnt
 .have hlt':(k:Int)<(cnt:Int):=qo;go_wp2_with fail
  refine(H.o _ _ hrd).mono ?_;rintro e y⟨f,a,iC⟩;have hk3:=hkp.trans f;have z:Row (λg=>w.heap.size<=g) y 93 2 u7 ks.length (ks.flatMap numCells):=hrow.kept f (λg _ d (e:g=b)=>by have:=h.lt;omega);clear hrow f hkp;rcases ho:tM s n j with⟨q,p⟩|⟨x,j2⟩
  .exact IJ
  obtain⟨u,rfl,hv,J⟩:=a _ _ ho;obtain rfl:u=.agg #[qI x.1,qJ x.2]:=hv;have HH:qh (eB most tM s n i=eT tM s n (cnt - (k+1)) (ks++[x]) j2):=HE.o.trans (jZ qo ho);clear a iC ho hrd;have A:=((z.nK (λg d=>d)).alloc (.cells #[qI x.1,qJ x.2] 93)).alloc (.cells #[qI x.1,qJ x.2] 93);have HW:=qH A;have R:=hk3.size;clear A z;go_wp2_with (at_builtin;refine qbv _ rfl _ _ 66 rfl w.heap.size 93 C (.agg #[qI 0,qJ 0]) 2 16 underlying66 D E F G rfl qx _ _ _ rfl HW.o ⟨y.heap.size+1,0,none⟩ 1 1 [qI x.1,qJ x.2] rfl rfl ?c1 ?c2 ?c3 ?c4 ?c5 ?_)
  case c1=>exact cells_at qs rfl
  case c2=>intro u B;simp at B;obtain rfl | rfl:=B<;>rfl
  case c3=>unfold maxLen;omega
  case c4=>omega
  case c5=>simp;omega
  intro L M hown' hgrow _;have hk4:=iD ((hk3.alloc _).alloc _) HW.o qR hgrow;have zA:=jk ((J.alloc _).alloc _) HW.o h.lt hgrow;have hrow3:isRow 93 2 numCells (λg=>w.heap.size<=g) (ks++[x]) M L:=by
   have:=Row.mI (ok:=λg=>w.heap.size<=g) hown' (λg d _=>d);simpa [isRow,numCells,hl] using this
  exact OV
 exact RY
theorem Tryz.Vj:(prog.info? 87).map (λi=>(i.zero,i.size,i.bytes))=some (some (.agg #[qJ 0,qI 0,qI 0,.bool false]),4,24):=qk
theorem uB{w:qW}{b:Nat}{s:qS}{i n:Nat}(most K:Nat)(tM:qS->Nat->Nat->Except Err ((tZ)×Nat))(h:Rd w b s i n)(hm:most<=50)(hc:Enters K)
  (l:∀c j,Rd c b s j n->qC K #[qP b] c (Out c b s n Q6 (tM s n j))):
  qC 172 #[qP b,qJ most,.func (.func K) #[] #[]] w (Out w b s n (isRow 87 4 tZ.cells (λg=>w.heap.size<=g)) (eB most tM s n i)):=by
 obtain⟨C,D,E,F,G⟩:=qap Tryz.Vj;have N:∀(args:Array qv)(w:qW),(callFunc K args).run prog w=.ok (.enter K args) w:=hc;have H:=qH l;clear l;go_enter func172,ntmps172;go_wp2_with fail
 refine(count_any most h qo).mono ?_;rintro e c⟨hk1,a,iC⟩;rcases ho:fD most s n i with⟨q,p⟩|I
 .exact IG
 obtain⟨cnt,m⟩:=I;obtain⟨u,rfl,hv,hrd⟩:=a _ _ ho;obtain rfl:u=qJ cnt:=hv;have O:=(fA ho).1;have r:qh (eB most tM s n i=eT tM s n cnt [] m):=by show _=_;simp[eB,ho]
 clear a iC ho;go_wp2;go_loopw [7,12] (λv q wr=>∃(k j:Nat)(ks:List (tZ)),k<=cnt/\ks.length=k/\q=qJ k/\Rd wr b s j n/\Kept (only b) w wr/\isRow 87 4 tZ.cells (λg=>w.heap.size<=g) ks wr v/\eB most tM s n i=eT tM s n (cnt - k) ks j) (λ_ q _=>cnt - (intOf q).toNat)
 case atStart=>exact⟨0,m,[],qZ,rfl,rfl,hrd,hk1,Row.nil _ _ _ _,r.o⟩
 obtain⟨k,j,ks,X,hl,rfl,hrd,hkp,hrow,t⟩:=hrel;have HE:=qH t;clear t r;by_cases Q:k<cnt
 .have hlt':(k:Int)<(cnt:Int):=qo;go_wp2_with fail
  refine(H.o _ _ hrd).mono ?_;rintro e y⟨f,a,iC⟩;have hk3:=hkp.trans f;have z:Row (λg=>w.heap.size<=g) y 87 4 u7 ks.length (ks.flatMap tZ.cells):=hrow.kept f (λg _ d (e:g=b)=>by have:=h.lt;omega);clear hrow f hkp;rcases ho:tM s n j with⟨q,p⟩|⟨x,j2⟩
  .exact IJ
  obtain⟨u,rfl,hv,J⟩:=a _ _ ho;obtain rfl:u=.agg #[qJ x.at_,qI x.least,qI x.most,.bool x.has]:=hv;have HH:qh (eB most tM s n i=eT tM s n (cnt - (k+1)) (ks++[x]) j2):=HE.o.trans (jZ qo ho);clear a iC ho hrd;have A:=((z.nK (λg d=>d)).alloc (.cells #[qJ x.at_,qI x.least,qI x.most,.bool x.has] 87)).alloc (.cells #[qJ x.at_,qI x.least,qI x.most,.bool x.has] 87);have HW:=qH A;have R:=hk3.size;clear A z;go_wp2_with (at_builtin;refine qbv _ rfl _ _ 67 rfl w.heap.size 87 C (.agg #[qJ 0,qI 0,qI 0,.bool false]) 4 24 underlying67 D E F G rfl qx _ _ _ rfl HW.o ⟨y.heap.size+1,0,none⟩ 1 1 [qJ x.at_,qI x.least,qI x.most,.bool x.has] rfl rfl ?c1 ?c2 ?c3 ?c4 ?c5 ?_)
  case c1=>exact cells_at qs rfl
  case c2=>intro u B;simp at B;obtain rfl | rfl | rfl | rfl:=B<;>rfl
  case c3=>unfold maxLen;omega
  case c4=>omega
  case c5=>simp;omega
  intro L M hown' hgrow _;have hk4:=iD ((hk3.alloc _).alloc _) HW.o qR hgrow;have zA:=jk ((J.alloc _).alloc _) HW.o h.lt hgrow;have hrow3:isRow 87 4 tZ.cells (λg=>w.heap.size<=g) (ks++[x]) M L:=by
   have:=Row.mI (ok:=λg=>w.heap.size<=g) hown' (λg d _=>d);simpa [isRow,tZ.cells,hl] using this
  exact OV
 exact RY
theorem Tryz.Vl:(prog.info? 84).map (λi=>(i.zero,i.size,i.bytes))=some (some (.agg #[qB 0,.bool false,qJ 0,qB 0,qJ 0]),5,32):=qk
theorem A9{w:qW}{b:Nat}{s:qS}{i n:Nat}(most K:Nat)(tM:qS->Nat->Nat->Except Err ((Cn)×Nat))(h:Rd w b s i n)(hm:most<=50)(hc:Enters K)
  (l:∀c j,Rd c b s j n->qC K #[qP b] c (Out c b s n Uu (tM s n j))):
  qC 175 #[qP b,qJ most,.func (.func K) #[] #[]] w (Out w b s n (isRow 84 5 Cn.cells (λg=>w.heap.size<=g)) (eB most tM s n i)):=by
 obtain⟨C,D,E,F,G⟩:=qap Tryz.Vl;have N:∀(args:Array qv)(w:qW),(callFunc K args).run prog w=.ok (.enter K args) w:=hc;have H:=qH l;clear l;go_enter func175,ntmps175;go_wp2_with fail
 refine(count_any most h qo).mono ?_;rintro e c⟨hk1,a,iC⟩;rcases ho:fD most s n i with⟨q,p⟩|I
 .exact IG
 obtain⟨cnt,m⟩:=I;obtain⟨u,rfl,hv,hrd⟩:=a _ _ ho;obtain rfl:u=qJ cnt:=hv;have O:=(fA ho).1;have r:qh (eB most tM s n i=eT tM s n cnt [] m):=by show _=_;simp[eB,ho]
 clear a iC ho;go_wp2;go_loopw [7,12] (λv q wr=>∃(k j:Nat)(ks:List (Cn)),k<=cnt/\ks.length=k/\q=qJ k/\Rd wr b s j n/\Kept (only b) w wr/\isRow 84 5 Cn.cells (λg=>w.heap.size<=g) ks wr v/\eB most tM s n i=eT tM s n (cnt - k) ks j) (λ_ q _=>cnt - (intOf q).toNat)
 case atStart=>exact⟨0,m,[],qZ,rfl,rfl,hrd,hk1,Row.nil _ _ _ _,r.o⟩
 obtain⟨k,j,ks,X,hl,rfl,hrd,hkp,hrow,t⟩:=hrel;have HE:=qH t;clear t r;by_cases Q:k<cnt
 .have hlt':(k:Int)<(cnt:Int):=qo;go_wp2_with fail
  refine(H.o _ _ hrd).mono ?_;rintro e y⟨f,a,iC⟩;have hk3:=hkp.trans f;have z:Row (λg=>w.heap.size<=g) y 84 5 u7 ks.length (ks.flatMap Cn.cells):=hrow.kept f (λg _ d (e:g=b)=>by have:=h.lt;omega);clear hrow f hkp;rcases ho:tM s n j with⟨q,p⟩|⟨x,j2⟩
  .exact IJ
  obtain⟨u,rfl,hv,J⟩:=a _ _ ho;obtain rfl:u=.agg #[qB x.kind,.bool x.sO,qJ x.first.at_,qB x.first.kind,qJ x.first.val]:=hv;have HH:qh (eB most tM s n i=eT tM s n (cnt - (k+1)) (ks++[x]) j2):=HE.o.trans (jZ qo ho);clear a iC ho hrd;have A:=((z.nK (λg d=>d)).alloc (.cells #[qB x.kind,.bool x.sO,qJ x.first.at_,qB x.first.kind,qJ x.first.val] 84)).alloc (.cells #[qB x.kind,.bool x.sO,qJ x.first.at_,qB x.first.kind,qJ x.first.val] 84);have HW:=qH A;have R:=hk3.size;clear A z;go_wp2_with (at_builtin;refine qbv _ rfl _ _ 68 rfl w.heap.size 84 C (.agg #[qB 0,.bool false,qJ 0,qB 0,qJ 0]) 5 32 underlying68 D E F G rfl qx _ _ _ rfl HW.o ⟨y.heap.size+1,0,none⟩ 1 1 [qB x.kind,.bool x.sO,qJ x.first.at_,qB x.first.kind,qJ x.first.val] rfl rfl ?c1 ?c2 ?c3 ?c4 ?c5 ?_)
  case c1=>exact cells_at qs rfl
  case c2=>intro u B;simp at B;obtain rfl | rfl | rfl | rfl | rfl:=B<;>rfl
  case c3=>unfold maxLen;omega
  case c4=>omega
  case c5=>simp;omega
  intro L M hown' hgrow _;have hk4:=iD ((hk3.alloc _).alloc _) HW.o qR hgrow;have zA:=jk ((J.alloc _).alloc _) HW.o h.lt hgrow;have hrow3:isRow 84 5 Cn.cells (λg=>w.heap.size<=g) (ks++[x]) M L:=by
   have:=Row.mI (ok:=λg=>w.heap.size<=g) hown' (λg d _=>d);simpa [isRow,Cn.cells,hl] using this
  exact OV
 exact RY
theorem Tryz.Tz:(prog.info? 120).map (λi=>(i.zero,i.size,i.bytes))=some (some (.agg #[qJ 0,.string {data:= #[]},qB 0,qI 0,qJ 0]),5,48):=qk
theorem Ba{w:qW}{b:Nat}{s:qS}{i n:Nat}(most K:Nat)(tM:qS->Nat->Nat->Except Err ((CB)×Nat))(h:Rd w b s i n)(hm:most<=50)(hc:Enters K)
  (l:∀c j,Rd c b s j n->qC K #[qP b] c (Out c b s n Uw (tM s n j))):
  qC 177 #[qP b,qJ most,.func (.func K) #[] #[]] w (Out w b s n (isRow 120 5 CB.cells (λg=>w.heap.size<=g)) (eB most tM s n i)):=by
 obtain⟨C,D,E,F,G⟩:=qap Tryz.Tz;have N:∀(args:Array qv)(w:qW),(callFunc K args).run prog w=.ok (.enter K args) w:=hc;have H:=qH l;clear l;go_enter func177,ntmps177;go_wp2_with fail
 refine(count_any most h qo).mono ?_;rintro e c⟨hk1,a,iC⟩;rcases ho:fD most s n i with⟨q,p⟩|I
 .exact IG
 obtain⟨cnt,m⟩:=I;obtain⟨u,rfl,hv,hrd⟩:=a _ _ ho;obtain rfl:u=qJ cnt:=hv;have O:=(fA ho).1;have r:qh (eB most tM s n i=eT tM s n cnt [] m):=by show _=_;simp[eB,ho]
 clear a iC ho;go_wp2;go_loopw [7,12] (λv q wr=>∃(k j:Nat)(ks:List (CB)),k<=cnt/\ks.length=k/\q=qJ k/\Rd wr b s j n/\Kept (only b) w wr/\isRow 120 5 CB.cells (λg=>w.heap.size<=g) ks wr v/\eB most tM s n i=eT tM s n (cnt - k) ks j) (λ_ q _=>cnt - (intOf q).toNat)
 case atStart=>exact⟨0,m,[],qZ,rfl,rfl,hrd,hk1,Row.nil _ _ _ _,r.o⟩
 obtain⟨k,j,ks,X,hl,rfl,hrd,hkp,hrow,t⟩:=hrel;have HE:=qH t;clear t r;by_cases Q:k<cnt
 .have hlt':(k:Int)<(cnt:Int):=qo;go_wp2_with fail
  refine(H.o _ _ hrd).mono ?_;rintro e y⟨f,a,iC⟩;have hk3:=hkp.trans f;have z:Row (λg=>w.heap.size<=g) y 120 5 u7 ks.length (ks.flatMap CB.cells):=hrow.kept f (λg _ d (e:g=b)=>by have:=h.lt;omega);clear hrow f hkp;rcases ho:tM s n j with⟨q,p⟩|⟨x,j2⟩
  .exact IJ
  obtain⟨u,rfl,hv,J⟩:=a _ _ ho;obtain rfl:u=.agg #[qJ x.nameAt,.string x.name,qB x.AX,qI x.idx.1,qJ x.idx.2]:=hv;have HH:qh (eB most tM s n i=eT tM s n (cnt - (k+1)) (ks++[x]) j2):=HE.o.trans (jZ qo ho);clear a iC ho hrd;have A:=((z.nK (λg d=>d)).alloc (.cells #[qJ x.nameAt,.string x.name,qB x.AX,qI x.idx.1,qJ x.idx.2] 120)).alloc (.cells #[qJ x.nameAt,.string x.name,qB x.AX,qI x.idx.1,qJ x.idx.2] 120);have HW:=qH A;have R:=hk3.size;clear A z;go_wp2_with (at_builtin;refine qbv _ rfl _ _ 69 rfl w.heap.size 120 C (.agg #[qJ 0,.string {data:= #[]},qB 0,qI 0,qJ 0]) 5 48 underlying69 D E F G rfl qx _ _ _ rfl HW.o ⟨y.heap.size+1,0,none⟩ 1 1 [qJ x.nameAt,.string x.name,qB x.AX,qI x.idx.1,qJ x.idx.2] rfl rfl ?c1 ?c2 ?c3 ?c4 ?c5 ?_)
  case c1=>exact cells_at qs rfl
  case c2=>intro u B;simp at B;obtain rfl | rfl | rfl | rfl | rfl:=B<;>rfl
  case c3=>unfold maxLen;omega
  case c4=>omega
  case c5=>simp;omega
  intro L M hown' hgrow _;have hk4:=iD ((hk3.alloc _).alloc _) HW.o qR hgrow;have zA:=jk ((J.alloc _).alloc _) HW.o h.lt hgrow;have hrow3:isRow 120 5 CB.cells (λg=>w.heap.size<=g) (ks++[x]) M L:=by
   have:=Row.mI (ok:=λg=>w.heap.size<=g) hown' (λg d _=>d);simpa [isRow,CB.cells,hl] using this
  exact OV
 exact RY
theorem Tryz.Tt:(prog.info? 135).map (λi=>(i.zero,i.size,i.bytes))=some (some (.agg #[qJ 0,qJ 0,qB 0,qJ 0,.string {data:= #[]}]),5,48):=qk
theorem EP{w:qW}{b:Nat}{s:qS}{i n:Nat}(most K:Nat)(tM:qS->Nat->Nat->Except Err ((Dat)×Nat))(h:Rd w b s i n)(hm:most<=50)(hc:Enters K)
  (l:∀c j,Rd c b s j n->qC K #[qP b] c (Out c b s n Uy (tM s n j))):
  qC 182 #[qP b,qJ most,.func (.func K) #[] #[]] w (Out w b s n (isRow 135 5 Dat.cells (λg=>w.heap.size<=g)) (eB most tM s n i)):=by
 obtain⟨C,D,E,F,G⟩:=qap Tryz.Tt;have N:∀(args:Array qv)(w:qW),(callFunc K args).run prog w=.ok (.enter K args) w:=hc;have H:=qH l;clear l;go_enter func182,ntmps182;go_wp2_with fail
 refine(count_any most h qo).mono ?_;rintro e c⟨hk1,a,iC⟩;rcases ho:fD most s n i with⟨q,p⟩|I
 .exact IG
 obtain⟨cnt,m⟩:=I;obtain⟨u,rfl,hv,hrd⟩:=a _ _ ho;obtain rfl:u=qJ cnt:=hv;have O:=(fA ho).1;have r:qh (eB most tM s n i=eT tM s n cnt [] m):=by show _=_;simp[eB,ho]
 clear a iC ho;go_wp2;go_loopw [7,12] (λv q wr=>∃(k j:Nat)(ks:List (Dat)),k<=cnt/\ks.length=k/\q=qJ k/\Rd wr b s j n/\Kept (only b) w wr/\isRow 135 5 Dat.cells (λg=>w.heap.size<=g) ks wr v/\eB most tM s n i=eT tM s n (cnt - k) ks j) (λ_ q _=>cnt - (intOf q).toNat)
 case atStart=>exact⟨0,m,[],qZ,rfl,rfl,hrd,hk1,Row.nil _ _ _ _,r.o⟩
 obtain⟨k,j,ks,X,hl,rfl,hrd,hkp,hrow,t⟩:=hrel;have HE:=qH t;clear t r;by_cases Q:k<cnt
 .have hlt':(k:Int)<(cnt:Int):=qo;go_wp2_with fail
  refine(H.o _ _ hrd).mono ?_;rintro e y⟨f,a,iC⟩;have hk3:=hkp.trans f;have z:Row (λg=>w.heap.size<=g) y 135 5 u7 ks.length (ks.flatMap Dat.cells):=hrow.kept f (λg _ d (e:g=b)=>by have:=h.lt;omega);clear hrow f hkp;rcases ho:tM s n j with⟨q,p⟩|⟨x,j2⟩
  .exact IJ
  obtain⟨u,rfl,hv,J⟩:=a _ _ ho;obtain rfl:u=.agg #[qJ x.at_,qJ x.place.at_,qB x.place.kind,qJ x.place.val,.string x.bytes]:=hv;have HH:qh (eB most tM s n i=eT tM s n (cnt - (k+1)) (ks++[x]) j2):=HE.o.trans (jZ qo ho);clear a iC ho hrd;have A:=((z.nK (λg d=>d)).alloc (.cells #[qJ x.at_,qJ x.place.at_,qB x.place.kind,qJ x.place.val,.string x.bytes] 135)).alloc (.cells #[qJ x.at_,qJ x.place.at_,qB x.place.kind,qJ x.place.val,.string x.bytes] 135);have HW:=qH A;have R:=hk3.size;clear A z;go_wp2_with (at_builtin;refine qbv _ rfl _ _ 72 rfl w.heap.size 135 C (.agg #[qJ 0,qJ 0,qB 0,qJ 0,.string {data:= #[]}]) 5 48 underlying72 D E F G rfl qx _ _ _ rfl HW.o ⟨y.heap.size+1,0,none⟩ 1 1 [qJ x.at_,qJ x.place.at_,qB x.place.kind,qJ x.place.val,.string x.bytes] rfl rfl ?c1 ?c2 ?c3 ?c4 ?c5 ?_)
  case c1=>exact cells_at qs rfl
  case c2=>intro u B;simp at B;obtain rfl | rfl | rfl | rfl | rfl:=B<;>rfl
  case c3=>unfold maxLen;omega
  case c4=>omega
  case c5=>simp;omega
  intro L M hown' hgrow _;have hk4:=iD ((hk3.alloc _).alloc _) HW.o qR hgrow;have zA:=jk ((J.alloc _).alloc _) HW.o h.lt hgrow;have hrow3:isRow 135 5 Dat.cells (λg=>w.heap.size<=g) (ks++[x]) M L:=by
   have:=Row.mI (ok:=λg=>w.heap.size<=g) hown' (λg d _=>d);simpa [isRow,Dat.cells,hl] using this
  exact OV
 exact RY
section
variable {ok:qD}{w w':qW}{E:TypeId}{size:Nat}{v:qv}{n:Nat}{xs:qV}
theorem Row.other(h:Row ok w E size v n xs){g o:Nat}(a:∀k,ok k->k≠g)(u:qv):Row ok (w.setCell (qA g o) u) E size v n xs:=
 h.kept (S:=only g) (qr.own u) (λk _ X e=>a k X e)
theorem Row.call{b:Nat}(h:Row ok w E size v n xs)(X:Kept (only b) w w')(hb:∀k,ok k->k≠b):Row ok w' E size v n xs:=
 h.kept X (λk _ X e=>hb k X e)
theorem Row.shape(h:Row ok w E size v n xs):∃p c,v=.slice p n c:=by
 obtain⟨hv,a⟩ | ⟨g,A,b,hv,_⟩:=h.own.2
 .exact⟨none,0,by rw[hv,a]⟩
 exact⟨_,A,hv⟩
theorem Row.alloc(h:Row ok w E size v n xs)(o:Obj):Row ok (w.alloc o) E size v n xs:=
 h.kept (S:=λ_=>False) (qr.alloc o) (λ_ _ _ x=>x)
end
def We(ok:Nat->Prop)(t:Ty)(w:World)(v:Value):Prop:=∃vi vo,v=.agg #[vi,vo]/\dH ok t.ins w vi/\dH ok t.outs w vo
def Ux(ok:Nat->Prop)(x:Cm)(w:World)(v:Value):Prop:=
 ∃vl,v=.agg #[qJ x.at_,qJ x.place.at_,qB x.place.kind,qJ x.place.val,vl]/\isRow 93 2 numCells ok x.funcs w vl
theorem qQ{p:Prop}(h:p:=by(refine Or.inl ⟨by rfl,?_⟩;intro _ d;obtain⟨_,_⟩:=d;go_simp;try with_reducible rfl)):p:=h
theorem qY{p:Prop}(h:p:=by(refine Or.inl ⟨by rfl,?_⟩;intro _ d;obtain⟨_,_,_⟩:=d;go_simp;try with_reducible rfl)):p:=h
theorem qu{p:Prop}(h:p:=by(refine Or.inl ⟨by rfl,?_⟩;intro _ _;go_simp;try with_reducible rfl)):p:=h
abbrev It:=(Nat×List Value) ⊕ (TypeId×Nat×Value×Nat×List Value) ⊕ (Nat×Obj)
abbrev It.b(g:Nat)(cs:List Value):It:=Sum.inl (g,cs)
abbrev It.r(E:TypeId)(sz:Nat)(v:Value)(n:Nat)(xs:List Value):It:=Sum.inr (Sum.inl (E,sz,v,n,xs))
abbrev It.o(g:Nat)(o:Obj):It:=Sum.inr (Sum.inr (g,o))
def It.own:It->Option Nat
 | Sum.inl (g,_)=>some g
 | Sum.inr (Sum.inl (_,_,v,_,_))=>v.ownBlock
 | Sum.inr (Sum.inr (g,_))=>some g
def It.at_(B:Nat)(w:World):It->Prop
 | Sum.inl (g,cs)=>B<=g/\g<w.heap.size/\jf w g cs
 | Sum.inr (Sum.inl (E,sz,v,n,xs))=>w.ownsRow B E sz v n xs
 | Sum.inr (Sum.inr (g,o))=>B<=g/\w.heap[g]?=some o
theorem It.at_.lt{B:Nat}{w:qW}:∀{p:It}{g:Nat},p.at_ B w->p.own=some g->B<=g/\g<w.heap.size
 | Sum.inl (g,cs),g',h,e=>by cases e;exact⟨h.1,h.2.1⟩
 | Sum.inr (Sum.inl (E,sz,v,n,xs)),g',h,e=>World.ownsRow.lt h g' e
 | Sum.inr (Sum.inr (g,o)),g',h,e=>by cases e;exact⟨h.1,(qah.1 h.2).1⟩
theorem It.at_.kept{B:Nat}{S:qD}{w w':qW}(X:Kept S w w'):∀{p:It},p.at_ B w->(∀g,p.own=some g->¬S g)->p.at_ B w'
 | Sum.inl (g,cs),h,e=>⟨h.1,qad h.2.1 X.size,h.2.2.kept X h.2.1 (e g rfl)⟩
 | Sum.inr (Sum.inl (E,sz,v,n,xs)),h,e=>by
  have hl:=λg=>It.at_.lt (p:=It.r E sz v n xs) (g:=g) h;refine⟨h.1,h.2.imp id ?_⟩;rintro⟨g,A,a,hv,U,b,c⟩;have:=hl g (by simp[It.own,hv,Value.ownBlock]);exact⟨g,A,a,hv,U,(X.block g this.2 (e g (by simp[It.own,hv,Value.ownBlock]))).trans b,c⟩
 | Sum.inr (Sum.inr (g,o)),h,e=>⟨h.1,(X.block g (qah.1 h.2).1 (e g rfl)).trans h.2⟩
structure Sx(w0 w:World)(l:List It):Prop where
 kept:qK w0 w
 it:∀p∈l,p.at_ w0.heap.size w
 nd:l.Pairwise (λp q=>∀g,p.own=some g->¬q.own=some g)
section
variable {w0 w w':qW}{l:List It}{g:Nat}{cs:qV}{p p2:It}
theorem Sx.start(w:qW):Sx w w []:=⟨Kept.refl _ _,qs,List.Pairwise.nil⟩
theorem Sx.ne(h:Sx w0 w l){a b:Nat}(i:l[a]?=some p)(hb:l[b]?=some p2)(j:a≠b)(hp:p.own=some g):¬p2.own=some g:=by
 obtain⟨d,rfl⟩:=qae.1 i;obtain⟨f,rfl⟩:=qae.1 hb;have U:=List.pairwise_iff_getElem.1 h.nd;obtain c | c:=Nat.lt_or_gt_of_ne j
 .exact U a b d f c g hp
 exact λe=>U b a f d c g e hp
theorem Sx.to(h:Sx w0 w l)(X:qK w w'):Sx w0 w' l:=⟨h.kept.trans X,λp hp=>(h.it p hp).kept X (λ_ _ c=>c),h.nd⟩
theorem Sx.alloc(h:Sx w0 w l)(o:Obj):Sx w0 (w.alloc o) l:=h.to (qr.alloc o)
theorem Sx.drew(h:Sx w0 w l):Sx w0 w.drew l:=h.to qr.drew
theorem Sx.drewN(h:Sx w0 w l)(k:Nat):Sx w0 (w.drewN k) l:=h.to (qr.drewN k)
theorem Sx.upd{S:qD}{k:Nat}(h:Sx w0 w l)(hp:l[k]?=some p)(X:Kept S w w')(m:∀g,S g->p.own=some g)(s:p2.at_ w0.heap.size w')(ho:∀g,p2.own=some g->p.own=some g\/w.heap.size<=g):Sx w0 w' (l.set k p2):=by
 have t:=qai hp;obtain⟨v,x⟩:=qae.1 hp;have o:∀n q,l[n]?=some q->n≠k->∀g,q.own=some g->¬p2.own=some g:=λn q d b g a e=>by
  obtain c | c:=ho g e
  .exact h.ne hp d (λe=>b e.symm) c a
  have:=((h.it q (qai d)).lt a).2;omega
 refine⟨h.kept.fresh X (λi hi c=>?_),λq d=>?_,?_⟩
 .have:=((h.it p t).lt (m i c)).1;omega
 .obtain⟨n,b⟩:=qbx.1 d;rw[List.getElem?_set]at b;split at b
  .cases b;exact s
  rename_i e;exact(h.it q (qai b)).kept X (λg a c=>h.ne b hp (λr=>e r.symm) a (m g c))
 rw[List.pairwise_iff_getElem];intro i j hi f u g a;have U:=List.pairwise_iff_getElem.1 h.nd;simp only[List.length_set]at hi f;rw[List.getElem_set]at a ⊢;split at a
 .rename_i e;rw[qaa qo];exact λc=>o j _ (qab f) qo g c a
 split
 .rename_i e1 r;exact o i _ (qab hi) qo g a
 exact U i j hi f u g a
theorem Sx.c(h:Sx w0 w l)(k j:Nat){v:qv}(X:l[k]?=some (.b g cs):=by rfl)(hj:cs[j]?=some v:=by rfl):w.cell? (qA g j)=some v/\w.frozen? (qA g j)=false:=by
 have U:=(h.it _ (qai X)).2.2 j (qae.1 hj).1;simp only[qag,hj,qdl]at U;exact U
theorem Sx.lt(h:Sx w0 w l)(k:Nat)(X:l[k]?=some (.b g cs):=by rfl):g<w.heap.size:=(h.it _ (qai X)).2.1
theorem Sx.ge(h:Sx w0 w l)(k:Nat)(X:l[k]?=some (.b g cs):=by rfl):w0.heap.size<=g:=(h.it _ (qai X)).1
theorem Sx.set(h:Sx w0 w l)(k j:Nat)(v:qv)(X:l[k]?=some (.b g cs):=by rfl):Sx w0 (w.setCell (qA g j) v) (l.set k (.b g (cs.set j v))):=by
 have U:=h.it _ (qai X);exact h.upd (S:=λi=>i=g) X ((Kept.refl (λi=>i=g) w).setCell (p:=(qA g j)) (λ_=>rfl) v) (λi e=>by rw[e];rfl) ⟨U.1,by simpa using U.2.1,U.2.2.set j v⟩ (λi e=>.inl e)
theorem Sx.row(h:Sx w0 w l)(k:Nat){E:TypeId}{sz n:Nat}{v:qv}{xs:qV}(X:l[k]?=some (.r E sz v n xs):=by rfl):w.ownsRow w0.heap.size E sz v n xs:=h.it _ (qai X)
theorem Sx.app(h:Sx w0 w l)(k:Nat){E:TypeId}{sz n n' A gg:Nat}{v:qv}{xs ys:qV}(ho:w'.ownsRow w0.heap.size E sz (qL gg n' A) n' ys)(hg:w.grownBy w' v.ownBlock)(hat:v.ownBlock=some gg\/w.heap.size<=gg)(X:l[k]?=some (.r E sz v n xs):=by rfl):
  Sx w0 w' (l.set k (.r E sz (qL gg n' A) n' ys)):=
 h.upd (S:=λi=>v.ownBlock=some i) X (Kept.gH hg) (λi e=>e) ho (λi e=>by
  simp only[It.own,Value.ownBlock,Option.some.injEq]at e;subst e;exact hat)
theorem Sx.add(h:Sx w0 w l)(X:qK w w')(hp:p.at_ w0.heap.size w')(ho:∀g,p.own=some g->w.heap.size<=g):Sx w0 w' (l++[p]):=by
 have U:=h.to X;refine⟨U.kept,λq d=>?_,?_⟩
 .obtain c | c:=qar.1 d
  .exact U.it q c
  cases qak.1 c;exact hp
 rw[qdj];refine⟨h.nd,qs,λa f b hb g i e=>?_⟩;cases qak.1 hb;have:=((h.it a f).lt i).2;have:=ho g e;omega
theorem Sx.new(h:Sx w0 w l)(c:Array qv)(t:TypeId):Sx w0 (w.alloc (.cells c t)) (l++[.b w.heap.size c.toList]):=
 h.add (qr.alloc _) ⟨h.kept.size,qs,jf.new w c t⟩ (λg e=>by cases e;exact qR)
theorem Sx.nil(h:Sx w0 w l)(E:TypeId)(sz:Nat):Sx w0 w (l++[.r E sz (qN) 0 []]):=
 h.add qr (qdg _ _ _ _) (λg e=>by cases e)
theorem Sx.sub(h:Sx w0 w l){l':List It}(a:List.Sublist l' l):Sx w0 w l':=⟨h.kept,λp hp=>h.it p (a.mem hp),h.nd.sublist a⟩
theorem Sx.left(h:Sx w0 w (l++[p])):Sx w0 w l:=h.sub (qbj _ _)
theorem Sx.rm(h:Sx w0 w l)(k:Nat):Sx w0 w (l.eraseIdx k):=h.sub (List.eraseIdx_sublist _ _)
end
def jl(tl:List It)(E:TypeId)(sz:Nat)(v:Value)(n:Nat)(xs:List Value):Prop:=(v=qN/\n=0/\xs=[])\/It.r E sz v n xs∈tl\/∃g o,v.ownBlock=some g/\It.o g o∈tl/\∀w:World,w.heap[g]?=some o->w.ownsRow 0 E sz v n xs
theorem Sx.isRow{w0 w:qW}{l:List It}(h:Sx w0 w l)(k:Nat){E:TypeId}{sz n:Nat}{v:qv}{xs:qV}(X:l[k]?=some (.r E sz v n xs):=by rfl):Row (λg=>w0.heap.size<=g) w E sz v n xs:=by
 have U:=h.row k X;refine⟨⟨U.1,?_⟩,λg hg=>(U.lt g hg).1⟩;obtain hn | ⟨g,A,cur,rfl,_,rest⟩:=U.2
 .exact .inl hn
 exact .inr ⟨g,A,cur,rfl,qZ,rest⟩
theorem jl.row{w0 w:qW}{l tl:List It}{E:TypeId}{sz n:Nat}{v:qv}{xs:qV}(h:jl tl E sz v n xs)(a:Sx w0 w l)(b:∀p∈tl,p∈l):Row (λg=>w0.heap.size<=g) w E sz v n xs:=by
 obtain⟨rfl,rfl,rfl⟩ | h | ⟨g,o,U,e,f⟩:=h
 .exact Row.nil _ _ _ _
 .obtain⟨k,X⟩:=qbx.1 (b _ h);exact a.isRow k X
 have c:=a.it _ (b _ e);refine⟨f w c.2,λi d=>?_⟩;rw[U]at d;cases d;exact c.1
theorem jl.mono{l tl:List It}{E:TypeId}{sz n:Nat}{v:qv}{xs:qV}(h:jl tl E sz v n xs)(a:∀p∈tl,p∈l):jl l E sz v n xs:=
 h.imp id (λh=>h.imp (a _) (λ⟨g,o,U,b,c⟩=>⟨g,o,U,a _ b,c⟩))
theorem Sx.olds{w0 c:qW}(h:qK w0 c):∃Xq,Sx w0 c Xq/\∀g o,w0.heap.size<=g->c.heap[g]?=some o->It.o g o∈Xq:=by
 refine⟨(List.range c.heap.size).filterMap λg=>if w0.heap.size<=g then c.heap[g]?.map (It.o g) else none,⟨h,λp hp=>?_,?_⟩,λg o d ho=>?_⟩
 .obtain⟨g,-,d⟩:=qdc.1 hp;split at d
  .rename_i hl;obtain⟨o,ho,rfl⟩:=qbd.1 d;exact⟨hl,ho⟩
  cases d
 .rw[List.pairwise_filterMap];refine List.Pairwise.imp ?_ List.pairwise_lt_range;intro a b e p hp q hq g U L;split at hp
  .obtain⟨o,ho,rfl⟩:=qbd.1 hp;split at hq
   .exact UI
   cases hq
  cases hp
 refine qdc.2 ⟨g,List.mem_range.2 (qah.1 ho).1,?_⟩;rw[qac d,ho];rfl
theorem jl.old{w0 a:qW}{Xq:List It}{ok:qD}{E:TypeId}{sz n:Nat}{v:qv}{xs:qV}(h:Row ok a E sz v n xs)(b:∀g,ok g->w0.heap.size<=g)(c:∀g o,w0.heap.size<=g->a.heap[g]?=some o->It.o g o∈Xq):jl Xq E sz v n xs:=by
 obtain⟨⟨hl,U⟩,d⟩:=h;obtain⟨rfl,rfl⟩ | ⟨g,A,e,rfl,-,f,i⟩:=U
 .exact .inl ⟨rfl,rfl,qao (by simpa using hl)⟩
 exact .inr (.inr ⟨g,_,rfl,c g _ (b g (d g rfl)) f,λw hw=>⟨hl,.inr ⟨g,A,e,rfl,qZ,hw,i⟩⟩⟩)
theorem Sx.join{w0 i j:qW}{l l2:List It}(h:Sx w0 i l)(d:Sx i j l2):Sx w0 j (l++l2):=by
 have U:=h.to d.kept;have f:=h.kept.size;refine⟨U.kept,λp hp=>?_,?_⟩
 .obtain c | c:=qar.1 hp
  .exact U.it p c
  have:=d.it p c;obtain⟨g,cs⟩ | ⟨E,sz,v,n,xs⟩ | ⟨g,o⟩:=p
  .exact⟨qam f this.1,this.2⟩
  .refine⟨this.1,this.2.imp id ?_⟩;rintro⟨g,A,k,m,q,r⟩;exact⟨g,A,k,m,qam f q,r⟩
  exact⟨qam f this.1,this.2⟩
 rw[qdj];refine⟨h.nd,d.nd,λa s b hb g t e=>?_⟩;have:=((h.it a s).lt t).2;have:=((d.it b hb).lt e).1;omega
def YJ(w0:World)(v:Value)(l:List It)(e:Ending)(w':World):Prop:=e=.returned v/\Sx w0 w' l
def Each{α β:Type}(P:α->β->Prop):List α->List β->Prop
 | [],[]=>True
 | x::xs,y::ys=>P x y/\Each P xs ys
 | [],_::_=>False
 | _::_,[]=>False
theorem Each.snoc{a b:Type}{P:a->b->Prop}:∀{xs:List a}{ys:List b}{x:a}{y:b},Each P xs ys->P x y->Each P (xs++[x]) (ys++[y])
 | [],[],_,_,_,h=>⟨h,trivial⟩
 | _::xs,_::ys,_,_,h,hp=>⟨h.1,Each.snoc (xs:=xs) (ys:=ys) h.2 hp⟩
 | [],_::_,_,_,h,_=>h.elim
 | _::_,[],_,_,h,_=>h.elim
theorem Each.to{a b:Type}{P Q:a->b->Prop}(c:∀x y,P x y->Q x y):∀{xs:List a}{ys:List b},Each P xs ys->Each Q xs ys
 | [],[],_=>trivial
 | _::xs,_::ys,h=>⟨c _ _ h.1,Each.to c (xs:=xs) (ys:=ys) h.2⟩
 | [],_::_,h=>h.elim
 | _::_,[],h=>h.elim
theorem Each.len{a b:Type}{P:a->b->Prop}:∀{xs:List a}{ys:List b},Each P xs ys->xs.length=ys.length
 | [],[],_=>rfl
 | _::xs,_::ys,h=>by simp[Each.len (xs:=xs) (ys:=ys) h.2]
 | [],_::_,h=>h.elim
 | _::_,[],h=>h.elim
theorem Each.get{c d:Type}{P:c->d->Prop}:∀{xs:List c}{ys:List d}{i:Nat}{x:c},Each P xs ys->xs[i]?=some x->∃y,ys[i]?=some y/\P x y
 | [],[],_,_,_,h=>by simp at h
 | a::xs,b::ys,0,x,h,hx=>by simp at hx;subst hx;exact⟨b,rfl,h.1⟩
 | _::xs,_::ys,i+1,x,h,hx=>by
  have:=Each.get (xs:=xs) (ys:=ys) (i:=i) (x:=x) h.2 (by simpa using hx);simpa using this
 | [],_::_,_,_,h,_=>h.elim
 | _::_,[],_,_,h,_=>h.elim
theorem Row.grown{ok:qD}{w w':qW}{E a:TypeId}{j d:Nat}{v f:qv}{n n':Nat}{xs i:qV}{B:Nat}
  (h:Row ok w a d f n' i) (ho:w.ownsRow B E j v n xs) (k:a≠E) (l:w.grownBy w' v.ownBlock):Row ok w' a d f n' i:=by
 refine⟨⟨h.own.1,?_⟩,h.at_⟩;obtain m | ⟨g,A,o,rfl,hb,b,p⟩:=h.own.2
 .exact .inl m
 refine .inr ⟨g,A,o,rfl,hb,?_,p⟩;have q:g<w.heap.size:=(qah.1 b).1;rw[l.block g q ?_]
 .exact b
 intro e;obtain⟨rfl,_⟩ | ⟨r,s,t,rfl,_,c,_⟩:=ho.2
 .simp[Value.ownBlock]at e
 simp[Value.ownBlock]at e;subst e;rw[b]at c;simp at c;exact k c.2
def gI{α:Type}(E:TypeId)(size:Nat)(El:(Nat->Prop)->α->World->List Value->Prop)(ok:Nat->Prop)(xs:List α)(w:World)(v:Value):Prop:=
 ∃css:List (List Value),Row ok w E size v xs.length css.flatten/\Each (λx cs=>El ok x w cs/\cs.length=size) xs css
def nZ(ok:Nat->Prop)(t:Ty)(w:World)(cs:List Value):Prop:=∃vi vo,cs=[vi,vo]/\dH ok t.ins w vi/\dH ok t.outs w vo
def kS(ok:Nat->Prop)(x:Cm)(w:World)(cs:List Value):Prop:=
 ∃vl,cs=[qJ x.at_,qJ x.place.at_,qB x.place.kind,qJ x.place.val,vl]/\isRow 93 2 numCells ok x.funcs w vl
theorem nZ.kept{S ok:qD}{w w':qW}{t:Ty}{cs:qV}(h:nZ ok t w cs)(X:Kept S w w')(b:∀g,g<w.heap.size->ok g->¬S g):nZ ok t w' cs:=by
 obtain⟨d,f,e,a,c⟩:=h;exact⟨d,f,e,Row.kept a X b,Row.kept c X b⟩
theorem nZ.grown{ok:qD}{w w':qW}{t:Ty}{cs:qV}{d n B:Nat}{v:qv}{xs:qV}(h:nZ ok t w cs)(ho:w.ownsRow B 100 d v n xs)(b:w.grownBy w' v.ownBlock):nZ ok t w' cs:=by
 obtain⟨f,g,e,a,c⟩:=h;exact⟨f,g,e,Row.grown a ho qx b,Row.grown c ho qx b⟩
theorem kS.kept{S ok:qD}{w w':qW}{t:Cm}{cs:qV}(h:kS ok t w cs)(X:Kept S w w')(b:∀g,g<w.heap.size->ok g->¬S g):kS ok t w' cs:=by
 obtain⟨c,e,a⟩:=h;exact⟨c,e,Row.kept a X b⟩
theorem kS.grown{ok:qD}{w w':qW}{t:Cm}{cs:qV}{b n B:Nat}{v:qv}{xs:qV}(h:kS ok t w cs)(ho:w.ownsRow B 125 b v n xs)(c:w.grownBy w' v.ownBlock):kS ok t w' cs:=by
 obtain⟨d,e,a⟩:=h;exact⟨d,e,Row.grown a ho qx c⟩
structure eP{α:Type}(S:Nat->Prop)(w:World)(b:Nat)(s:qS)(n:Nat)(V:α->World->Value->Prop)(r:Except Err (α×Nat))(e:Ending)(w':World):Prop where
 kept:Kept S w w'
 ok:∀x j,r=.ok (x,j)->∃v,e=.returned v/\V x w' v/\Rd w' b s j n
 err:∀q p,r=.error (q,p)->e=fo q p
theorem eP.dN{f:Type}{S:qD}{w w':qW}{b:Nat}{s:qS}{n:Nat}{V:f->qW->qv->Prop}{r:Except Err (f×Nat)}{x:f}{j:Nat}{v:qv}
  (i:r=.ok (x,j)) (X:Kept S w w') (hv:V x w' v) (k:Rd w' b s j n):eP S w b s n V r (.returned v) w':=
 ⟨X,λx' l h=>by rw[i]at h;cases h;exact⟨v,rfl,hv,k⟩,λq p h=>by rw[i]at h;cases h⟩
theorem eP.dG{f:Type}{S:qD}{w w':qW}{b:Nat}{s:qS}{n:Nat}{V:f->qW->qv->Prop}{r:Except Err (f×Nat)}{q p:Nat}
  (i:r=.error (q,p)) (X:Kept S w w'):eP S w b s n V r (fo q p) w':=
 ⟨X,λx' j h=>by(rw[i]at h;cases h),λk l h=>by rw[i]at h;cases h;rfl⟩
def both(b c:Nat):Nat->Prop:=λk=>k=b\/k=c
theorem Kept.fB{w w':qW}{b c:Nat}(h:Kept (only b) w w'):Kept (both b c) w w':=h.mono (λ_ _ X=>.inl X)
theorem Kept.mH{a w:qW}{b c o:Nat}(h:Kept (both b c) a w)(u:qv):Kept (both b c) a (w.setCell (qA c o) u):=h.setCell (p:=(qA c o)) (λ_=>.inr rfl) u
def pV(x:Nat):Bool:=x==0||x==1||x==5||x==11||x==15||x==26||x==27||(decide (69<=x)&&decide (x<=90))||(decide (103<=x)&&decide (x<=138))||x==167||x==172||x==173
structure fO where
 typed:Bool
 dL:List Nat
 align:Int
 num:Int×Nat
 dA:List (Int×Nat)
 val:Int
def fO.none:fO:=⟨false,[],0,(0,0),[],0⟩
def jS(s:qS)(n i:Nat):Except Err (fO×Nat):=
 match lJ s n i with
 | .error e=>.error e
 | .ok (x,_)=>
  if x=127\/x=126 then .ok ({fO.none with dL:=[x]},i+1)
  else if x=64 then .ok (fO.none,i+1)
  else match sM 4 5 s n i with
   | .error e=>.error e
   | .ok (v,j)=>if v<0 then .error (2,i) else .ok ({fO.none with typed:=true,num:=(v%4294967296,i)},j)
def lM(a e x:Nat)(y:fO)(gv lv:Value):List Value:=
 [qJ a,qJ e,qB x,.bool y.typed,gv,qI y.align,qI y.num.1,qJ y.num.2,lv,qJ y.val]
def IM(ok:Nat->Prop)(w:World)(b c a e x:Nat)(y:fO):Prop:=
 ∃gv lv,OB w b c (lM a e x y gv lv)/\dH ok y.dL w gv/\isRow 93 2 numCells ok y.dA w lv
section
variable {w:qW}{g:Nat}{a b c d e a' b' c' d' e':qv}
theorem jf.ten(h:jf w g [a,b,c,d,e,a',b',c',d',e']):
  (w.cell? (qA g 0)=some a/\w.frozen? (qA g 0)=false)/\(w.cell? (qA g 1)=some b/\w.frozen? (qA g 1)=false)/\(w.cell? (qA g 2)=some c/\w.frozen? (qA g 2)=false)/\
  (w.cell? (qA g 3)=some d/\w.frozen? (qA g 3)=false)/\(w.cell? (qA g 4)=some e/\w.frozen? (qA g 4)=false)/\(w.cell? (qA g 5)=some a'/\w.frozen? (qA g 5)=false)/\
  (w.cell? (qA g 6)=some b'/\w.frozen? (qA g 6)=false)/\(w.cell? (qA g 7)=some c'/\w.frozen? (qA g 7)=false)/\(w.cell? (qA g 8)=some d'/\w.frozen? (qA g 8)=false)/\
  (w.cell? (qA g 9)=some e'/\w.frozen? (qA g 9)=false):=
 ⟨h 0 qs,h 1 qs,h 2 qs,h 3 qs,h 4 qs,h 5 qs,h 6 qs,h 7 qs,h 8 qs,h 9 qs⟩
end
def iE(a x:Nat)(s:qS)(n i:Nat):Except Err (fO×Nat):=
 if x∈[2,3,4] then jS s n i
 else if x∈[14] then
  match eB 20 uM s n i with
  | .error e=>.error e
  | .ok (ls,j)=>
   match uM s n j with
   | .error e=>.error e
   | .ok (u,j2)=>.ok ({fO.none with num:=u,dA:=ls},j2)
 else if x∈[40,41,44,45,54,55,58] then
  match uM s n i with
  | .error e=>.error e
  | .ok (al,j)=>
   match uM s n j with
   | .error e=>.error e
   | .ok (u,j2)=>.ok ({fO.none with align:=al.1,num:=u},j2)
 else if x∈[12,13,16,32,33,34,35,36] then
  match uM s n i with
  | .error e=>.error e
  | .ok (u,j)=>.ok ({fO.none with num:=u},j)
 else if x∈[17] then
  match uM s n i with
  | .error e=>.error e
  | .ok (u,j)=>
   match iO [0] s n j with
   | .error e=>.error e
   | .ok (_,j2)=>.ok ({fO.none with num:=u},j2)
 else if x∈[63,64] then
  match iO [0] s n i with
  | .error e=>.error e
  | .ok (_,j)=>.ok (fO.none,j)
 else if x∈[65] then
  match sM 4 4 s n i with
  | .error e=>.error e
  | .ok (v,j)=>.ok ({fO.none with val:=v},j)
 else if x∈[66] then
  match sM 9 1 s n i with
  | .error e=>.error e
  | .ok (v,j)=>.ok ({fO.none with val:=v},j)
 else if pV x=true then .ok (fO.none,i) else .error (2,a)
def oQ:List Nat:=[2,3,4,14,40,41,44,45,54,55,58,12,13,16,32,33,34,35,36,17,63,64,65,66]
theorem KQ{a x:Nat}{s:qS}{n i:Nat}(h:x∉oQ):iE a x s n i=if pV x=true then .ok (fO.none,i) else .error (2,a):=by
 simp only[oQ,qav,List.not_mem_nil,or_false,not_or]at h;unfold iE;simp[h]
def byteCells(os:List Nat):List Value:=os.map λ(k:Nat)=>qB k
def gp(os:List Nat)(a x:Nat):Except Err (List Nat):=
 if x∈[2,3,4] then(if os.length=50 then .error (2,a) else .ok (os++[x]))
 else if x=5 then(if os.getLast?=some 4 then .ok (os.dropLast++[5]) else .error (2,a))
 else if x=11 then .ok os.dropLast
 else .ok os
theorem MQ{os os':qM}{a x:Nat}(h:gp os a x=.ok os')(hl:os.length<=50):os'.length<=50:=by
 unfold gp at h;split at h
 .split at h
  .cases h
  cases h;simp;omega
 split at h
 .split at h
  .cases h;rename_i b;cases os with
   | nil=>simp at b
   | cons o os=>simp;simp at hl;omega
  cases h
 split at h
 .cases h;simp;omega
 cases h;exact hl
def jI(s:qS)(n:Nat):Nat->List Nat->Nat->Except Err Nat
 | 0,_,_=>.error (2,n)
 | fuel+1,os,j=>
  match iW s n j with
  | .error e=>.error e
  | .ok (x,j1)=>
   match(if x=11/\os=[] then .ok os else gp os j x) with
   | .error e=>.error e
   | .ok os'=>
    match iE j x s n j1 with
    | .error e=>.error e
    | .ok (_,e)=>if x=11/\os=[] then .ok e else jI s n fuel os' e
def o8(s:qS)(n i:Nat):Except Err Nat:=jI s n (n - i) [] i
def x8(os:List Nat)(o':Option (List Nat))(j x:Nat):Prop:=x=11/\os=[]/\o'=none\/¬(x=11/\os=[])/\∃os',gp os j x=.ok os'/\o'=some os'
structure Goes(P:Program)(m l:Nat)(s:qS)(n:Nat)(yf:Nat->Nat->World->Prop)(Jq:Option (List Nat)->Nat->(Nat->Prop)->World->Prop):Prop where
 still:∀o j F W W' S,Jq o j F W->Kept S W W'->(∀k,k<W.heap.size->S k->¬F k)->Jq o j F W'
 lt:∀o j F W k,Jq o j F W->F k->k<W.heap.size
 round:∀os o' j F W e x y gv lv hand,Jq (some os) j F W->e<=n->j<e->os.length<=50->x8 os o' j x->x=bt s j->j<n->iE j x s n (j+1)=.ok (y,e)->
  dH hand y.dL W gv->isRow 93 2 numCells hand y.dA W lv->(∀k,hand k->k<W.heap.size/\¬F k)->
  ∃f tmps assign body,(Instr.yield l #[.agg (lM j e x y gv lv).toArray]).run P W=.ok (.round l f tmps assign body) W/\
   RoundIn Fence.wide m P l f tmps assign body W λε W'=>
    (∃bb,ε=.returned (.bool bb)/\(o'=none\/bb=true)/\∃F',Jq o' e F' W'/\Kept F W W'/\∀k,F' k->F k\/hand k\/W.heap.size<=k)\/
    (∃q p:Nat,ε=fo q p/\yf q p W'/\Kept F W W')
structure Sa(s:qS)(n i:Nat)(yf:Nat->Nat->World->Prop)(Jq:Option (List Nat)->Nat->(Nat->Prop)->World->Prop)(F0:Nat->Prop)(W0:World)(ε:Ending)(W':World):Prop where
 kept:Kept F0 W0 W'
 how:(∃j F',o8 s n i=.ok j/\ε=.returned (.tuple #[])/\Jq none j F' W'/\∀k,F' k->k<W0.heap.size->F0 k)\/
  (∃q p:Nat,o8 s n i=.error (q,p)/\ε=fo q p/\∃o j F',Jq o j F' W')\/(∃q p:Nat,yf q p W'/\ε=fo q p)
def PN(w:World)(b:Nat):Nat:=match w.cell? (qA b 1) with | some (.int _ q)=>q.toNat | _=>0
theorem Gt{w:qW}{b:Nat}{s:qS}{i n:Nat}(h:Rd w b s i n):PN w b=i:=by unfold PN;rw[h.c1];simp
theorem JZ{s:qS}{n fuel j:Nat}{os:qM}(hf:n - j<=fuel)(h:¬j<n):jI s n fuel os j=.error (2,n):=by
 cases fuel with
 | zero=>rfl
 | succ f=>simp[jI,gQ h]
theorem JW{s:qS}{n fuel j:Nat}{os:qM}{e:Err}(hf:n - j<=fuel)(h:j<n)(hl:¬(bt s j=11/\os=[]))(a:gp os j (bt s j)=.error e):jI s n fuel os j=.error e:=by
 cases fuel with
 | zero=>omega
 | succ f=>simp only[jI,dY h,qaa hl,a]
theorem DZ{s:qS}{n fuel j:Nat}{os os':qM}{e:Err}(hf:n - j<=fuel)(h:j<n)(hl:bt s j=11/\os=[]/\os'=[]\/¬(bt s j=11/\os=[])/\gp os j (bt s j)=.ok os')(hb:iE j (bt s j) s n (j+1)=.error e):
  jI s n fuel os j=.error e:=by
 cases fuel with
 | zero=>omega
 | succ f=>
  obtain⟨U,a,b⟩ | ⟨U,a⟩:=hl
  .simp only[jI,dY h,qac (And.intro U a),hb]
  simp only[jI,dY h,qaa U,a,hb]
theorem JY{s:qS}{n fuel j e:Nat}{os:qM}{y:fO}(hf:n - j<=fuel)(h:j<n)(hl:bt s j=11/\os=[])(hb:iE j (bt s j) s n (j+1)=.ok (y,e)):jI s n fuel os j=.ok e:=by
 cases fuel with
 | zero=>omega
 | succ f=>simp only[jI,dY h,qac hl,hb]
theorem JX{s:qS}{n fuel j e:Nat}{os os':qM}{y:fO}(hf:n - j<=fuel)(h:j<n)(hl:¬(bt s j=11/\os=[]))(a:gp os j (bt s j)=.ok os')(hb:iE j (bt s j) s n (j+1)=.ok (y,e)):
  jI s n fuel os j=jI s n (fuel - 1) os' e:=by
 cases fuel with
 | zero=>omega
 | succ f=>simp only[jI,dY h,qaa hl,a,hb,Nat.add_sub_cancel]
end Go.Proofs.YtfkcodlceoghpaaGreatDoor
