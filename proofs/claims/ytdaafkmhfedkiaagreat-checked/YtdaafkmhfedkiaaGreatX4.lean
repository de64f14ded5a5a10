import Derived.Test.YtdaafkmhfedkiaaGreatX3
namespace Go.Proofs.YtdaafkmhfedkiaaGreat
set_option maxHeartbeats 6400000
set_option maxRecDepth 100000
open Go.RowKit Go.Proofs.Tryz
theorem Tryz.ack:(prog.info? 198).map (fun i=>(i.zero,i.size,i.bytes))=some (some (.agg #[qN,qN]),2,48):=qk
theorem O8{w:qW}{b:Nat}{s:qS}{i n:Nat}(most K:Nat)(tM:qS->Nat->Nat->Except Err (Ty×Nat))(h:Rd w b s i n)(hm:most<=50)(hc:Enters K)
  (G:∀y j,Rd y b s j n->qC K #[qP b] y (Out y b s n (afU (fun g=>y.heap.size<=g)) (tM s n j))):
  qC 157 #[qP b,qJ most,.func (.func K) #[] #[]] w (Out w b s n (gu 198 2 yX (fun g=>w.heap.size<=g)) (dY most tM s n i)):=by
 obtain⟨Y,Z,aa,ab,ac⟩:=info_parts Tryz.ack;have ae:∀(args:Array qv) (w:qW),(callFunc K args).run prog w=.ok (.enter K args) w:=hc;have HT:=hide G;clear G;go_enter func157,ntmps157;go_wp2_with fail
 refine(count_any most h qo).mono ?_;rintro e y ⟨hk1,z,jY⟩;rcases ho:eZ most s n i with⟨q,p⟩|xj
 .exact SQ
 obtain⟨cnt,H⟩:=xj;obtain⟨u,rfl,C,hrd⟩:=z _ _ ho;obtain rfl:u=qJ cnt:=C;have af:=(gD ho).1;have I:qh (dY most tM s n i=eO tM s n cnt [] H):=by show _=_;simp[dY,ho]
 clear z jY ho;go_wp2;go_loopw [7,12] (fun v q wr=>∃(k j:Nat) (ks:List Ty),k<=cnt/\ks.length=k/\q=qJ k/\Rd wr b s j n/\Kept (only b) w wr/\gu 198 2 yX (fun g=>w.heap.size<=g) ks wr v/\dY most tM s n i=eO tM s n (cnt - k) ks j) (fun _ q _=>cnt - (intOf q).toNat)
 case atStart=>exact⟨0,H,[],qZ,rfl,rfl,hrd,hk1,⟨[],Row.nil _ _ _ _,trivial⟩,I.o⟩
 obtain⟨k,j,ks,X,hl,rfl,hrd,hkp,J,L⟩:=hrel;have HE:=hide L;have HL:=hide J;clear L I J;by_cases ag:k<cnt
 .have hlt':(k:Int)<(cnt:Int):=qo;go_wp2_with fail
  refine(HT.o _ _ hrd).mono ?_;rintro e r ⟨B,z,jY⟩;have hk3:=hkp.trans B;obtain⟨css,M,N⟩:=HL.o;have O:Row (fun g=>w.heap.size<=g) r 198 2 u7 ks.length css.flatten:=M.kept B (fun g _ a (e:g=b)=>by have:=h.lt;omega);have Q:Each (fun x cs=>yX (fun g=>w.heap.size<=g) x r cs/\cs.length=2) ks css:=N.to (fun x cs hh=>⟨hh.1.kept B (fun g _ a (e:g=b)=>by have:=h.lt;omega),hh.2⟩);have ah:=hkp.size;clear M N HL B hkp;have R:=hide Q;clear Q;rcases ho:tM s n j with⟨q,p⟩|⟨x,j2⟩
  .exact SV
  obtain⟨u,rfl,C,ad⟩:=z _ _ ho;obtain⟨vi,vo,rfl,D,E⟩:=C;obtain⟨d,f,rfl⟩:=Row.shape D;obtain⟨l,m,rfl⟩:=Row.shape E;have S:qh (yX (fun g=>w.heap.size<=g) x r [.slice d x.ins.length f,.slice l x.outs.length m]):=by
   exact⟨_,_,rfl,Row.mono D (fun g _ a=>qo),Row.mono E (fun g _ a=>qo)⟩
  have HH:qh (dY most tM s n i=eO tM s n (cnt - (k+1)) (ks++[x]) j2):=HE.o.trans (pJ qo ho);clear z jY ho hrd D E;have T:=((O.pO (fun g a=>a)).alloc (.cells #[.slice d x.ins.length f,.slice l x.outs.length m] 198)).alloc (.cells #[.slice d x.ins.length f,.slice l x.outs.length m] 198);have t:=hide T;have ai:=hk3.size;clear T O;go_wp2_with (at_builtin;refine wpList_append_own _ rfl _ _ 133 rfl w.heap.size 198 Y (.agg #[qN,qN]) 2 48 underlying133 Z aa ab ac rfl qx _ _ _ rfl t.o ⟨r.heap.size+1,0,none⟩ 1 1 [.slice d x.ins.length f,.slice l x.outs.length m] rfl rfl ?c1 ?c2 ?c3 ?c4 ?c5 ?_)
  case c1=>exact cells_at qs rfl
  case c2=>intro u U;simp at U;rcases U with rfl | rfl<;>rfl
  case c3=>unfold maxLen;omega
  case c4=>omega
  case c5=>simp;omega
  intro v' w3 V A _;have hk4:=iP ((hk3.alloc _).alloc _) t.o qR A;have GG:=ny ((ad.alloc _).alloc _) t.o h.lt A;have F:qK r ((r.alloc (.cells #[.slice d x.ins.length f,.slice l x.outs.length m] 198)).alloc (.cells #[.slice d x.ins.length f,.slice l x.outs.length m] 198)):=(qr.alloc _).alloc _;have W:gu 198 2 yX (fun g=>w.heap.size<=g) (ks++[x]) w3 v':=by
   refine⟨css++[[.slice d x.ins.length f,.slice l x.outs.length m]],?_,?_⟩
   .have:=Row.nS (ok:=fun g=>w.heap.size<=g) V (fun g a _=>a);simpa [hl] using this
   refine Each.snoc (R.o.to (fun x cs hh=>⟨(hh.1.kept F (fun _ _ _ c=>c)).grown t.o A,hh.2⟩)) ⟨(yX.kept S.o F (fun _ _ _ c=>c)).grown t.o A,rfl⟩
  have HR:=hide W;clear V A W t R S F;exact agP
 exact agd
theorem Tryz.acj:(prog.info? 201).map (fun i=>(i.zero,i.size,i.bytes))=some (some (.agg #[qJ 0,qJ 0,qB 0,qJ 0,qN]),5,56):=qk
theorem GD{w:qW}{b:Nat}{s:qS}{i n:Nat}(most K:Nat)(tM:qS->Nat->Nat->Except Err (Qi×Nat))(h:Rd w b s i n)(hm:most<=50)(hc:Enters K)
  (B:∀l j,Rd l b s j n->qC K #[qP b] l (Out l b s n (ady (fun g=>l.heap.size<=g)) (tM s n j))):
  qC 167 #[qP b,qJ most,.func (.func K) #[] #[]] w (Out w b s n (gu 201 5 uh (fun g=>w.heap.size<=g)) (dY most tM s n i)):=by
 obtain⟨S,T,U,V,W⟩:=info_parts Tryz.acj;have ab:∀(args:Array qv) (w:qW),(callFunc K args).run prog w=.ok (.enter K args) w:=hc;have Y:=hide B;clear B;go_enter func167,ntmps167;go_wp2_with fail
 refine(count_any most h qo).mono ?_;rintro e l ⟨hk1,m,jY⟩;rcases ho:eZ most s n i with⟨q,p⟩|Z
 .exact SQ
 obtain⟨cnt,C⟩:=Z;obtain⟨u,rfl,y,hrd⟩:=m _ _ ho;obtain rfl:u=qJ cnt:=y;have ac:=(gD ho).1;have D:qh (dY most tM s n i=eO tM s n cnt [] C):=by show _=_;simp[dY,ho]
 clear m jY ho;go_wp2;go_loopw [7,12] (fun v q wr=>∃(k j:Nat) (ks:List Qi),k<=cnt/\ks.length=k/\q=qJ k/\Rd wr b s j n/\Kept (only b) w wr/\gu 201 5 uh (fun g=>w.heap.size<=g) ks wr v/\dY most tM s n i=eO tM s n (cnt - k) ks j) (fun _ q _=>cnt - (intOf q).toNat)
 case atStart=>exact⟨0,C,[],qZ,rfl,rfl,hrd,hk1,⟨[],Row.nil _ _ _ _,trivial⟩,D.o⟩
 obtain⟨k,j,ks,X,hl,rfl,hrd,hkp,E,F⟩:=hrel;have HE:=hide F;have HL:=hide E;clear F D E;by_cases ad:k<cnt
 .have hlt':(k:Int)<(cnt:Int):=qo;go_wp2_with fail
  refine(Y.o _ _ hrd).mono ?_;rintro e a ⟨t,m,jY⟩;have hk3:=hkp.trans t;obtain⟨css,G,H⟩:=HL.o;have I:Row (fun g=>w.heap.size<=g) a 201 5 u7 ks.length css.flatten:=G.kept t (fun g _ d (e:g=b)=>by have:=h.lt;omega);have J:Each (fun x cs=>uh (fun g=>w.heap.size<=g) x a cs/\cs.length=5) ks css:=H.to (fun x cs hh=>⟨hh.1.kept t (fun g _ d (e:g=b)=>by have:=h.lt;omega),hh.2⟩);have ae:=hkp.size;clear G H HL t hkp;have L:=hide J;clear J;rcases ho:tM s n j with⟨q,p⟩|⟨x,j2⟩
  .exact SV
  obtain⟨u,rfl,y,aa⟩:=m _ _ ho;obtain⟨vl,rfl,z⟩:=y;obtain⟨pl,cl,rfl⟩:=Row.shape z;have M:qh (uh (fun g=>w.heap.size<=g) x a [qJ x.at_,qJ x.place.at_,qB x.place.kind,qJ x.place.val,.slice pl x.funcs.length cl]):=by
   exact⟨_,rfl,Row.mono z (fun g _ d=>qo)⟩
  have HH:qh (dY most tM s n i=eO tM s n (cnt - (k+1)) (ks++[x]) j2):=HE.o.trans (pJ qo ho);clear m jY ho hrd z;have N:=((I.pO (fun g d=>d)).alloc (.cells #[qJ x.at_,qJ x.place.at_,qB x.place.kind,qJ x.place.val,.slice pl x.funcs.length cl] 201)).alloc (.cells #[qJ x.at_,qJ x.place.at_,qB x.place.kind,qJ x.place.val,.slice pl x.funcs.length cl] 201);have f:=hide N;have af:=hk3.size;clear N I;go_wp2_with (at_builtin;refine wpList_append_own _ rfl _ _ 138 rfl w.heap.size 201 S (.agg #[qJ 0,qJ 0,qB 0,qJ 0,qN]) 5 56 underlying138 T U V W rfl qx _ _ _ rfl f.o ⟨a.heap.size+1,0,none⟩ 1 1 [qJ x.at_,qJ x.place.at_,qB x.place.kind,qJ x.place.val,.slice pl x.funcs.length cl] rfl rfl ?c1 ?c2 ?c3 ?c4 ?c5 ?_)
  case c1=>exact cells_at qs rfl
  case c2=>intro u O;simp at O;rcases O with rfl | rfl | rfl | rfl | rfl<;>rfl
  case c3=>unfold maxLen;omega
  case c4=>omega
  case c5=>simp;omega
  intro v' w3 Q r _;have hk4:=iP ((hk3.alloc _).alloc _) f.o qR r;have GG:=ny ((aa.alloc _).alloc _) f.o h.lt r;have A:qK a ((a.alloc (.cells #[qJ x.at_,qJ x.place.at_,qB x.place.kind,qJ x.place.val,.slice pl x.funcs.length cl] 201)).alloc (.cells #[qJ x.at_,qJ x.place.at_,qB x.place.kind,qJ x.place.val,.slice pl x.funcs.length cl] 201)):=(qr.alloc _).alloc _;have R:gu 201 5 uh (fun g=>w.heap.size<=g) (ks++[x]) w3 v':=by
   refine⟨css++[[qJ x.at_,qJ x.place.at_,qB x.place.kind,qJ x.place.val,.slice pl x.funcs.length cl]],?_,?_⟩
   .have:=Row.nS (ok:=fun g=>w.heap.size<=g) Q (fun g d _=>d);simpa [hl] using this
   refine Each.snoc (L.o.to (fun x cs hh=>⟨(hh.1.kept A (fun _ _ _ c=>c)).grown f.o r,hh.2⟩)) ⟨(uh.kept M.o A (fun _ _ _ c=>c)).grown f.o r,rfl⟩
  have HR:=hide R;clear Q r R f L M A;exact agP
 exact agd
theorem aaI(x:Nat)(w:qW):
  qC 242 #[qB x] w fun e w'=>e=.returned (.bool (rF x))/\w'=w:=by
 by_cases a:x=0\/x=1\/x=5\/x=11\/x=15\/x=26\/x=27
 .have HH:qh (rF x=true):=by
   show _=_;rcases a with rfl | rfl | rfl | rfl | rfl | rfl | rfl<;>rfl
  rcases a with rfl | rfl | rfl | rfl | rfl | rfl | rfl;all_goals
   go_enter func242,ntmps242;go_wp2;go_ret;exact⟨by rw[HH.o];rfl,rfl⟩
 have j:((x:Int)==0)=false:=by simp;omega
 have k:((x:Int)==1)=false:=by simp;omega
 have l:((x:Int)==5)=false:=by simp;omega
 have m:((x:Int)==11)=false:=by simp;omega
 have n:((x:Int)==15)=false:=by simp;omega
 have p:((x:Int)==26)=false:=by simp;omega
 have q:((x:Int)==27)=false:=by simp;omega
 by_cases U:69<=x/\x<=90
 .have b:decide ((69:Int)<=(x:Int))=true:=by simp;omega
  have f:decide ((x:Int)<=(90:Int))=true:=by simp;omega
  have HH:qh (rF x=true):=by show _=_;simp[rF,U.1,U.2]
  clear a U;go_enter func242,ntmps242;exact Ey
 by_cases L:103<=x/\x<=138
 .have b:decide ((69:Int)<=(x:Int))=true:=by simp;omega
  have f:decide ((x:Int)<=(90:Int))=false:=by simp;omega
  have c:decide ((103:Int)<=(x:Int))=true:=by simp;omega
  have i:decide ((x:Int)<=(138:Int))=true:=by simp;omega
  have HH:qh (rF x=true):=by show _=_;simp[rF,L.1,L.2]
  clear a U L;go_enter func242,ntmps242;exact Ey
 have HH:qh (rF x=(x==167||x==172||x==173)):=by
  show _=_;have c1:(decide (69<=x)&&decide (x<=90))=false:=by simp;omega
  have c2:(decide (103<=x)&&decide (x<=138))=false:=by simp;omega
  have c3:(x==0||x==1||x==5||x==11||x==15||x==26||x==27)=false:=by simp;omega
  unfold rF;rw[c1,c2,c3];rfl
 by_cases h3:x=167\/x=172\/x=173
 .rcases h3 with rfl | rfl | rfl;all_goals
   clear a U L;go_enter func242,ntmps242;go_wp2;go_ret;exact⟨by rw[HH.o];rfl,rfl⟩
 have HF:qh (rF x=false):=by show _=_;rw[HH.o];simp;omega
 have r:((x:Int)==167)=false:=by simp;omega
 have s:((x:Int)==172)=false:=by simp;omega
 have t:((x:Int)==173)=false:=by simp;omega
 by_cases d:69<=x
 .have b:decide ((69:Int)<=(x:Int))=true:=by simp;omega
  have f:decide ((x:Int)<=(90:Int))=false:=by simp;omega
  by_cases g:103<=x
  .have c:decide ((103:Int)<=(x:Int))=true:=by simp;omega
   have i:decide ((x:Int)<=(138:Int))=false:=by simp;omega
   clear a U L h3 d g;exact ae1
  have c:decide ((103:Int)<=(x:Int))=false:=by simp;omega
  clear a U L h3 d g;exact ae1
 have b:decide ((69:Int)<=(x:Int))=false:=by simp;omega
 have c:decide ((103:Int)<=(x:Int))=false:=by simp;omega
 clear a U L h3 d;exact ae1
theorem Row.fresh{ok:qD}{w:qW}{E:TypeId}{v:qv}{g:Nat}(a:g=w.heap.size)(b:ok g):Row ok (w.alloc (.cells #[v] E)) E 1 (.slice (some (qA g 0)) 1 1) 1 [v]:=by
 subst a;refine⟨⟨qs,.inr ⟨w.heap.size,1,#[v],rfl,qZ,heap_alloc_new w _,qR,by unfold maxLen;omega,qs,qs⟩⟩,fun g a=>?_⟩;simp[Value.ownBlock] at a;subst a;exact b
abbrev sZ(a e x:Nat):List Value:=[qJ a,qJ e,qB x,.bool false,qN,.int .u32 0,.int .u32 0,qJ 0,qN,qJ 0]
def Ai(ok:Nat->Prop)(b c a e x:Nat)(y:ic)(w:World)(v:Value):Prop:=v=.tuple #[]/\Ta ok w b c a e x y
theorem Ta.new{ok:qD}{w:qW}{b c a e x:Nat}(h:OB w b c (sZ a e x)):Ta ok w b c a e x ic.none:=
 ⟨_,_,h,Row.nil _ _ _ _,Row.nil _ _ _ _⟩
theorem Ld{w:qW}{b c a e0 x0:Nat}{s:qS}{i n:Nat}(h:Rd w b s i n)(hI:OB w b c (sZ a e0 x0)):
  qC 241 #[qP b,qP c] w (fC (both b c) w b s n (Ai (fun g=>w.heap.size<=g) b c a e0 x0) (jI s n i)):=by
 go_enter func241,ntmps241;go_wp2_with fail
 refine(wR h).mono ?_;rintro e w0 ⟨rfl,rfl⟩;go_wp2_with fail
 refine(QK h).mono ?_;rintro e A ⟨H,l,m⟩;have B:Kept (both b c) w0 A:=H.gG;have t:=hI.call H;have ai:=H.size;clear H;rcases d:o6 s n i with⟨q,p⟩|xj
 .obtain rfl:=m _ _ d;exact⟨rfl,fC.dD (by simp[jI,d]) B⟩
 obtain⟨x,j⟩:=xj;obtain⟨u,rfl,hv,ac⟩:=l _ _ d;obtain rfl:u=qB x:=hv;have hj:j=i/\i<n:=by
  unfold o6 at d;split at d
  .cases d;exact⟨rfl,by assumption⟩
  cases d
 obtain⟨rfl,ad⟩:=hj;have af:bt s j=x:=by unfold o6 at d;rw[if_pos ad] at d;cases d;rfl
 have HB:=hide af;have C:=hide d;clear l m d af;obtain⟨⟨I,J⟩,⟨K,L⟩,⟨M,N⟩,⟨O,P⟩,⟨Q,R⟩,⟨S,T⟩,⟨U,V⟩,⟨W,Y⟩,⟨Z,J8⟩,⟨I9,J9⟩⟩:=t.blk.ten;have aj:=t.lt;have aa:=t.ne;by_cases D:x=127\/x=126
 .have y:qh (jI s n j=.ok ({ic.none with dH:=[x]},j+1)):=by show _=_;simp[jI,C.o,D]
  rcases D with rfl | rfl;all_goals
   go_wp2_with fail
   refine(sH ((ac.dA aa _).alloc _)).mono ?_;rintro e w2 ⟨f,l,m⟩;obtain⟨u,rfl,-,F⟩:=l _ _ (eB ad);have z:=((B.uw _).alloc _).trans f.gG;have r:=((t.set 4 (.slice (some (qA A.heap.size 0)) 1 1)).alloc _).call f;have ak:=h.lt;have hR:=(Row.fresh (ok:=fun g=>w0.heap.size<=g) (w:=A.setCell (qA c 4) (.slice (some (qA A.heap.size 0)) 1 1)) (E:=187) (g:=A.heap.size) qs ai).call f (fun k X=>qo);clear l m I J K L M N O P Q R S T U V W Y Z J8 I9 J9 f;have G:=hide r;have HR:=hide hR;clear r hR;go_wp2;go_end0;exact fC.dW y.o z ⟨rfl,_,_,G.o,HR.o,Row.nil _ _ _ _⟩ F
 have n1:((x:Int)==127)=false:=by simp;omega
 have n2:((x:Int)==126)=false:=by simp;omega
 by_cases ab:x=64
 .have y:qh (jI s n j=.ok (ic.none,j+1)):=by show _=_;simp[jI,C.o,ab]
  clear D n1 n2;subst ab;go_wp2_with fail
  refine(sH ac).mono ?_;rintro e w2 ⟨f,l,m⟩;obtain⟨u,rfl,-,F⟩:=l _ _ (eB ad);have z:=B.trans f.gG;have r:=t.call f;clear l m I J K L M N O P Q R S T U V W Y Z J8 I9 J9 f;have G:=hide r;clear r;go_wp2;go_end0;exact fC.dW y.o z ⟨rfl,Ta.new G.o⟩ F
 have n3:((x:Int)==64)=false:=by simp;omega
 have HK:=hide D;have ae:=hide ab;clear D ab;go_wp2_with fail
 refine(abQ ac).mono ?_;rintro e w2 ⟨f,l,m⟩;have z:=B.trans f.gG;have r:=t.call f;clear I J K L M N O P Q R S T U V W Y Z J8 I9 J9 f t B;rcases d:sM 4 5 s n j with⟨q,p⟩|⟨v,j2⟩
 .obtain rfl:=m _ _ d;exact⟨rfl,fC.dD (by simp[jI,C.o,HK.o,ae.o,d]) z⟩
 obtain⟨u,rfl,hv,F⟩:=l _ _ d;obtain rfl:u=qJ v:=hv;clear l m;by_cases ag:v<0
 .have y:qh (jI s n j=.error (2,j)):=by show _=_;simp[jI,C.o,HK.o,ae.o,d,ag]
  clear d;go_wp2_with fail
  refine(iY _ _).mono ?_;rintro e w3 ⟨rfl,rfl⟩;exact⟨rfl,fC.dD y.o z⟩
 have y:qh (jI s n j=.ok ({ic.none with typed:=true,num:=(v%4294967296,j)},j2)):=by show _=_;simp[jI,C.o,HK.o,ae.o,d,ag]
 clear d;obtain⟨⟨I,J⟩,⟨K,L⟩,⟨M,N⟩,⟨O,P⟩,⟨Q,R⟩,⟨S,T⟩,⟨U,V⟩,⟨W,Y⟩,⟨Z,J8⟩,⟨I9,J9⟩⟩:=r.blk.ten;have ah:=((r.set 3 (.bool true)).set 6 (.int .u32 (v%4294967296))).set 7 (qJ j);have G:=hide ah;clear ah;go_wp2;go_end0;exact fC.dW y.o (((z.uw _).uw _).uw _) ⟨rfl,_,_,G.o,Row.nil _ _ _ _,Row.nil _ _ _ _⟩ (((F.dA aa _).dA aa _).dA aa _)
theorem IP{w:qW}{b c a k x:Nat}{s:qS}{i n:Nat}(h:Rd w b s i n)(hI:OB w b c (sZ a k x))(hx:x=12\/x=13\/x=16\/x=32\/x=33\/x=34\/x=35\/x=36):
  qC 238 #[qP b,qP c] w (fC (both b c) w b s n (Ai (fun g=>w.heap.size<=g) b c a k x) (jc a x s n i)):=by
 obtain⟨⟨l,m⟩,⟨r,t⟩,⟨y,z⟩,⟨A,B⟩,⟨C,D⟩,⟨E,F⟩,⟨G,H⟩,⟨I,J⟩,⟨K,L⟩,⟨M,N⟩⟩:=hI.blk.ten;have X:=hI.lt;have O:=hI.ne;have Y:=ja;rcases hx with rfl | rfl | rfl | rfl | rfl | rfl | rfl | rfl;all_goals
  go_enter func238,ntmps238;go_wp2_with fail
  refine(uQ h).mono ?_;rintro e Z ⟨f,P,Q⟩;have R:=(Kept.refl (both b c) w).trans f.gG;have S:=hI.call f;clear f l m r t y z A B C D E F G H I J K L M N;rcases d:uM s n i with⟨q,p⟩|⟨⟨v,p⟩,j⟩
  .obtain rfl:=Q _ _ d;exact⟨rfl,fC.dD (by simp[jc,d]) R⟩
  obtain⟨u,rfl,T,U⟩:=P _ _ d;obtain rfl:u=.agg #[.int .u32 v,qJ p]:=T;have V:=hide d;clear P Q d;obtain⟨⟨l,m⟩,⟨r,t⟩,⟨y,z⟩,⟨A,B⟩,⟨C,D⟩,⟨E,F⟩,⟨G,H⟩,⟨I,J⟩,⟨K,L⟩,⟨M,N⟩⟩:=S.blk.ten;have W:=hide ((S.set 6 (.int .u32 v)).set 7 (qJ p));go_wp2;go_end0;exact fC.dW (x:=(⟨false,[],0,(v,p),[],0⟩:ic)) (j:=j) (by simp[jc,ic.none,V.o]) ((R.uw _).uw _) ⟨rfl,_,_,W.o,Row.nil _ _ _ _,Row.nil _ _ _ _⟩ ((U.dA O _).dA O _)
theorem IM{w:qW}{b c a k x:Nat}{s:qS}{i n:Nat}(h:Rd w b s i n)(hI:OB w b c (sZ a k x))(hx:x=65):
  qC 238 #[qP b,qP c] w (fC (both b c) w b s n (Ai (fun g=>w.heap.size<=g) b c a k x) (jc a x s n i)):=by
 obtain⟨⟨l,m⟩,⟨r,t⟩,⟨y,z⟩,⟨A,B⟩,⟨C,D⟩,⟨E,F⟩,⟨G,H⟩,⟨I,J⟩,⟨K,L⟩,⟨M,N⟩⟩:=hI.blk.ten;have X:=hI.lt;have S:=hI.ne;have Y:=ja;rcases hx with rfl;all_goals
  go_enter func238,ntmps238;go_wp2_with fail
  refine(VO h).mono ?_;rintro e Z ⟨f,O,P⟩;have Q:=(Kept.refl (both b c) w).trans f.gG;have R:=hI.call f;clear f l m r t y z A B C D E F G H I J K L M N;rcases d:sM 4 4 s n i with⟨q,p⟩|⟨v,j⟩
  .obtain rfl:=P _ _ d;exact⟨rfl,fC.dD (by simp[jc,d]) Q⟩
  obtain⟨u,rfl,T,U⟩:=O _ _ d;obtain rfl:u=qJ v:=T;have V:=hide d;clear O P d;obtain⟨⟨l,m⟩,⟨r,t⟩,⟨y,z⟩,⟨A,B⟩,⟨C,D⟩,⟨E,F⟩,⟨G,H⟩,⟨I,J⟩,⟨K,L⟩,⟨M,N⟩⟩:=R.blk.ten;have W:=hide (R.set 9 (qJ v));go_wp2;go_end0;exact fC.dW (x:=(⟨false,[],0,(0,0),[],v⟩:ic)) (j:=j) (by simp[jc,ic.none,V.o]) (Q.uw _) ⟨rfl,_,_,W.o,Row.nil _ _ _ _,Row.nil _ _ _ _⟩ (U.dA S _)
theorem IL{w:qW}{b c a k x:Nat}{s:qS}{i n:Nat}(h:Rd w b s i n)(hI:OB w b c (sZ a k x))(hx:x=66):
  qC 238 #[qP b,qP c] w (fC (both b c) w b s n (Ai (fun g=>w.heap.size<=g) b c a k x) (jc a x s n i)):=by
 obtain⟨⟨l,m⟩,⟨r,t⟩,⟨y,z⟩,⟨A,B⟩,⟨C,D⟩,⟨E,F⟩,⟨G,H⟩,⟨I,J⟩,⟨K,L⟩,⟨M,N⟩⟩:=hI.blk.ten;have X:=hI.lt;have S:=hI.ne;have Y:=ja;rcases hx with rfl;all_goals
  go_enter func238,ntmps238;go_wp2_with fail
  refine(VN h).mono ?_;rintro e Z ⟨f,O,P⟩;have Q:=(Kept.refl (both b c) w).trans f.gG;have R:=hI.call f;clear f l m r t y z A B C D E F G H I J K L M N;rcases d:sM 9 1 s n i with⟨q,p⟩|⟨v,j⟩
  .obtain rfl:=P _ _ d;exact⟨rfl,fC.dD (by simp[jc,d]) Q⟩
  obtain⟨u,rfl,T,U⟩:=O _ _ d;obtain rfl:u=qJ v:=T;have V:=hide d;clear O P d;obtain⟨⟨l,m⟩,⟨r,t⟩,⟨y,z⟩,⟨A,B⟩,⟨C,D⟩,⟨E,F⟩,⟨G,H⟩,⟨I,J⟩,⟨K,L⟩,⟨M,N⟩⟩:=R.blk.ten;have W:=hide (R.set 9 (qJ v));go_wp2;go_end0;exact fC.dW (x:=(⟨false,[],0,(0,0),[],v⟩:ic)) (j:=j) (by simp[jc,ic.none,V.o]) (Q.uw _) ⟨rfl,_,_,W.o,Row.nil _ _ _ _,Row.nil _ _ _ _⟩ (U.dA S _)
theorem Gt{w:qW}{b c a k x:Nat}{s:qS}{i n:Nat}(h:Rd w b s i n)(hI:OB w b c (sZ a k x))(hx:x=63\/x=64):
  qC 238 #[qP b,qP c] w (fC (both b c) w b s n (Ai (fun g=>w.heap.size<=g) b c a k x) (jc a x s n i)):=by
 obtain⟨⟨l,m⟩,⟨r,t⟩,⟨v,z⟩,⟨A,B⟩,⟨C,D⟩,⟨E,F⟩,⟨G,H⟩,⟨I,J⟩,⟨K,L⟩,⟨M,N⟩⟩:=hI.blk.ten;have V:=hI.lt;have W:=hI.ne;have X:=ja;rcases hx with rfl | rfl;all_goals
  go_enter func238,ntmps238;go_wp2_with fail
  refine(one_any (ts:=[0]) (h.alloc _) (wu 0 qs rfl) qs (by have:=h.lt;omega) qs).mono ?_;rintro e Y ⟨f,O,P⟩;have Q:=((Kept.refl (both b c) w).alloc _).trans f.gG;have R:=(hI.alloc _).call f;clear f l m r t v z A B C D E F G H I J K L M N;rcases d:iO [0] s n i with⟨q,p⟩|⟨y,j⟩
  .obtain rfl:=P _ _ d;exact⟨rfl,fC.dD (by simp[jc,d]) Q⟩
  obtain⟨u,rfl,-,S⟩:=O _ _ d;have T:=hide d;clear O P d;obtain⟨⟨l,m⟩,⟨r,t⟩,⟨v,z⟩,⟨A,B⟩,⟨C,D⟩,⟨E,F⟩,⟨G,H⟩,⟨I,J⟩,⟨K,L⟩,⟨M,N⟩⟩:=R.blk.ten;have U:=hide R;go_wp2;go_end0;exact fC.dW (x:=(⟨false,[],0,(0,0),[],0⟩:ic)) (j:=j) (by simp[jc,ic.none,T.o]) Q ⟨rfl,_,_,U.o,Row.nil _ _ _ _,Row.nil _ _ _ _⟩ S
theorem EJ{w:qW}{b c a f x:Nat}{s:qS}{i n:Nat}(h:Rd w b s i n)(hI:OB w b c (sZ a f x))(hx:x=2\/x=3\/x=4):
  qC 238 #[qP b,qP c] w (fC (both b c) w b s n (Ai (fun g=>w.heap.size<=g) b c a f x) (jc a x s n i)):=by
 obtain⟨⟨t,v⟩,⟨z,A⟩,⟨B,C⟩,⟨D,E⟩,⟨F,G⟩,⟨H,I⟩,⟨J,K⟩,⟨L,M⟩,⟨N,O⟩,⟨P,Q⟩⟩:=hI.blk.ten;have U:=hI.lt;have V:=hI.ne;have W:=ja;rcases hx with rfl | rfl | rfl;all_goals
  go_enter func238,ntmps238;go_wp2_with fail
  refine(Ld h hI).mono ?_;rintro e X ⟨k,l,m⟩;clear t v z A B C D E F G H I J K L M N O P Q;rcases d:jI s n i with⟨q,p⟩|⟨y,j⟩
  .obtain rfl:=m _ _ d;exact⟨rfl,fC.dD (by simp[jc,d]) k⟩
  obtain⟨u,rfl,r,R⟩:=l _ _ d;have S:=hide r;have T:=hide d;clear l m d r;go_wp2;go_end0;exact fC.dW (x:=y) (j:=j) (by simp[jc,T.o]) k ⟨rfl,S.o.2⟩ R
theorem Gu{w:qW}{b c a f x:Nat}{s:qS}{i n:Nat}(h:Rd w b s i n)(hI:OB w b c (sZ a f x))(hx:x∉iL):
  qC 238 #[qP b,qP c] w (fC (both b c) w b s n (Ai (fun g=>w.heap.size<=g) b c a f x) (jc a x s n i)):=by
 obtain⟨⟨O,P⟩,⟨Q,R⟩,⟨S,T⟩,⟨U,V⟩,⟨W,X⟩,⟨Y,Z⟩,⟨I6,J6⟩,⟨I7,J7⟩,⟨I8,J8⟩,⟨I9,J9⟩⟩:=hI.blk.ten;have j:=hide (Vl (a:=a) (s:=s) (n:=n) (i:=i) hx);simp only[iL,List.mem_cons,List.not_mem_nil,or_false,not_or] at hx;obtain⟨k,l,m,p,q,r,t,u,v,y,z,A,B,C,D,E,F,G,H,I,J,K,L,M⟩:=hx;have t2:((x:Int)==2)=false:=by simp;omega
 have t3:((x:Int)==3)=false:=by simp;omega
 have t4:((x:Int)==4)=false:=by simp;omega
 have aa:((x:Int)==14)=false:=by simp;omega
 have ab:((x:Int)==40)=false:=by simp;omega
 have ac:((x:Int)==41)=false:=by simp;omega
 have ad:((x:Int)==44)=false:=by simp;omega
 have ae:((x:Int)==45)=false:=by simp;omega
 have af:((x:Int)==54)=false:=by simp;omega
 have ag:((x:Int)==55)=false:=by simp;omega
 have ah:((x:Int)==58)=false:=by simp;omega
 have ai:((x:Int)==12)=false:=by simp;omega
 have aj:((x:Int)==13)=false:=by simp;omega
 have ak:((x:Int)==16)=false:=by simp;omega
 have am:((x:Int)==32)=false:=by simp;omega
 have an:((x:Int)==33)=false:=by simp;omega
 have ao:((x:Int)==34)=false:=by simp;omega
 have ap:((x:Int)==35)=false:=by simp;omega
 have aq:((x:Int)==36)=false:=by simp;omega
 have ar:((x:Int)==17)=false:=by simp;omega
 have au:((x:Int)==63)=false:=by simp;omega
 have av:((x:Int)==64)=false:=by simp;omega
 have aw:((x:Int)==65)=false:=by simp;omega
 have ax:((x:Int)==66)=false:=by simp;omega
 clear k l m p q r t u v y z A B C D E F G H I J K L M;have ay:∀(x:Bool) (w:qW),(Op.unary .not (.bool x)).run prog w=.ok (.bool (!x)) w:=fun _ _=>rfl;go_enter func238,ntmps238;go_wp2_with fail
 refine(aaI _ _).mono ?_;rintro e w1 ⟨rfl,rfl⟩;cases hb:rF x with
 | true=>
  have d:qh (jc a x s n i=.ok (ic.none,i)):=by show _=_;rw[j.o,hb];rfl
  have N:=hide hI;go_wp2;go_end0;exact fC.dW d.o qr ⟨rfl,Ta.new N.o⟩ h
 | false=>
  have d:qh (jc a x s n i=.error (2,a)):=by show _=_;rw[j.o,hb];rfl
  go_wp2_with fail
  refine(iY _ _).mono ?_;rintro e w3 ⟨rfl,rfl⟩;exact⟨rfl,fC.dD d.o qr⟩
theorem IK{w:qW}{b c a S x:Nat}{s:qS}{i n:Nat}(h:Rd w b s i n)(hI:OB w b c (sZ a S x))(hx:x=40\/x=41\/x=44\/x=45\/x=54\/x=55\/x=58):
  qC 238 #[qP b,qP c] w (fC (both b c) w b s n (Ai (fun g=>w.heap.size<=g) b c a S x) (jc a x s n i)):=by
 obtain⟨⟨l,m⟩,⟨r,t⟩,⟨y,z⟩,⟨A,B⟩,⟨C,D⟩,⟨E,F⟩,⟨G,H⟩,⟨I,J⟩,⟨K,L⟩,⟨M,N⟩⟩:=hI.blk.ten;have ac:=hI.lt;have O:=hI.ne;have ad:=ja;rcases hx with rfl | rfl | rfl | rfl | rfl | rfl | rfl;all_goals
  go_enter func238,ntmps238;go_wp2_with fail
  refine(uQ h).mono ?_;rintro e w1 ⟨P,f,k⟩;have T:=(Kept.refl (both b c) w).trans P.gG;have U:=hI.call P;clear P l m r t y z A B C D E F G H I J K L M N;rcases d:uM s n i with⟨q,p⟩|Y
  .obtain rfl:=k _ _ d;exact⟨rfl,fC.dD (by simp[jc,d]) T⟩
  obtain⟨⟨al,pa⟩,j⟩:=Y;obtain⟨u,rfl,Q,Z⟩:=f _ _ d;obtain rfl:u=.agg #[.int .u32 al,qJ pa]:=Q;have V:=hide d;clear f k d;obtain⟨⟨l,m⟩,⟨r,t⟩,⟨y,z⟩,⟨A,B⟩,⟨C,D⟩,⟨E,F⟩,⟨G,H⟩,⟨I,J⟩,⟨K,L⟩,⟨M,N⟩⟩:=U.blk.ten;go_wp2_with fail
  refine(uQ (Z.dA O _)).mono ?_;rintro e w2 ⟨R,f,k⟩;have W:=(T.uw _).trans R.gG;have X:=(U.set 5 (.int .u32 al)).call R;clear R l m r t y z A B C D E F G H I J K L M N;rcases d:uM s n j with⟨q,p⟩|⟨⟨v,p⟩,j2⟩
  .obtain rfl:=k _ _ d;exact⟨rfl,fC.dD (by simp[jc,V.o,d]) W⟩
  obtain⟨u,rfl,Q,aa⟩:=f _ _ d;obtain rfl:u=.agg #[.int .u32 v,qJ p]:=Q;have ab:=hide d;clear f k d;obtain⟨⟨l,m⟩,⟨r,t⟩,⟨y,z⟩,⟨A,B⟩,⟨C,D⟩,⟨E,F⟩,⟨G,H⟩,⟨I,J⟩,⟨K,L⟩,⟨M,N⟩⟩:=X.blk.ten;have HI:=hide ((X.set 6 (.int .u32 v)).set 7 (qJ p));go_wp2;go_end0;exact fC.dW (x:=(⟨false,[],al,(v,p),[],0⟩:ic)) (j:=j2) (by simp[jc,ic.none,V.o,ab.o]) ((W.uw _).uw _) ⟨rfl,_,_,HI.o,Row.nil _ _ _ _,Row.nil _ _ _ _⟩ ((aa.dA O _).dA O _)
theorem Br{w:qW}{b c a R x:Nat}{s:qS}{i n:Nat}(h:Rd w b s i n)(hI:OB w b c (sZ a R x))(hx:x=17):
  qC 238 #[qP b,qP c] w (fC (both b c) w b s n (Ai (fun g=>w.heap.size<=g) b c a R x) (jc a x s n i)):=by
 obtain⟨⟨l,m⟩,⟨r,t⟩,⟨z,A⟩,⟨B,C⟩,⟨D,E⟩,⟨F,G⟩,⟨H,I⟩,⟨J,K⟩,⟨L,M⟩,⟨N,O⟩⟩:=hI.blk.ten;have ac:=hI.lt;have S:=hI.ne;have ad:=ja;rcases hx with rfl;all_goals
  go_enter func238,ntmps238;go_wp2_with fail
  refine(uQ h).mono ?_;rintro e w1 ⟨P,f,k⟩;have T:=(Kept.refl (both b c) w).trans P.gG;have U:=hI.call P;clear P l m r t z A B C D E F G H I J K L M N O;rcases d:uM s n i with⟨q,p⟩|Z
  .obtain rfl:=k _ _ d;exact⟨rfl,fC.dD (by simp[jc,d]) T⟩
  obtain⟨⟨v,p⟩,j⟩:=Z;obtain⟨u,rfl,hv,V⟩:=f _ _ d;obtain rfl:u=.agg #[.int .u32 v,qJ p]:=hv;have W:=hide d;clear f k d;obtain⟨⟨l,m⟩,⟨r,t⟩,⟨z,A⟩,⟨B,C⟩,⟨D,E⟩,⟨F,G⟩,⟨H,I⟩,⟨J,K⟩,⟨L,M⟩,⟨N,O⟩⟩:=U.blk.ten;go_wp2_with fail
  refine(one_any (ts:=[0]) (((V.dA S _).dA S _).alloc _) (wu 0 qs rfl) qs (by have:=V.lt;simp;omega) qs).mono ?_;rintro e w2 ⟨Q,f,k⟩;have X:=(((T.uw _).uw _).alloc _).trans Q.gG;have Y:=(((U.set 6 (.int .u32 v)).set 7 (qJ p)).alloc _).call Q;clear Q l m r t z A B C D E F G H I J K L M N O;rcases d:iO [0] s n j with⟨q,p⟩|⟨y,j2⟩
  .obtain rfl:=k _ _ d;exact⟨rfl,fC.dD (by simp[jc,W.o,d]) X⟩
  obtain⟨u,rfl,-,aa⟩:=f _ _ d;have ab:=hide d;clear f k d;obtain⟨⟨l,m⟩,⟨r,t⟩,⟨z,A⟩,⟨B,C⟩,⟨D,E⟩,⟨F,G⟩,⟨H,I⟩,⟨J,K⟩,⟨L,M⟩,⟨N,O⟩⟩:=Y.blk.ten;have HI:=hide Y;go_wp2;go_end0;exact fC.dW (x:=(⟨false,[],0,(v,p),[],0⟩:ic)) (j:=j2) (by simp[jc,ic.none,W.o,ab.o]) X ⟨rfl,_,_,HI.o,Row.nil _ _ _ _,Row.nil _ _ _ _⟩ aa
theorem afB{w:qW}{b:Nat}{s:qS}{i n:Nat}{v:Int}{p j:Nat}(h:Rd w b s i n)(a:uM s n i=.ok ((v,p),j)):
  qC 156 #[qP b] w fun e w'=>e=.returned (.agg #[.int .u32 v,qJ p])/\Rd w' b s j n/\Kept (only b) w w':=by
 refine(uQ h).mono ?_;rintro e g ⟨X,c,k⟩;obtain⟨u,rfl,d,f⟩:=c _ _ a;obtain rfl:u=.agg #[.int .u32 v,qJ p]:=d;exact⟨rfl,f,X⟩
theorem adp{w:qW}{b:Nat}{s:qS}{i n:Nat}{q p:Nat}(h:Rd w b s i n)(hu:uM s n i=.error (q,p)):
  qC 156 #[qP b] w fun e w'=>e=iK q p/\Kept (only b) w w':=by
 refine(uQ h).mono ?_;exact aa3
theorem OB.kept{S:qD}{w a:qW}{b g:Nat}{cs:qV}(h:OB w b g cs)(X:Kept S w a)(c:¬S g):OB a b g cs:=
 ⟨h.blk.kept X h.lt c,Nat.lt_of_lt_of_le h.lt X.size,h.ne⟩
theorem OB.drew{w:qW}{b g:Nat}{cs:qV}(h:OB w b g cs):OB w.drew b g cs:=⟨h.blk,h.lt,h.ne⟩
theorem eG{P:Program}{b:Array Oper}{o:Oper}{a:Act}{w:qW}{K:Act->qW->Prop}{Q:Exit->Act->qW->Prop}{E:Prop}{f:FuncId}{args:Array qv}{R:Ending->qW->Prop}(c:o.guard=none)
  (d:(execOp a.eval o).run P w=.ok (.enter f args) w) (hc:Calls P f args w R) (h:∀e w',R e w'->∃v,e=.returned v/\K (a.put o.dst v) w'):
  if Region.wanted o (yielded b a.tmps)=true then Oper.wp P o a w K Q else E:=by
 have hw:Region.wanted o (yielded b a.tmps)=true:=by simp[Region.wanted,c]
 rw[if_pos hw];unfold Oper.wp;rw[d];refine hc.mono ?_;intro e w' g;obtain⟨v,rfl,X⟩:=h e w' g;exact X
theorem EI{w:qW}{b c a e0:Nat}{s:qS}{i n:Nat}(h:Rd w b s i n)(hI:OB w b c (sZ a e0 14)):
  qC 238 #[qP b,qP c] w (fC (both b c) w b s n (Ai (fun g=>w.heap.size<=g) b c a e0 14) (jc a 14 s n i)):=by
 obtain⟨i0,ap,aq,ar,au⟩:=info_parts Tryz.Pm;obtain⟨⟨K,L⟩,⟨M,N⟩,⟨O,P⟩,⟨Q,R⟩,⟨T,U⟩,⟨V,W⟩,⟨Y,Z⟩,⟨I7,J7⟩,⟨D,E⟩,⟨I9,J9⟩⟩:=hI.blk.ten;have aE:=hI.lt;have F:=hI.ne;have aF:=ja;go_enter func238,ntmps238;go_wp2_with fail
 refine(count_any 20 h qo).mono ?_;rintro e w1 ⟨ad,G,H⟩;have ag:Kept (both b c) w w1:=ad.gG;have av:=hI.call ad;clear ad K L M N O P Q R T U V W Y Z I7 J7 D E I9 J9;rcases l:eZ 20 s n i with⟨q,p⟩|xj
 .obtain rfl:=H _ _ l;exact⟨rfl,fC.dD (by simp[jc,dY,l]) ag⟩
 obtain⟨r,j0⟩:=xj;obtain⟨u,rfl,hv,z⟩:=G _ _ l;obtain rfl:u=qJ r:=hv;have aG:=(gD l).1;have HM:qh (dY 20 uM s n i=eO uM s n r [] j0):=by show _=_;simp[dY,l]
 clear G H l;go_wp2;go_loopw [45] (fun q wr=>∃(k j:Nat) (ls:List (Int×Nat)) (lv:qv),k<=r/\ls.length=k/\q=qJ k/\Rd wr b s j n/\Kept (both b c) w wr/\OB wr b c (uD a e0 14 ic.none (qN) lv)/\
   isRow 152 2 numCells (fun g=>w.heap.size<=g) ls wr lv/\dY 20 uM s n i=eO uM s n (r - k) ls j) (fun q _=>r - (intOf q).toNat)
 case atStart=>exact⟨0,j0,[],qN,qZ,rfl,rfl,z,ag,av,Row.nil _ _ _ _,HM.o⟩
 obtain⟨k,j,ks,lv,X,hl,rfl,z,aa,B,I,ah⟩:=hrel;subst hl;have HE:=hide ah;clear ah HM;obtain⟨pl,cl,rfl⟩:=Row.shape I;obtain⟨⟨K,L⟩,⟨M,N⟩,⟨O,P⟩,⟨Q,R⟩,⟨T,U⟩,⟨V,W⟩,⟨Y,Z⟩,⟨I7,J7⟩,⟨D,E⟩,⟨I9,J9⟩⟩:=B.blk.ten;by_cases aH:ks.length<r
 .have hlt':(ks.length:Int)<(r:Int):=qo;rcases hu:uM s n j with⟨q,p⟩|⟨⟨v,p⟩,j2⟩
  .have J:=hide hu;clear hu;go_wp2_with fail
   go_region_dies
   all_goals
    refine(adp ?_ J.o).mono ?_
    .exact z.drew
    rintro e m ⟨rfl,d⟩;exact⟨rfl,fC.dD (by simp[jc,HE.o,CE (tM:=uM) (show 0<r - ks.length by omega) J.o]) (aa.drew.trans d.gG)⟩
  have J:=hide hu;clear hu;go_wp2_with fail
  have aI:=z.lt;have ab:qh (∀m,Kept (only b) wr.drew m->m.ownsRow w.heap.size 152 2 (.slice pl ks.length cl) ks.length (ks.flatMap numCells)):=fun m hx=>((Row.kept I (S:=fun _=>False) (w':=wr.drew) (qr.drew) (fun _ _ _ c=>c)).call hx (fun k X=>by have:=h.lt;omega)).pO (fun g hg=>hg);go_region_law (first
    | (refine eG (f:=156) (args:= #[qP b]) (by rfl) (by go_simp) (afB z.drew J.o) ?_;rintro e m ⟨rfl,ac,d⟩;refine⟨_,rfl,?_⟩;have q8:m.cell? (qA c 8)=some (.slice pl ks.length cl):=(d.other (show c<wr.drew.heap.size from B.lt) F).trans D;have f8:m.frozen? (qA c 8)=false:=(d.oz (show c<wr.drew.heap.size from B.lt) F).trans E;have aw:c<m.heap.size:=Nat.lt_of_lt_of_le (show c<wr.drew.heap.size from B.lt) d.size)
    | ((refine step_append_lies _ (by rfl) _ _ _ (by rfl) w.heap.size 152 i0 _ 2 16 underlying134 ap aq ar au rfl qo (.slice pl ks.length cl) ks.length (ks.flatMap numCells) (by rfl) ((ab.o _ d).alloc _) ⟨m.heap.size,0,none⟩ 1 1 [.int .u32 v,qJ p] (by rfl) (by rfl) (World.news_of_block (cs:= #[.int .u32 v,qJ p]) (t:=152) (fr:=(0,0)) (heap_alloc_new m _)) (by simp[Value.oneCell']) qo (by unfold maxLen;omega) qo (by have:=aa.size;have:=d.size;simp at*;omega) (m.heap.size+1) qs ?_;intro y A w3 ai C ax ay;have ae:some c≠(Value.slice pl ks.length cl).ownBlock:=fun e=>absurd ((ab.o _ d).lt c e.symm).1 qo;have az:w3.cell? (qA c 8)=some (.slice pl ks.length cl):=(C.cell_far ⟨c,8,none⟩ qt ae).trans ((World.cell?_alloc_lt _ _ _ aw).trans q8);have aA:w3.frozen? (qA c 8)=false:=(C.frozen_far ⟨c,8,none⟩ qt ae).trans ((World.frozen?_alloc_old _ _ _ qt).trans f8))))
  all_goals
   have af:=(ab.o _ d).alloc (.cells #[.int .u32 v,qJ p] 152);have aB:=(ny (ac.alloc _) af h.lt C).dA (o:=8) F (.slice (some (qA y 0)) (ks.length+1) A);have aC:=(iP ((aa.drew.trans d.gG).alloc _) af qR C).uw (o:=8) (.slice (some (qA y 0)) (ks.length+1) A);have aj:=(((B.drew.call d).alloc (.cells #[.int .u32 v,qJ p] 152)).kept (Kept.iB C) (fun e=>ae e.symm)).set 8 (.slice (some (qA y 0)) (ks.length+1) A);have ak:isRow 152 2 numCells (fun g=>w.heap.size<=g) (ks++[(v,p)]) (w3.setCell (qA c 8) (.slice (some (qA y 0)) (ks.length+1) A)) (.slice (some (qA y 0)) (ks.length+1) A):=by
    have q:=Row.other (Row.nS (ok:=fun g=>w.heap.size<=g) ai (fun g hg _=>hg)) (g:=c) (o:=8) (fun k X=>qo) (.slice (some (qA y 0)) (ks.length+1) A);simpa [isRow,numCells] using q
   have HH:qh (dY 20 uM s n i=eO uM s n (r - (ks.length+1)) (ks++[(v,p)]) j2):=HE.o.trans (pJ qo J.o);have HR:=hide ak;have aD:=hide aj;clear ak ai C ax ay az aA q8 f8 d af aj ac ab I;go_wp2;go_roundw
   case rel=>exact⟨ks.length+1,j2,ks++[(v,p)],.slice (some (qA y 0)) (ks.length+1) A,qo,qs,by go_num,aB,aC,aD.o,HR.o,HH.o⟩
   simp[intOf];omega
 have HH:qh (dY 20 uM s n i=.ok (ks,j)):=by show _=_;rw[HE.o,show r - ks.length=0 by omega];rfl
 go_wp2_with fail
 refine(uQ z).mono ?_;rintro e m ⟨d,G,H⟩;have am:=aa.trans d.gG;have an:=B.call d;have ao:=Row.call I d (fun k X=>by have:=h.lt;omega);clear K L M N O P Q R T U V W Y Z I7 J7 D E I9 J9;rcases l:uM s n j with⟨q,p⟩|⟨⟨v,p⟩,j2⟩
 .obtain rfl:=H _ _ l;exact⟨rfl,fC.dD (by simp[jc,HH.o,l]) am⟩
 obtain⟨u,rfl,hv,ac⟩:=G _ _ l;obtain rfl:u=.agg #[.int .u32 v,qJ p]:=hv;have HO:=hide l;clear G H l I d;obtain⟨⟨K,L⟩,⟨M,N⟩,⟨O,P⟩,⟨Q,R⟩,⟨T,U⟩,⟨V,W⟩,⟨Y,Z⟩,⟨I7,J7⟩,⟨D,E⟩,⟨I9,J9⟩⟩:=an.blk.ten;have HR:=hide (Row.other (Row.other ao (g:=c) (o:=6) (fun k X=>qo) (.int .u32 v)) (g:=c) (o:=7) (fun k X=>qo) (qJ p));have HI:=hide ((an.set 6 (.int .u32 v)).set 7 (qJ p));clear ao;go_wp2;go_end0;exact fC.dW (x:=(⟨false,[],0,(v,p),ks,0⟩:ic)) (j:=j2) (by simp[jc,ic.none,HH.o,HO.o]) ((am.uw _).uw _) ⟨rfl,_,_,HI.o,Row.nil _ _ _ _,HR.o⟩ ((ac.dA F _).dA F _)
theorem zW{w:qW}{b c a d x:Nat}{s:qS}{i n:Nat}(h:Rd w b s i n)(hI:OB w b c (sZ a d x)):
  qC 238 #[qP b,qP c] w (fC (both b c) w b s n (Ai (fun g=>w.heap.size<=g) b c a d x) (jc a x s n i)):=by
 by_cases hx:x∈iL
 .by_cases U:x=2\/x=3\/x=4
  .exact EJ h hI U
  by_cases L:x=14
  .subst L;exact EI h hI
  by_cases h3:x=40\/x=41\/x=44\/x=45\/x=54\/x=55\/x=58
  .exact IK h hI h3
  by_cases h4:x=12\/x=13\/x=16\/x=32\/x=33\/x=34\/x=35\/x=36
  .exact IP h hI h4
  by_cases h5:x=17
  .exact Br h hI h5
  by_cases e:x=63\/x=64
  .exact Gt h hI e
  by_cases f:x=65
  .exact IM h hI f
  by_cases j:x=66
  .exact IL h hI j
  exfalso
  simp[iL] at hx;omega
 exact Gu h hI hx
theorem Tryz.info5:(prog.info? 5).map (fun i=>(i.zero,i.size,i.bytes))=some (some (qB 0),1,1):=qk
def isOpen(ok:Nat->Prop)(os:List Nat)(w:World)(v:Value):Prop:=Row ok w 5 1 v os.length (byteCells os)
structure oQ(ok:Nat->Prop)(w:World)(v:Value)(r:Except Err (List Nat))(e:Ending)(w':World):Prop where
 kept:Kept (fun k=>v.ownBlock=some k) w w'
 ok:∀os,r=.ok os->∃v',e=.returned v'/\isOpen (fun g=>ok g\/w.heap.size<=g) os w' v'
 err:∀q p,r=.error (q,p)->e=iK q p
theorem oQ.dD{ok:qD}{w w':qW}{v:qv}{r:Except Err (qM)}{q p:Nat}(a:r=.error (q,p))(X:Kept (fun k=>v.ownBlock=some k) w w'):oQ ok w v r (iK q p) w':=
 ⟨X,fun os h=>by(rw[a] at h;cases h),fun b p' h=>by rw[a] at h;cases h;rfl⟩
theorem oQ.dW{ok:qD}{w w':qW}{v a:qv}{r:Except Err (qM)}{os:qM}(b:r=.ok os)(X:Kept (fun k=>v.ownBlock=some k) w w')(c:isOpen (fun g=>ok g\/w.heap.size<=g) os w' a):oQ ok w v r (.returned a) w':=
 ⟨X,fun os' h=>by rw[b] at h;cases h;exact⟨a,rfl,c⟩,fun q p h=>by rw[b] at h;cases h⟩
theorem isOpen.some{ok:qD}{os:qM}{w:qW}{v:qv}(h:isOpen ok os w v)(d:os≠[]):∃g A,v=.slice (some (qA g 0)) os.length A/\os.length<=A/\
  (∀j y,os[j]?=some y->w.cell? (qA g j)=some (qB (y:Nat)))/\ok g/\g<w.heap.size/\
  (∀m,m<=os.length->isOpen ok (os.take m) w (.slice (some (qA g 0)) m A)):=by
 have e:os.length≠0:=by simpa using d
 have f:=fun g=>h.own.cells (g:=g);rcases h.own.2 with⟨_,i⟩ | ⟨g,A,l,rfl,hb,b,n,o,p,c⟩
 .exact absurd i e
 refine⟨g,A,rfl,n,fun j y q=>?_,h.at_ g rfl,(Array.getElem?_eq_some_iff.1 b).1,fun m a=>?_⟩
 .have:=f g rfl j (qB y) (by simp[byteCells,q]);have r:(⟨g,0,none⟩:Addr).add j=⟨g,j,none⟩:=by unfold Addr.add;split<;>simp_all
  rwa[r] at this
 refine⟨⟨by simp[byteCells],.inr ⟨g,A,l,?_,hb,b,?_,o,p,?_⟩⟩,fun k X=>?_⟩
 .simp[Nat.min_eq_left a]
 .simp;omega
 .simp only[List.length_take,Nat.min_eq_left a,Nat.mul_one] at c ⊢;rw[show byteCells (os.take m)=(byteCells os).take m by simp[byteCells],<-c,List.take_take,Nat.min_eq_left a]
 simp[Value.ownBlock] at X;subst X;exact h.at_ g rfl
theorem isOpen.kept{S ok:qD}{os:qM}{w w':qW}{v:qv}(h:isOpen ok os w v)(X:Kept S w w')(a:∀g,g<w.heap.size->ok g->¬S g):isOpen ok os w' v:=Row.kept h X a
theorem isOpen.mono{ok ok':qD}{os:qM}{w:qW}{v:qv}(h:isOpen ok os w v)(a:∀g,g<w.heap.size->ok g->ok' g):isOpen ok' os w v:=Row.mono h a
theorem XE{ok:qD}{w:qW}{v:qv}{os:qM}{a x:Nat}{c1 c3 c4 c5 y z B C:qv}(d:isOpen ok os w v)(M:os.length<=50)(hx:x=2\/x=3\/x=4):
  qC 237 #[v,.agg #[qJ a,c1,qB x,c3,c4,c5,y,z,B,C]] w (oQ ok w v (je os a x)):=by
 obtain⟨D,E,F,G,H⟩:=info_parts Tryz.info5;obtain⟨j,l,rfl⟩:=Row.shape d;have m:=hide d;clear d;have c:x∈[2,3,4]:=by simpa using hx
 by_cases b:os.length=50
 .have I:((os.length:Int)==50)=true:=by simp[b]
  have f:qh (je os a x=.error (2,a)):=by show je os a x=_;unfold je;rw[if_pos c,if_pos b]
  clear b c;rcases hx with rfl | rfl | rfl;all_goals
   go_enter func237,ntmps237;go_wp2_with fail
   refine(iY _ _).mono ?_;rintro e n ⟨rfl,rfl⟩;exact⟨rfl,oQ.dD f.o (qr.alloc _)⟩
 have I:((os.length:Int)==50)=false:=by simp;omega
 have f:qh (je os a x=.ok (os++[x])):=by show je os a x=_;unfold je;rw[if_pos c,if_neg b]
 have J:qh (∀h i,((w.alloc h).alloc i).ownsRow 0 5 1 (.slice j os.length l) os.length (byteCells os)):=fun h i=>((Row.alloc (Row.alloc m.o h) i)).own;clear b c;rcases hx with rfl | rfl | rfl;all_goals
  go_enter func237,ntmps237;go_wp2_with (at_builtin;refine wpList_append_lies _ rfl _ _ 86 rfl 0 5 D (qB 0) 1 1 underlying86 E F G H rfl qx _ _ _ rfl (J.o _ _) ⟨w.heap.size+1,0,none⟩ 1 1 [_] rfl rfl (cells_at qs rfl) ?c2 qo ?c3 ?c4 qZ (w.heap.size+1+1) qs ?_)
  case c2=>intro u p;simp at p;subst p;rfl
  case c3=>unfold maxLen;omega
  case c4=>omega
  intro N A n q r s O;have X:Kept (fun k=>(Value.slice j os.length l).ownBlock=some k) w n:=((qr.alloc _).alloc _).trans (Kept.iB r);have K:=hide q;have L:=hide s;clear q s r;go_wp2;go_ret;refine oQ.dW f.o X ⟨?_,fun g t=>?_⟩
  .simpa [byteCells] using K.o
  simp[Value.ownBlock] at t;subst t;rcases L.o with hh | hh
  .exact .inl (m.o.at_ _ hh)
  exact .inr qo
theorem Uf{ok:qD}{w:qW}{v:qv}{os:qM}{a x:Nat}{c1 c3 c4 c5 d e f h:qv}(b:isOpen ok os w v)(l:os.length<=50)(L:x≠2)(h3:x≠3)(h4:x≠4)(h5:x≠5)(h11:x≠11):
  qC 237 #[v,.agg #[qJ a,c1,qB x,c3,c4,c5,d,e,f,h]] w (oQ ok w v (je os a x)):=by
 obtain⟨m,n,rfl⟩:=Row.shape b;have i:qh (je os a x=.ok os):=by show je os a x=_;simp[je,L,h3,h4,h5,h11]
 have p:((x:Int)==2)=false:=by simp;omega
 have q:((x:Int)==3)=false:=by simp;omega
 have r:((x:Int)==4)=false:=by simp;omega
 have s:((x:Int)==5)=false:=by simp;omega
 have t:((x:Int)==11)=false:=by simp;omega
 have j:=hide b;clear b L h3 h4 h5 h11;go_enter func237,ntmps237;go_wp2;go_ret;exact oQ.dW i.o (qr.alloc _) ((j.o.kept (S:=fun _=>False) (qr.alloc _) (fun _ _ _ c=>c)).mono (fun g _ k=>.inl k))
theorem ZR{ok:qD}{w:qW}{v:qv}{os:qM}{a:Nat}{c1 c3 c4 c5 h i j k:qv}(b:isOpen ok os w v)(q:os.length<=50)(d:os≠[]):
  qC 237 #[v,.agg #[qJ a,c1,qB 11,c3,c4,c5,h,i,j,k]] w (oQ ok w v (je os a 11)):=by
 obtain⟨g,A,rfl,r,l,s,t,e⟩:=b.some d;have m:qh (je os a 11=.ok os.dropLast):=by show je os a 11=_;simp[je]
 have n:=hide e;have u:1<=os.length:=List.length_pos_iff.2 d;have f:((os.length:Int) - 1)=((os.length - 1:Nat):Int):=qo;have x:=hide f;clear f e b l;have y:(0:Int)<=(os.length:Int) - 1:=qo;have z:(os.length:Int) - 1<=(A:Int):=qo;go_enter func237,ntmps237;go_wp2;go_ret;refine oQ.dW m.o (qr.alloc _) (((isOpen.kept (S:=fun _=>False) (w:=w) ?_ (qr.alloc _) (fun _ _ _ c=>c))).mono (fun g _ p=>.inl p));rw[List.dropLast_eq_take];exact n.o _ qo
theorem isOpen.alloc{ok:qD}{os:qM}{w:qW}{v:qv}(h:isOpen ok os w v)(o:Obj):isOpen ok os (w.alloc o) v:=
 h.kept (S:=fun _=>False) (qr.alloc _) (fun _ _ _ c=>c)
theorem XG{ok:qD}{w:qW}{v:qv}{os:qM}{a:Nat}{c1 c3 c4 c5 t x z B:qv}(d:isOpen ok os w v)(O:os.length<=50):
  qC 237 #[v,.agg #[qJ a,c1,qB 5,c3,c4,c5,t,x,z,B]] w (oQ ok w v (je os a 5)):=by
 obtain⟨C,D,E,F,G⟩:=info_parts Tryz.info5;by_cases b:os=[]
 .subst b;obtain⟨Q,R,rfl⟩:=Row.shape d;have HH:qh (je [] a 5=.error (2,a)):=rfl;clear d;exact agk
 have c:=List.getLast?_eq_some_getLast b;generalize os.getLast b=y at c;obtain⟨g,A,rfl,S,f,H,I,i⟩:=d.some b;have T:1<=os.length:=List.length_pos_iff.2 b;have hy:os[os.length - 1]?=some y:=by rw[<-c,List.getLast?_eq_getElem?]
 have hc:=f (os.length - 1) y hy;have U:∀o,(w.alloc o).cell? ⟨g,os.length - 1,none⟩=some (qB y):=fun o=>(World.cell?_alloc_lt _ _ _ I).trans hc;have J:=hide i;have V:decide ((os.length:Int) - 1<0)=false:=by simp;omega
 have W:(0:Int)<=(os.length:Int) - 1:=qo;have Y:(os.length:Int) - 1<=(A:Int):=qo;have Z:(os.length:Int) - 1<(os.length:Int):=qo;by_cases h4:y=4
 .subst h4;have HH:qh (je os a 5=.ok (os.dropLast++[5])):=by show je os a 5=_;simp[je,c]
  have K:qh (∀j l,((w.alloc j).alloc l).ownsRow 0 5 1 (.slice (some (qA g 0)) (os.length - 1) A) (os.length - 1) (byteCells os.dropLast)):=fun j l=>by
   have q:=((J.o (os.length - 1) qo).alloc j).alloc l;have L:=q.own;rw[List.dropLast_eq_take];simpa using L
  clear i d f c hy b;go_enter func237,ntmps237;go_wp2_with (at_builtin;refine wpList_append_lies _ rfl _ _ 86 rfl 0 5 C (qB 0) 1 1 underlying86 D E F G rfl qx _ _ _ rfl (K.o _ _) ⟨w.heap.size+1,0,none⟩ 1 1 [_] rfl rfl (cells_at qs rfl) ?c2 qo ?c3 ?c4 qZ (w.heap.size+1+1) qs ?_)
  case c2=>intro u m;simp at m;subst m;rfl
  case c3=>unfold maxLen;omega
  case c4=>omega
  intro gg aa w3 n p r ab;have X:Kept (fun k=>(Value.slice (some (qA g 0)) os.length A).ownBlock=some k) w w3:=((qr.alloc _).alloc _).trans (Kept.iB p);have M:=hide n;have N:=hide r;clear n r p;go_wp2;go_ret;refine oQ.dW HH.o X ⟨?_,fun g2 s=>?_⟩
  .have e1:os.length - 1+1=os.length:=qo;have:=M.o;simpa [byteCells,e1] using this
  simp[Value.ownBlock] at s;subst s;rcases N.o with hh | hh
  .simp[Value.ownBlock] at hh;subst hh;exact .inl H
  exact .inr qo
 have t4:((y:Int) !=4)=true:=by rw[bne_iff_ne];omega
 have HH:qh (je os a 5=.error (2,a)):=by show je os a 5=_;simp[je,c,h4]
 clear i d f c hy b;exact agk
theorem ZT{ok:qD}{w:qW}{v:qv}{os:qM}{a x:Nat}{c1 c3 c4 c5 d e f g:qv}(b:isOpen ok os w v)(c:os.length<=50)(h:x=11->os≠[]):
  qC 237 #[v,.agg #[qJ a,c1,qB x,c3,c4,c5,d,e,f,g]] w (oQ ok w v (je os a x)):=by
 by_cases U:x=2\/x=3\/x=4
 .exact XE b c U
 by_cases h5:x=5
 .subst h5;exact XG b c
 by_cases h11:x=11
 .subst h11;exact ZR b c (h rfl)
 exact Uf b c qo qo qo h5 h11
theorem Z9{m l fb:Nat}{a:qW}{s:qS}{i n:Nat}{Hl:Nat->Nat->qW->Prop}{Jq:Option (qM)->Nat->(qD)->qW->Prop}{F0:qD}(B:Goes prog m l s n Hl Jq)
  (hf:Rd a fb s i n) (hJ:Jq (some []) i F0 a):
  CallsIn Fence.wide (m+1) prog 236 #[.func (.yield l) #[] #[],qP fb] a (aa5 s n i Hl Jq F0 a):=by
 have bm:=hf;obtain⟨r0,r1,r2,f0,f1,f2,a8,a9,ba⟩:=hf;have bn:=World.block_lt_of_cell? _ _ r0;refine callsIn_of_wp func236 rfl trivial ?_ rfl;simp only[ntmps236,List.size_toArray,List.length_cons,List.length_nil,Nat.reduceAdd,Nat.reduceSub,Array.replicate_succ,Array.replicate_zero,List.push_toArray,List.append_toArray,List.nil_append,List.cons_append];gi_wp2
 gi_loopw [4,5,6] (fun ov _ _ wr=>∃(fuel j:Nat) (os:qM) (F:qD),Rd wr a.heap.size s j n/\Jq (some os) j F wr/\isOpen (fun g=>g≠a.heap.size/\¬F g/\a.heap.size<=g) os wr ov/\os.length<=50/\n - j<=fuel/\
   zk s n i=mo s n fuel os j/\Kept F0 a wr/\(∀k,F k->k<a.heap.size->F0 k)/\¬F a.heap.size) (fun _ _ _ wr=>n - ZH wr a.heap.size)
 case atStart=>refine⟨n - i,i,[],F0,⟨qs,qs,qs,qs,qs,qs,a8,a9,ba⟩,B.still _ _ _ _ _ (fun _=>False) hJ (qr.alloc _) (fun _ _ c=>c.elim),Row.nil _ _ _ _,qs,qR,rfl,qr.alloc _,fun k X _=>X,fun h=>?_⟩;have:=B.lt _ _ _ _ _ hJ h;omega
 obtain⟨fuel,j,os,F,ax,aN,aE,ay,S,aO,T,V,az⟩:=hrel;obtain⟨C,D,rfl⟩:=Row.shape aE;have W:=hide aO;have I:=hide aN;have ac:=hide aE;clear aO aN aE hJ;have bb:=ax.lt;gi_wp2_with fail
 refine⟨trivial,(callsIn_wide.2 (wR ax)).mono ?_⟩;rintro e d ⟨rfl,rfl⟩;gi_wp2_with fail
 refine⟨trivial,(callsIn_wide.2 (sH (ax.alloc _))).mono ?_⟩;rintro e A ⟨ad,aP,aQ⟩;have aF:d.heap.size≠a.heap.size:=qo;have aA:∀k,(Value.slice C os.length D).ownBlock=some k->k≠a.heap.size/\¬F k/\a.heap.size<=k/\k<d.heap.size:=fun k X=>⟨(ac.o.at_ k X).1,(ac.o.at_ k X).2.1,(ac.o.at_ k X).2.2,(ac.o.own.lt k X).2⟩;have Y:∀k,k<a.heap.size->(k=a.heap.size\/(Value.slice C os.length D).ownBlock=some k)->F0 k:=fun k X hh=>hh.elim (fun e=>absurd e qo) (fun e=>absurd (aA k e).2.2.1 qo);have Z:∀k,k<d.heap.size->(k=a.heap.size\/(Value.slice C os.length D).ownBlock=some k)->¬F k:=fun k _ hh=>hh.elim (fun e=>e▸az) (fun e=>(aA k e).2.1);have aB:Kept (fun k=>k=a.heap.size\/(Value.slice C os.length D).ownBlock=some k) d A:=(qr.alloc _).trans (ad.mono (fun _ _ e=>.inl e));by_cases H:j<n
 .obtain⟨v,rfl,hv,XY⟩:=aP _ _ (eB H);obtain rfl:v=qB (bt s j:Nat):=hv;have aG:OB A a.heap.size d.heap.size (sZ j 0 0):=(OB.new (b:=a.heap.size) (g:=d.heap.size) (c:=(sZ j 0 0).toArray) bb rfl).call ad;have aR:isOpen (fun g=>g≠a.heap.size/\¬F g/\a.heap.size<=g/\g≠d.heap.size) os (A.setCell (qA d.heap.size 2) (qB (bt s j:Nat))) (.slice C os.length D):=
   Row.other (Row.call (isOpen.alloc (ac.o.mono (fun g t h=>⟨h.1,h.2.1,h.2.2,qo⟩)) _) ad (fun k X=>X.1)) (fun k X=>X.2.2.2) _
  have aS:OB (A.setCell (qA d.heap.size 2) (qB (bt s j:Nat))) a.heap.size d.heap.size (sZ j 0 (bt s j)):=aG.set 2 (qB (bt s j:Nat));have aT:=XY.dA (o:=2) aF (qB (bt s j:Nat));have aU:Kept (fun k=>k=a.heap.size\/(Value.slice C os.length D).ownBlock=some k) d (A.setCell (qA d.heap.size 2) (qB (bt s j:Nat))):=aB.new qR _;have bc:d.heap.size+1<=A.heap.size:=by have:=ad.size;simpa using this
  obtain⟨⟨I0,J0⟩,⟨I1,J1⟩,⟨I2,J2⟩,⟨I3,J3⟩,⟨I4,J4⟩,⟨I5,J5⟩,⟨I6,J6⟩,⟨I7,J7⟩,⟨I8,J8⟩,⟨I9,J9⟩⟩:=aG.blk.ten;have aV:=hide aR;have aW:=hide aS;clear aR aG aS aP aQ ad aB XY;by_cases x:bt s j=11/\os=[]
  .have aX:(((bt s j:Nat):Int)==11)=true:=by simp[x.1]
   have tl:((os.length:Int)==0)=true:=by simp[x.2]
   have HL:qh (bt s j=11/\os=[]/\os=[]\/¬(bt s j=11/\os=[])/\je os j (bt s j)=.ok os):=.inl ⟨x.1,x.2,x.2⟩;have bd:=hide x;clear x;gi_wp2_with fail
   have x:=bd.o;have aa:=aT;have ae:=aW.o;have ab:=aV.o;have J:=aU;have be:=hide J;refine⟨trivial,(callsIn_wide.2 (zW aa ae)).mono ?_⟩;rintro e K ⟨M,af,ag⟩;have N:Kept (fun k=>k=a.heap.size\/(Value.slice C os.length D).ownBlock=some k) d K:=J.fresh M (fun k X hh=>hh.elim .inl (fun e=>absurd (show k=d.heap.size from e) qo));have ah:Kept F0 a K:=T.fresh N Y;have bf:d.heap.size+1<=A.heap.size:=bc;have bg:A.heap.size<=K.heap.size:=by have:=M.size;simpa using this
   clear J I0 J0 I1 J1 I2 J2 I3 J3 I4 J4 I5 J5 I6 J6 I7 J7 I8 J8 I9 J9;rcases hb:jc j (bt s j) s n (j+1) with⟨q,p⟩|⟨y,r⟩
   .obtain rfl:=ag _ _ hb;exact⟨rfl,⟨ah,.inr (.inl ⟨q,p,W.o.trans (NH S H HL.o hb),rfl,some os,j,F,B.still _ _ _ _ _ _ I.o N Z⟩)⟩⟩
   obtain⟨u,rfl,⟨rfl,gv,lv,aH,O,P⟩,Q⟩:=af _ _ hb;have bh:j+1<=r:=WE hb;have HB:=hide hb;have ai:isOpen (fun g=>g≠a.heap.size/\¬F g/\a.heap.size<=g/\g≠d.heap.size/\g<A.heap.size) os K (.slice C os.length D):=(ab.mono (fun g t h=>⟨h.1,h.2.1,h.2.2.1,h.2.2.2,by simpa using t⟩)).kept M (fun g _ t hh=>hh.elim (fun e=>t.1 e) (fun e=>t.2.2.2.1 e));clear af ag hb aa ae ab M;obtain⟨pg,cg,rfl⟩:=Row.shape O;obtain⟨pl,cl,rfl⟩:=Row.shape P;obtain⟨⟨I0,J0⟩,⟨I1,J1⟩,⟨I2,J2⟩,⟨I3,J3⟩,⟨I4,J4⟩,⟨I5,J5⟩,⟨I6,J6⟩,⟨I7,J7⟩,⟨I8,J8⟩,⟨I9,J9⟩⟩:=aH.blk.ten;have aj:=hide ai;clear ai;gi_wp2_with fail
   refine⟨trivial,(callsIn_wide.2 (wR Q)).mono ?_⟩;rintro e w ⟨rfl,rfl⟩;have ak:Kept (fun k=>k=a.heap.size\/(Value.slice C os.length D).ownBlock=some k) d (w.setCell (qA d.heap.size 1) (qJ r)):=N.new qR _;have am:=B.still _ _ _ _ _ _ I.o ak Z;have an:Kept F0 a (w.setCell (qA d.heap.size 1) (qJ r)):=T.fresh ak Y;have aI:Rd (w.setCell (qA d.heap.size 1) (qJ r)) a.heap.size s r n:=Q.dA aF _;have ao:isOpen (fun g=>g≠a.heap.size/\¬F g/\a.heap.size<=g/\g≠d.heap.size/\g<A.heap.size) os (w.setCell (qA d.heap.size 1) (qJ r)) (.slice C os.length D):=Row.other aj.o (fun k X=>X.2.2.2.1) _;have ap:dG (fun g=>A.heap.size<=g/\g<w.heap.size) y.dH (w.setCell (qA d.heap.size 1) (qJ r)) (.slice pg y.dH.length cg):=Row.other (Row.mono O (fun g t h=>⟨by simpa using h,t⟩)) (fun k X=>qo) _;have aq:isRow 152 2 numCells (fun g=>A.heap.size<=g/\g<w.heap.size) y.dF (w.setCell (qA d.heap.size 1) (qJ r)) (.slice pl y.dF.length cl):=Row.other (Row.mono P (fun g t h=>⟨by simpa using h,t⟩)) (fun k X=>qo) _;obtain⟨f,tmps,assign,body,hy,hR⟩:=B.round os none j F _ r (bt s j) y _ _ (fun g=>A.heap.size<=g/\g<w.heap.size) am Q.le qo ay (.inl ⟨x.1,x.2,rfl⟩) rfl H HB.o ap aq (fun k X=>⟨by simpa using X.2,fun z=>by have:=B.lt _ _ _ _ _ I.o z;omega⟩);rw[x.1] at hy;have aJ:(Instr.yield l #[.agg #[qJ j,qJ r,qB 11,.bool y.typed,.slice pg y.dH.length cg,.int .u32 y.align,.int .u32 y.num.1,qJ y.num.2,.slice pl y.dF.length cl,qJ y.val]]).run prog (w.setCell (qA d.heap.size 1) (qJ r))=.ok (.round l f tmps assign body) (w.setCell (qA d.heap.size 1) (qJ r)):=hy;have HR:=hide hR;have aY:=hide ao;clear hy hR ao ap aq O P am N ah aj;gi_wp2
   refine HR.o.mono ?_;rintro ε w6 (⟨rfl,F',ar,E,au⟩ | ⟨q,p,rfl,hbad,E⟩)
   .have aeQ:Kept F0 a w6:=an.fresh E (fun k X z=>V k z X);have aK:=hide ar;have aC:=hide E;have av:=hide au;clear ar E au HR aJ I0 J0 I1 J1 I2 J2 I3 J3 I4 J4 I5 J5 I6 J6 I7 J7 I8 J8 I9 J9;gi_wp2
    refine bodyPost_ret (results_none rfl _ _ _) rfl ?_;refine⟨aeQ,.inl ⟨r,F',W.o.trans (UB S H x HB.o),rfl,aK.o,fun k X aL=>?_⟩⟩;rcases av.o k X with h | h | h
    .exact V k h aL
    .omega
    simp at h;omega
   exact⟨rfl,⟨an.fresh E (fun k X z=>V k z X),.inr (.inr ⟨q,p,hbad,rfl⟩)⟩⟩
  have aM:=hide x;have aD:=x;have aZ:bt s j=11->os≠[]:=fun U L=>x ⟨U,L⟩;have a0:=hide aZ;clear x aD aZ;have bi:((((bt s j:Nat):Int)==11)=false)\/((((bt s j:Nat):Int)==11)=true/\((os.length:Int)==0)=false):=by
   by_cases U:bt s j=11
   .refine .inr ⟨by simp[U],?_⟩;have h0:os.length≠0:=fun L=>a0.o U (by simpa using L);exact qe
   exact .inl qt
  rcases bi with aX | ⟨aX,tl⟩;all_goals
   gi_wp2_with fail
   refine⟨trivial,(callsIn_wide.2 (ZT aV.o ay a0.o)).mono ?_⟩;rintro e G ⟨aw,a1,a2⟩;have J:Kept (fun k=>k=a.heap.size\/(Value.slice C os.length D).ownBlock=some k) d G:=aU.trans (aw.mono (fun _ _ e=>.inr e));have a3:Kept F0 a G:=T.fresh J Y;rcases R:je os j (bt s j) with⟨q,p⟩|os'
   .obtain rfl:=a2 _ _ R;exact⟨rfl,⟨a3,.inr (.inl ⟨q,p,W.o.trans (Uz S H aM.o R),rfl,some os,j,F,B.still _ _ _ _ _ _ I.o J Z⟩)⟩⟩
   obtain⟨v',rfl,a4⟩:=a1 _ R;have ab:isOpen (fun g=>g≠a.heap.size/\¬F g/\a.heap.size<=g/\g≠d.heap.size) os' G v':=a4.mono (fun g _ t=>t.elim (fun h=>h) (fun h0=>have h:A.heap.size<=g:=(by simpa using h0);⟨qo,fun z=>by have:=B.lt _ _ _ _ _ I.o z;omega,qo,qo⟩));have bj:=Np R ay;have bk:d.heap.size+1<=G.heap.size:=by have:=aw.size;simp at this;omega
   have aa:=aT.kept aw (fun e=>(aA _ e).1 rfl);have ae:=aW.o.kept aw (fun e=>absurd (aA _ e).2.2.2 qo);have HL:qh (bt s j=11/\os=[]/\os'=[]\/¬(bt s j=11/\os=[])/\je os j (bt s j)=.ok os'):=.inr ⟨aM.o,R⟩;have a5:=hide R;obtain⟨a6,a7,rfl⟩:=Row.shape ab;have aD:=aM.o;clear a1 a2 R a4 aw a3 I0 J0 I1 J1 I2 J2 I3 J3 I4 J4 I5 J5 I6 J6 I7 J7 I8 J8 I9 J9;have bo:=hide aa;gi_wp2_with fail
   have be:=hide J;refine⟨trivial,(callsIn_wide.2 (zW aa ae)).mono ?_⟩;rintro e K ⟨M,af,ag⟩;have N:Kept (fun k=>k=a.heap.size\/(Value.slice C os.length D).ownBlock=some k) d K:=J.fresh M (fun k X hh=>hh.elim .inl (fun e=>absurd (show k=d.heap.size from e) qo));have ah:Kept F0 a K:=T.fresh N Y;have bf:d.heap.size+1<=G.heap.size:=bk;have bg:G.heap.size<=K.heap.size:=by have:=M.size;simpa using this
   clear J;rcases hb:jc j (bt s j) s n (j+1) with⟨q,p⟩|⟨y,r⟩
   .obtain rfl:=ag _ _ hb;exact⟨rfl,⟨ah,.inr (.inl ⟨q,p,W.o.trans (NH S H HL.o hb),rfl,some os,j,F,B.still _ _ _ _ _ _ I.o N Z⟩)⟩⟩
   obtain⟨u,rfl,⟨rfl,gv,lv,aH,O,P⟩,Q⟩:=af _ _ hb;have bh:j+1<=r:=WE hb;have HB:=hide hb;have ai:isOpen (fun g=>g≠a.heap.size/\¬F g/\a.heap.size<=g/\g≠d.heap.size/\g<G.heap.size) os' K (.slice a6 os'.length a7):=(ab.mono (fun g t h=>⟨h.1,h.2.1,h.2.2.1,h.2.2.2,by simpa using t⟩)).kept M (fun g _ t hh=>hh.elim (fun e=>t.1 e) (fun e=>t.2.2.2.1 e));clear af ag hb aa ae ab M;obtain⟨pg,cg,rfl⟩:=Row.shape O;obtain⟨pl,cl,rfl⟩:=Row.shape P;obtain⟨⟨I0,J0⟩,⟨I1,J1⟩,⟨I2,J2⟩,⟨I3,J3⟩,⟨I4,J4⟩,⟨I5,J5⟩,⟨I6,J6⟩,⟨I7,J7⟩,⟨I8,J8⟩,⟨I9,J9⟩⟩:=aH.blk.ten;have aj:=hide ai;clear ai;gi_wp2_with fail
   refine⟨trivial,(callsIn_wide.2 (wR Q)).mono ?_⟩;rintro e w ⟨rfl,rfl⟩;have ak:Kept (fun k=>k=a.heap.size\/(Value.slice C os.length D).ownBlock=some k) d (w.setCell (qA d.heap.size 1) (qJ r)):=N.new qR _;have am:=B.still _ _ _ _ _ _ I.o ak Z;have an:Kept F0 a (w.setCell (qA d.heap.size 1) (qJ r)):=T.fresh ak Y;have aI:Rd (w.setCell (qA d.heap.size 1) (qJ r)) a.heap.size s r n:=Q.dA aF _;have ao:isOpen (fun g=>g≠a.heap.size/\¬F g/\a.heap.size<=g/\g≠d.heap.size/\g<G.heap.size) os' (w.setCell (qA d.heap.size 1) (qJ r)) (.slice a6 os'.length a7):=Row.other aj.o (fun k X=>X.2.2.2.1) _;have ap:dG (fun g=>G.heap.size<=g/\g<w.heap.size) y.dH (w.setCell (qA d.heap.size 1) (qJ r)) (.slice pg y.dH.length cg):=Row.other (Row.mono O (fun g t h=>⟨by simpa using h,t⟩)) (fun k X=>qo) _;have aq:isRow 152 2 numCells (fun g=>G.heap.size<=g/\g<w.heap.size) y.dF (w.setCell (qA d.heap.size 1) (qJ r)) (.slice pl y.dF.length cl):=Row.other (Row.mono P (fun g t h=>⟨by simpa using h,t⟩)) (fun k X=>qo) _;obtain⟨f,tmps,assign,body,hy,hR⟩:=B.round os (some os') j F _ r (bt s j) y _ _ (fun g=>G.heap.size<=g/\g<w.heap.size) am Q.le qo ay (.inr ⟨aD,_,a5.o,rfl⟩) rfl H HB.o ap aq (fun k X=>⟨by simpa using X.2,fun z=>by have:=B.lt _ _ _ _ _ I.o z;omega⟩);skip
   have aJ:(Instr.yield l #[.agg #[qJ j,qJ r,qB (bt s j:Nat),.bool y.typed,.slice pg y.dH.length cg,.int .u32 y.align,.int .u32 y.num.1,qJ y.num.2,.slice pl y.dF.length cl,qJ y.val]]).run prog (w.setCell (qA d.heap.size 1) (qJ r))=.ok (.round l f tmps assign body) (w.setCell (qA d.heap.size 1) (qJ r)):=hy;have HR:=hide hR;have aY:=hide ao;clear hy hR ao ap aq O P am N ah aj;gi_wp2
   refine HR.o.mono ?_;rintro ε w6 (⟨rfl,F',ar,E,au⟩ | ⟨q,p,rfl,hbad,E⟩)
   .have aeQ:Kept F0 a w6:=an.fresh E (fun k X z=>V k z X);have aK:=hide ar;have aC:=hide E;have av:=hide au;clear ar E au HR aJ I0 J0 I1 J1 I2 J2 I3 J3 I4 J4 I5 J5 I6 J6 I7 J7 I8 J8 I9 J9;gi_wp2
    go_roundw
    case rel=>
     refine⟨fuel - 1,r,os',F',aI.kept aC.o az,aK.o,?_,bj,qo,W.o.trans (UA S H aD a5.o HB.o),aeQ,fun k X aL=>?_,fun X=>?_⟩
     .refine(aY.o.kept aC.o (fun g _ t=>t.2.1)).mono (fun g _ t=>⟨t.1,fun z=>?_,t.2.2.1⟩);rcases av.o g z with h | h | h
      .exact t.2.1 h
      .omega
      simp at h;omega
     .rcases av.o k X with h | h | h
      .exact V k h aL
      .omega
      simp at h;omega
     rcases av.o _ X with h | h | h
     .exact az h
     .omega
     simp at h;omega
    rw[QE (aI.kept aC.o az),QE ax];omega
   exact⟨rfl,⟨an.fresh E (fun k X z=>V k z X),.inr (.inr ⟨q,p,hbad,rfl⟩)⟩⟩
 obtain rfl:=aQ _ _ (iW H);exact⟨rfl,⟨T.fresh aB Y,.inr (.inl ⟨2,n,W.o.trans (UC S H),rfl,some os,j,F,B.still _ _ _ _ _ _ I.o aB Z⟩)⟩⟩
def iJ(s:qS)(n:Nat):Nat->List Nat->Nat->Except Err (List Nat×Nat)
 | 0,M,j=>.ok (M,j)
 | k+1,M,j=>
  match eZ (50 - M.length) s n j with
  | .error e=>.error e
  | .ok (m,j1)=>
   match kJ s n j1 with
   | .error e=>.error e
   | .ok (kd,j2)=>iJ s n k (M++List.replicate m kd) j2
def nJ(s:qS)(n i:Nat):Except Err (List Nat×Nat):=
 match uM s n i with
 | .error e=>.error e
 | .ok ((v,_),j)=>iJ s n v.toNat [] j
theorem Lu{s:qS}{n k j:Nat}{M:qM}{e:Err}(X:0<k)(h:eZ (50 - M.length) s n j=.error e):iJ s n k M j=.error e:=by
 obtain⟨m,rfl⟩:∃m,k=m+1:=⟨k - 1,qo⟩;simp[iJ,h]
theorem Lt{s:qS}{n k j m a:Nat}{M:qM}{e:Err}(X:0<k)(h:eZ (50 - M.length) s n j=.ok (m,a))(L:kJ s n a=.error e):iJ s n k M j=.error e:=by
 obtain⟨m,rfl⟩:∃m,k=m+1:=⟨k - 1,qo⟩;simp[iJ,h,L]
theorem QZ{s:qS}{n k j m a b c:Nat}{M:qM}(X:0<k)(h:eZ (50 - M.length) s n j=.ok (m,a))(L:kJ s n a=.ok (b,c)):iJ s n k M j=iJ s n (k - 1) (M++List.replicate m b) c:=by
 obtain⟨m,rfl⟩:∃m,k=m+1:=⟨k - 1,qo⟩;simp[iJ,h,L]
theorem Yk{w:qW}{b:Nat}{s:qS}{i n:Nat}(most:Nat){z:Int}(a:z=(most:Int))(h:Rd w b s i n)(c:most<=5000):
  qC 188 #[qP b,qJ z] w (Out w b s n isInt (eZ most s n i)):=by
 subst a;exact count_any most h c
theorem IE{w:qW}{b:Nat}{s:qS}{i n:Nat}(h:Rd w b s i n):
  qC 222 #[qP b] w (Out w b s n (dG (fun g=>w.heap.size<=g)) (nJ s n i)):=by
 obtain⟨i0,ah,ai,aj,ak⟩:=info_parts Tryz.DZ;have ar:=ja;have am:=h.lt;go_enter func222,ntmps222;go_wp2_with fail
 refine(uQ h).mono ?_;rintro e w1 ⟨T,d,f⟩;rcases c:uM s n i with⟨q,p⟩|G
 .obtain rfl:=f _ _ c;exact⟨rfl,Out.dD (by simp[nJ,c]) T⟩
 obtain⟨⟨v,a⟩,U⟩:=G;obtain⟨u,rfl,x,y⟩:=d _ _ c;obtain rfl:u=.agg #[.int .u32 v,qJ a]:=x;obtain⟨v0,v1,-,-,-⟩:=mW c;obtain⟨l,rfl⟩:=Int.eq_ofNat_of_zero_le v0;have V:qh (nJ s n i=iJ s n l [] U):=by show _=_;simp[nJ,c]
 clear d f c v0;go_wp2;go_loopw [3,4,5,9,18,19] (fun lv _ _ q _ _ wr=>∃(k j:Nat) (M:qM),k<=l/\q=.int .u32 k/\M.length<=50/\Rd wr b s j n/\Kept (only b) w wr/\dG (fun g=>w.heap.size<=g) M wr lv/\nJ s n i=iJ s n (l - k) M j)
  (fun _ _ _ q _ _ _=>l - (intOf q).toNat)
 case atStart=>exact⟨0,U,[],qZ,rfl,qs,y,T,Row.nil _ _ _ _,V.o⟩
 obtain⟨k,j,M,X,rfl,au,y,H,z,W⟩:=hrel;have D:=hide W;clear W V;obtain⟨pv,cv,rfl⟩:=Row.shape z;by_cases av:k<l
 .have hlt':(k:Int)<(l:Int):=qo;go_wp2_with fail
  refine(Yk (50 - M.length) qo y qo).mono ?_;rintro e w2 ⟨I,d,f⟩;have J:=H.trans I;have Y:=Row.call z I (fun k X=>qo);clear z I H;rcases c:eZ (50 - M.length) s n j with⟨q,p⟩|G
  .obtain rfl:=f _ _ c;exact⟨rfl,Out.dD (D.o.trans (Lu qo c)) J⟩
  obtain⟨r,j1⟩:=G;obtain⟨u,rfl,x,Z⟩:=d _ _ c;obtain rfl:u=qJ r:=x;have aw:=(gD c).1;have HO:=hide c;clear d f c y;go_wp2_with fail
  refine(y9 Z).mono ?_;rintro e w3 ⟨K,d,f⟩;have aa:=J.trans K;have L:=Row.call Y K (fun k X=>qo);clear Y K J;rcases c:kJ s n j1 with⟨q,p⟩|⟨m,N⟩
  .obtain rfl:=f _ _ c;exact⟨rfl,Out.dD (D.o.trans (Lt qo HO.o c)) aa⟩
  obtain⟨u,rfl,x,an⟩:=d _ _ c;obtain rfl:u=qB m:=x;have O:qh (nJ s n i=iJ s n (l - (k+1)) (M++List.replicate r m) N):=D.o.trans (QZ qo HO.o c);clear d f c Z;go_wp2;go_loopw [3,19] (fun lv q wr=>∃(t:Nat),t<=r/\q=qJ t/\Rd wr b s N n/\Kept (only b) w wr/\dG (fun g=>w.heap.size<=g) (M++List.replicate t m) wr lv) (fun _ q _=>r - (intOf q).toNat)
  case atStart=>exact⟨0,qZ,rfl,an,aa,by simpa [dG] using L⟩
  obtain⟨t,ht,rfl,ab,P,A⟩:=hrel;obtain⟨pt,ct,ac⟩:=Row.shape A;have E:(M++List.replicate t m).length=M.length+t:=qs;rw[E] at ac;subst ac;by_cases ax:t<r
  .have ah3:(t:Int)<(r:Int):=qo;have Q:=(Row.pO (B:=w.heap.size) A (fun g R=>R)).alloc (.cells #[qB m] 187);rw[E] at Q;have F:=hide Q;have ad:M.length+t<=50:=qo;have ae:=hide ad;have ay:=P.size;clear A L ad E Q;go_wp2_with (at_builtin;refine wpList_append_own _ rfl _ _ 196 rfl w.heap.size 187 i0 (qB 0) 1 1 underlying196 ah ai aj ak rfl qx _ _ _ rfl F.o ⟨_,0,none⟩ 1 1 [qB m] rfl rfl ?c1 ?c2 ?c3 ?c4 ?c5 ?_)
   case c1=>exact cell_one_new _ _ _
   case c2=>intro u hu;simp at hu;subst hu;rfl
   case c3=>have:=ae.o;unfold maxLen;omega
   case c4=>have:=ae.o;omega
   case c5=>simp;omega
   intro v' w5 af S _;have ao:=iP (P.alloc _) F.o qR S;have ap:=ny (ab.alloc _) F.o am S;have ag:dG (fun g=>w.heap.size<=g) (M++List.replicate (t+1) m) w5 v':=by
    have:=Row.nS (ok:=fun g=>w.heap.size<=g) af (fun g R _=>R);simpa [dG,kindCells,List.replicate_succ',Nat.add_assoc] using this
   have C:=hide ag;clear af S ag F;go_wp2;go_roundw
   case rel=>exact⟨t+1,qo,by go_num,ap,ao,C.o⟩
   simp[intOf];omega
  have aq:t=r:=qo;subst aq;have C:=hide A;clear A L E;go_wp2;go_roundw
  case rel=>exact⟨k+1,N,M++List.replicate t m,qo,by go_num,qt,ab,P,C.o,O.o⟩
  simp[intOf];omega
 have O:qh (nJ s n i=.ok (M,j)):=by show _=_;rw[D.o,show l - k=0 by omega];rfl
 have C:=hide z;clear z;go_wp2;go_ret;exact Out.dW O.o H C.o y
end Go.Proofs.YtdaafkmhfedkiaaGreat
