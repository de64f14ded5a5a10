import Derived.Test.YtdaafkmhfedkiaaGreatX11
namespace Go.Proofs.YtdaafkmhfedkiaaGreat
set_option maxHeartbeats 6400000
set_option maxRecDepth 100000
open Go.RowKit Go.Proofs.Tryz
section
variable {K O N:qD} {w W:qW} {bb Y:Nat} {lv:qv} {Z:Bd} {s:qS} {m:fE}
theorem zw{pg pl:qO}{cg nl cl:Nat}(h:At K O w W N bb (qP Y) lv Z)(hb:Z.dh≠[])(a e:Nat)(y:ic):
  qC 176 #[qP bb,.agg #[qJ a,qJ e,qB 0,.bool y.typed,.slice pg y.dH.length cg,.int .u32 y.align,.int .u32 y.num.1,qJ y.num.2,.slice pl nl cl,qJ y.val]] W (Ends K O w W (fun k=>k<W.heap.size) bb (qP Y) lv (fe m 0 y Z)):=by
 have f:=hide h.up;clear h;go_enter func176,ntmps176;go_wp2_with fail
 refine(Fx (f.o.alloc _) hb).mono ?_;rintro j l ⟨b,-,-,g⟩;obtain⟨rfl,d⟩:=b _ rfl;have i:=hide d;clear b d;go_wp2;go_end0;exact Ends.dW rfl i.o ((qr.alloc _).trans g)
theorem G9{pg pl:qO}{cg nl cl:Nat}(h:At K O w W N bb (qP Y) lv Z)(a e x:Nat)(y:ic)(b:x≠0)(L:x≠2)(h3:x≠3)(h4:x≠4)(h5:x≠5)(h11:x≠11):
  qC 176 #[qP bb,.agg (yC a e x y (.slice pg y.dH.length cg) (.slice pl nl cl)).toArray] W (Ends K O w W (fun k=>k<W.heap.size) bb (qP Y) lv (fe m x y Z)):=by
 have HA:=hide h.up;have HM:qh (fe m x y Z=.ok Z):=by show _=_;unfold fe;rw[if_neg b,if_neg qo,if_neg h4,if_neg h5,if_neg h11]
 have c:((x:Int)==0)=false:=qe;have d:((x:Int)==2)=false:=qe;have f:((x:Int)==3)=false:=qe;have g:((x:Int)==4)=false:=qe;have i:((x:Int)==5)=false:=qe;have j:((x:Int)==11)=false:=qe;clear h b L h3 h4 h5 h11;go_enter func176,ntmps176;exact ae0
theorem LZ{pg pl:qO}{cg nl cl:Nat}(h:At K O w W N bb (qP Y) lv Z)(hb:Z.dh≠[])(r:MV s K W Y m)(a e:Nat)(y:ic)(hx:0<=y.num.1/\y.num.1<=4294967295)(u:dG K y.dH W (.slice pg y.dH.length cg))(hs:Z.di.length<=798000)(M:Z.dh.length<=54)(x:∀t,fJ m y=.ok t->t.ins.length<=8/\t.outs.length<=8):
  qC 176 #[qP bb,.agg #[qJ a,qJ e,qB 4,.bool y.typed,.slice pg y.dH.length cg,.int .u32 y.align,.int .u32 y.num.1,qJ y.num.2,.slice pl nl cl,qJ y.val]] W (Ends K O w W (fun k=>k<W.heap.size) bb (qP Y) lv (fe m 4 y Z)):=by
 have j:=hide h.up;have z:qh (∀d,At K O w d (fun k=>k<W.heap.size) bb (qP Y) lv Z->qK W d->qC 203 #[qP bb,.agg #[qJ a,qJ e,qB 4,.bool y.typed,.slice pg y.dH.length cg,.int .u32 y.align,.int .u32 y.num.1,qJ y.num.2,.slice pl nl cl,qJ y.val]] d (Says (fun _=>False) d (fJ m y) (isTypeOf K))):=fun d Q A=>Eu Q (r.kept A (fun _ _ _ c=>c)) a e 4 y pg pl cg nl cl hx (Row.kept u A (fun _ _ _ c=>c));have HM:qh (fe m 4 y Z=match fJ m y with | .error e=>.error e | .ok t=>match dP Z [127] with | .error e=>.error e | .ok st1=>jR 4 t st1):=rfl;have B:=hide x;clear h r u x;go_enter func176,ntmps176;go_wp2_with fail
 refine(z.o _ (j.o.alloc _) (qr.alloc _)).mono ?_;rintro C g ⟨i,D,jN⟩;have hA2:=(j.o.alloc (.cells #[qJ a,qJ e,qB 4,.bool y.typed,.slice pg y.dH.length cg,.int .u32 y.align,.int .u32 y.num.1,qJ y.num.2,.slice pl nl cl,qJ y.val] 213)).quiet i;have hl2:Kept (fun k=>k<W.heap.size/\¬K k) W g:=(qr.alloc _).trans (i.mono (fun _ _ c=>c.elim));have E:g.cell? (qA W.heap.size 2)=some (qB 4):=(i.cell (p:=(qA W.heap.size 2)) qs (fun c=>c)).trans qs;have R:W.heap.size<g.heap.size:=by have S:=i.size;simp at S;omega
 rcases hm2:fJ m y with⟨q,p⟩|t
 .exact acW
 obtain⟨v,rfl,vi,vo,rfl,l,n⟩:=D _ hm2;obtain⟨l1,l2⟩:=B.o _ hm2;obtain⟨T,U,rfl⟩:=Row.shape l;obtain⟨V,X,rfl⟩:=Row.shape n;have vK:qh (fe m 4 y Z=match dP Z [127] with | .error e=>.error e | .ok st1=>jR 4 t st1):=by show _=_;rw[HM.o,hm2]
 have F:=hide hA2;have G:=hide l;have H:=hide n;clear D jN hm2 hA2 l n z B HM;go_wp2_with fail
 refine(take_at ((F.o.alloc _).alloc _) hb (eX _ [127] qs rfl qs) (F.o.alloc _).ne qs).mono ?_;rintro C w3 ⟨I,BK,hk3,b⟩;have hl3:=((hl2.alloc _).alloc _).trans b;have ai:=b.size;rcases zD:dP Z [127] with⟨q,p⟩|f
 .exact acV
 obtain⟨rfl,J⟩:=I _ zD;have hf:=eH j.o.tidy.dK zD;have aa:f.dh≠[]:=by rw[hf.1];exact hb
 have ab:f.dh.length<=54:=by rw[hf.1];exact M
 have ac:f.di.length<=799000:=qo;have Tf:qh (fe m 4 y Z=jR 4 t f):=by show _=_;rw[vK.o,zD]
 have aj:w3.cell? (qA W.heap.size 2)=some (qB 4):=(b.cell (p:=(qA W.heap.size 2)) qt (fun c=>Nat.lt_irrefl _ c.1)).trans ((World.cell?_alloc_lt _ _ _ qt).trans ((World.cell?_alloc_lt _ _ _ R).trans E));have L:=((kY.new g #[.slice T t.ins.length U,.slice V t.outs.length X] 198).alloc qs (.cells #[qB 127] 187)).kept b qt (fun c=>by have:=c.1;omega);obtain⟨⟨T0,-⟩,⟨T1,-⟩⟩:=L.two;have ad:=hide (b.kinds (Row.alloc (Row.alloc G.o _) _));have ae:=hide (b.kinds (Row.alloc (Row.alloc H.o _) _));have af:=hide J;clear I BK zD J hf L G H vK E;go_wp2_with fail
 refine(enter_at 4 af.o (fun _=>aa) ad.o ae.o l1 l2 ab ac).mono ?_;rintro C w4 ⟨Po,V9,ag,ah⟩;have hl4:=hl3.ig ah rfl;rcases hm4:jR 4 t f with⟨q,p⟩|ak
 .obtain rfl:=V9 _ _ hm4;exact⟨rfl,Ends.dD (Tf.o.trans hm4) ag hl4⟩
 exact agi
theorem He{pg pl:qO}{cg nl cl:Nat}(h:At K O w W N bb (qP Y) lv Z)(hb:Z.dh≠[])(a e:Nat)(y:ic)(hs:Z.di.length<=798000)(ar:Z.dh.length<=54)(L:2<=Z.dh.length):
  qC 176 #[qP bb,.agg #[qJ a,qJ e,qB 5,.bool y.typed,.slice pg y.dH.length cg,.int .u32 y.align,.int .u32 y.num.1,qJ y.num.2,.slice pl nl cl,qJ y.val]] W (Ends K O w W (fun k=>k<W.heap.size) bb (qP Y) lv (fe m 5 y Z)):=by
 have C:=hide h.up;have n:qh (fe m 5 y Z=match jX Z with | .error e=>.error e | .ok (left,st1)=>jR 5 ⟨left.takes,left.dH⟩ (gQ st1 left.takes)):=rfl;clear h;go_enter func176,ntmps176;go_wp2_with fail
 refine(Ri (C.o.alloc _) hb).mono ?_;rintro D l ⟨E,F,aa,u⟩;have G:Kept (fun k=>k<W.heap.size/\¬K k) W l:=(qr.alloc _).trans u;have ab:W.heap.size<l.heap.size:=by have f:=u.size;simp at f;omega
 have H:l.cell? (qA W.heap.size 2)=some (qB 5):=(u.cell (p:=(qA W.heap.size 2)) qs (fun c=>Nat.lt_irrefl _ c.1)).trans qs;rcases g:jX Z with⟨q,p⟩|⟨left,b⟩
 .obtain rfl:=F _ _ g;exact⟨rfl,Ends.dD (by rw[n.o,g]) aa G⟩
 obtain⟨⟨tv,gv,rfl,v,x⟩,I⟩:=E _ _ g;obtain⟨-,-,-,s2,z,l1,l2⟩:=(uB C.o.tidy hb).2 _ _ g;have ac:b.dh≠[]:=by
  intro c;have f:b.dh.length=0:=by rw[c];rfl
  rw[z] at f;simp at f;omega
 have ad:b.dh.length<=54:=by rw[z];simp;omega
 obtain⟨pt,ct,rfl⟩:=Row.shape v;obtain⟨pq,cq,rfl⟩:=Row.shape x;have A:qh (fe m 5 y Z=jR 5 ⟨left.takes,left.dH⟩ (gQ b left.takes)):=by show _=_;rw[n.o,g]
 have ae:=hide I;have B:=hide v;have M:=hide x;have au:b.di.length<=798000:=qo;clear E F g I v x n s2 z;go_wp2_with fail
 refine(pU (ae.o.alloc _) (Row.alloc B.o _) qo qo).mono ?_;rintro D w3 ⟨P,-,-,i⟩;obtain⟨rfl,Q⟩:=P _ rfl;have af:=G.ig ((qr.alloc _).trans i) rfl;have av:=i.size;have aw:w3.cell? (qA W.heap.size 2)=some (qB 5):=(i.cell (p:=(qA W.heap.size 2)) qt (fun c=>c.1.elim (fun d=>Nat.lt_irrefl _ d) (fun d=>by have f:=d.1;simp at f;omega))).trans ((World.cell?_alloc_lt _ _ _ ab).trans H);have R:=(kY.new l #[qB left.word,.slice pt left.takes.length ct,.slice pq left.dH.length cq,qJ left.dK,.bool left.cut] 247).kept i qs (fun c=>c.1.elim (fun d=>qo) (fun d=>by have f:=d.2;omega));obtain⟨⟨L0,-⟩,⟨L1,-⟩,⟨L2,-⟩,⟨L3,-⟩,⟨L4,-⟩⟩:=R.five;have ag:=hide (i.kinds (Row.alloc B.o _));have ah:=hide (i.kinds (Row.alloc M.o _));have ai:(gQ b left.takes).dh≠[]:=ac;have aj:(gQ b left.takes).dh.length<=54:=ad;have ak:(gQ b left.takes).di.length<=799000:=by simp[gQ];omega
 have am:=hide Q;clear P Q R B M H;generalize gQ b left.takes=an at*;go_wp2_with fail
 refine(enter_at (t:=⟨left.takes,left.dH⟩) 5 am.o (fun _=>ai) ag.o ah.o l1 l2 aj ak).mono ?_;rintro D w4 ⟨S,T,ao,ap⟩;have U:=af.ig ap rfl;rcases j:jR 5 ⟨left.takes,left.dH⟩ an with⟨q,p⟩|ax
 .obtain rfl:=T _ _ j;exact⟨rfl,Ends.dD (A.o.trans j) ao U⟩
 obtain⟨rfl,V⟩:=S _ j;have aq:=hide V;have HE:=hide (A.o.trans j);clear S T j V A;go_wp2;go_end0;exact Ends.dW HE.o aq.o U
theorem Kw{pg pl:qO}{cg nl cl:Nat}(h:At K O w W N bb (qP Y) lv Z)(hb:Z.dh≠[])(a e:Nat)(y:ic)(hs:Z.di.length<=798000):
  qC 176 #[qP bb,.agg #[qJ a,qJ e,qB 11,.bool y.typed,.slice pg y.dH.length cg,.int .u32 y.align,.int .u32 y.num.1,qJ y.num.2,.slice pl nl cl,qJ y.val]] W (Ends K O w W (fun k=>k<W.heap.size) bb (qP Y) lv (fe m 11 y Z)):=by
 have E:=hide h.up;have x:qh (fe m 11 y Z=match jX Z with | .error e=>.error e | .ok (left,st1)=>if left.word=4/\left.takes≠left.dH then .error (4,Z.at_) else .ok (gQ st1 left.dH)):=rfl;clear h;go_enter func176,ntmps176;go_wp2_with fail
 refine(Ri (E.o.alloc _) hb).mono ?_;rintro g M ⟨F,G,P,Q⟩;have n:Kept (fun k=>k<W.heap.size/\¬K k) W M:=(qr.alloc _).trans Q;rcases b:jX Z with⟨q,p⟩|⟨left,t⟩
 .obtain rfl:=G _ _ b;exact⟨rfl,Ends.dD (by rw[x.o,b]) P n⟩
 obtain⟨⟨tv,gv,rfl,z,A⟩,H⟩:=F _ _ b;obtain⟨-,-,R,s2,-,l1,l2⟩:=(uB E.o.tidy hb).2 _ _ b;obtain⟨pt,ct,rfl⟩:=Row.shape z;obtain⟨pq,cq,rfl⟩:=Row.shape A;have d:qh (fe m 11 y Z=if left.word=4/\left.takes≠left.dH then .error (4,Z.at_) else .ok (gQ t left.dH)):=by show _=_;rw[x.o,b]
 have u:=hide H;have I:=hide z;have v:=hide A;have aa:t.di.length<=798000:=qo;clear F G b H z A x s2;by_cases h4:left.word=4
 .have T:((left.word:Int)==4)=true:=by simp[h4]
  by_cases f:left.takes=left.dH
  .have i:qh (fe m 11 y Z=.ok (gQ t left.dH)):=by show _=_;rw[d.o,if_neg (fun c=>c.2 f)]
   have B:qh (decide (left.takes=left.dH)=true):=decide_eq_true f;clear h4 f d;go_wp2_with fail
   refine(Am (Row.alloc I.o _) (Row.alloc v.o _) qo).mono ?_;rintro g U ⟨rfl,V,rfl⟩;rw[B.o];go_wp2_with fail
   refine(pU ((u.o.alloc _).drewN _) (Row.kept (S:=fun _=>False) (Row.alloc v.o _) (qr.drewN _) (fun _ _ _ c=>c)) qo qo).mono ?_;rintro g L ⟨j,-,-,C⟩;obtain⟨rfl,l⟩:=j _ rfl;have D:=hide l;clear j l;go_wp2;go_end0;exact Ends.dW i.o D.o (n.ig (((qr.alloc _).drewN _).trans C) rfl)
  have i:qh (fe m 11 y Z=.error (4,Z.at_)):=by show _=_;rw[d.o,if_pos ⟨h4,f⟩]
  have B:qh (decide (left.takes=left.dH)=false):=decide_eq_false f;clear h4 f d;go_wp2_with fail
  refine(Am (Row.alloc I.o _) (Row.alloc v.o _) qo).mono ?_;rintro g U ⟨rfl,V,rfl⟩;rw[B.o];go_wp2_with fail
  refine(yP ((u.o.alloc _).drewN _)).mono ?_;rintro g L ⟨rfl,rfl⟩;rw[R];exact⟨rfl,Ends.dD i.o ((u.o.alloc _).drewN _).kept ((n.alloc _).drewN _)⟩
 have T:((left.word:Int)==4)=false:=qe;have i:qh (fe m 11 y Z=.ok (gQ t left.dH)):=by show _=_;rw[d.o,if_neg (fun c=>h4 c.1)]
 clear h4 d;go_wp2_with fail
 refine(pU (u.o.alloc _) (Row.alloc v.o _) qo qo).mono ?_;rintro g L ⟨j,-,-,C⟩;obtain⟨rfl,l⟩:=j _ rfl;have D:=hide l;clear j l;go_wp2;go_end0;exact Ends.dW i.o D.o (n.ig ((qr.alloc _).trans C) rfl)
end
section
variable {K O N:qD} {w W:qW} {bb Y:Nat} {lv:qv} {Z:Bd} {s:qS} {m:fE}
theorem DX(h:At K O w W N bb (qP Y) lv Z)(x:Int×Nat)(hx:0<=x.1/\x.1<=4294967295):
  qC 206 #[qP bb,.agg #[.int .u32 x.1,qJ x.2]] W (Says (fun _=>False) W (jB Z x) (fun ks w' v=>dG K ks w' v)):=by
 have b:=h.zK;obtain⟨c,d,a⟩:=h.body;exact XQ a hx qo
theorem At.short(h:At K O w W N bb (qP Y) lv Z){x:Int×Nat}{ks:qM}(hx:0<=x.1/\x.1<=4294967295)(a:jB Z x=.ok ks):ks.length<=8:=
 (xw (N:=x.2) h.tidy ⟨hx.1,hx.2,qR⟩).2 ks a
theorem Qc{pg pl:qO}{ng cg nl cl:Nat}(h:At K O w W N bb (qP Y) lv Z)(hb:Z.dh≠[])(a e:Nat)(y:ic)(hx:0<=y.num.1/\y.num.1<=4294967295):
  qC 177 #[qP bb,.agg #[qJ a,qJ e,qB 12,.bool y.typed,.slice pg ng cg,.int .u32 y.align,.int .u32 y.num.1,qJ y.num.2,.slice pl nl cl,qJ y.val]] W (Ends K O w W (fun k=>k<W.heap.size) bb (qP Y) lv (eT m 12 y Z)):=by
 have b:=hide h.up;have HM:qh (eT m 12 y Z=match jB Z y.num with | .error e=>.error e | .ok ks=>match dP Z ks with | .error e=>.error e | .ok st1=>.ok (gU st1)):=rfl;have n:¬K bb:=fun c=>h.body.x8 bb h.body.own c;clear h;go_enter func177,ntmps177;go_wp2_with fail
 refine(DX (b.o.alloc _) y.num hx).mono ?_;rintro ee r ⟨f,g,jN⟩;have hA2:=(b.o.alloc (.cells #[qJ a,qJ e,qB 12,.bool y.typed,.slice pg ng cg,.int .u32 y.align,.int .u32 y.num.1,qJ y.num.2,.slice pl nl cl,qJ y.val] 213)).quiet f;have hl2:Kept (fun k=>k<W.heap.size/\¬K k) W r:=(qr.alloc _).trans (f.mono (fun _ _ c=>c.elim));rcases hm2:jB Z y.num with⟨q,p⟩|ks
 .exact acW
 obtain⟨v,rfl,d⟩:=g _ hm2;have l1:=b.o.short hx hm2;obtain⟨z,A,rfl⟩:=Row.shape d;have vK:qh (eT m 12 y Z=match dP Z ks with | .error e=>.error e | .ok st1=>.ok (gU st1)):=by show _=_;rw[HM.o,hm2]
 have t:=hide hA2;have u:=hide d;clear g jN hm2 hA2 d HM;go_wp2_with fail
 refine(take_at t.o hb u.o n qo).mono ?_;rintro ee B ⟨i,BK,hk3,x⟩;have hl3:=hl2.ig x rfl;rcases zD:dP Z ks with⟨q,p⟩|j
 .exact acV
 obtain⟨rfl,l⟩:=i _ zD;have hf:=eH b.o.tidy.dK zD;have hb3:j.dh≠[]:=by rw[hf.1];exact hb
 have Tf:qh (eT m 12 y Z=.ok (gU j)):=by show _=_;rw[vK.o,zD]
 have HA3:=hide l;clear i BK zD l hf vK;exact agv
theorem Kv{pg pl:qO}{ng cg nl cl:Nat}(h:At K O w W N bb (qP Y) lv Z)(hb:Z.dh≠[])(a e:Nat)(y:ic)(hx:0<=y.num.1/\y.num.1<=4294967295)(hs:Z.di.length<=798000):
  qC 177 #[qP bb,.agg #[qJ a,qJ e,qB 13,.bool y.typed,.slice pg ng cg,.int .u32 y.align,.int .u32 y.num.1,qJ y.num.2,.slice pl nl cl,qJ y.val]] W (Ends K O w W (fun k=>k<W.heap.size) bb (qP Y) lv (eT m 13 y Z)):=by
 have f:=hide h.up;have HM:qh (eT m 13 y Z=match jB Z y.num with | .error e=>.error e | .ok ks=>match dP Z [127] with | .error e=>.error e | .ok st1=>match dP st1 ks with | .error e=>.error e | .ok d=>.ok (gQ d ks)):=rfl;have S:¬K bb:=fun c=>h.body.x8 bb h.body.own c;clear h;go_enter func177,ntmps177;go_wp2_with fail
 refine(DX (f.o.alloc _) y.num hx).mono ?_;rintro i n ⟨t,u,jN⟩;have hA2:=(f.o.alloc (.cells #[qJ a,qJ e,qB 13,.bool y.typed,.slice pg ng cg,.int .u32 y.align,.int .u32 y.num.1,qJ y.num.2,.slice pl nl cl,qJ y.val] 213)).quiet t;have hl2:Kept (fun k=>k<W.heap.size/\¬K k) W n:=(qr.alloc _).trans (t.mono (fun _ _ c=>c.elim));rcases hm2:jB Z y.num with⟨q,p⟩|ks
 .exact acW
 obtain⟨v,rfl,j⟩:=u _ hm2;have l1:=f.o.short hx hm2;obtain⟨pk,ck,rfl⟩:=Row.shape j;have vK:qh (eT m 13 y Z=match dP Z [127] with | .error e=>.error e | .ok st1=>match dP st1 ks with | .error e=>.error e | .ok d=>.ok (gQ d ks)):=by show _=_;rw[HM.o,hm2]
 have x:=hide hA2;have z:=hide j;clear u jN hm2 hA2 j HM;go_wp2_with fail
 refine(take_at (x.o.alloc _) hb (eX n [127] rfl rfl qs) x.o.ne qs).mono ?_;rintro i w3 ⟨A,BK,hk3,B⟩;have hl3:=hl2.ig ((qr.alloc _).trans B) rfl;have C:=hide (B.kinds (Row.alloc z.o _));rcases zD:dP Z [127] with⟨q,p⟩|g
 .exact acV
 obtain⟨rfl,D⟩:=A _ zD;have hf:=eH f.o.tidy.dK zD;have T:g.dh≠[]:=by rw[hf.1];exact hb
 have ae:g.di.length<=798000:=qo;have l:qh (eT m 13 y Z=match dP g ks with | .error e=>.error e | .ok d=>.ok (gQ d ks)):=by show _=_;rw[vK.o,zD]
 have E:=hide D;clear A BK zD D hf vK z;go_wp2_with fail
 refine(take_at E.o T C.o S qo).mono ?_;rintro i w4 ⟨F,G,U,H⟩;have I:=hl3.ig H rfl;have V:=hide (H.kinds C.o);rcases b:dP g ks with⟨q,p⟩|L
 .obtain rfl:=G _ _ b;exact⟨rfl,Ends.dD (by rw[l.o,b]) U I⟩
 obtain⟨rfl,M⟩:=F _ b;have hf:=eH E.o.tidy.dK b;have af:L.di.length<=798000:=qo;have aa:qh (eT m 13 y Z=.ok (gQ L ks)):=by show _=_;rw[l.o,b]
 have ab:=hide M;clear F G b M hf l;go_wp2_with fail
 refine(pU ab.o V.o qo qo).mono ?_;rintro i w5 ⟨Q,-,-,ac⟩;obtain⟨rfl,R⟩:=Q _ rfl;have ad:=hide R;clear Q R;go_wp2;go_end0;exact Ends.dW aa.o ad.o (I.ig ac rfl)
theorem FE{pg pl:qO}{ng cg nl cl:Nat}(h:At K O w W N bb (qP Y) lv Z)(hb:Z.dh≠[])(a e:Nat)(y:ic):
  qC 177 #[qP bb,.agg #[qJ a,qJ e,qB 15,.bool y.typed,.slice pg ng cg,.int .u32 y.align,.int .u32 y.num.1,qJ y.num.2,.slice pl nl cl,qJ y.val]] W (Ends K O w W (fun k=>k<W.heap.size) bb (qP Y) lv (eT m 15 y Z)):=by
 have j:=hide h.up;have x:¬K bb:=fun c=>h.body.x8 bb h.body.own c;have L:=h.body.lt;have M:0<Z.dh.length:=by
  have:Z.dh.length≠0:=by simpa using hb
  omega
 obtain⟨Q,R,d⟩:=h.body;have S:=d.blk.five.2.2.2.1.1;obtain⟨g,A,T,U,rfl,V,X,aa,z,f,B,C,D,E,F⟩:=Au d.zK (k:=Z.dh.length - 1) qo;obtain⟨pq,cq,rfl⟩:=Row.shape f;have l:(Z.dh.length - 1 - (Z.dh.length - 1))*5+2=2:=qo;rw[l] at D;have n:qh ((Z.dh.getD (Z.dh.length - 1) uk.none).dH=Z.dh[Z.dh.length - 1].dH):=by show _=_;rw[List.getD_eq_getElem?_getD,List.getElem?_eq_getElem qo];rfl
 have i:qh (eT m 15 y Z=match dP Z Z.dh[Z.dh.length - 1].dH with | .error e=>.error e | .ok st1=>.ok (gU st1)):=by
  show _=_;rw[<-n.o];rfl
 have l1:Z.dh[Z.dh.length - 1].dH.length<=8:=(h.tidy.short _ (List.getElem_mem _)).2;have G:=hide f;have ab:(0:Int)<(Z.dh.length:Int):=qo;clear h d z f B C E F n l;generalize Z.dh[Z.dh.length - 1].dH=ks at*;go_enter func177,ntmps177;go_wp2_with fail
 refine(take_at (j.o.alloc _) hb (Row.alloc G.o _) x qo).mono ?_;rintro ee H ⟨r,t,I,J⟩;have hl3:Kept (fun k=>k<W.heap.size/\¬K k) W H:=(qr.alloc _).trans J;rcases b:dP Z ks with⟨q,p⟩|u
 .obtain rfl:=t _ _ b;exact⟨rfl,Ends.dD (by rw[i.o,b]) I hl3⟩
 obtain⟨rfl,v⟩:=r _ b;have hf:=eH j.o.tidy.dK b;have hb3:u.dh≠[]:=by rw[hf.1];exact hb
 have Tf:qh (eT m 15 y Z=.ok (gU u)):=by show _=_;rw[i.o,b]
 have HA3:=hide v;clear r t b v hf i;exact agv
theorem At.tabs(h:At K O w W N bb (qP Y) lv Z)(a:MV s K W Y m):W.cell? (qA bb 0)=some (qP Y)/\∃p c,W.cell? (qA Y 2)=some (.slice p m.tables.length c):=by
 obtain⟨i,j,b⟩:=h.body;obtain⟨-,f,d,e⟩:=a;obtain⟨p,c,g⟩:=Row.shape e.L;exact⟨b.blk.five.1.1,p,c,by rw[<-g];exact d.twelve.1.2.2.1.1⟩
theorem CZ{pg pl:qO}{ng cg nl cl:Nat}(h:At K O w W N bb (qP Y) lv Z)(hb:Z.dh≠[])(a e:Nat)(y:ic)(hx:0<=y.num.1/\y.num.1<=4294967295)(hs:Z.di.length<=798000)(d:MV s K W Y m)(n:∀t,kG m y.num=.ok t->t.ins.length<=8/\t.outs.length<=8):
  qC 177 #[qP bb,.agg #[qJ a,qJ e,qB 17,.bool y.typed,.slice pg ng cg,.int .u32 y.align,.int .u32 y.num.1,qJ y.num.2,.slice pl nl cl,qJ y.val]] W (Ends K O w W (fun k=>k<W.heap.size) bb (qP Y) lv (eT m 17 y Z)):=by
 have HA:=hide h.up;have E:=hide d;have r:=hide n;have aa:=h.body.lt;have ab:=d.lt;obtain⟨F,p2,c2,G⟩:=h.tabs d;clear h d n;by_cases hz:m.tables.length=0
 .have HM:qh (eT m 17 y Z=.error (3,Z.at_)):=by show _=_;simp[eT,hz]
  go_enter func177,ntmps177;exact agu
 have HM:qh (eT m 17 y Z=match kG m y.num with | .error e=>.error e | .ok t=>match dP Z [127] with | .error e=>.error e | .ok st1=>rC t st1):=by
  show _=_;show(if m.tables.length=0 then _ else _)=_;rw[if_neg hz]<;>rfl
 go_enter func177,ntmps177;go_wp2_with fail
 refine(sO (HA.o.alloc _) _).mono ?_;rintro ee w1 ⟨rfl,he⟩;rw[if_neg hz] at he;subst he;go_wp2_with fail
 refine(MK (HA.o.alloc _) (E.o.kept ((Kept.refl (fun _=>False) _).alloc _) (fun _ _ _ c=>c)) y.num hx).mono ?_;rintro ee g ⟨i,u,jN⟩;have hA2:=(HA.o.alloc (.cells #[qJ a,qJ e,qB 17,.bool y.typed,.slice pg ng cg,.int .u32 y.align,.int .u32 y.num.1,qJ y.num.2,.slice pl nl cl,qJ y.val] 213)).quiet i;have hl2:Kept (fun k=>k<W.heap.size/\¬K k) W g:=(qr.alloc _).trans (i.mono (fun _ _ c=>c.elim));have ac:W.heap.size<g.heap.size:=by have H:=i.size;simp at H;omega
 rcases hm2:kG m y.num with⟨q,p⟩|t
 .exact acW
 obtain⟨v,rfl,vi,vo,rfl,j,l⟩:=u _ hm2;obtain⟨l1,l2⟩:=r.o _ hm2;obtain⟨I,J,rfl⟩:=Row.shape j;obtain⟨L,M,rfl⟩:=Row.shape l;have vK:qh (eT m 17 y Z=match dP Z [127] with | .error e=>.error e | .ok st1=>rC t st1):=by show _=_;rw[HM.o,hm2]
 have x:=hide hA2;have z:=hide j;have A:=hide l;clear u jN hm2 hA2 j l r HM F G;go_wp2_with fail
 refine(take_at ((x.o.alloc _).alloc _) hb (eX _ [127] qs rfl qs) (x.o.alloc _).ne qs).mono ?_;rintro ee w3 ⟨B,BK,hk3,b⟩;have hl3:=((hl2.alloc _).alloc _).trans b;have ad:=b.size;rcases zD:dP Z [127] with⟨q,p⟩|f
 .exact acV
 obtain⟨rfl,C⟩:=B _ zD;have hf:=eH HA.o.tidy.dK zD;have Q:f.dh≠[]:=by rw[hf.1];exact hb
 have R:f.di.length<=799000:=qo;have Tf:qh (eT m 17 y Z=rC t f):=by show _=_;rw[vK.o,zD]
 have D:=((kY.new g #[.slice I t.ins.length J,.slice L t.outs.length M] 198).alloc qs (.cells #[qB 127] 187)).kept b qt (fun c=>by have:=c.1;omega);obtain⟨⟨T0,-⟩,⟨T1,-⟩⟩:=D.two;have S:=hide (b.kinds (Row.alloc (Row.alloc z.o _) _));have T:=hide (b.kinds (Row.alloc (Row.alloc A.o _) _));have U:=hide C;clear B BK zD C hf D z A vK;go_wp2_with fail
 refine(WA U.o Q S.o T.o l1 l2 R).mono ?_;rintro ee w4 ⟨Po,V9,V,X⟩;have hl4:=hl3.ig X rfl;rcases hm4:rC t f with⟨q,p⟩|ae
 .obtain rfl:=V9 _ _ hm4;exact⟨rfl,Ends.dD (Tf.o.trans hm4) V hl4⟩
 exact agi
theorem At.fns(h:At K O w W N bb (qP Y) lv Z)(a:MV s K W Y m):W.cell? (qA bb 0)=some (qP Y)/\∃p c,W.cell? (qA Y 1)=some (.slice p m.funcs.length c):=by
 obtain⟨i,j,b⟩:=h.body;obtain⟨-,f,d,e⟩:=a;obtain⟨p,c,g⟩:=Row.shape e.U;exact⟨b.blk.five.1.1,p,c,by rw[<-g];exact d.twelve.1.2.1.1⟩
theorem At.mp(h:At K O w W N bb (qP Y) lv Z):W.cell? (qA bb 0)=some (qP Y):=by
 obtain⟨b,c,a⟩:=h.body;exact a.blk.five.1.1
end
section
variable {K O N:qD} {w W:qW} {bb Y:Nat} {lv:qv} {Z:Bd} {s:qS} {m:fE}
theorem Z8{y:ic}:eT m 16 y Z=match fT y.num m.funcs.length with | .error e=>.error e | .ok f=>rC (fM m f) Z:=rfl
theorem Eo{pg pl:qO}{ng cg nl cl:Nat}(h:At K O w W N bb (qP Y) lv Z)(a e:Nat)(y:ic)(d:Int)(g:Nat)(hy:y.num=(d,g))(q:0<=d)(U:d<=4294967295)(j:MV s K W Y m)(r:¬d<(m.funcs.length:Int)):
  qC 177 #[qP bb,.agg #[qJ a,qJ e,qB 16,.bool y.typed,.slice pg ng cg,.int .u32 y.align,.int .u32 d,qJ g,.slice pl nl cl,qJ y.val]] W (Ends K O w W (fun k=>k<W.heap.size) bb (qP Y) lv (eT m 16 y Z)):=by
 have HA:=hide h.up;have hbw:=h.body.lt;have hmw:=j.lt;obtain⟨I0,l,c1,F1⟩:=h.fns j;have HM:qh (eT m 16 y Z=.error (3,g)):=by
  show _=_;rw[Z8,hy];simp[fT,r]
 have n:(fun w':qW=>w'.cell? (qA bb 0)=some (qP Y)/\w'.cell? (qA Y 1)=some (.slice l m.funcs.length c1)/\w'.cell? (qA W.heap.size 6)=some (.int .u32 d)/\w'.cell? (qA W.heap.size 7)=some (qJ g)) ((W.alloc (.cells #[qJ a,qJ e,qB 16,.bool y.typed,.slice pg ng cg,.int .u32 y.align,.int .u32 d,qJ g,.slice pl nl cl,qJ y.val] 213)).drew):=by
  exact agl
 have b:=hide n;clear h j n hy;go_enter func177,ntmps177;go_wp2_with fail
 refine wp_region_held_drew (S:=fun w':qW=>w'.cell? (qA bb 0)=some (qP Y)/\w'.cell? (qA Y 1)=some (.slice l m.funcs.length c1)/\w'.cell? (qA W.heap.size 6)=some (.int .u32 d)/\w'.cell? (qA W.heap.size 7)=some (qJ g)) qk b.o (fun _=>?_);refine jK 0 b.o ?_;refine jK 1 b.o ?_;refine jK 2 b.o ?_;refine jK 3 b.o ?_;refine jK 4 b.o ?_;refine jK 5 b.o ?_;refine jK 6 b.o ?_;refine jK 7 b.o ?_;refine jK 8 b.o ?_;refine jK 9 b.o ?_;refine jK 10 b.o ?_;refine jK 11 b.o ?_;refine jK 12 b.o ?_;refine jK 13 b.o ?_;refine jK 14 b.o ?_;refine wpAnyH_all (rs:=[15]) qk qs ?_;intro i p;rw[List.mem_singleton] at p;subst p;refine rH (f:=84) (args:= #[.agg #[.int .u32 d,qJ g],qJ m.funcs.length]) rfl rfl qk (pI _ qo q U) ?_;exact agh
theorem FH{pg pl:qO}{ng cg nl cl:Nat}(h:At K O w W N bb (qP Y) lv Z)(hb:Z.dh≠[])(a e:Nat)(y:ic)(f d:Nat)(hy:y.num=((f:Int),d))(U:(f:Int)<=4294967295)(l:MV s K W Y m)(ad:(f:Int)<(m.funcs.length:Int))(H:∀x∈m.funcs,0<=x.1/\x.1<(m.dm.length:Int))(I:(fM m f).ins.length<=8/\(fM m f).outs.length<=8)(hs:Z.di.length<=798000):
  qC 177 #[qP bb,.agg #[qJ a,qJ e,qB 16,.bool y.typed,.slice pg ng cg,.int .u32 y.align,.int .u32 (f:Int),qJ d,.slice pl nl cl,qJ y.val]] W (Ends K O w W (fun k=>k<W.heap.size) bb (qP Y) lv (eT m 16 y Z)):=by
 have HA:=hide h.up;have ae:=hide l;have hbw:=h.body.lt;have hmw:=l.lt;have af:K Y:=l.1;have E:f<m.funcs.length:=qo;have ag:=hide (H _ (List.getElem_mem E));have h0:(0:Int)<=(f:Int):=qo;obtain⟨I0,A,c1,F1⟩:=h.fns l;have L:qh (eT m 16 y Z=rC (fM m f) Z):=by
  show _=_;rw[Z8,hy];simp[fT,E]
 have M:(fun w':qW=>w'.cell? (qA bb 0)=some (qP Y)/\w'.cell? (qA Y 1)=some (.slice A m.funcs.length c1)/\w'.cell? (qA W.heap.size 6)=some (.int .u32 (f:Int))/\w'.cell? (qA W.heap.size 7)=some (qJ d)) ((W.alloc (.cells #[qJ a,qJ e,qB 16,.bool y.typed,.slice pg ng cg,.int .u32 y.align,.int .u32 (f:Int),qJ d,.slice pl nl cl,qJ y.val] 213)).drew):=by
  exact agl
 have b:=hide M;clear h l M hy H;go_enter func177,ntmps177;go_wp2_with fail
 refine wp_region_held_drew (S:=fun w':qW=>w'.cell? (qA bb 0)=some (qP Y)/\w'.cell? (qA Y 1)=some (.slice A m.funcs.length c1)/\w'.cell? (qA W.heap.size 6)=some (.int .u32 (f:Int))/\w'.cell? (qA W.heap.size 7)=some (qJ d)) qk b.o (fun _=>?_);refine jK 0 b.o ?_;refine jK 1 b.o ?_;refine jK 2 b.o ?_;refine jK 3 b.o ?_;refine jK 4 b.o ?_;refine jK 5 b.o ?_;refine jK 6 b.o ?_;refine jK 7 b.o ?_;refine jK 8 b.o ?_;refine jK 9 b.o ?_;refine jK 10 b.o ?_;refine jK 11 b.o ?_;refine jK 12 b.o ?_;refine jK 13 b.o ?_;refine jK 14 b.o ?_;refine wpAnyH_all (rs:=[15]) qk qs ?_;intro i g;rw[List.mem_singleton] at g;subst g;refine jH (f:=84) (args:= #[.agg #[.int .u32 (f:Int),qJ d],qJ m.funcs.length]) rfl rfl qk (su _ ad h0 U) ?_;rintro Q w2 ⟨rfl,rfl⟩;have R:=((HA.o.alloc (.cells #[qJ a,qJ e,qB 16,.bool y.typed,.slice pg ng cg,.int .u32 y.align,.int .u32 (f:Int),qJ d,.slice pl nl cl,qJ y.val] 213)).drewN 1).alloc (.cells #[.int .u32 (f:Int),qJ d] 152);have ah:=hide R;have T:qK W (((W.alloc (.cells #[qJ a,qJ e,qB 16,.bool y.typed,.slice pg ng cg,.int .u32 y.align,.int .u32 (f:Int),qJ d,.slice pl nl cl,qJ y.val] 213)).drew).alloc (.cells #[.int .u32 (f:Int),qJ d] 152)):=((qr.alloc _).drew).alloc _;have V:qh ((fun w':qW=>w'.cell? (qA bb 0)=some (qP Y)/\w'.cell? (qA Y 1)=some (.slice A m.funcs.length c1)/\w'.cell? (qA W.heap.size 6)=some (.int .u32 (f:Int))/\w'.cell? (qA W.heap.size 7)=some (qJ d)) (((W.alloc (.cells #[qJ a,qJ e,qB 16,.bool y.typed,.slice pg ng cg,.int .u32 y.align,.int .u32 (f:Int),qJ d,.slice pl nl cl,qJ y.val] 213)).drew).alloc (.cells #[.int .u32 (f:Int),qJ d] 152))):=by
  obtain⟨B,n,t,u⟩:=b.o;exact⟨(World.cell?_alloc_lt _ _ _ qt).trans B,(World.cell?_alloc_lt _ _ _ qt).trans n,(World.cell?_alloc_lt _ _ _ qs).trans t,(World.cell?_alloc_lt _ _ _ qs).trans u⟩
 clear R b;refine .inl ⟨_,rfl,V.o,?_⟩;have z:W.heap.size<(((W.alloc (.cells #[qJ a,qJ e,qB 16,.bool y.typed,.slice pg ng cg,.int .u32 y.align,.int .u32 (f:Int),qJ d,.slice pl nl cl,qJ y.val] 213)).drew).alloc (.cells #[.int .u32 (f:Int),qJ d] 152)).heap.size:=by simp;omega
 refine wpAnyH_all (rs:=[16]) qk qs ?_;intro i g;rw[List.mem_singleton] at g;subst g;refine jH (f:=128) (args:= #[(qP Y),qJ f]) rfl rfl qk (BU f (ae.o.kept T (fun _ _ _ c=>c)) E ag.o) ?_;rintro Q F ⟨j,v,rfl,vi,vo,rfl,k1,k2⟩;have ai:=ah.o.quiet j;have aj:Kept (fun k=>k<W.heap.size/\¬K k) W F:=(T.trans j).mono (fun _ _ c=>c.elim);have aa:qh ((fun w':qW=>w'.cell? (qA bb 0)=some (qP Y)/\w'.cell? (qA Y 1)=some (.slice A m.funcs.length c1)/\w'.cell? (qA W.heap.size 6)=some (.int .u32 (f:Int))/\w'.cell? (qA W.heap.size 7)=some (qJ d)) F):=by
  obtain⟨B,n,t,u⟩:=V.o;exact⟨(j.cell (p:=(qA bb 0)) (Nat.lt_trans hbw z) (fun c=>c)).trans B,(j.cell (p:=(qA Y 1)) (Nat.lt_trans hmw z) (fun c=>c)).trans n,(j.cell (p:=(qA W.heap.size 6)) z (fun c=>c)).trans t,(j.cell (p:=(qA W.heap.size 7)) z (fun c=>c)).trans u⟩
 refine .inl ⟨_,rfl,aa.o,?_⟩;refine wpAnyH_all (rs:=[17]) qk qs ?_;intro i g;rw[List.mem_singleton] at g;subst g;refine jH (f:=208) (args:= #[qP bb,.agg #[vi,vo]]) rfl rfl qk (WA ai hb k1 k2 I.1 I.2 qo) ?_;rintro Q w4 ⟨ak,am,an,C⟩;have ab:=aj.ig C rfl;rcases D:rC (fM m f) Z with⟨q,p⟩|ap
 .obtain rfl:=am _ _ D;exact .inr ⟨_,rfl,rfl,Ends.dD (L.o.trans D) an ab⟩
 obtain⟨rfl,ac⟩:=ak _ D;refine .inl ⟨_,rfl,?_,?_⟩
 .obtain⟨B,n,t,u⟩:=aa.o;have ao:=j.size;have G:W.heap.size<F.heap.size:=Nat.lt_of_lt_of_le z ao;exact⟨ac.mp,(C.cell (p:=(qA Y 1)) (Nat.lt_trans hmw G) (fun c=>c.2 af)).trans n,(C.cell (p:=(qA W.heap.size 6)) G (fun c=>Nat.lt_irrefl _ c.1)).trans t,(C.cell (p:=(qA W.heap.size 7)) G (fun c=>Nat.lt_irrefl _ c.1)).trans u⟩
 refine wpAnyH_done qk ?_ _;go_end0;exact Ends.dW (L.o.trans D) ac ab
end
theorem Tryz.acm:(prog.info? 196).map (fun i=>(i.zero,i.size,i.bytes))=some (some (qN),1,24):=qk
section
variable {K O N:qD} {w W:qW} {bb Y:Nat} {lv:qv} {Z:Bd} {s:qS} {m:fE}
theorem At.aside{b:qv}{S:qD}{e:qW}(h:At K O w W N bb b lv Z)(X:Kept S W e)(a:∀k,S k->¬N k/\¬K k/\w.heap.size<=k):At K O w e N bb b lv Z:=by
 obtain⟨f,g,i⟩:=h.body;refine⟨h.kept.fresh X (fun k j c=>absurd (a k c).2.2 qo),⟨f,g,i.kept X (fun k _ c=>⟨fun d=>(a k c).1 d.2,(a k c).2.1⟩)⟩,h.kb,h.x8,h.tidy,h.zK,h.stk⟩
theorem Ut{c d:qv}{ok:qD}{ks:qM}(h:At K O w W N bb c lv Z)(hb:Z.dh≠[])(X:dG ok ks W d)(f:¬ok bb)(g:ks.length<=50):
  qC 232 #[qP bb,d] W fun e w'=>(∀u,rq Z ks=.ok u->qU e/\At K O w w' N bb c lv Z)/\(∀q p,rq Z ks=.error (q,p)->e=iK q p)/\Kept O w w'/\Kept (fun k=>N k/\¬K k) W w':=by
 obtain⟨r,t,a⟩:=h.body;obtain⟨x,cs,rfl⟩:=Row.shape a.stk;have y:=h.zK;have z:=h.stk;refine(QV a X f (fun _=>hb) qo h.tidy.dK qo g).mono ?_;rintro e w' ⟨i,j,l⟩;have b:Kept (fun k=>More O w k/\N k) W w':=i.mono (fun k _ (e:k=bb)=>e▸a.own);refine⟨fun u n=>?_,l,h.yT b,b.mono (fun k _ hh=>⟨hh.2,h.apart k hh.1⟩)⟩;obtain⟨v,rfl,rfl,o⟩:=j _ n;exact⟨rfl,⟨h.yT b,⟨_,_,o⟩,h.kb,h.x8,h.tidy,h.zK,h.stk⟩⟩
def uC(K:Nat->Prop)(ok:Nat->Prop)(kss:List (List Nat))(w:World)(v:Value):Prop:=
 ∃vs:List Value,Row ok w 196 1 v kss.length vs/\Each (fun ks v=>dG K ks w v) kss vs
theorem uC.kept{S ok:qD}{d:List (qM)}{e:qW}{v:qv}(h:uC K ok d W v)(X:Kept S W e)(U:∀g,g<W.heap.size->ok g->¬S g)(L:∀g,g<W.heap.size->K g->¬S g):uC K ok d e v:=by
 obtain⟨vs,a,b⟩:=h;exact⟨vs,Row.kept a X U,b.to (fun _ _ c=>Row.kept c X L)⟩
theorem Pe{x:Int×Nat}{xs:List (Int×Nat)}{M:List (qM)}{k:Nat}{e:Err}(X:k<xs.length)(hx:xs[k]=x)(h:jB Z x=.error e):jm Z (xs.drop k) M=.error e:=by
 rw[List.drop_eq_getElem_cons X,hx];simp[jm,h]
theorem Rk{x:Int×Nat}{xs:List (Int×Nat)}{M:List (qM)}{k:Nat}{ks:qM}(X:k<xs.length)(hx:xs[k]=x)(h:jB Z x=.ok ks):jm Z (xs.drop k) M=jm Z (xs.drop (k+1)) (M++[ks]):=by
 rw[List.drop_eq_getElem_cons X,hx];simp[jm,h]
theorem Us{last:qM}{a:List (qM)}{k:Nat}{e:Err}(X:k<a.length)(c:a[k].length=last.length)(h:rq Z a[k]=.error e):nE Z last (a.drop k)=.error e:=by
 rw[List.drop_eq_getElem_cons X];unfold nE;rw[if_neg (by simp[c])];unfold rq at h;rcases b:dP Z a[k] with d|u
 .rw[b] at h;cases h;rfl
 rw[b] at h;cases h
theorem XK{last:qM}{a:List (qM)}{k:Nat}{u:Unit}(X:k<a.length)(b:a[k].length=last.length)(h:rq Z a[k]=.ok u):nE Z last (a.drop k)=nE Z last (a.drop (k+1)):=by
 rw[List.drop_eq_getElem_cons X];conv=>lhs;unfold nE
 rw[if_neg (by simp[b])];unfold rq at h;rcases c:dP Z a[k] with d|u
 .rw[c] at h;cases h
 rfl
theorem Ur{last:qM}{a:List (qM)}{k:Nat}(X:k<a.length)(b:a[k].length≠last.length):nE Z last (a.drop k)=.error (4,Z.at_):=by
 rw[List.drop_eq_getElem_cons X];unfold nE;rw[if_pos b]
end
theorem uC.shape{K ok:qD}{a:List (qM)}{W:qW}{v:qv}(h:uC K ok a W v):∃p c,v=.slice p a.length c:=by
 obtain⟨vs,b,-⟩:=h;exact Row.shape b
section
variable {K O N:qD} {w W:qW} {bb Y:Nat} {lv:qv} {Z:Bd} {s:qS} {m:fE}
theorem LU{pg pl:qO}{ng cg cl:Nat}(h:At K O w W N bb (qP Y) lv Z)(hb:Z.dh≠[])(a e x:Nat)(y:ic)(hx:0<=y.num.1/\y.num.1<=4294967295)(aM:∀z∈y.dF,0<=z.1/\z.1<=4294967295)(bD:y.dF.length<=20)(aw:isRow 152 2 numCells K y.dF W (.slice pl y.dF.length cl)):
  qC 207 #[qP bb,.agg (yC a e x y (.slice pg ng cg) (.slice pl y.dF.length cl)).toArray] W (Ends K O w W (fun k=>k<W.heap.size) bb (qP Y) lv (iM y Z)):=by
 obtain⟨i0,a8,a9,ba,bc⟩:=info_parts Tryz.acm;have HA:=hide h.up;have aN:¬K bb:=fun c=>h.body.x8 bb h.body.own c;have bE:w.heap.size<=W.heap.size:=h.kept.size;have aO:=h.kb;have H0:qh (jm Z y.dF []=jm Z (y.dF.drop 0) []):=by show _=_;simp
 have HX:=hide aM;clear h aM;go_enter func207,ntmps207;go_wp2;go_loopw [4,13] (fun ov q wr=>∃(k:Nat) (b:List (qM)),k<=y.dF.length/\b.length=k/\q=qJ k/\At K O w wr (fun k=>k<W.heap.size) bb (qP Y) lv Z/\qK (W.alloc (.cells (yC a e x y (.slice pg ng cg) (.slice pl y.dF.length cl)).toArray 213)) wr/\
   uC K (fun g=>W.heap.size<g) b wr ov/\(∀ks∈b,ks.length<=8)/\jm Z y.dF []=jm Z (y.dF.drop k) b) (fun _ q _=>y.dF.length - (intOf q).toNat)
 case atStart=>exact⟨0,[],qZ,rfl,rfl,HA.o.alloc _,Kept.refl _ _,⟨[],Row.nil _ _ _ _,trivial⟩,qs,H0.o⟩
 obtain⟨k,b,X,bd,rfl,ax,B,ay,aP,ab⟩:=hrel;obtain⟨po,co,rfl⟩:=ay.shape;have f:=hide ab;have am:=hide ax;have an:=hide ay;have H8:=hide aP;have bF:bb<wr.heap.size:=ax.body.lt;have az:isRow 152 2 numCells K y.dF wr (.slice pl y.dF.length cl):=Row.kept (Row.alloc aw _) B (fun _ _ _ c=>c);have be:=B.size;subst bd;clear ab H0 ax ay aP;by_cases ao:b.length<y.dF.length
 .have hlt':(b.length:Int)<(y.dF.length:Int):=qo;obtain⟨g,A,L,-,bf,bg,P⟩:=Row.cells az qo;cases L;have aA:y.dF[b.length]?=some y.dF[b.length]:=List.getElem?_eq_getElem ao;have c0:wr.cell? ⟨g,b.length*2,none⟩=some (.int .u32 y.dF[b.length].1):=(P (b.length*2) qo).trans (flat_get (m:=2) (o:=0) (fun _=>rfl) aA qo);have c1:wr.cell? ⟨g,b.length*2+1,none⟩=some (qJ (y.dF[b.length].2:Nat)):=(P (b.length*2+1) qo).trans (flat_get (m:=2) (o:=1) (fun _=>rfl) aA qo);have hz:=HX.o _ (List.getElem_mem ao);have C:=hide (fun e D=>Pe (Z:=Z) (M:=b) (e:=e) ao rfl D);have HO:=hide (fun ks D=>Rk (Z:=Z) (M:=b) (ks:=ks) ao rfl D);clear P az aA aw;generalize y.dF[b.length]=z at*;go_wp2_with fail
  refine(DX (am.o.alloc _) z hz).mono ?_;rintro Q j ⟨R,ac,ad⟩;have E:=(am.o.alloc (.cells #[.int .u32 z.1,qJ z.2] 152)).quiet R;have ap:qK wr j:=(qr.alloc _).trans R;have bh:Kept (fun k=>k<W.heap.size/\¬K k) W j:=((qr.alloc _).trans (B.mono (fun _ _ c=>c.elim))).trans (ap.mono (fun _ _ c=>c.elim));rcases l:jB Z z with⟨q,p⟩|ks
  .obtain rfl:=ad _ _ l;exact⟨rfl,Ends.dD (by unfold iM;rw[f.o,C.o _ l]) E.kept bh⟩
  obtain⟨v,rfl,F⟩:=ac _ l;have l1:=HA.o.short hz l;obtain⟨pk,ck,rfl⟩:=Row.shape F;have S:=hide (f.o.trans (HO.o _ l));have ae:=hide (an.o.kept ap (fun _ _ _ c=>c) (fun _ _ _ c=>c));have T:=hide E;have H1:=hide F;clear ac ad l E F C HO f c0 c1 an;obtain⟨vs,aB,G⟩:=ae.o;have aQ:=hide (fun o=>(Row.alloc aB o).own);have aR:=hide aB;have aS:=hide G;have bG:=ap.size;clear aB G;go_wp2_with (at_builtin;refine wpList_append_lies _ rfl _ _ 243 rfl 0 196 i0 (qN) 1 24 underlying243 a8 a9 ba bc rfl qx _ _ _ rfl (aQ.o _) ⟨j.heap.size,0,none⟩ 1 1 [_] rfl rfl (cells_at qs rfl) ?c2 qo ?c3 ?c4 qZ (j.heap.size+1) qs ?_)
  case c2=>intro u hu;simp at hu;subst hu;rfl
  case c3=>unfold maxLen;omega
  case c4=>omega
  intro gg bi H aT aU aV bH;have I:∀g,(Value.slice po b.length co).ownBlock=some g->W.heap.size<g:=fun g d=>aR.o.at_ g d;have hG:=Kept.iB aU;have af:=(T.o.alloc (.cells #[.slice pk ks.length ck] 196)).aside hG (fun g d=>⟨fun c=>by have:=I g d;omega,fun c=>by have:=I g d;have:=aO g c;omega,by have:=I g d;omega⟩);have aW:=((B.trans ap).alloc (.cells #[.slice pk ks.length ck] 196)).fresh hG (fun g d c=>by have:=I g c;simp at d;omega);have aC:∀g,K g->¬(Value.slice po b.length co).ownBlock=some g:=fun g d c=>by have:=I g c;have:=aO g d;omega
  have aX:uC K (fun g=>W.heap.size<g) (b++[ks]) H (.slice (some (qA gg 0)) (b.length+1) bi):=by
   refine⟨vs++[.slice pk ks.length ck],⟨by simpa using aT,fun g d=>?_⟩,Each.snoc (aS.o.to (fun _ _ c=>Row.kept (Row.alloc c _) hG (fun g _ d=>aC g d))) (Row.kept (Row.alloc H1.o _) hG (fun g _ d=>aC g d))⟩;simp[Value.ownBlock] at d;subst d;rcases aV with hh | hh
   .exact I _ hh
   simp at be;omega
  have aY:∀z∈b++[ks],z.length<=8:=fun z hz=>by
   rcases List.mem_append.1 hz with hh | hh
   .exact H8.o z hh
   simp at hh;subst hh;exact l1
  have aD:=hide af;have bj:=hide aW;have aE:=hide aX;have bk:=hide aY;clear aT aU aV af aW aX aY hG aC I aR aS aQ H1 T ae;go_wp2;go_roundw
  case rel=>exact⟨b.length+1,b++[ks],qo,qs,by go_num,aD.o,bj.o,aE.o,bk.o,S.o⟩
  simp[intOf];omega
 have HD:qh (jm Z y.dF []=.ok b):=by
  show _=_;rw[f.o,List.drop_eq_nil_of_le qo];rfl
 have bm:wr.cell? (qA W.heap.size 6)=some (.int .u32 y.num.1):=(B.cell (p:=(qA W.heap.size 6)) qs (fun c=>c)).trans qs;have bn:wr.cell? (qA W.heap.size 7)=some (qJ y.num.2):=(B.cell (p:=(qA W.heap.size 7)) qs (fun c=>c)).trans qs;have bo:Kept (fun k=>k<W.heap.size/\¬K k) W wr:=(qr.alloc _).trans (B.mono (fun _ _ c=>c.elim));clear az aw f;go_wp2_with fail
 refine(DX am.o y.num hx).mono ?_;rintro Q j ⟨R,ac,ad⟩;have E:=am.o.quiet R;have aZ:Kept (fun k=>k<W.heap.size/\¬K k) W j:=bo.trans (R.mono (fun _ _ c=>c.elim));rcases l:jB Z y.num with⟨q,p⟩|last
 .obtain rfl:=ad _ _ l;exact⟨rfl,Ends.dD (by unfold iM;rw[HD.o];simp only[l]) E.kept aZ⟩
 obtain⟨v,rfl,F⟩:=ac _ l;have l1:=HA.o.short hx l;obtain⟨pk,ck,rfl⟩:=Row.shape F;have ae:=hide (an.o.kept R (fun _ _ _ c=>c) (fun _ _ _ c=>c));have T:=hide E;have H1:=hide F;have HL:=hide l;clear ac ad l E F an bm bn;go_wp2_with fail
 refine(take_at (T.o.alloc _) hb (eX j [127] rfl rfl qs) T.o.ne qs).mono ?_;rintro Q H ⟨a0,a1,bp,aq⟩;have a2:=aZ.ig ((qr.alloc _).trans aq) rfl;rcases V:dP Z [127] with⟨q,p⟩|i
 .obtain rfl:=a1 _ _ V;exact⟨rfl,Ends.dD (by unfold iM;rw[HD.o];simp only[HL.o,V]) bp a2⟩
 obtain⟨rfl,af⟩:=a0 _ V;have hf:=eH HA.o.tidy.dK V;have aF:i.dh≠[]:=by rw[hf.1];exact hb
 have S:qh (iM y Z=match nE i last b with | .error e=>.error e | .ok _=>match dP i last with | .error e=>.error e | .ok aG=>.ok (gU aG)):=by
  show _=_;unfold iM;rw[HD.o];simp only[HL.o,V];rfl
 have aE:qh (uC K (fun g=>W.heap.size<g/\g<j.heap.size) b H (.slice po b.length co)):=by
  obtain⟨vs,hr,G⟩:=ae.o;have U:uC K (fun g=>W.heap.size<g/\g<j.heap.size) b j (.slice po b.length co):=⟨vs,Row.mono hr (fun g d ho=>⟨ho,d⟩),G⟩;exact(U.kept ((Kept.refl (fun _=>False) _).alloc _) (fun _ _ _ c=>c) (fun _ _ _ c=>c)).kept aq (fun g _ d c=>by have:=c.1;omega) (fun g _ d c=>c.2 d)
 have bq:=hide (aq.kinds (Row.alloc H1.o _));have aD:=hide af;have br:=aq.size;have bI:j.heap.size<H.heap.size:=by simp at br;omega
 have bs:qh (nE i last b=nE i last (b.drop 0)):=by show _=_;simp
 clear a0 a1 V af hf ae H1 HL HD T;go_wp2;go_loopw [33] (fun q w4=>∃k:Nat,k<=b.length/\q=qJ k/\At K O w w4 (fun k=>k<W.heap.size\/(j.heap.size+1<=k/\k<H.heap.size)) bb (qP Y) lv i/\Kept (fun k=>(k<W.heap.size\/(j.heap.size+1<=k/\k<H.heap.size))/\¬K k) H w4/\nE i last b=nE i last (b.drop k)) (fun q _=>b.length - (intOf q).toNat)
 case atStart=>exact⟨0,qZ,rfl,by simpa using aD.o,Kept.refl _ _,bs.o⟩
 obtain⟨t,bJ,rfl,a3,ar,ab⟩:=hrel;have f:=hide ab;have ag:=hide a3;have a4:=aE.o.kept ar (fun g _ d c=>by have:=c.1;omega) (fun g _ d c=>c.2 d);have aH:Kept (fun k=>k<W.heap.size/\¬K k) W _:=a2.ig ar rfl;have bu:=hide (Row.kept bq.o ar (fun g _ d c=>c.2 d));clear ab a3;by_cases ah:t<b.length
 .have afY:(t:Int)<(b.length:Int):=qo;obtain⟨vs,hr,G⟩:=a4;obtain⟨g,A,L,-,bf,bg,P⟩:=Row.cells hr qo;cases L;obtain⟨v,L,aI⟩:=G.get (List.getElem?_eq_getElem ah);obtain⟨pv,cv,rfl⟩:=Row.shape aI;have c0:=(P t qo).trans L;have l2:=H8.o _ (List.getElem_mem ah);have bv:=hide aI;clear P hr G L aI;by_cases aa:b[t].length=last.length
  .have tl:((b[t].length:Int) !=(last.length:Int))=false:=by rw[aa,bne_self_eq_false]
   have C:=hide (fun e D=>Us (Z:=i) (last:=last) (e:=e) ah aa D);have HO:=hide (fun u D=>XK (Z:=i) (last:=last) (u:=u) ah aa D);clear aa;generalize b[t]=ks at*;go_wp2_with fail
   refine(Ut ag.o aF bv.o aN qo).mono ?_;rintro Q w5 ⟨ai,aj,aJ,au⟩;have av:=aH.ig au rfl;rcases n:rq i ks with⟨q,p⟩|u
   .obtain rfl:=aj _ _ n;exact⟨rfl,Ends.dD (by rw[S.o,f.o,C.o _ n]) aJ av⟩
   obtain⟨rfl,ak⟩:=ai _ n;have bw:=hide (f.o.trans (HO.o _ n));have aK:=hide ak;have bz:=ar.trans au;clear ai aj n ak C HO f c0;go_wp2;go_roundw
   case rel=>exact⟨t+1,qo,by go_num,aK.o,bz,bw.o⟩
   simp[intOf];omega
  have tl:((b[t].length:Int) !=(last.length:Int))=true:=by rw[bne_iff_ne];omega
  have C:qh (iM y Z=.error (4,i.at_)):=by show _=_;rw[S.o,f.o,Ur ah aa]
  clear aa;generalize b[t]=ks at*;go_wp2_with fail
  refine(yP ag.o).mono ?_;rintro Q w5 ⟨rfl,rfl⟩;exact⟨rfl,Ends.dD C.o ag.o.kept aH⟩
 have aL:qh (iM y Z=match dP i last with | .error e=>.error e | .ok aG=>.ok (gU aG)):=by
  show _=_;rw[S.o,f.o,List.drop_eq_nil_of_le qo];rfl
 clear a4 f S;go_wp2_with fail
 refine(take_at ag.o aF bu.o aN qo).mono ?_;rintro Q w5 ⟨ai,aj,aJ,au⟩;have av:=aH.ig au rfl;rcases n:dP i last with⟨q,p⟩|a5
 .obtain rfl:=aj _ _ n;exact⟨rfl,Ends.dD (by rw[aL.o,n]) aJ av⟩
 obtain⟨rfl,ak⟩:=ai _ n;have hf:=eH ag.o.tidy.dK n;have bA:a5.dh≠[]:=by rw[hf.1];exact aF
 have f:qh (iM y Z=.ok (gU a5)):=by show _=_;rw[aL.o,n]
 have aK:=hide ak;clear ai aj n ak hf aL;go_wp2_with fail
 refine(Fx aK.o bA).mono ?_;rintro Q w6 ⟨a6,-,-,bB⟩;obtain⟨rfl,a7⟩:=a6 _ rfl;have bC:=hide a7;clear a6 a7;go_wp2;go_end0;exact Ends.dW f.o bC.o (av.ig bB rfl)
end
section
variable {K O N:qD} {w W:qW} {bb Y:Nat} {lv:qv} {Z:Bd} {s:qS} {m:fE}
theorem L6{pg pl:qO}{cg nl cl:Nat}(h:At K O w W N bb (qP Y) lv Z)(hb:Z.dh≠[])(g:MV s K W Y m)(a e x:Nat)(y:ic)(hx:0<=y.num.1/\y.num.1<=4294967295)(i:dG K y.dH W (.slice pg y.dH.length cg))(b:Z.di.length<=798000)(d:Z.dh.length<=54)(h5:x=5->2<=Z.dh.length)(j:∀t,fJ m y=.ok t->t.ins.length<=8/\t.outs.length<=8):
  qC 176 #[qP bb,.agg (yC a e x y (.slice pg y.dH.length cg) (.slice pl nl cl)).toArray] W (Ends K O w W (fun k=>k<W.heap.size) bb (qP Y) lv (fe m x y Z)):=by
 by_cases l:x=0
 .subst l;exact zw h hb a e y
 by_cases f:x=2\/x=3
 .exact G8 h hb g a e x y hx i b d j f
 by_cases h4:x=4
 .subst h4;exact LZ h hb g a e y hx i b d j
 by_cases n:x=5
 .subst n;exact He h hb a e y b d (h5 rfl)
 by_cases h11:x=11
 .subst h11;exact Kw h hb a e y b
 exact G9 h a e x y l (fun c=>f (.inl c)) (fun c=>f (.inr c)) h4 n h11
theorem G6{pg pl:qO}{ng cg cl:Nat}(h:At K O w W N bb (qP Y) lv Z)(hb:Z.dh≠[])(a e:Nat)(y:ic)(hx:0<=y.num.1/\y.num.1<=4294967295)(b:∀z∈y.dF,0<=z.1/\z.1<=4294967295)(f:y.dF.length<=20)(d:isRow 152 2 numCells K y.dF W (.slice pl y.dF.length cl)):
  qC 177 #[qP bb,.agg #[qJ a,qJ e,qB 14,.bool y.typed,.slice pg ng cg,.int .u32 y.align,.int .u32 y.num.1,qJ y.num.2,.slice pl y.dF.length cl,qJ y.val]] W (Ends K O w W (fun k=>k<W.heap.size) bb (qP Y) lv (eT m 14 y Z)):=by
 have g:=hide h.up;have i:=hide b;have j:=hide d;have HN:qh (eT m 14 y Z=iM y Z):=rfl;clear h b d;have r:qh True:=trivial;go_enter func177,ntmps177;go_wp2_with fail
 refine(LU (g.o.alloc _) hb a e 14 y hx i.o f (Row.kept j.o ((Kept.refl (fun _=>False) _).alloc _) (fun _ _ _ c=>c))).mono ?_;rintro t l ⟨hok2,jN,hk2,n⟩;have hlow:Kept (fun k=>k<W.heap.size/\¬K k) W l:=((qr.alloc _).trans n).mono (fun k X c=>⟨X,c.2⟩);rcases hm2:iM y Z with⟨q,p⟩|u
 .exact SS
 exact SX
theorem Ku{pg pl:qO}{ng cg nl cl:Nat}(h:At K O w W N bb (qP Y) lv Z)(a e x:Nat)(y:ic)(b:x≠12)(c:x≠13)(d:x≠14)(f:x≠15)(g:x≠16)(i:x≠17):
  qC 177 #[qP bb,.agg (yC a e x y (.slice pg ng cg) (.slice pl nl cl)).toArray] W (Ends K O w W (fun k=>k<W.heap.size) bb (qP Y) lv (eT m x y Z)):=by
 have HA:=hide h.up;have HM:qh (eT m x y Z=.ok Z):=by show _=_;unfold eT;rw[if_neg b,if_neg c,if_neg d,if_neg f,if_neg g,if_neg i]
 have j:((x:Int)==12)=false:=qe;have l:((x:Int)==13)=false:=qe;have n:((x:Int)==14)=false:=qe;have o:((x:Int)==15)=false:=qe;have p:((x:Int)==16)=false:=qe;have q:((x:Int)==17)=false:=qe;clear h b c d f g i;go_enter func177,ntmps177;exact ae0
theorem Qd{pg pl:qO}{ng cg cl:Nat}(h:At K O w W N bb (qP Y) lv Z)(hb:Z.dh≠[])(b:MV s K W Y m)(a e x:Nat)(y:ic)(hx:0<=y.num.1/\y.num.1<=4294967295)(o:∀z∈y.dF,0<=z.1/\z.1<=4294967295)(p:y.dF.length<=20)(q:isRow 152 2 numCells K y.dF W (.slice pl y.dF.length cl))(c:Z.di.length<=798000)(r:∀x∈m.funcs,0<=x.1/\x.1<(m.dm.length:Int))(u:∀t,kG m y.num=.ok t->t.ins.length<=8/\t.outs.length<=8)(v:∀f,(fM m f).ins.length<=8/\(fM m f).outs.length<=8):
  qC 177 #[qP bb,.agg (yC a e x y (.slice pg ng cg) (.slice pl y.dF.length cl)).toArray] W (Ends K O w W (fun k=>k<W.heap.size) bb (qP Y) lv (eT m x y Z)):=by
 by_cases d:x=12
 .subst d;exact Qc h hb a e y hx
 by_cases g:x=13
 .subst g;exact Kv h hb a e y hx c
 by_cases i:x=14
 .subst i;exact G6 h hb a e y hx o p q
 by_cases j:x=15
 .subst j;exact FE h hb a e y
 by_cases l:x=16
 .subst l;by_cases A:y.num.1<(m.funcs.length:Int)
  .obtain⟨f,hf⟩:∃f:Nat,y.num.1=(f:Int):=⟨y.num.1.toNat,qo⟩;have:=FH (pg:=pg) (pl:=pl) (ng:=ng) (cg:=cg) (nl:=y.dF.length) (cl:=cl) h hb a e y f y.num.2 (by rw[<-hf]) qo b qo r (v f) c;unfold yC;rw[hf];exact this
  exact Eo h a e y y.num.1 y.num.2 rfl hx.1 hx.2 b A
 by_cases n:x=17
 .subst n;exact CZ h hb a e y hx c b u
 exact Ku h a e x y d g i j l n
theorem aaH{j:qO}{c0:Nat}{ls:qM}{pg pl:qO}{cg cl:Nat}(h:At K O w W N bb (qP Y) (.slice j ls.length c0) Z)(hb:Z.dh≠[])(u:MV s K W Y m)(v:dG K ls W (.slice j ls.length c0))(a e x:Nat)(y:ic)(hx:0<=y.num.1/\y.num.1<=4294967295)(A:∀z∈y.dF,0<=z.1/\z.1<=4294967295)(B:y.dF.length<=20)(C:isRow 152 2 numCells K y.dF W (.slice pl y.dF.length cl))(D:dG K y.dH W (.slice pg y.dH.length cg))(E:Z.di.length<=798000)(F:Z.dh.length<=54)(h5:x=5->2<=Z.dh.length)(G:∀x∈m.funcs,0<=x.1/\x.1<(m.dm.length:Int))(H:∀t,fJ m y=.ok t->t.ins.length<=8/\t.outs.length<=8)(I:∀t,kG m y.num=.ok t->t.ins.length<=8/\t.outs.length<=8)(J:∀f,(fM m f).ins.length<=8/\(fM m f).outs.length<=8):
  qC 131 #[qP bb,.agg (yC a e x y (.slice pg y.dH.length cg) (.slice pl y.dF.length cl)).toArray] W (Ends K O w W (fun k=>k<W.heap.size) bb (qP Y) (.slice j ls.length c0) (fI m ls x y Z)):=by
 have g:=hide h.up;have ae:=h.body.lt;have i:∀o,qK W (W.alloc o):=fun o=>(Kept.refl (fun _=>False) _).alloc o;have l:qh ((MV s K (W.alloc (.cells (yC a e x y (.slice pg y.dH.length cg) (.slice pl y.dF.length cl)).toArray 213)) Y m)/\True):=⟨u.kept (i _) (fun _ _ _ c=>c),trivial⟩;have M:qh (dG K ls (W.alloc (.cells (yC a e x y (.slice pg y.dH.length cg) (.slice pl y.dF.length cl)).toArray 213)) (.slice j ls.length c0)):=Row.kept v (i _) (fun _ _ _ c=>c);have Q:qh (dG K y.dH (W.alloc (.cells (yC a e x y (.slice pg y.dH.length cg) (.slice pl y.dF.length cl)).toArray 213)) (.slice pg y.dH.length cg)):=Row.kept D (i _) (fun _ _ _ c=>c);have R:qh (isRow 152 2 numCells K y.dF (W.alloc (.cells (yC a e x y (.slice pg y.dH.length cg) (.slice pl y.dF.length cl)).toArray 213)) (.slice pl y.dF.length cl)):=Row.kept C (i _) (fun _ _ _ c=>c);have S:=And.intro hx (And.intro B F);clear S;have T:=hide A;have V:=hide h5;have aa:=hide G;have ab:=hide H;have ac:=hide I;have ad:=hide J;clear h u v A C D h5 G H I J i;by_cases U:x<=11
 .have HN:qh (fI m ls x y Z=fe m x y Z):=by show _=_;unfold fI;rw[if_pos U]
  have t0:(x:Int)<=11:=qo;clear U;go_enter func131,ntmps131;go_wp2_with fail
  refine(L6 (g.o.alloc _) hb l.o.1 a e x y hx Q.o E F V.o ab.o).mono ?_;rintro n b ⟨hok2,jN,hk2,d⟩;have hlow:Kept (fun k=>k<W.heap.size/\¬K k) W b:=((qr.alloc _).trans d).mono (fun k X c=>⟨X,c.2⟩);rcases hm2:fe m x y Z with⟨q,p⟩|r
  .exact SS
  exact SX
 have t0:¬(x:Int)<=11:=qo;by_cases L:x<=17
 .have HN:qh (fI m ls x y Z=eT m x y Z):=by show _=_;unfold fI;rw[if_neg U,if_pos L]
  have t1:(x:Int)<=17:=qo;clear U L;go_enter func131,ntmps131;go_wp2_with fail
  refine(Qd (g.o.alloc _) hb l.o.1 a e x y hx T.o B R.o E aa.o ac.o ad.o).mono ?_;rintro n b ⟨hok2,jN,hk2,d⟩;have hlow:Kept (fun k=>k<W.heap.size/\¬K k) W b:=((qr.alloc _).trans d).mono (fun k X c=>⟨X,c.2⟩);rcases hm2:eT m x y Z with⟨q,p⟩|r
  .exact SS
  exact SX
 have t1:¬(x:Int)<=17:=qo;by_cases h3:x<=36
 .have HN:qh (fI m ls x y Z=fG m ls x y Z):=by show _=_;unfold fI;rw[if_neg U,if_neg L,if_pos h3]
  have t2:(x:Int)<=36:=qo;clear U L h3;go_enter func131,ntmps131;go_wp2_with fail
  refine(Fy (g.o.alloc _) hb l.o.1 M.o a e x y pg pl _ cg _ cl hx qo).mono ?_;rintro n b ⟨hok2,jN,hk2,d⟩;have hlow:Kept (fun k=>k<W.heap.size/\¬K k) W b:=((qr.alloc _).trans d).mono (fun k X c=>⟨X,c.2⟩);rcases hm2:fG m ls x y Z with⟨q,p⟩|r
  .exact SS
  exact SX
 have t2:¬(x:Int)<=36:=qo;by_cases h4:x<=64
 .have HN:qh (fI m ls x y Z=fD m x y Z):=by show _=_;unfold fI;rw[if_neg U,if_neg L,if_neg h3,if_pos h4]
  have t3:(x:Int)<=64:=qo;clear U L h3 h4;go_enter func131,ntmps131;go_wp2_with fail
  refine(Kq (g.o.alloc _) hb l.o.1 a e x y pg pl _ cg _ cl qo).mono ?_;rintro n b ⟨hok2,jN,hk2,d⟩;have hlow:Kept (fun k=>k<W.heap.size/\¬K k) W b:=((qr.alloc _).trans d).mono (fun k X c=>⟨X,c.2⟩);rcases hm2:fD m x y Z with⟨q,p⟩|r
  .exact SS
  exact SX
 have t3:¬(x:Int)<=64:=qo;have HN:qh (fI m ls x y Z=kz x Z):=by show _=_;unfold fI;rw[if_neg U,if_neg L,if_neg h3,if_neg h4]
 clear U L h3 h4;go_enter func131,ntmps131;go_wp2_with fail
 refine(Ko (g.o.alloc _) hb x qo).mono ?_;rintro n b ⟨hok2,jN,hk2,d⟩;have hlow:Kept (fun k=>k<W.heap.size/\¬K k) W b:=((qr.alloc _).trans d).mono (fun k X c=>⟨X,c.2⟩);rcases hm2:kz x Z with⟨q,p⟩|r
 .exact SS
 exact SX
end
theorem X6(w:qW):qC 173 #[qN,qJ 0] w fun e w'=>e=.returned (qN)/\w'=w:=by
 go_enter func173,ntmps173;go_wp2;go_ret;exact⟨rfl,rfl⟩
theorem X5(w:qW)(n:Nat)(d:0<n)(m:n<=100):qC 173 #[qN,qJ n] w fun e w'=>∃v,e=.returned v/\qK w w'/\dG (fun g=>w.heap.size<=g) [] w' v:=by
 obtain⟨f,h,i,p,j⟩:=info_parts Tryz.DZ;have a:grownCap w n 0 187<=maxLen:=grownCap_le_maxLen w n 0 187 (by unfold maxLen;omega);have b:=grownCap_ge w n 0 187;have k:=hide (Lib.run_append_nil_zeros (P:=prog) w 196 3 196 187 f (qB 0) .i64 .i64 underlying196 rfl h i n d qo qo (by rw[j];omega));have c:=hide (And.intro a b);clear a b;go_enter func173,ntmps173;go_wp2_with (at_builtin;refine Lib.wpList_append_run _ rfl _ _ _ _ rfl _ _ rfl rfl _ _ k.o ?_)
 go_ret;refine⟨_,rfl,(qr.alloc _).drew,⟨⟨rfl,.inr ⟨_,_,_,rfl,qZ,heap_alloc_new w _,qZ,c.o.1,?_,by simp[kindCells]⟩⟩,fun g l=>?_⟩⟩
 .have:=c.o.2;simp[size_zeroCells];omega
 simp[Value.ownBlock] at l;omega
theorem aao(w:qW)(n:Nat)(a:n<=100):qC 173 #[qN,qJ n] w fun e w'=>∃v,e=.returned v/\qK w w'/\dG (fun g=>w.heap.size<=g) [] w' v:=by
 by_cases b:0<n
 .exact X5 w n b a
 obtain rfl:n=0:=qo;refine(X6 w).mono ?_;rintro e w' ⟨rfl,rfl⟩;exact⟨_,rfl,Kept.refl _ _,Row.nil _ _ _ _⟩
theorem wT{w:qW}{d:Array Oper}{rest:List Oper}{o:Oper}{a:Act}{Q:Exit->Act->qW->Prop}{B:Nat}{ok:qD}{us ks:qM}{v f:qv}(i:o.guard=none)(s x:Operand)
  (l:o.op=.call {callee:=.builtin .append,args:= #[s,x],argTypes:= #[196,196]}) (m:a.eval s=v) (b:dG (fun g=>B<=g) us w v) (hx:a.eval x=f) (X:dG ok ks w f) (N:us.length+ks.length<=1000) (O:B<=w.heap.size)
  (h:∀p c w',dG (fun g=>B<=g) (us++ks) w' (.slice p (us.length+ks.length) c)->Kept (fun g=>B<=g) w w'->wpList prog d Q rest (a.put o.dst (.slice p (us.length+ks.length) c)) w'):wpList prog d Q (o::rest) a w:=by
 obtain⟨n,q,C,D,E⟩:=info_parts Tryz.DZ;obtain⟨F,cs,rfl⟩:=Row.shape b;obtain⟨R,G,rfl⟩:=Row.shape X;by_cases r:ks=[]
 .subst r;refine wU i _ _ 196 l 0 187 n 1 underlying196 q _ _ _ m b.own _ _ hx ?_;exact h F cs w (by simpa using b) qr
 have t:0<ks.length:=by
  have:ks.length≠0:=by simpa using r
  omega
 obtain⟨gk,S,H,-,T,U,hcells⟩:=Row.cells X t;cases H;have I:∀j u,(kindCells ks)[j]?=some u->w.cell? ((⟨gk,0,none⟩:Addr).add j)=some u:=by
  exact agw
 have J:∀u∈kindCells ks,u.oneCell'=true:=by
  intro u y;simp[kindCells] at y;obtain⟨x,-,rfl⟩:=y;rfl
 refine wpList_append_lies _ i _ _ 196 l 0 187 n (qB 0) 1 1 underlying196 q C D E rfl qx _ _ _ m b.own ⟨gk,0,none⟩ ks.length G (kindCells ks) hx (by simp[kindCells]) I J t (by unfold maxLen;omega) qo qZ w.heap.size rfl ?_;intro V A W K L M Y;refine h _ _ _ ⟨?_,fun g z=>?_⟩ ((Kept.iB L).mono (fun k _ e=>b.at_ k e))
 .rw[yS,List.length_append];exact K
 simp[Value.ownBlock] at z;subst z;rcases M with hh | hh
 .exact b.at_ _ hh
 omega
theorem U7{ok:qD}{w:qW}{b:Nat}{us vs:qM}{pa pb:qO}{ca cb:Nat}(m:w.cell? (qA b 0)=some (.slice pa us.length ca))(U:w.cell? (qA b 1)=some (.slice pb vs.length cb))(n:b<w.heap.size)(D:dG ok us w (.slice pa us.length ca))(hb:dG ok vs w (.slice pb vs.length cb))(M:us.length<=50)(N:vs.length<=50):
  qC 129 #[.slice (some (qA b 0)) 2 2] w fun e w'=>∃v,e=.returned v/\qK w w'/\dG (fun g=>w.heap.size<=g) (us++vs) w' v:=by
 have E:=hide D;have F:=hide hb;clear D hb;go_enter func129,ntmps129;go_wp2;go_loopw [3,11] (fun z q wr=>w=wr/\((z=qJ 0/\q=qJ 0)\/(z=qJ us.length/\q=qJ 1)\/(z=qJ ((us.length+vs.length:Nat):Nat)/\q=qJ 2))) (fun _ q _=>2 - (intOf q).toNat)
 case atStart=>exact⟨rfl,.inl ⟨rfl,rfl⟩⟩
 obtain⟨rfl,⟨rfl,rfl⟩ | ⟨rfl,rfl⟩ | ⟨rfl,rfl⟩⟩:=hrel
 .go_wp2;go_roundw
  case rel=>exact⟨trivial,.inr (.inl ⟨by go_num,by go_num⟩)⟩
  simp[intOf]
 .go_wp2;go_roundw
  case rel=>exact⟨trivial,.inr (.inr ⟨by go_num,by go_num⟩)⟩
  simp[intOf]
 go_wp2_with fail
 refine(aao _ (us.length+vs.length) qo).mono ?_;rintro e O ⟨v1,rfl,G,u⟩;obtain⟨P,c1,rfl⟩:=Row.shape u;have r:=hide u;have s:=hide G;clear u G;go_wp2;go_loopw [6,27] (fun x q t=>qK w t/\((dG (fun g=>w.heap.size<=g) [] t x/\q=qJ 0)\/(dG (fun g=>w.heap.size<=g) us t x/\q=qJ 1)\/(dG (fun g=>w.heap.size<=g) (us++vs) t x/\q=qJ 2))) (fun _ q _=>2 - (intOf q).toNat)
 case atStart=>exact⟨s.o,.inl ⟨r.o,rfl⟩⟩
 obtain⟨a,⟨d,rfl⟩ | ⟨d,rfl⟩ | ⟨d,rfl⟩⟩:=hrel
 .have f:=hide a;have c0:wr.cell? (qA b 0)=some (.slice pa us.length ca):=(a.cell (p:=(qA b 0)) n (fun c=>c)).trans m;have c1:wr.cell? (qA b 1)=some (.slice pb vs.length cb):=(a.cell (p:=(qA b 1)) n (fun c=>c)).trans U;have y:=a.size;have h:dG ok us wr (.slice pa us.length ca):=Row.kept E.o a (fun _ _ _ c=>c);have i:dG ok vs wr (.slice pb vs.length cb):=Row.kept F.o a (fun _ _ _ c=>c);obtain⟨J,c2,rfl⟩:=Row.shape d;have j:=hide d;have H:=hide h;have I:=hide i;clear d a h i r s m U;go_wp2_with (at_builtin;refine wT rfl _ _ rfl rfl j.o rfl H.o qt y ?_)
  intro K c3 A k l;have B:=hide k;have C:qh (qK w A):=f.o.fresh l (fun g L c=>qo);clear k l;go_wp2;go_roundw
  case rel=>exact⟨C.o,.inr (.inl ⟨by simpa using B.o,by go_num⟩)⟩
  simp[intOf]
 .have f:=hide a;have c0:wr.cell? (qA b 0)=some (.slice pa us.length ca):=(a.cell (p:=(qA b 0)) n (fun c=>c)).trans m;have c1:wr.cell? (qA b 1)=some (.slice pb vs.length cb):=(a.cell (p:=(qA b 1)) n (fun c=>c)).trans U;have y:=a.size;have h:dG ok us wr (.slice pa us.length ca):=Row.kept E.o a (fun _ _ _ c=>c);have i:dG ok vs wr (.slice pb vs.length cb):=Row.kept F.o a (fun _ _ _ c=>c);obtain⟨J,c2,rfl⟩:=Row.shape d;have j:=hide d;have H:=hide h;have I:=hide i;clear d a h i r s m U;go_wp2_with (at_builtin;refine wT rfl _ _ rfl rfl j.o rfl I.o qo y ?_)
  intro K c3 A k l;have B:=hide k;have C:qh (qK w A):=f.o.fresh l (fun g L c=>qo);clear k l;go_wp2;go_roundw
  case rel=>exact⟨C.o,.inr (.inr ⟨by simpa using B.o,by go_num⟩)⟩
  simp[intOf]
 have j:=hide d;have f:=hide a;clear d a r s;go_wp2;go_ret;exact⟨_,rfl,f.o,j.o⟩
def KM(m:fE)(ls:List Nat)(s:qS)(n:Nat)(whole:Except Err Unit)(o:Option (List Nat))(j:Nat)(Z:Bd):Prop:=
 match o with
 | none=>whole=.ok ()
 | some os=>Z.dh.length=os.length+1/\Z.di.length<=16*j/\∃f,n - j<=f/\whole=tu m ls s n f os j Z
theorem WC{j x e n:Nat}{s:qS}{y:ic}(a:j<n)(h:jc j x s n (j+1)=.ok (y,e)):wB n y:=((sI j x).ok qo qo h).2.2
theorem KM.step{m:fE}{ls os:qM}{s:qS}{n N j e x:Nat}{d:Except Err Unit}{l:Option (qM)}{Z:Bd}{y:ic}(w:mK N m)(o:n<=N)(h:KM m ls s n d (some os) j Z)(r:Tidy Z)
  (A:KL os l j x) (hx:x=bt s j) (t:j<n) (C:j<e) (hb:jc j x s n (j+1)=.ok (y,e)):
  (∀q p,fI m ls x y {Z with at_:=j}=.error (q,p)->d=.error (q,p))/\∀J,fI m ls x y {Z with at_:=j}=.ok J->KM m ls s n d l e J/\Tidy J:=by
 obtain⟨U,L,u,D,h3⟩:=h;obtain⟨f,rfl⟩:∃f,u=f+1:=⟨u - 1,qo⟩;have hy:=WC t hb;have B:wB N y:=⟨⟨hy.1.1,hy.1.2.1,Nat.le_trans hy.1.2.2 o⟩,hy.2.1,fun z i=>⟨(hy.2.2.1 z i).1,(hy.2.2.1 z i).2.1,Nat.le_trans (hy.2.2.1 z i).2.2 o⟩,hy.2.2.2⟩;have g:=zu (ls:=ls) w B x {Z with at_:=j} ⟨r.rZ,r.short⟩ (fun c=>by simp at c;rw[c] at U;simp at U) qt;unfold tu at h3;rw[eB t,<-hx] at h3;simp only at h3;rcases A with⟨a,b,k⟩ | ⟨a,v,b,k⟩
 .subst k;rw[if_pos ⟨a,b⟩] at h3;simp only[hb] at h3;refine⟨fun q p hc=>?_,fun J hc=>⟨?_,(g.2 J hc).1⟩⟩
  .rw[h3,hc]
  show d=_;rw[h3,hc];simp[a,b]
 subst k;have E:=BV (os:=os) (os':=v) (j:=j) (x:=x) (.inr ⟨a,v,b,rfl⟩);rw[if_neg a,b] at h3;simp only[hb] at h3;refine⟨fun q p hc=>?_,fun J hc=>⟨⟨?_,?_,?_⟩,(g.2 J hc).1⟩⟩
 .rw[h3,hc]
 .have:=(g.2 J hc).2.2.2;simp at this;omega
 .have:=(g.2 J hc).2.2.1;simp at this;omega
 refine⟨f,qo,?_⟩;rw[h3,hc];simp only[if_neg a]
section
variable {K O N:qD} {w W:qW} {bb Y:Nat} {mp lv:qv} {Z:Bd} {s:qS} {m:fE}
theorem jJ.afN{K':qD}(h:jJ K O w bb mp lv Z)(X:∀k,K k->K' k)(b:∀k,O k->¬K' k)(d:∀k,K' k->k<w.heap.size):jJ K' O w bb mp lv Z:=by
 obtain⟨f,i,h⟩:=h;refine⟨f,i,h.blk,h.own,h.stk,?_,b,d⟩;obtain⟨css,U,L⟩:=h.zK;refine⟨css,U,L.to (fun x cs hx=>⟨?_,hx.2⟩)⟩;obtain⟨j,l,e,a,c⟩:=hx.1;exact⟨j,l,e,Row.mono a (fun g _=>X g),Row.mono c (fun g _=>X g)⟩
theorem jJ.keep{S:qD}(h:jJ K O w bb mp lv Z)(X:Kept S w W)(a:∀k,k<w.heap.size->S k->¬O k/\¬K k):jJ K O W bb mp lv Z:=by
 obtain⟨b,c,h⟩:=h;exact⟨b,c,h.kept X a⟩
theorem jJ.place(h:jJ K O w bb mp lv Z)(j:Nat):jJ K O (w.setCell (qA bb 4) (qJ j)) bb mp lv {Z with at_:=j}:=by
 obtain⟨a,b,h⟩:=h;exact⟨a,b,h.cells (qr.own _) (h.blk.set 4 _) h.stk h.zK⟩
def Gone(K0:Nat->Prop)(w:World)(m:fE)(ls:List Nat)(s:qS)(n:Nat)(whole:Except Err Unit)(vb bb:Nat)(mp lv:Value)(o:Option (List Nat))(j:Nat)(F:Nat->Prop)(W:World):Prop:=
 ∃(K O:Nat->Prop) (Z:Bd),(∀k,K0 k->K k)/\(∀k,F k↔K k\/O k\/k=vb)/\(∀k,O k->k<W.heap.size)/\¬O vb/\¬K vb/\vb<W.heap.size/\
  jJ K O W bb mp lv Z/\Tidy Z/\Kept (fun k=>¬K0 k) w W/\kY W vb [qP bb]/\KM m ls s n whole o j Z
theorem Gone.still{f F S:qD}{g:qW}{ls:qM}{n a j:Nat}{l:Except Err Unit}{o:Option (qM)}(h:Gone f w m ls s n l a bb mp lv o j F W)(X:Kept S W g)(b:∀k,k<W.heap.size->S k->¬F k):Gone f w m ls s n l a bb mp lv o j F g:=by
 obtain⟨K,O,Z,U,L,h3,h4,h5,e,t,u,p,v,h11⟩:=h;have q:=X.size;refine⟨K,O,Z,U,L,fun k x=>Nat.lt_of_lt_of_le (h3 k x) q,h4,h5,Nat.lt_of_lt_of_le e q,t.keep X (fun k r d=>⟨fun c=>b k r d ((L k).2 (.inr (.inl c))),fun c=>b k r d ((L k).2 (.inl c))⟩),u,p.fresh X (fun i y d c=>b i (Nat.lt_of_lt_of_le y p.size) d ((L i).2 (.inl (U i c)))),v.kept X e (fun c=>b a e c ((L a).2 (.inr (.inr rfl)))),h11⟩
theorem Gone.lt{a F:qD}{ls:qM}{n b j k:Nat}{d:Except Err Unit}{o:Option (qM)}(h:Gone a w m ls s n d b bb mp lv o j F W)(e:F k):k<W.heap.size:=by
 obtain⟨K,O,Z,U,L,h3,h4,h5,g,f,i,l,p,h11⟩:=h;rcases(L k).1 e with c | c | c
 .exact f.kb k c
 .exact h3 k c
 omega
end
section
variable {F:Fence} {n:Nat} {P:Program}
theorem Tj{g:FuncId}{id:Nat}{c:Code}{Q:Exit->Act->qW->Prop}{a:Act}{w:qW}(h:Tm g F n P c (fun e a w=>match e with | .normal=>Q .normal a w | .panic d=>Q (.panic d) a w | _=>False) a w):Tm g F n P (.block id c) Q a w:=by
 intro b k cs hf p hb f;have i:(lone (b.atR a (.code (.block id c)::k)) cs w).fenced P F:=fenced_calm hb f rfl;obtain⟨e,j,l,hq,o⟩:=h b (.inBlock id::k) cs hf p hb f;cases e with
 | normal=>exact⟨.normal,j,l,hq,.head i stepR_block (StepsIn.trans o (.one (fenced_calm hb f rfl) stepR_inBlock))⟩
 | panic d=>obtain⟨q,r⟩:=o;exact⟨.panic d,j,l,hq,q,.head i stepR_block r⟩
 | ret=>exact hq.elim
 | exit id=>exact hq.elim
 | goto t=>exact hq.elim
 | outgrown=>exact hq.elim
end
end Go.Proofs.YtdaafkmhfedkiaaGreat
