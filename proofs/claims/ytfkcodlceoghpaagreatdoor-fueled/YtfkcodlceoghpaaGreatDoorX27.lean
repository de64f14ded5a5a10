import Derived.Deep.AppendLies
import Derived.Lib.AppendZeros
import Derived.Test.YtfkcodlceoghpaaGreatDoorX25
namespace Go.Proofs.YtfkcodlceoghpaaGreatDoor
set_option maxHeartbeats 6400000
set_option maxRecDepth 100000
set_option linter.unusedSimpArgs false
set_option linter.unusedVariables false
open Go.RowKit Go.Proofs.Tryz
theorem gY{P:Program}{b:Array Oper}{Q:Exit->Act->qW->Prop}{i:Nat}{K:Act->qW->Prop}{a:Act}{w:qW}{o:Oper}{f:FuncId}{args:Array qv}{R:Ending->qW->Prop}(ho:b[i]?=some o)(c:o.guard=none)
  (d:(execOp a.eval o).run P w=.ok (.enter f args) w) (hc:Calls P f args w R) (h:∀e w',R e w'->(∃v,e=.returned v/\K (a.put o.dst v) w')\/∃chain,e=.panicked chain/\Q (.panic chain) a w'):wpOp P b Q i K a w:=by
 have hw:Region.wanted o (yielded b a.tmps)=true:=by simp[Region.wanted,c]
 unfold wpOp;rw[ho];simp only[hw,qda];unfold Oper.wp;rw[d];refine .inl (hc.mono ?_);intro e w' g;obtain⟨v,rfl,X⟩ | ⟨chain,rfl,j⟩:=h e w' g
 .exact X
 exact j
section
variable {K O N:qD}{w W:qW}{bb Y:Nat}{lv:qv}{Z:Bd}{s:qS}{m:dX}
theorem zM{pg pl:qO}{cg nl cl:Nat}(h:At K O w W N bb (qP Y) lv Z)(hb:Z.dn≠[])(hm:MV s K W Y m)(a e x:Nat)(y:fO)(hx:0<=y.num.1/\y.num.1<=4294967295)(d:dH K y.dL W (qX pg y.dL cg))(z:Z.dB.length<=798000)(hbl:Z.dn.length<=54)(j:∀t,eU m y=.ok t->t.ins.length<=8/\t.outs.length<=8)(g:x=2\/x=3):
  qC 188 #[qP bb,.agg (yC a e x y (qX pg y.dL cg) (.slice pl nl cl)).toArray] W (Ends K O w W (λk=>k<W.heap.size) bb (qP Y) lv (dR m x y Z)):=by
 have HA:=qH h.up;have A:=qH hm;have B:=qH d;have YG:qh (∀b,At K O w b (λk=>k<W.heap.size) bb (qP Y) lv Z->qK W b->qC 239 #[qP bb,.agg (yC a e x y (qX pg y.dL cg) (.slice pl nl cl)).toArray] b (Says (λ_=>False) b (eU m y) (isTypeOf K))):=λb o l=>xY o (hm.kept l (λ_ _ _ c=>c)) a e x y pg pl cg nl cl hx (Row.kept d l (λ_ _ _ c=>c));have HM:qh (dR m x y Z=match eU m y with | .error e=>.error e | .ok t=>iV x t Z):=by
  show _=_;unfold dR;rw[qaa qo,qac g]<;>rfl
 have Sg:qh (∀t,eU m y=.ok t->t.ins.length<=8/\t.outs.length<=8):=j;have C:((x:Int)==0)=false:=qe;have r:(((x:Int)==2)=true)\/(((x:Int)==2)=false/\((x:Int)==3)=true):=by
  obtain rfl | rfl:=g
  .exact .inl rfl
  exact .inr ⟨rfl,rfl⟩
 have n:(λw':qW=>w'.cell? (qA W.heap.size 0)=some (qJ a)/\w'.cell? (qA W.heap.size 1)=some (qJ e)/\w'.cell? (qA W.heap.size 2)=some (qB x)/\w'.cell? (qA W.heap.size 3)=some (.bool y.typed)/\w'.cell? (qA W.heap.size 4)=some (qX pg y.dL cg)/\w'.cell? (qA W.heap.size 5)=some (qI y.align)/\w'.cell? (qA W.heap.size 6)=some (qI y.num.1)/\w'.cell? (qA W.heap.size 7)=some (qJ y.num.2)/\w'.cell? (qA W.heap.size 8)=some (.slice pl nl cl)/\w'.cell? (qA W.heap.size 9)=some (qJ y.val)) ((W.alloc (.cells (yC a e x y (qX pg y.dL cg) (.slice pl nl cl)).toArray 195)).drew):=by
  dsimp only;exact⟨qs,qs,qs,qs,qs,qs,qs,qs,qs,qs⟩
 have Cj:=qH n;clear h hm d j g n;obtain u | ⟨u,D⟩:=r
 .exact Yg
 exact Yg
theorem tF{pg pl:qO}{cg nl cl:Nat}(h:At K O w W N bb (qP Y) lv Z)(hb:Z.dn≠[])(a e:Nat)(y:fO):
  qC 188 #[qP bb,.agg #[qJ a,qJ e,qB 0,.bool y.typed,qX pg y.dL cg,qI y.align,qI y.num.1,qJ y.num.2,.slice pl nl cl,qJ y.val]] W (Ends K O w W (λk=>k<W.heap.size) bb (qP Y) lv (dR m 0 y Z)):=by
 have f:=qH h.up;clear h;go_enter func188,ntmps188;go_wp2_with fail
 refine(yI (f.o.alloc _) hb).mono ?_;rintro j l⟨b,-,-,g⟩;obtain⟨rfl,d⟩:=b _ rfl;have i:=qH d;clear b d;go_wp2;go_end0;exact Ends.dN rfl i.o ((qr.alloc _).trans g)
theorem zN{pg pl:qO}{cg nl cl:Nat}(h:At K O w W N bb (qP Y) lv Z)(a e x:Nat)(y:fO)(h0:x≠0)(f:x≠2)(g:x≠3)(b:x≠4)(c:x≠5)(d:x≠11):
  qC 188 #[qP bb,.agg (yC a e x y (qX pg y.dL cg) (.slice pl nl cl)).toArray] W (Ends K O w W (λk=>k<W.heap.size) bb (qP Y) lv (dR m x y Z)):=by
 have HA:=qH h.up;have HM:qh (dR m x y Z=.ok Z):=by show _=_;unfold dR;rw[qaa h0,qaa qo,qaa b,qaa c,qaa d]
 have i:((x:Int)==0)=false:=qe;have j:((x:Int)==2)=false:=qe;have l:((x:Int)==3)=false:=qe;have n:((x:Int)==4)=false:=qe;have o:((x:Int)==5)=false:=qe;have p:((x:Int)==11)=false:=qe;clear h h0 f g b c d;go_enter func188,ntmps188;exact Vq
theorem Dk{pg pl:qO}{cg nl cl:Nat}(h:At K O w W N bb (qP Y) lv Z)(hb:Z.dn≠[])(hm:MV s K W Y m)(a e:Nat)(y:fO)(hx:0<=y.num.1/\y.num.1<=4294967295)(r:dH K y.dL W (qX pg y.dL cg))(hs:Z.dB.length<=798000)(L:Z.dn.length<=54)(u:∀t,eU m y=.ok t->t.ins.length<=8/\t.outs.length<=8):
  qC 188 #[qP bb,.agg #[qJ a,qJ e,qB 4,.bool y.typed,qX pg y.dL cg,qI y.align,qI y.num.1,qJ y.num.2,.slice pl nl cl,qJ y.val]] W (Ends K O w W (λk=>k<W.heap.size) bb (qP Y) lv (dR m 4 y Z)):=by
 have j:=qH h.up;have x:qh (∀d,At K O w d (λk=>k<W.heap.size) bb (qP Y) lv Z->qK W d->qC 239 #[qP bb,.agg #[qJ a,qJ e,qB 4,.bool y.typed,qX pg y.dL cg,qI y.align,qI y.num.1,qJ y.num.2,.slice pl nl cl,qJ y.val]] d (Says (λ_=>False) d (eU m y) (isTypeOf K))):=λd M z=>xY M (hm.kept z (λ_ _ _ c=>c)) a e 4 y pg pl cg nl cl hx (Row.kept r z (λ_ _ _ c=>c));have HM:qh (dR m 4 y Z=match eU m y with | .error e=>.error e | .ok t=>match dQ Z [127] with | .error e=>.error e | .ok st1=>iV 4 t st1):=rfl;have A:=qH u;clear h hm r u;go_enter func188,ntmps188;go_wp2_with fail
 refine(x.o _ (j.o.alloc _) (qr.alloc _)).mono ?_;rintro B g⟨i,C,iA⟩;have hA2:=(j.o.alloc (.cells #[qJ a,qJ e,qB 4,.bool y.typed,qX pg y.dL cg,qI y.align,qI y.num.1,qJ y.num.2,.slice pl nl cl,qJ y.val] 195)).quiet i;have hl2:Kept (λk=>k<W.heap.size/\¬K k) W g:=(qr.alloc _).trans (i.mono (λ_ _ c=>c.elim));have D:g.cell? (qA W.heap.size 2)=some (qB 4):=(i.cell (p:=(qA W.heap.size 2)) qs (λc=>c)).trans qs;have Q:W.heap.size<g.heap.size:=by have R:=i.size;simp at R;omega
 rcases hm2:eU m y with⟨q,p⟩|t
 .exact Ud
 obtain⟨v,rfl,vi,vo,rfl,l,n⟩:=C _ hm2;obtain⟨l1,l2⟩:=A.o _ hm2;obtain⟨S,T,rfl⟩:=Row.shape l;obtain⟨U,V,rfl⟩:=Row.shape n;have FT:qh (dR m 4 y Z=match dQ Z [127] with | .error e=>.error e | .ok st1=>iV 4 t st1):=by show _=_;rw[HM.o,hm2]
 have E:=qH hA2;have F:=qH l;have G:=qH n;clear C iA hm2 hA2 l n x A HM;go_wp2_with fail
 refine(take_at ((E.o.alloc _).alloc _) hb (eu _ [127] qs rfl qs) (E.o.alloc _).ne qs).mono ?_;rintro B X⟨H,vO,hk3,b⟩;have hl3:=((hl2.alloc _).alloc _).trans b;have ai:=b.size;rcases y8:dQ Z [127] with⟨q,p⟩|f
 .exact Uc
 obtain⟨rfl,I⟩:=H _ y8;have hf:=eO j.o.tidy.dK y8;have aa:f.dn≠[]:=by rw[hf.1];exact hb
 have ab:f.dn.length<=54:=by rw[hf.1];exact L
 have ac:f.dB.length<=799000:=qo;have O1:qh (dR m 4 y Z=iV 4 t f):=by show _=_;rw[FT.o,y8]
 have aj:X.cell? (qA W.heap.size 2)=some (qB 4):=(b.cell (p:=(qA W.heap.size 2)) qt (λc=>qcv _ c.1)).trans ((qat _ _ _ qt).trans ((qat _ _ _ Q).trans D));have J:=((jf.new g #[qX S t.ins T,qX U t.outs V] 100).alloc qs (.cells #[qB 127] 80)).kept b qt (λc=>by have:=c.1;omega);obtain⟨⟨T0,-⟩,⟨T1,-⟩⟩:=J.two;have ad:=qH (b.kinds (Row.alloc (Row.alloc F.o _) _));have ae:=qH (b.kinds (Row.alloc (Row.alloc G.o _) _));have af:=qH I;clear H vO y8 I hf J F G FT D;go_wp2_with fail
 refine(enter_at 4 af.o (λ_=>aa) ad.o ae.o l1 l2 ab ac).mono ?_;rintro B w4⟨EZ,Lx,ag,ah⟩;have hl4:=hl3.fK ah rfl;rcases Q9:iV 4 t f with⟨q,p⟩|ak
 .obtain rfl:=Lx _ _ Q9;exact⟨rfl,Ends.dG (O1.o.trans Q9) ag hl4⟩
 exact WN
theorem zO{pg pl:qO}{cg nl cl:Nat}(h:At K O w W N bb (qP Y) lv Z)(hb:Z.dn≠[])(a e:Nat)(y:fO)(hs:Z.dB.length<=798000)(ap:Z.dn.length<=54)(aq:2<=Z.dn.length):
  qC 188 #[qP bb,.agg #[qJ a,qJ e,qB 5,.bool y.typed,qX pg y.dL cg,qI y.align,qI y.num.1,qJ y.num.2,.slice pl nl cl,qJ y.val]] W (Ends K O w W (λk=>k<W.heap.size) bb (qP Y) lv (dR m 5 y Z)):=by
 have C:=qH h.up;have n:qh (dR m 5 y Z=match jv Z with | .error e=>.error e | .ok (left,st1)=>iV 5 ⟨left.takes,left.dL⟩ (fJ st1 left.takes)):=rfl;clear h;go_enter func188,ntmps188;go_wp2_with fail
 refine(G6 (C.o.alloc _) hb).mono ?_;rintro D l⟨E,F,V,u⟩;have G:Kept (λk=>k<W.heap.size/\¬K k) W l:=(qr.alloc _).trans u;have aa:W.heap.size<l.heap.size:=by have f:=u.size;simp at f;omega
 have H:l.cell? (qA W.heap.size 2)=some (qB 5):=(u.cell (p:=(qA W.heap.size 2)) qs (λc=>qcv _ c.1)).trans qs;rcases g:jv Z with⟨q,p⟩|⟨left,b⟩
 .obtain rfl:=F _ _ g;exact⟨rfl,Ends.dG (by rw[n.o,g]) V G⟩
 obtain⟨⟨tv,gv,rfl,v,x⟩,I⟩:=E _ _ g;obtain⟨-,-,-,s2,z,l1,l2⟩:=(mP C.o.tidy hb).2 _ _ g;have ab:b.dn≠[]:=by
  intro c;have f:b.dn.length=0:=by rw[c];rfl
  rw[z]at f;simp at f;omega
 have ac:b.dn.length<=54:=by rw[z];simp;omega
 obtain⟨pt,ct,rfl⟩:=Row.shape v;obtain⟨pq,cq,rfl⟩:=Row.shape x;have A:qh (dR m 5 y Z=iV 5 ⟨left.takes,left.dL⟩ (fJ b left.takes)):=by show _=_;rw[n.o,g]
 have ad:=qH I;have B:=qH v;have L:=qH x;have ar:b.dB.length<=798000:=qo;clear E F g I v x n s2 z;go_wp2_with fail
 refine(kz (ad.o.alloc _) (Row.alloc B.o _) qo qo).mono ?_;rintro D w3⟨M,-,-,i⟩;obtain⟨rfl,P⟩:=M _ rfl;have ae:=G.fK ((qr.alloc _).trans i) rfl;have au:=i.size;have aw:w3.cell? (qA W.heap.size 2)=some (qB 5):=(i.cell (p:=(qA W.heap.size 2)) qt (λc=>c.1.elim (λd=>qcv _ d) (λd=>by have f:=d.1;simp at f;omega))).trans ((qat _ _ _ aa).trans H);have Q:=(jf.new l #[qB left.word,qX pt left.takes ct,qX pq left.dL cq,qJ left.dK,.bool left.cut] 282).kept i qs (λc=>c.1.elim (λd=>qo) (λd=>by have f:=d.2;omega));obtain⟨⟨L0,-⟩,⟨L1,-⟩,⟨L2,-⟩,⟨L3,-⟩,⟨L4,-⟩⟩:=Q.five;have af:=qH (i.kinds (Row.alloc B.o _));have ag:=qH (i.kinds (Row.alloc L.o _));have ah:(fJ b left.takes).dn≠[]:=ab;have ai:(fJ b left.takes).dn.length<=54:=ac;have aj:(fJ b left.takes).dB.length<=799000:=by simp[fJ];omega
 have ak:=qH P;clear M P Q B L H;generalize fJ b left.takes=al at*;go_wp2_with fail
 refine(enter_at (t:=⟨left.takes,left.dL⟩) 5 ak.o (λ_=>ah) af.o ag.o l1 l2 ai aj).mono ?_;rintro D w4⟨R,S,am,an⟩;have T:=ae.fK an rfl;rcases j:iV 5 ⟨left.takes,left.dL⟩ al with⟨q,p⟩|ax
 .obtain rfl:=S _ _ j;exact⟨rfl,Ends.dG (A.o.trans j) am T⟩
 obtain⟨rfl,U⟩:=R _ j;have ao:=qH U;have HE:=qH (A.o.trans j);clear R S j U A;go_wp2;go_end0;exact Ends.dN HE.o ao.o T
theorem BU{pg pl:qO}{cg nl cl:Nat}(h:At K O w W N bb (qP Y) lv Z)(hb:Z.dn≠[])(a e:Nat)(y:fO)(hs:Z.dB.length<=798000):
  qC 188 #[qP bb,.agg #[qJ a,qJ e,qB 11,.bool y.typed,qX pg y.dL cg,qI y.align,qI y.num.1,qJ y.num.2,.slice pl nl cl,qJ y.val]] W (Ends K O w W (λk=>k<W.heap.size) bb (qP Y) lv (dR m 11 y Z)):=by
 have F:=qH h.up;have z:qh (dR m 11 y Z=match jv Z with | .error e=>.error e | .ok (left,st1)=>if left.word=4/\left.takes≠left.dL then .error (4,Z.at_) else .ok (fJ st1 left.dL)):=rfl;clear h;go_enter func188,ntmps188;go_wp2_with fail
 refine(G6 (F.o.alloc _) hb).mono ?_;rintro i P⟨G,H,Q,R⟩;have t:Kept (λk=>k<W.heap.size/\¬K k) W P:=(qr.alloc _).trans R;rcases b:jv Z with⟨q,p⟩|⟨left,u⟩
 .obtain rfl:=H _ _ b;exact⟨rfl,Ends.dG (by rw[z.o,b]) Q t⟩
 obtain⟨⟨tv,gv,rfl,A,B⟩,I⟩:=G _ _ b;obtain⟨-,-,T,U,-,l1,l2⟩:=(mP F.o.tidy hb).2 _ _ b;obtain⟨pt,ct,rfl⟩:=Row.shape A;obtain⟨pq,cq,rfl⟩:=Row.shape B;have d:qh (dR m 11 y Z=if left.word=4/\left.takes≠left.dL then .error (4,Z.at_) else .ok (fJ u left.dL)):=by show _=_;rw[z.o,b]
 have v:=qH I;have L:=qH A;have x:=qH B;have aa:u.dB.length<=798000:=qo;clear G H b I A B z U;by_cases f:left.word=4
 .have V:((left.word:Int)==4)=true:=by simp[f]
  by_cases g:left.takes=left.dL
  .have j:qh (dR m 11 y Z=.ok (fJ u left.dL)):=by show _=_;rw[d.o,qaa (λc=>c.2 g)]
   have C:qh (decide (left.takes=left.dL)=true):=decide_eq_true g;clear f g d;go_wp2_with fail
   refine(mW (Row.alloc L.o _) (Row.alloc x.o _) qo).mono ?_;rintro i w3⟨rfl,k3,rfl⟩;rw[C.o];go_wp2_with fail
   refine(kz ((v.o.alloc _).drewN _) (Row.kept (S:=λ_=>False) (Row.alloc x.o _) (qr.drewN _) (λ_ _ _ c=>c)) qo qo).mono ?_;rintro i M⟨l,-,-,D⟩;obtain⟨rfl,n⟩:=l _ rfl;have E:=qH n;clear l n;go_wp2;go_end0;exact Ends.dN j.o E.o (t.fK (((qr.alloc _).drewN _).trans D) rfl)
  have j:qh (dR m 11 y Z=.error (4,Z.at_)):=by show _=_;rw[d.o,qac ⟨f,g⟩]
  have C:qh (decide (left.takes=left.dL)=false):=decide_eq_false g;clear f g d;go_wp2_with fail
  refine(mW (Row.alloc L.o _) (Row.alloc x.o _) qo).mono ?_;rintro i w3⟨rfl,k3,rfl⟩;rw[C.o];go_wp2_with fail
  refine(rW ((v.o.alloc _).drewN _)).mono ?_;rintro i M⟨rfl,rfl⟩;rw[T];exact⟨rfl,Ends.dG j.o ((v.o.alloc _).drewN _).kept ((t.alloc _).drewN _)⟩
 have V:((left.word:Int)==4)=false:=qe;have j:qh (dR m 11 y Z=.ok (fJ u left.dL)):=by show _=_;rw[d.o,qaa (λc=>f c.1)]
 clear f d;go_wp2_with fail
 refine(kz (v.o.alloc _) (Row.alloc x.o _) qo qo).mono ?_;rintro i M⟨l,-,-,D⟩;obtain⟨rfl,n⟩:=l _ rfl;have E:=qH n;clear l n;go_wp2;go_end0;exact Ends.dN j.o E.o (t.fK ((qr.alloc _).trans D) rfl)
theorem xH(h:At K O w W N bb (qP Y) lv Z)(x:Int×Nat)(hx:0<=x.1/\x.1<=4294967295):
  qC 242 #[qP bb,.agg #[qI x.1,qJ x.2]] W (Says (λ_=>False) W (gX Z x) (λks w' v=>dH K ks w' v)):=by
 have hl:=h.tY;obtain⟨sv,b,a⟩:=h.body;exact Oe a hx qo
theorem At.short(h:At K O w W N bb (qP Y) lv Z){x:Int×Nat}{ks:qM}(hx:0<=x.1/\x.1<=4294967295)(hl:gX Z x=.ok ks):ks.length<=8:=
 (oK (N:=x.2) h.tidy ⟨hx.1,hx.2,qR⟩).2 ks hl
theorem FD{pg pl:qO}{ng cg nl cl:Nat}(h:At K O w W N bb (qP Y) lv Z)(hb:Z.dn≠[])(a e:Nat)(y:fO)(hx:0<=y.num.1/\y.num.1<=4294967295):
  qC 189 #[qP bb,.agg #[qJ a,qJ e,qB 12,.bool y.typed,.slice pg ng cg,qI y.align,qI y.num.1,qJ y.num.2,.slice pl nl cl,qJ y.val]] W (Ends K O w W (λk=>k<W.heap.size) bb (qP Y) lv (dU m 12 y Z)):=by
 have b:=qH h.up;have HM:qh (dU m 12 y Z=match gX Z y.num with | .error e=>.error e | .ok ks=>match dQ Z ks with | .error e=>.error e | .ok st1=>.ok (fV st1)):=rfl;have n:¬K bb:=λc=>h.body.pY bb h.body.own c;clear h;go_enter func189,ntmps189;go_wp2_with fail
 refine(xH (b.o.alloc _) y.num hx).mono ?_;rintro ee r⟨f,g,iA⟩;have hA2:=(b.o.alloc (.cells #[qJ a,qJ e,qB 12,.bool y.typed,.slice pg ng cg,qI y.align,qI y.num.1,qJ y.num.2,.slice pl nl cl,qJ y.val] 195)).quiet f;have hl2:Kept (λk=>k<W.heap.size/\¬K k) W r:=(qr.alloc _).trans (f.mono (λ_ _ c=>c.elim));rcases hm2:gX Z y.num with⟨q,p⟩|ks
 .exact Ud
 obtain⟨v,rfl,d⟩:=g _ hm2;have l1:=b.o.short hx hm2;obtain⟨z,A,rfl⟩:=Row.shape d;have FT:qh (dU m 12 y Z=match dQ Z ks with | .error e=>.error e | .ok st1=>.ok (fV st1)):=by show _=_;rw[HM.o,hm2]
 have t:=qH hA2;have u:=qH d;clear g iA hm2 hA2 d HM;go_wp2_with fail
 refine(take_at t.o hb u.o n qo).mono ?_;rintro ee B⟨i,vO,hk3,x⟩;have hl3:=hl2.fK x rfl;rcases y8:dQ Z ks with⟨q,p⟩|j
 .exact Uc
 obtain⟨rfl,l⟩:=i _ y8;have hf:=eO b.o.tidy.dK y8;have hb3:j.dn≠[]:=by rw[hf.1];exact hb
 have O1:qh (dU m 12 y Z=.ok (fV j)):=by show _=_;rw[FT.o,y8]
 have XD:=qH l;clear i vO y8 l hf FT;exact Xd
theorem BR{pg pl:qO}{ng cg nl cl:Nat}(h:At K O w W N bb (qP Y) lv Z)(hb:Z.dn≠[])(a e:Nat)(y:fO)(hx:0<=y.num.1/\y.num.1<=4294967295)(hs:Z.dB.length<=798000):
  qC 189 #[qP bb,.agg #[qJ a,qJ e,qB 13,.bool y.typed,.slice pg ng cg,qI y.align,qI y.num.1,qJ y.num.2,.slice pl nl cl,qJ y.val]] W (Ends K O w W (λk=>k<W.heap.size) bb (qP Y) lv (dU m 13 y Z)):=by
 have f:=qH h.up;have HM:qh (dU m 13 y Z=match gX Z y.num with | .error e=>.error e | .ok ks=>match dQ Z [127] with | .error e=>.error e | .ok st1=>match dQ st1 ks with | .error e=>.error e | .ok d=>.ok (fJ d ks)):=rfl;have S:¬K bb:=λc=>h.body.pY bb h.body.own c;clear h;go_enter func189,ntmps189;go_wp2_with fail
 refine(xH (f.o.alloc _) y.num hx).mono ?_;rintro i n⟨t,u,iA⟩;have hA2:=(f.o.alloc (.cells #[qJ a,qJ e,qB 13,.bool y.typed,.slice pg ng cg,qI y.align,qI y.num.1,qJ y.num.2,.slice pl nl cl,qJ y.val] 195)).quiet t;have hl2:Kept (λk=>k<W.heap.size/\¬K k) W n:=(qr.alloc _).trans (t.mono (λ_ _ c=>c.elim));rcases hm2:gX Z y.num with⟨q,p⟩|ks
 .exact Ud
 obtain⟨v,rfl,j⟩:=u _ hm2;have l1:=f.o.short hx hm2;obtain⟨pk,ck,rfl⟩:=Row.shape j;have FT:qh (dU m 13 y Z=match dQ Z [127] with | .error e=>.error e | .ok st1=>match dQ st1 ks with | .error e=>.error e | .ok d=>.ok (fJ d ks)):=by show _=_;rw[HM.o,hm2]
 have x:=qH hA2;have z:=qH j;clear u iA hm2 hA2 j HM;go_wp2_with fail
 refine(take_at (x.o.alloc _) hb (eu n [127] rfl rfl qs) x.o.ne qs).mono ?_;rintro i w3⟨A,vO,hk3,B⟩;have hl3:=hl2.fK ((qr.alloc _).trans B) rfl;have C:=qH (B.kinds (Row.alloc z.o _));rcases y8:dQ Z [127] with⟨q,p⟩|g
 .exact Uc
 obtain⟨rfl,D⟩:=A _ y8;have hf:=eO f.o.tidy.dK y8;have T:g.dn≠[]:=by rw[hf.1];exact hb
 have ae:g.dB.length<=798000:=qo;have l:qh (dU m 13 y Z=match dQ g ks with | .error e=>.error e | .ok d=>.ok (fJ d ks)):=by show _=_;rw[FT.o,y8]
 have E:=qH D;clear A vO y8 D hf FT z;go_wp2_with fail
 refine(take_at E.o T C.o S qo).mono ?_;rintro i w4⟨F,G,U,H⟩;have I:=hl3.fK H rfl;have V:=qH (H.kinds C.o);rcases b:dQ g ks with⟨q,p⟩|L
 .obtain rfl:=G _ _ b;exact⟨rfl,Ends.dG (by rw[l.o,b]) U I⟩
 obtain⟨rfl,M⟩:=F _ b;have hf:=eO E.o.tidy.dK b;have af:L.dB.length<=798000:=qo;have aa:qh (dU m 13 y Z=.ok (fJ L ks)):=by show _=_;rw[l.o,b]
 have ab:=qH M;clear F G b M hf l;go_wp2_with fail
 refine(kz ab.o V.o qo qo).mono ?_;rintro i w5⟨Q,-,-,ac⟩;obtain⟨rfl,R⟩:=Q _ rfl;have ad:=qH R;clear Q R;go_wp2;go_end0;exact Ends.dN aa.o ad.o (I.fK ac rfl)
theorem yN{pg pl:qO}{ng cg nl cl:Nat}(h:At K O w W N bb (qP Y) lv Z)(hb:Z.dn≠[])(a e:Nat)(y:fO):
  qC 189 #[qP bb,.agg #[qJ a,qJ e,qB 15,.bool y.typed,.slice pg ng cg,qI y.align,qI y.num.1,qJ y.num.2,.slice pl nl cl,qJ y.val]] W (Ends K O w W (λk=>k<W.heap.size) bb (qP Y) lv (dU m 15 y Z)):=by
 have j:=qH h.up;have x:¬K bb:=λc=>h.body.pY bb h.body.own c;have L:=h.body.lt;have M:0<Z.dn.length:=by
  have:Z.dn.length≠0:=by simpa using hb
  omega
 obtain⟨sv,Q,d⟩:=h.body;have R:=d.blk.five.2.2.2.1.1;obtain⟨g,A,S,gv,rfl,T,U,V,z,f,B,C,D,E,F⟩:=uS d.tY (k:=Z.dn.length - 1) qo;obtain⟨pq,cq,rfl⟩:=Row.shape f;have l:(Z.dn.length - 1 - (Z.dn.length - 1))*5+2=2:=qo;rw[l]at D;have n:qh ((Z.dn.getD (Z.dn.length - 1) pW.none).dL=Z.dn[Z.dn.length - 1].dL):=by show _=_;rw[qag,qab qo];rfl
 have i:qh (dU m 15 y Z=match dQ Z Z.dn[Z.dn.length - 1].dL with | .error e=>.error e | .ok st1=>.ok (fV st1)):=by
  show _=_;rw[<-n.o];rfl
 have l1:Z.dn[Z.dn.length - 1].dL.length<=8:=(h.tidy.short _ (qaw _)).2;have G:=qH f;have X:(0:Int)<(Z.dn.length:Int):=qo;clear h d z f B C E F n l;generalize Z.dn[Z.dn.length - 1].dL=ks at*;go_enter func189,ntmps189;go_wp2_with fail
 refine(take_at (j.o.alloc _) hb (Row.alloc G.o _) x qo).mono ?_;rintro ee H⟨r,t,I,J⟩;have hl3:Kept (λk=>k<W.heap.size/\¬K k) W H:=(qr.alloc _).trans J;rcases b:dQ Z ks with⟨q,p⟩|u
 .obtain rfl:=t _ _ b;exact⟨rfl,Ends.dG (by rw[i.o,b]) I hl3⟩
 obtain⟨rfl,v⟩:=r _ b;have hf:=eO j.o.tidy.dK b;have hb3:u.dn≠[]:=by rw[hf.1];exact hb
 have O1:qh (dU m 15 y Z=.ok (fV u)):=by show _=_;rw[i.o,b]
 have XD:=qH v;clear r t b v hf i;exact Xd
theorem At.tabs(h:At K O w W N bb (qP Y) lv Z)(hm:MV s K W Y m):W.cell? (qA bb 0)=some (qP Y)/\∃p c,W.cell? (qA Y 2)=some (.slice p m.tables.length c):=by
 obtain⟨sv,e,a⟩:=h.body;obtain⟨-,f,b,d⟩:=hm;obtain⟨p,c,hv⟩:=Row.shape d.L;exact⟨a.blk.five.1.1,p,c,by rw[<-hv];exact b.twelve.1.2.2.1.1⟩
theorem wM{pg pl:qO}{ng cg nl cl:Nat}(h:At K O w W N bb (qP Y) lv Z)(hb:Z.dn≠[])(a e:Nat)(y:fO)(hx:0<=y.num.1/\y.num.1<=4294967295)(X:Z.dB.length<=798000)(hm:MV s K W Y m)(l:∀t,iH m y.num=.ok t->t.ins.length<=8/\t.outs.length<=8):
  qC 189 #[qP bb,.agg #[qJ a,qJ e,qB 17,.bool y.typed,.slice pg ng cg,qI y.align,qI y.num.1,qJ y.num.2,.slice pl nl cl,qJ y.val]] W (Ends K O w W (λk=>k<W.heap.size) bb (qP Y) lv (dU m 17 y Z)):=by
 have HA:=qH h.up;have D:=qH hm;have n:=qH l;have aa:=h.body.lt;have ab:=hm.lt;obtain⟨E,p2,c2,F⟩:=h.tabs hm;clear h hm l;by_cases hz:m.tables.length=0
 .have HM:qh (dU m 17 y Z=.error (3,Z.at_)):=by show _=_;simp[dU,hz]
  go_enter func189,ntmps189;exact Xb
 have HM:qh (dU m 17 y Z=match iH m y.num with | .error e=>.error e | .ok t=>match dQ Z [127] with | .error e=>.error e | .ok st1=>kT t st1):=by
  show _=_;show(if m.tables.length=0 then _ else _)=_;rw[qaa hz]<;>rfl
 go_enter func189,ntmps189;go_wp2_with fail
 refine(lT (HA.o.alloc _) _).mono ?_;rintro ee w1⟨rfl,he⟩;rw[qaa hz]at he;subst he;go_wp2_with fail
 refine(Du (HA.o.alloc _) (D.o.kept ((Kept.refl (λ_=>False) _).alloc _) (λ_ _ _ c=>c)) y.num hx).mono ?_;rintro ee f⟨g,r,iA⟩;have hA2:=(HA.o.alloc (.cells #[qJ a,qJ e,qB 17,.bool y.typed,.slice pg ng cg,qI y.align,qI y.num.1,qJ y.num.2,.slice pl nl cl,qJ y.val] 195)).quiet g;have hl2:Kept (λk=>k<W.heap.size/\¬K k) W f:=(qr.alloc _).trans (g.mono (λ_ _ c=>c.elim));have ac:W.heap.size<f.heap.size:=by have G:=g.size;simp at G;omega
 rcases hm2:iH m y.num with⟨q,p⟩|t
 .exact Ud
 obtain⟨v,rfl,vi,vo,rfl,i,j⟩:=r _ hm2;obtain⟨l1,l2⟩:=n.o _ hm2;obtain⟨H,I,rfl⟩:=Row.shape i;obtain⟨J,L,rfl⟩:=Row.shape j;have FT:qh (dU m 17 y Z=match dQ Z [127] with | .error e=>.error e | .ok st1=>kT t st1):=by show _=_;rw[HM.o,hm2]
 have u:=qH hA2;have x:=qH i;have z:=qH j;clear r iA hm2 hA2 i j n HM E F;go_wp2_with fail
 refine(take_at ((u.o.alloc _).alloc _) hb (eu _ [127] qs rfl qs) (u.o.alloc _).ne qs).mono ?_;rintro ee w3⟨A,vO,hk3,b⟩;have hl3:=((hl2.alloc _).alloc _).trans b;have ad:=b.size;rcases y8:dQ Z [127] with⟨q,p⟩|d
 .exact Uc
 obtain⟨rfl,B⟩:=A _ y8;have hf:=eO HA.o.tidy.dK y8;have M:d.dn≠[]:=by rw[hf.1];exact hb
 have Q:d.dB.length<=799000:=qo;have O1:qh (dU m 17 y Z=kT t d):=by show _=_;rw[FT.o,y8]
 have C:=((jf.new f #[.slice H t.ins.length I,.slice J t.outs.length L] 100).alloc qs (.cells #[qB 127] 80)).kept b qt (λc=>by have:=c.1;omega);obtain⟨⟨T0,-⟩,⟨T1,-⟩⟩:=C.two;have R:=qH (b.kinds (Row.alloc (Row.alloc x.o _) _));have S:=qH (b.kinds (Row.alloc (Row.alloc z.o _) _));have T:=qH B;clear A vO y8 B hf C x z FT;go_wp2_with fail
 refine(LH T.o M R.o S.o l1 l2 Q).mono ?_;rintro ee w4⟨EZ,Lx,U,V⟩;have hl4:=hl3.fK V rfl;rcases Q9:kT t d with⟨q,p⟩|ae
 .obtain rfl:=Lx _ _ Q9;exact⟨rfl,Ends.dG (O1.o.trans Q9) U hl4⟩
 exact WN
theorem At.fns(h:At K O w W N bb (qP Y) lv Z)(hm:MV s K W Y m):W.cell? (qA bb 0)=some (qP Y)/\∃p c,W.cell? (qA Y 1)=some (.slice p m.funcs.length c):=by
 obtain⟨sv,e,a⟩:=h.body;obtain⟨-,f,b,d⟩:=hm;obtain⟨p,c,hv⟩:=Row.shape d.U;exact⟨a.blk.five.1.1,p,c,by rw[<-hv];exact b.twelve.1.2.1.1⟩
theorem At.mp(h:At K O w W N bb (qP Y) lv Z):W.cell? (qA bb 0)=some (qP Y):=by
 obtain⟨sv,b,a⟩:=h.body;exact a.blk.five.1.1
theorem QZ{y:fO}:dU m 16 y Z=match fE y.num m.funcs.length with | .error e=>.error e | .ok f=>kT (dM m f) Z:=rfl
theorem xV{pg pl:qO}{ng cg nl cl:Nat}(h:At K O w W N bb (qP Y) lv Z)(a e:Nat)(y:fO)(d:Int)(g:Nat)(hy:y.num=(d,g))(h0:0<=d)(U:d<=4294967295)(hm:MV s K W Y m)(n:¬d<(m.funcs.length:Int)):
  qC 189 #[qP bb,.agg #[qJ a,qJ e,qB 16,.bool y.typed,.slice pg ng cg,qI y.align,qI d,qJ g,.slice pl nl cl,qJ y.val]] W (Ends K O w W (λk=>k<W.heap.size) bb (qP Y) lv (dU m 16 y Z)):=by
 have HA:=qH h.up;have hbw:=h.body.lt;have hmw:=hm.lt;obtain⟨I0,j,c1,F1⟩:=h.fns hm;have HM:qh (dU m 16 y Z=.error (3,g)):=by
  show _=_;rw[QZ,hy];simp[fE,n]
 have l:(λw':qW=>w'.cell? (qA bb 0)=some (qP Y)/\w'.cell? (qA Y 1)=some (qX j m.funcs c1)/\w'.cell? (qA W.heap.size 6)=some (qI d)/\w'.cell? (qA W.heap.size 7)=some (qJ g)) ((W.alloc (.cells #[qJ a,qJ e,qB 16,.bool y.typed,.slice pg ng cg,qI y.align,qI d,qJ g,.slice pl nl cl,qJ y.val] 195)).drew):=by
  exact WT
 have b:=qH l;clear h hm l hy;go_enter func189,ntmps189;go_wp2_with fail
 refine wp_region_held_drew (S:=λw':qW=>w'.cell? (qA bb 0)=some (qP Y)/\w'.cell? (qA Y 1)=some (qX j m.funcs c1)/\w'.cell? (qA W.heap.size 6)=some (qI d)/\w'.cell? (qA W.heap.size 7)=some (qJ g)) qk b.o (λ_=>?_);refine ic 0 b.o ?_;refine ic 1 b.o ?_;refine ic 2 b.o ?_;refine ic 3 b.o ?_;refine ic 4 b.o ?_;refine ic 5 b.o ?_;refine ic 6 b.o ?_;refine ic 7 b.o ?_;refine ic 8 b.o ?_;refine ic 9 b.o ?_;refine ic 10 b.o ?_;refine ic 11 b.o ?_;refine ic 12 b.o ?_;refine ic 13 b.o ?_;refine ic 14 b.o ?_;refine wpAnyH_all (rs:=[15]) qk qs ?_;intro i hi;rw[qak]at hi;subst hi;refine kU (f:=67) (args:= #[.agg #[qI d,qJ g],qJ m.funcs.length]) rfl rfl qk (jY _ qo h0 U) ?_;exact WL
theorem yO{pg pl:qO}{ng cg nl cl:Nat}(h:At K O w W N bb (qP Y) lv Z)(hb:Z.dn≠[])(a e:Nat)(y:fO)(f d:Nat)(hy:y.num=((f:Int),d))(U:(f:Int)<=4294967295)(hm:MV s K W Y m)(ab:(f:Int)<(m.funcs.length:Int))(F:∀x∈m.funcs,0<=x.1/\x.1<(m.dx.length:Int))(G:(dM m f).ins.length<=8/\(dM m f).outs.length<=8)(hs:Z.dB.length<=798000):
  qC 189 #[qP bb,.agg #[qJ a,qJ e,qB 16,.bool y.typed,.slice pg ng cg,qI y.align,qI (f:Int),qJ d,.slice pl nl cl,qJ y.val]] W (Ends K O w W (λk=>k<W.heap.size) bb (qP Y) lv (dU m 16 y Z)):=by
 have HA:=qH h.up;have ac:=qH hm;have hbw:=h.body.lt;have hmw:=hm.lt;have ad:K Y:=hm.1;have C:f<m.funcs.length:=qo;have ae:=qH (F _ (qaw C));have h0:(0:Int)<=(f:Int):=qo;obtain⟨I0,u,c1,F1⟩:=h.fns hm;have H:qh (dU m 16 y Z=kT (dM m f) Z):=by
  show _=_;rw[QZ,hy];simp[fE,C]
 have I:(λw':qW=>w'.cell? (qA bb 0)=some (qP Y)/\w'.cell? (qA Y 1)=some (qX u m.funcs c1)/\w'.cell? (qA W.heap.size 6)=some (qI (f:Int))/\w'.cell? (qA W.heap.size 7)=some (qJ d)) ((W.alloc (.cells #[qJ a,qJ e,qB 16,.bool y.typed,.slice pg ng cg,qI y.align,qI (f:Int),qJ d,.slice pl nl cl,qJ y.val] 195)).drew):=by
  exact WT
 have b:=qH I;clear h hm I hy F;go_enter func189,ntmps189;go_wp2_with fail
 refine wp_region_held_drew (S:=λw':qW=>w'.cell? (qA bb 0)=some (qP Y)/\w'.cell? (qA Y 1)=some (qX u m.funcs c1)/\w'.cell? (qA W.heap.size 6)=some (qI (f:Int))/\w'.cell? (qA W.heap.size 7)=some (qJ d)) qk b.o (λ_=>?_);refine ic 0 b.o ?_;refine ic 1 b.o ?_;refine ic 2 b.o ?_;refine ic 3 b.o ?_;refine ic 4 b.o ?_;refine ic 5 b.o ?_;refine ic 6 b.o ?_;refine ic 7 b.o ?_;refine ic 8 b.o ?_;refine ic 9 b.o ?_;refine ic 10 b.o ?_;refine ic 11 b.o ?_;refine ic 12 b.o ?_;refine ic 13 b.o ?_;refine ic 14 b.o ?_;refine wpAnyH_all (rs:=[15]) qk qs ?_;intro i hi;rw[qak]at hi;subst hi;refine gY (f:=67) (args:= #[.agg #[qI (f:Int),qJ d],qJ m.funcs.length]) rfl rfl qk (lG _ ab h0 U) ?_;rintro L w2⟨rfl,rfl⟩;have M:=((HA.o.alloc (.cells #[qJ a,qJ e,qB 16,.bool y.typed,.slice pg ng cg,qI y.align,qI (f:Int),qJ d,.slice pl nl cl,qJ y.val] 195)).drewN 1).alloc (.cells #[qI (f:Int),qJ d] 93);have af:=qH M;have Q:qK W (((W.alloc (.cells #[qJ a,qJ e,qB 16,.bool y.typed,.slice pg ng cg,qI y.align,qI (f:Int),qJ d,.slice pl nl cl,qJ y.val] 195)).drew).alloc (.cells #[qI (f:Int),qJ d] 93)):=((qr.alloc _).drew).alloc _;have R:qh ((λw':qW=>w'.cell? (qA bb 0)=some (qP Y)/\w'.cell? (qA Y 1)=some (qX u m.funcs c1)/\w'.cell? (qA W.heap.size 6)=some (qI (f:Int))/\w'.cell? (qA W.heap.size 7)=some (qJ d)) (((W.alloc (.cells #[qJ a,qJ e,qB 16,.bool y.typed,.slice pg ng cg,qI y.align,qI (f:Int),qJ d,.slice pl nl cl,qJ y.val] 195)).drew).alloc (.cells #[qI (f:Int),qJ d] 93))):=by
  obtain⟨z,j,l,n⟩:=b.o;exact⟨(qat _ _ _ qt).trans z,(qat _ _ _ qt).trans j,(qat _ _ _ qs).trans l,(qat _ _ _ qs).trans n⟩
 clear M b;refine .inl ⟨_,rfl,R.o,?_⟩;have t:W.heap.size<(((W.alloc (.cells #[qJ a,qJ e,qB 16,.bool y.typed,.slice pg ng cg,qI y.align,qI (f:Int),qJ d,.slice pl nl cl,qJ y.val] 195)).drew).alloc (.cells #[qI (f:Int),qJ d] 93)).heap.size:=by simp;omega
 refine wpAnyH_all (rs:=[16]) qk qs ?_;intro i hi;rw[qak]at hi;subst hi;refine gY (f:=130) (args:= #[(qP Y),qJ f]) rfl rfl qk (vS f (ac.o.kept Q (λ_ _ _ c=>c)) C ae.o) ?_;rintro L D⟨g,v,rfl,vi,vo,rfl,k1,k2⟩;have ag:=af.o.quiet g;have ah:Kept (λk=>k<W.heap.size/\¬K k) W D:=(Q.trans g).mono (λ_ _ c=>c.elim);have T:qh ((λw':qW=>w'.cell? (qA bb 0)=some (qP Y)/\w'.cell? (qA Y 1)=some (qX u m.funcs c1)/\w'.cell? (qA W.heap.size 6)=some (qI (f:Int))/\w'.cell? (qA W.heap.size 7)=some (qJ d)) D):=by
  obtain⟨z,j,l,n⟩:=R.o;exact⟨(g.cell (p:=(qA bb 0)) (Nat.lt_trans hbw t) (λc=>c)).trans z,(g.cell (p:=(qA Y 1)) (Nat.lt_trans hmw t) (λc=>c)).trans j,(g.cell (p:=(qA W.heap.size 6)) t (λc=>c)).trans l,(g.cell (p:=(qA W.heap.size 7)) t (λc=>c)).trans n⟩
 refine .inl ⟨_,rfl,T.o,?_⟩;refine wpAnyH_all (rs:=[17]) qk qs ?_;intro i hi;rw[qak]at hi;subst hi;refine gY (f:=244) (args:= #[qP bb,.agg #[vi,vo]]) rfl rfl qk (LH ag hb k1 k2 G.1 G.2 qo) ?_;rintro L w4⟨ai,aj,ak,A⟩;have V:=ah.fK A rfl;rcases B:kT (dM m f) Z with⟨q,p⟩|am
 .obtain rfl:=aj _ _ B;exact .inr ⟨_,rfl,rfl,Ends.dG (H.o.trans B) ak V⟩
 obtain⟨rfl,aa⟩:=ai _ B;refine .inl ⟨_,rfl,?_,?_⟩
 .obtain⟨z,j,l,n⟩:=T.o;have al:=g.size;have E:W.heap.size<D.heap.size:=qad t al;exact⟨aa.mp,(A.cell (p:=(qA Y 1)) (Nat.lt_trans hmw E) (λc=>c.2 ad)).trans j,(A.cell (p:=(qA W.heap.size 6)) E (λc=>qcv _ c.1)).trans l,(A.cell (p:=(qA W.heap.size 7)) E (λc=>qcv _ c.1)).trans n⟩
 refine wpAnyH_done qk ?_ _;go_end0;exact Ends.dN (H.o.trans B) aa V
end
theorem Tryz.Vi:(prog.info? 98).map (λi=>(i.zero,i.size,i.bytes))=some (some (qN),1,24):=qk
section
variable {K O N:qD}{w W:qW}{bb Y:Nat}{lv:qv}{Z:Bd}{s:qS}{m:dX}
theorem At.aside{b:qv}{S:qD}{e:qW}(h:At K O w W N bb b lv Z)(X:Kept S W e)(a:∀k,S k->¬N k/\¬K k/\w.heap.size<=k):At K O w e N bb b lv Z:=by
 obtain⟨sv,f,g⟩:=h.body;refine⟨h.kept.fresh X (λk i c=>absurd (a k c).2.2 qo),⟨sv,f,g.kept X (λk _ c=>⟨λd=>(a k c).1 d.2,(a k c).2.1⟩)⟩,h.kb,h.pY,h.tidy,h.tY,h.stk⟩
theorem JQ{c d:qv}{ok:qD}{ks:qM}(h:At K O w W N bb c lv Z)(hb:Z.dn≠[])(X:dH ok ks W d)(f:¬ok bb)(g:ks.length<=50):
  qC 294 #[qP bb,d] W λe w'=>(∀u,kM Z ks=.ok u->qU e/\At K O w w' N bb c lv Z)/\(∀q p,kM Z ks=.error (q,p)->e=fo q p)/\Kept O w w'/\Kept (λk=>N k/\¬K k) W w':=by
 obtain⟨sv,r,a⟩:=h.body;obtain⟨ps,cs,rfl⟩:=Row.shape a.stk;have hl:=h.tY;have t:=h.stk;refine(GM a X f (λ_=>hb) qo h.tidy.dK qo g).mono ?_;rintro e w'⟨i,j,l⟩;have b:Kept (λk=>More O w k/\N k) W w':=i.mono (λk _ (e:k=bb)=>e▸a.own);refine⟨λu n=>?_,l,h.sw b,b.mono (λk _ hh=>⟨hh.2,h.apart k hh.1⟩)⟩;obtain⟨v,rfl,rfl,o⟩:=j _ n;exact⟨rfl,⟨h.sw b,⟨_,_,o⟩,h.kb,h.pY,h.tidy,h.tY,h.stk⟩⟩
def mU(K:Nat->Prop)(ok:Nat->Prop)(X9:List (List Nat))(w:World)(v:Value):Prop:=
 ∃vs:List Value,Row ok w 98 1 v X9.length vs/\Each (λks v=>dH K ks w v) X9 vs
theorem mU.kept{S ok:qD}{d:List (qM)}{e:qW}{v:qv}(h:mU K ok d W v)(X:Kept S W e)(U:∀g,g<W.heap.size->ok g->¬S g)(f:∀g,g<W.heap.size->K g->¬S g):mU K ok d e v:=by
 obtain⟨vs,a,b⟩:=h;exact⟨vs,Row.kept a X U,b.to (λ_ _ c=>Row.kept c X f)⟩
theorem ES{x:Int×Nat}{xs:List (Int×Nat)}{M:List (qM)}{k:Nat}{e:Err}(X:k<xs.length)(hx:xs[k]=x)(h:gX Z x=.error e):iy Z (xs.drop k) M=.error e:=by
 rw[qan X,hx];simp[iy,h]
theorem G8{x:Int×Nat}{xs:List (Int×Nat)}{M:List (qM)}{k:Nat}{ks:qM}(X:k<xs.length)(hx:xs[k]=x)(h:gX Z x=.ok ks):iy Z (xs.drop k) M=iy Z (xs.drop (k+1)) (M++[ks]):=by
 rw[qan X,hx];simp[iy,h]
theorem JP{last:qM}{a:List (qM)}{k:Nat}{e:Err}(X:k<a.length)(hl:a[k].length=last.length)(h:kM Z a[k]=.error e):jG Z last (a.drop k)=.error e:=by
 rw[qan X];unfold jG;rw[qaa (by simp[hl])];unfold kM at h;rcases hm:dQ Z a[k] with b|u
 .rw[hm]at h;cases h;rfl
 rw[hm]at h;cases h
theorem NS{last:qM}{a:List (qM)}{k:Nat}{u:Unit}(X:k<a.length)(hl:a[k].length=last.length)(h:kM Z a[k]=.ok u):jG Z last (a.drop k)=jG Z last (a.drop (k+1)):=by
 rw[qan X];conv=>lhs;unfold jG
 rw[qaa (by simp[hl])];unfold kM at h;rcases hm:dQ Z a[k] with b|u
 .rw[hm]at h;cases h
 rfl
theorem JO{last:qM}{a:List (qM)}{k:Nat}(X:k<a.length)(hl:a[k].length≠last.length):jG Z last (a.drop k)=.error (4,Z.at_):=by
 rw[qan X];unfold jG;rw[qac hl]
end
theorem mU.shape{K ok:qD}{a:List (qM)}{W:qW}{v:qv}(h:mU K ok a W v):∃p c,v=qX p a c:=by
 obtain⟨vs,b,-⟩:=h;exact Row.shape b
section
variable {K O N:qD}{w W:qW}{bb Y:Nat}{lv:qv}{Z:Bd}{s:qS}{m:dX}
theorem Dc{pg pl:qO}{ng cg cl:Nat}(h:At K O w W N bb (qP Y) lv Z)(hb:Z.dn≠[])(a e x:Nat)(y:fO)(hx:0<=y.num.1/\y.num.1<=4294967295)(aM:∀z∈y.dA,0<=z.1/\z.1<=4294967295)(bE:y.dA.length<=20)(au:isRow 93 2 numCells K y.dA W (qX pl y.dA cl)):
  qC 243 #[qP bb,.agg (yC a e x y (.slice pg ng cg) (qX pl y.dA cl)).toArray] W (Ends K O w W (λk=>k<W.heap.size) bb (qP Y) lv (fU y Z)):=by
 obtain⟨i0,a8,a9,ba,bc⟩:=qap Tryz.Vi;have HA:=qH h.up;have aN:¬K bb:=λc=>h.body.pY bb h.body.own c;have bF:w.heap.size<=W.heap.size:=h.kept.size;have aO:=h.kb;have H0:qh (iy Z y.dA []=iy Z (y.dA.drop 0) []):=by show _=_;simp
 have HX:=qH aM;clear h aM;go_enter func243,ntmps243;go_wp2;go_loopw [4,13] (λov q wr=>∃(k:Nat)(b:List (qM)),k<=y.dA.length/\b.length=k/\q=qJ k/\At K O w wr (λk=>k<W.heap.size) bb (qP Y) lv Z/\qK (W.alloc (.cells (yC a e x y (.slice pg ng cg) (qX pl y.dA cl)).toArray 195)) wr/\
   mU K (λg=>W.heap.size<g) b wr ov/\(∀ks∈b,ks.length<=8)/\iy Z y.dA []=iy Z (y.dA.drop k) b) (λ_ q _=>y.dA.length - (intOf q).toNat)
 case atStart=>exact⟨0,[],qZ,rfl,rfl,HA.o.alloc _,Kept.refl _ _,⟨[],Row.nil _ _ _ _,trivial⟩,qs,H0.o⟩
 obtain⟨k,b,X,bd,rfl,aw,B,ax,aP,aa⟩:=hrel;obtain⟨po,co,rfl⟩:=ax.shape;have f:=qH aa;have ak:=qH aw;have al:=qH ax;have H8:=qH aP;have bG:bb<wr.heap.size:=aw.body.lt;have ay:isRow 93 2 numCells K y.dA wr (qX pl y.dA cl):=Row.kept (Row.alloc au _) B (λ_ _ _ c=>c);have be:=B.size;subst bd;clear aa H0 aw ax aP;by_cases am:b.length<y.dA.length
 .have hlt':(b.length:Int)<(y.dA.length:Int):=qo;obtain⟨g,A,hv,-,bf,bg,L⟩:=Row.cells ay qo;cases hv;have aA:y.dA[b.length]?=some y.dA[b.length]:=qab am;have c0:wr.cell? ⟨g,b.length*2,none⟩=some (qI y.dA[b.length].1):=(L (b.length*2) qo).trans (flat_get (m:=2) (o:=0) (λ_=>rfl) aA qo);have c1:wr.cell? ⟨g,b.length*2+1,none⟩=some (qJ (y.dA[b.length].2:Nat)):=(L (b.length*2+1) qo).trans (flat_get (m:=2) (o:=1) (λ_=>rfl) aA qo);have hz:=HX.o _ (qaw am);have C:=qH (λe D=>ES (Z:=Z) (M:=b) (e:=e) am rfl D);have HO:=qH (λks D=>G8 (Z:=Z) (M:=b) (ks:=ks) am rfl D);clear L ay aA au;generalize y.dA[b.length]=z at*;go_wp2_with fail
  refine(xH (ak.o.alloc _) z hz).mono ?_;rintro P j⟨Q,ab,ac⟩;have E:=(ak.o.alloc (.cells #[qI z.1,qJ z.2] 93)).quiet Q;have an:qK wr j:=(qr.alloc _).trans Q;have bi:Kept (λk=>k<W.heap.size/\¬K k) W j:=((qr.alloc _).trans (B.mono (λ_ _ c=>c.elim))).trans (an.mono (λ_ _ c=>c.elim));rcases l:gX Z z with⟨q,p⟩|ks
  .obtain rfl:=ac _ _ l;exact⟨rfl,Ends.dG (by unfold fU;rw[f.o,C.o _ l]) E.kept bi⟩
  obtain⟨v,rfl,F⟩:=ab _ l;have l1:=HA.o.short hz l;obtain⟨pk,ck,rfl⟩:=Row.shape F;have R:=qH (f.o.trans (HO.o _ l));have ad:=qH (al.o.kept an (λ_ _ _ c=>c) (λ_ _ _ c=>c));have S:=qH E;have H1:=qH F;clear ab ac l E F C HO f c0 c1 al;obtain⟨vs,aB,G⟩:=ad.o;have aQ:=qH (λo=>(Row.alloc aB o).own);have aR:=qH aB;have aS:=qH G;have bH:=an.size;clear aB G;go_wp2_with (at_builtin;refine wpList_append_lies _ rfl _ _ 278 rfl 0 98 i0 (qN) 1 24 underlying278 a8 a9 ba bc rfl qx _ _ _ rfl (aQ.o _) ⟨j.heap.size,0,none⟩ 1 1 [_] rfl rfl (cells_at qs rfl) ?c2 qo ?c3 ?c4 qZ (j.heap.size+1) qs ?_)
  case c2=>intro u hu;simp at hu;subst hu;rfl
  case c3=>unfold maxLen;omega
  case c4=>omega
  intro gg bj H aT aU aV bI;have I:∀g,(Value.slice po b.length co).ownBlock=some g->W.heap.size<g:=λg d=>aR.o.at_ g d;have hG:=Kept.gH aU;have ae:=(S.o.alloc (.cells #[qX pk ks ck] 98)).aside hG (λg d=>⟨λc=>by have:=I g d;omega,λc=>by have:=I g d;have:=aO g c;omega,by have:=I g d;omega⟩);have aW:=((B.trans an).alloc (.cells #[qX pk ks ck] 98)).fresh hG (λg d c=>by have:=I g c;simp at d;omega);have aC:∀g,K g->¬(Value.slice po b.length co).ownBlock=some g:=λg d c=>by have:=I g c;have:=aO g d;omega
  have aX:mU K (λg=>W.heap.size<g) (b++[ks]) H (qL gg (b.length+1) bj):=by
   refine⟨vs++[qX pk ks ck],⟨by simpa using aT,λg d=>?_⟩,Each.snoc (aS.o.to (λ_ _ c=>Row.kept (Row.alloc c _) hG (λg _ d=>aC g d))) (Row.kept (Row.alloc H1.o _) hG (λg _ d=>aC g d))⟩;simp[Value.ownBlock]at d;subst d;obtain hh | hh:=aV
   .exact I _ hh
   simp at be;omega
  have aY:∀z∈b++[ks],z.length<=8:=λz hz=>by
   obtain hh | hh:=qar.1 hz
   .exact H8.o z hh
   simp at hh;subst hh;exact l1
  have aD:=qH ae;have bk:=qH aW;have aE:=qH aX;have bm:=qH aY;clear aT aU aV ae aW aX aY hG aC I aR aS aQ H1 S ad;go_wp2;go_roundw
  case rel=>exact⟨b.length+1,b++[ks],qo,qs,by go_num,aD.o,bk.o,aE.o,bm.o,R.o⟩
  simp[intOf];omega
 have HD:qh (iy Z y.dA []=.ok b):=by
  show _=_;rw[f.o,qbq qo];rfl
 have bn:wr.cell? (qA W.heap.size 6)=some (qI y.num.1):=(B.cell (p:=(qA W.heap.size 6)) qs (λc=>c)).trans qs;have bo:wr.cell? (qA W.heap.size 7)=some (qJ y.num.2):=(B.cell (p:=(qA W.heap.size 7)) qs (λc=>c)).trans qs;have bp:Kept (λk=>k<W.heap.size/\¬K k) W wr:=(qr.alloc _).trans (B.mono (λ_ _ c=>c.elim));clear ay au f;go_wp2_with fail
 refine(xH ak.o y.num hx).mono ?_;rintro P j⟨Q,ab,ac⟩;have E:=ak.o.quiet Q;have aZ:Kept (λk=>k<W.heap.size/\¬K k) W j:=bp.trans (Q.mono (λ_ _ c=>c.elim));rcases l:gX Z y.num with⟨q,p⟩|last
 .obtain rfl:=ac _ _ l;exact⟨rfl,Ends.dG (by unfold fU;rw[HD.o];simp only[l]) E.kept aZ⟩
 obtain⟨v,rfl,F⟩:=ab _ l;have l1:=HA.o.short hx l;obtain⟨pk,ck,rfl⟩:=Row.shape F;have ad:=qH (al.o.kept Q (λ_ _ _ c=>c) (λ_ _ _ c=>c));have S:=qH E;have H1:=qH F;have HL:=qH l;clear ab ac l E F al bn bo;go_wp2_with fail
 refine(take_at (S.o.alloc _) hb (eu j [127] rfl rfl qs) S.o.ne qs).mono ?_;rintro P H⟨a0,a1,bq,ao⟩;have a2:=aZ.fK ((qr.alloc _).trans ao) rfl;rcases T:dQ Z [127] with⟨q,p⟩|i
 .obtain rfl:=a1 _ _ T;exact⟨rfl,Ends.dG (by unfold fU;rw[HD.o];simp only[HL.o,T]) bq a2⟩
 obtain⟨rfl,ae⟩:=a0 _ T;have hf:=eO HA.o.tidy.dK T;have aF:i.dn≠[]:=by rw[hf.1];exact hb
 have R:qh (fU y Z=match jG i last b with | .error e=>.error e | .ok _=>match dQ i last with | .error e=>.error e | .ok aG=>.ok (fV aG)):=by
  show _=_;unfold fU;rw[HD.o];simp only[HL.o,T];rfl
 have aE:qh (mU K (λg=>W.heap.size<g/\g<j.heap.size) b H (qX po b co)):=by
  obtain⟨vs,hr,G⟩:=ad.o;have U:mU K (λg=>W.heap.size<g/\g<j.heap.size) b j (qX po b co):=⟨vs,Row.mono hr (λg d ho=>⟨ho,d⟩),G⟩;exact(U.kept ((Kept.refl (λ_=>False) _).alloc _) (λ_ _ _ c=>c) (λ_ _ _ c=>c)).kept ao (λg _ d c=>by have:=c.1;omega) (λg _ d c=>c.2 d)
 have br:=qH (ao.kinds (Row.alloc H1.o _));have aD:=qH ae;have bs:=ao.size;have bJ:j.heap.size<H.heap.size:=by simp at bs;omega
 have bu:qh (jG i last b=jG i last (b.drop 0)):=by show _=_;simp
 clear a0 a1 T ae hf ad H1 HL HD S;go_wp2;go_loopw [33] (λq w4=>∃k:Nat,k<=b.length/\q=qJ k/\At K O w w4 (λk=>k<W.heap.size\/(j.heap.size+1<=k/\k<H.heap.size)) bb (qP Y) lv i/\Kept (λk=>(k<W.heap.size\/(j.heap.size+1<=k/\k<H.heap.size))/\¬K k) H w4/\jG i last b=jG i last (b.drop k)) (λq _=>b.length - (intOf q).toNat)
 case atStart=>exact⟨0,qZ,rfl,by simpa using aD.o,Kept.refl _ _,bu.o⟩
 obtain⟨t,bK,rfl,a3,ap,aa⟩:=hrel;have f:=qH aa;have af:=qH a3;have a4:=aE.o.kept ap (λg _ d c=>by have:=c.1;omega) (λg _ d c=>c.2 d);have aH:Kept (λk=>k<W.heap.size/\¬K k) W _:=a2.fK ap rfl;have bv:=qH (Row.kept br.o ap (λg _ d c=>c.2 d));clear aa a3;by_cases ag:t<b.length
 .have Wj:(t:Int)<(b.length:Int):=qo;obtain⟨vs,hr,G⟩:=a4;obtain⟨g,A,hv,-,bf,bg,L⟩:=Row.cells hr qo;cases hv;obtain⟨v,hv,aI⟩:=G.get (qab ag);obtain⟨pv,cv,rfl⟩:=Row.shape aI;have c0:=(L t qo).trans hv;have l2:=H8.o _ (qaw ag);have bw:=qH aI;clear L hr G hv aI;by_cases V:b[t].length=last.length
  .have tl:((b[t].length:Int) !=(last.length:Int))=false:=by rw[V,bne_self_eq_false]
   have C:=qH (λe D=>JP (Z:=i) (last:=last) (e:=e) ag V D);have HO:=qH (λu D=>NS (Z:=i) (last:=last) (u:=u) ag V D);clear V;generalize b[t]=ks at*;go_wp2_with fail
   refine(JQ af.o aF bw.o aN qo).mono ?_;rintro P w5⟨ah,ai,aJ,aq⟩;have ar:=aH.fK aq rfl;rcases n:kM i ks with⟨q,p⟩|u
   .obtain rfl:=ai _ _ n;exact⟨rfl,Ends.dG (by rw[R.o,f.o,C.o _ n]) aJ ar⟩
   obtain⟨rfl,aj⟩:=ah _ n;have bz:=qH (f.o.trans (HO.o _ n));have aK:=qH aj;have bA:=ap.trans aq;clear ah ai n aj C HO f c0;go_wp2;go_roundw
   case rel=>exact⟨t+1,qo,by go_num,aK.o,bA,bz.o⟩
   simp[intOf];omega
  have tl:((b[t].length:Int) !=(last.length:Int))=true:=by rw[qcm];omega
  have C:qh (fU y Z=.error (4,i.at_)):=by show _=_;rw[R.o,f.o,JO ag V]
  clear V;generalize b[t]=ks at*;go_wp2_with fail
  refine(rW af.o).mono ?_;rintro P w5⟨rfl,rfl⟩;exact⟨rfl,Ends.dG C.o af.o.kept aH⟩
 have aL:qh (fU y Z=match dQ i last with | .error e=>.error e | .ok aG=>.ok (fV aG)):=by
  show _=_;rw[R.o,f.o,qbq qo];rfl
 clear a4 f R;go_wp2_with fail
 refine(take_at af.o aF bv.o aN qo).mono ?_;rintro P w5⟨ah,ai,aJ,aq⟩;have ar:=aH.fK aq rfl;rcases n:dQ i last with⟨q,p⟩|a5
 .obtain rfl:=ai _ _ n;exact⟨rfl,Ends.dG (by rw[aL.o,n]) aJ ar⟩
 obtain⟨rfl,aj⟩:=ah _ n;have hf:=eO af.o.tidy.dK n;have bB:a5.dn≠[]:=by rw[hf.1];exact aF
 have f:qh (fU y Z=.ok (fV a5)):=by show _=_;rw[aL.o,n]
 have aK:=qH aj;clear ah ai n aj hf aL;go_wp2_with fail
 refine(yI aK.o bB).mono ?_;rintro P w6⟨a6,-,-,bC⟩;obtain⟨rfl,a7⟩:=a6 _ rfl;have bD:=qH a7;clear a6 a7;go_wp2;go_end0;exact Ends.dN f.o bD.o (ar.fK bC rfl)
theorem Dl{pg pl:qO}{cg nl cl:Nat}(h:At K O w W N bb (qP Y) lv Z)(hb:Z.dn≠[])(hm:MV s K W Y m)(a e x:Nat)(y:fO)(hx:0<=y.num.1/\y.num.1<=4294967295)(g:dH K y.dL W (.slice pg y.dL.length cg))(b:Z.dB.length<=798000)(d:Z.dn.length<=54)(o:x=5->2<=Z.dn.length)(i:∀t,eU m y=.ok t->t.ins.length<=8/\t.outs.length<=8):
  qC 188 #[qP bb,.agg (yC a e x y (.slice pg y.dL.length cg) (.slice pl nl cl)).toArray] W (Ends K O w W (λk=>k<W.heap.size) bb (qP Y) lv (dR m x y Z)):=by
 by_cases h0:x=0
 .subst h0;exact tF h hb a e y
 by_cases f:x=2\/x=3
 .exact zM h hb hm a e x y hx g b d i f
 by_cases j:x=4
 .subst j;exact Dk h hb hm a e y hx g b d i
 by_cases l:x=5
 .subst l;exact zO h hb a e y b d (o rfl)
 by_cases n:x=11
 .subst n;exact BU h hb a e y b
 exact zN h a e x y h0 (λc=>f (.inl c)) (λc=>f (.inr c)) j l n
theorem zK{pg pl:qO}{ng cg cl:Nat}(h:At K O w W N bb (qP Y) lv Z)(hb:Z.dn≠[])(a e:Nat)(y:fO)(hx:0<=y.num.1/\y.num.1<=4294967295)(b:∀z∈y.dA,0<=z.1/\z.1<=4294967295)(f:y.dA.length<=20)(d:isRow 93 2 numCells K y.dA W (.slice pl y.dA.length cl)):
  qC 189 #[qP bb,.agg #[qJ a,qJ e,qB 14,.bool y.typed,.slice pg ng cg,qI y.align,qI y.num.1,qJ y.num.2,.slice pl y.dA.length cl,qJ y.val]] W (Ends K O w W (λk=>k<W.heap.size) bb (qP Y) lv (dU m 14 y Z)):=by
 have g:=qH h.up;have i:=qH b;have j:=qH d;have HN:qh (dU m 14 y Z=fU y Z):=rfl;clear h b d;have r:qh True:=trivial;go_enter func189,ntmps189;go_wp2_with fail
 refine(Dc (g.o.alloc _) hb a e 14 y hx i.o f (Row.kept j.o ((Kept.refl (λ_=>False) _).alloc _) (λ_ _ _ c=>c))).mono ?_;rintro t l⟨hok2,iA,hk2,n⟩;have hlow:Kept (λk=>k<W.heap.size/\¬K k) W l:=((qr.alloc _).trans n).mono (λk X c=>⟨X,c.2⟩);rcases hm2:fU y Z with⟨q,p⟩|u
 .exact II
 exact IK
theorem BQ{pg pl:qO}{ng cg nl cl:Nat}(h:At K O w W N bb (qP Y) lv Z)(a e x:Nat)(y:fO)(b:x≠12)(c:x≠13)(d:x≠14)(f:x≠15)(g:x≠16)(i:x≠17):
  qC 189 #[qP bb,.agg (yC a e x y (.slice pg ng cg) (.slice pl nl cl)).toArray] W (Ends K O w W (λk=>k<W.heap.size) bb (qP Y) lv (dU m x y Z)):=by
 have HA:=qH h.up;have HM:qh (dU m x y Z=.ok Z):=by show _=_;unfold dU;rw[qaa b,qaa c,qaa d,qaa f,qaa g,qaa i]
 have j:((x:Int)==12)=false:=qe;have l:((x:Int)==13)=false:=qe;have n:((x:Int)==14)=false:=qe;have o:((x:Int)==15)=false:=qe;have p:((x:Int)==16)=false:=qe;have q:((x:Int)==17)=false:=qe;clear h b c d f g i;go_enter func189,ntmps189;exact Vq
theorem FE{pg pl:qO}{ng cg cl:Nat}(h:At K O w W N bb (qP Y) lv Z)(hb:Z.dn≠[])(hm:MV s K W Y m)(a e x:Nat)(y:fO)(hx:0<=y.num.1/\y.num.1<=4294967295)(n:∀z∈y.dA,0<=z.1/\z.1<=4294967295)(o:y.dA.length<=20)(p:isRow 93 2 numCells K y.dA W (.slice pl y.dA.length cl))(b:Z.dB.length<=798000)(q:∀x∈m.funcs,0<=x.1/\x.1<(m.dx.length:Int))(r:∀t,iH m y.num=.ok t->t.ins.length<=8/\t.outs.length<=8)(u:∀f,(dM m f).ins.length<=8/\(dM m f).outs.length<=8):
  qC 189 #[qP bb,.agg (yC a e x y (.slice pg ng cg) (.slice pl y.dA.length cl)).toArray] W (Ends K O w W (λk=>k<W.heap.size) bb (qP Y) lv (dU m x y Z)):=by
 by_cases c:x=12
 .subst c;exact FD h hb a e y hx
 by_cases d:x=13
 .subst d;exact BR h hb a e y hx b
 by_cases g:x=14
 .subst g;exact zK h hb a e y hx n o p
 by_cases i:x=15
 .subst i;exact yN h hb a e y
 by_cases j:x=16
 .subst j;by_cases v:y.num.1<(m.funcs.length:Int)
  .obtain⟨f,hf⟩:∃f:Nat,y.num.1=(f:Int):=⟨y.num.1.toNat,qo⟩;have:=yO (pg:=pg) (pl:=pl) (ng:=ng) (cg:=cg) (nl:=y.dA.length) (cl:=cl) h hb a e y f y.num.2 (by rw[<-hf]) qo hm qo q (u f) b;unfold yC;rw[hf];exact this
  exact xV h a e y y.num.1 y.num.2 rfl hx.1 hx.2 hm v
 by_cases l:x=17
 .subst l;exact wM h hb a e y hx b hm r
 exact BQ h a e x y c d g i j l
theorem RP{n:qO}{c0:Nat}{ls:qM}{pg pl:qO}{cg cl:Nat}(h:At K O w W N bb (qP Y) (.slice n ls.length c0) Z)(hb:Z.dn≠[])(hm:MV s K W Y m)(B:dH K ls W (.slice n ls.length c0))(a e x:Nat)(y:fO)(hx:0<=y.num.1/\y.num.1<=4294967295)(C:∀z∈y.dA,0<=z.1/\z.1<=4294967295)(D:y.dA.length<=20)(E:isRow 93 2 numCells K y.dA W (.slice pl y.dA.length cl))(F:dH K y.dL W (.slice pg y.dL.length cg))(G:Z.dB.length<=798000)(H:Z.dn.length<=54)(I:x=5->2<=Z.dn.length)(J:∀x∈m.funcs,0<=x.1/\x.1<(m.dx.length:Int))(L:∀t,eU m y=.ok t->t.ins.length<=8/\t.outs.length<=8)(M:∀t,iH m y.num=.ok t->t.ins.length<=8/\t.outs.length<=8)(Q:∀f,(dM m f).ins.length<=8/\(dM m f).outs.length<=8):
  qC 133 #[qP bb,.agg (yC a e x y (.slice pg y.dL.length cg) (.slice pl y.dA.length cl)).toArray] W (Ends K O w W (λk=>k<W.heap.size) bb (qP Y) (.slice n ls.length c0) (iG m ls x y Z)):=by
 have j:=qH h.up;have ae:=h.body.lt;have l:∀o,qK W (W.alloc o):=λo=>(Kept.refl (λ_=>False) _).alloc o;have r:qh ((MV s K (W.alloc (.cells (yC a e x y (.slice pg y.dL.length cg) (.slice pl y.dA.length cl)).toArray 195)) Y m)/\True):=⟨hm.kept (l _) (λ_ _ _ c=>c),trivial⟩;have R:qh (dH K ls (W.alloc (.cells (yC a e x y (.slice pg y.dL.length cg) (.slice pl y.dA.length cl)).toArray 195)) (.slice n ls.length c0)):=Row.kept B (l _) (λ_ _ _ c=>c);have S:qh (dH K y.dL (W.alloc (.cells (yC a e x y (.slice pg y.dL.length cg) (.slice pl y.dA.length cl)).toArray 195)) (.slice pg y.dL.length cg)):=Row.kept F (l _) (λ_ _ _ c=>c);have T:qh (isRow 93 2 numCells K y.dA (W.alloc (.cells (yC a e x y (.slice pg y.dL.length cg) (.slice pl y.dA.length cl)).toArray 195)) (.slice pl y.dA.length cl)):=Row.kept E (l _) (λ_ _ _ c=>c);have V:=And.intro hx (And.intro D H);clear V;have HX:=qH C;have H5:=qH I;have aa:=qH J;have ab:=qH L;have ac:=qH M;have ad:=qH Q;clear h hm B C E F I J L M Q l;by_cases U:x<=11
 .have HN:qh (iG m ls x y Z=dR m x y Z):=by show _=_;unfold iG;rw[qac U]
  have t0:(x:Int)<=11:=qo;clear U;go_enter func133,ntmps133;go_wp2_with fail
  refine(Dl (j.o.alloc _) hb r.o.1 a e x y hx S.o G H H5.o ab.o).mono ?_;rintro u b⟨hok2,iA,hk2,d⟩;have hlow:Kept (λk=>k<W.heap.size/\¬K k) W b:=((qr.alloc _).trans d).mono (λk X c=>⟨X,c.2⟩);rcases hm2:dR m x y Z with⟨q,p⟩|v
  .exact II
  exact IK
 have t0:¬(x:Int)<=11:=qo;by_cases g:x<=17
 .have HN:qh (iG m ls x y Z=dU m x y Z):=by show _=_;unfold iG;rw[qaa U,qac g]
  have t1:(x:Int)<=17:=qo;clear U g;go_enter func133,ntmps133;go_wp2_with fail
  refine(FE (j.o.alloc _) hb r.o.1 a e x y hx HX.o D T.o G aa.o ac.o ad.o).mono ?_;rintro u b⟨hok2,iA,hk2,d⟩;have hlow:Kept (λk=>k<W.heap.size/\¬K k) W b:=((qr.alloc _).trans d).mono (λk X c=>⟨X,c.2⟩);rcases hm2:dU m x y Z with⟨q,p⟩|v
  .exact II
  exact IK
 have t1:¬(x:Int)<=17:=qo;by_cases i:x<=36
 .have HN:qh (iG m ls x y Z=eF m ls x y Z):=by show _=_;unfold iG;rw[qaa U,qaa g,qac i]
  have t2:(x:Int)<=36:=qo;clear U g i;go_enter func133,ntmps133;go_wp2_with fail
  refine(yJ (j.o.alloc _) hb r.o.1 R.o a e x y pg pl _ cg _ cl hx qo).mono ?_;rintro u b⟨hok2,iA,hk2,d⟩;have hlow:Kept (λk=>k<W.heap.size/\¬K k) W b:=((qr.alloc _).trans d).mono (λk X c=>⟨X,c.2⟩);rcases hm2:eF m ls x y Z with⟨q,p⟩|v
  .exact II
  exact IK
 have t2:¬(x:Int)<=36:=qo;by_cases A:x<=64
 .have HN:qh (iG m ls x y Z=eG m x y Z):=by show _=_;unfold iG;rw[qaa U,qaa g,qaa i,qac A]
  have t3:(x:Int)<=64:=qo;clear U g i A;go_enter func133,ntmps133;go_wp2_with fail
  refine(BN (j.o.alloc _) hb r.o.1 a e x y pg pl _ cg _ cl qo).mono ?_;rintro u b⟨hok2,iA,hk2,d⟩;have hlow:Kept (λk=>k<W.heap.size/\¬K k) W b:=((qr.alloc _).trans d).mono (λk X c=>⟨X,c.2⟩);rcases hm2:eG m x y Z with⟨q,p⟩|v
  .exact II
  exact IK
 have t3:¬(x:Int)<=64:=qo;have HN:qh (iG m ls x y Z=gG x Z):=by show _=_;unfold iG;rw[qaa U,qaa g,qaa i,qaa A]
 clear U g i A;go_enter func133,ntmps133;go_wp2_with fail
 refine(BM (j.o.alloc _) hb x qo).mono ?_;rintro u b⟨hok2,iA,hk2,d⟩;have hlow:Kept (λk=>k<W.heap.size/\¬K k) W b:=((qr.alloc _).trans d).mono (λk X c=>⟨X,c.2⟩);rcases hm2:gG x Z with⟨q,p⟩|v
 .exact II
 exact IK
end
theorem Oq(w:qW):qC 185 #[qN,qJ 0] w λe w'=>e=.returned (qN)/\w'=w:=by
 go_enter func185,ntmps185;go_wp2;go_ret;exact⟨rfl,rfl⟩
theorem Oo(w:qW)(n:Nat)(h0:0<n)(l:n<=100):qC 185 #[qN,qJ n] w λe w'=>∃v,e=.returned v/\qK w w'/\dH (λg=>w.heap.size<=g) [] w' v:=by
 obtain⟨d,f,h,m,i⟩:=qap Tryz.Bj;have a:grownCap w n 0 80<=maxLen:=grownCap_le_maxLen w n 0 80 (by unfold maxLen;omega);have b:=grownCap_ge w n 0 80;have j:=qH (Lib.run_append_nil_zeros (P:=prog) w 98 3 98 80 d (qB 0) .i64 .i64 underlying98 rfl f h n h0 qo qo (by rw[i];omega));have c:=qH (And.intro a b);clear a b;go_enter func185,ntmps185;go_wp2_with (at_builtin;refine Lib.wpList_append_run _ rfl _ _ _ _ rfl _ _ rfl rfl _ _ j.o ?_)
 go_ret;refine⟨_,rfl,(qr.alloc _).drew,⟨⟨rfl,.inr ⟨_,_,_,rfl,qZ,heap_alloc_new w _,qZ,c.o.1,?_,by simp[kindCells]⟩⟩,λg k=>?_⟩⟩
 .have:=c.o.2;simp[size_zeroCells];omega
 simp[Value.ownBlock]at k;omega
theorem Rh(w:qW)(n:Nat)(a:n<=100):qC 185 #[qN,qJ n] w λe w'=>∃v,e=.returned v/\qK w w'/\dH (λg=>w.heap.size<=g) [] w' v:=by
 by_cases h0:0<n
 .exact Oo w n h0 a
 obtain rfl:n=0:=qo;refine(Oq w).mono ?_;rintro e w'⟨rfl,rfl⟩;exact⟨_,rfl,Kept.refl _ _,Row.nil _ _ _ _⟩
theorem oD{w:qW}{b:Array Oper}{d:List Oper}{o:Oper}{a:Act}{Q:Exit->Act->qW->Prop}{B:Nat}{ok:qD}{us ks:qM}{v f:qv}(i:o.guard=none)(s x:Operand)
  (ho:o.op=.call {callee:=.builtin .append,args:= #[s,x],argTypes:= #[98,98]}) (l:a.eval s=v) (hv:dH (λg=>B<=g) us w v) (hx:a.eval x=f) (X:dH ok ks w f) (hl:us.length+ks.length<=1000) (L:B<=w.heap.size)
  (h:∀p c w',dH (λg=>B<=g) (us++ks) w' (.slice p (us.length+ks.length) c)->Kept (λg=>B<=g) w w'->wpList prog b Q d (a.put o.dst (.slice p (us.length+ks.length) c)) w'):wpList prog b Q (o::d) a w:=by
 obtain⟨m,n,z,C,D⟩:=qap Tryz.Bj;obtain⟨ps,cs,rfl⟩:=Row.shape hv;obtain⟨M,E,rfl⟩:=Row.shape X;by_cases q:ks=[]
 .subst q;refine oF i _ _ 98 ho 0 80 m 1 underlying98 n _ _ _ l hv.own _ _ hx ?_;exact h ps cs w (by simpa using hv) qr
 have r:0<ks.length:=by
  have:ks.length≠0:=by simpa using q
  omega
 obtain⟨gk,N,F,-,O,R,hcells⟩:=Row.cells X r;cases F;have G:∀j u,(kindCells ks)[j]?=some u->w.cell? ((⟨gk,0,none⟩:Addr).add j)=some u:=by
  exact Xe
 have H:∀u∈kindCells ks,u.oneCell'=true:=by
  intro u t;simp[kindCells]at t;obtain⟨x,-,rfl⟩:=t;rfl
 refine wpList_append_lies _ i _ _ 98 ho 0 80 m (qB 0) 1 1 underlying98 n z C D rfl qx _ _ _ l hv.own ⟨gk,0,none⟩ ks.length E (kindCells ks) hx (by simp[kindCells]) G H r (by unfold maxLen;omega) qo qZ w.heap.size rfl ?_;intro S A T I J K U;refine h _ _ _ ⟨?_,λg y=>?_⟩ ((Kept.gH J).mono (λk _ e=>hv.at_ k e))
 .rw[su,qaq];exact I
 simp[Value.ownBlock]at y;subst y;obtain hh | hh:=K
 .exact hv.at_ _ hh
 omega
theorem KA{ok:qD}{w:qW}{sb:Nat}{us vs:qM}{pa pb:qO}{ca cb:Nat}(h0:w.cell? (qA sb 0)=some (qX pa us ca))(U:w.cell? (qA sb 1)=some (qX pb vs cb))(l:sb<w.heap.size)(B:dH ok us w (qX pa us ca))(hb:dH ok vs w (qX pb vs cb))(J:us.length<=50)(hv:vs.length<=50):
  qC 131 #[qL sb 2 2] w λe w'=>∃v,e=.returned v/\qK w w'/\dH (λg=>w.heap.size<=g) (us++vs) w' v:=by
 have C:=qH B;have D:=qH hb;clear B hb;go_enter func131,ntmps131;go_wp2;go_loopw [3,11] (λz q wr=>w=wr/\((z=qJ 0/\q=qJ 0)\/(z=qJ us.length/\q=qJ 1)\/(z=qJ ((us.length+vs.length:Nat):Nat)/\q=qJ 2))) (λ_ q _=>2 - (intOf q).toNat)
 case atStart=>exact⟨rfl,.inl ⟨rfl,rfl⟩⟩
 obtain⟨rfl,⟨rfl,rfl⟩ | ⟨rfl,rfl⟩ | ⟨rfl,rfl⟩⟩:=hrel
 .go_wp2;go_roundw
  case rel=>exact⟨trivial,.inr (.inl ⟨by go_num,by go_num⟩)⟩
  simp[intOf]
 .go_wp2;go_roundw
  case rel=>exact⟨trivial,.inr (.inr ⟨by go_num,by go_num⟩)⟩
  simp[intOf]
 go_wp2_with fail
 refine(Rh _ (us.length+vs.length) qo).mono ?_;rintro e K⟨v1,rfl,E,s⟩;obtain⟨L,c1,rfl⟩:=Row.shape s;have m:=qH s;have n:=qH E;clear s E;go_wp2;go_loopw [6,27] (λt q r=>qK w r/\((dH (λg=>w.heap.size<=g) [] r t/\q=qJ 0)\/(dH (λg=>w.heap.size<=g) us r t/\q=qJ 1)\/(dH (λg=>w.heap.size<=g) (us++vs) r t/\q=qJ 2))) (λ_ q _=>2 - (intOf q).toNat)
 case atStart=>exact⟨n.o,.inl ⟨m.o,rfl⟩⟩
 obtain⟨a,⟨b,rfl⟩ | ⟨b,rfl⟩ | ⟨b,rfl⟩⟩:=hrel
 .have d:=qH a;have c0:wr.cell? (qA sb 0)=some (qX pa us ca):=(a.cell (p:=(qA sb 0)) l (λc=>c)).trans h0;have c1:wr.cell? (qA sb 1)=some (qX pb vs cb):=(a.cell (p:=(qA sb 1)) l (λc=>c)).trans U;have u:=a.size;have f:dH ok us wr (qX pa us ca):=Row.kept C.o a (λ_ _ _ c=>c);have h:dH ok vs wr (qX pb vs cb):=Row.kept D.o a (λ_ _ _ c=>c);obtain⟨p2,c2,rfl⟩:=Row.shape b;have i:=qH b;have F:=qH f;have G:=qH h;clear b a f h m n h0 U;go_wp2_with (at_builtin;refine oD rfl _ _ rfl rfl i.o rfl F.o qt u ?_)
  intro H c3 x j k;have y:=qH j;have A:qh (qK w x):=d.o.fresh k (λg I c=>qo);clear j k;go_wp2;go_roundw
  case rel=>exact⟨A.o,.inr (.inl ⟨by simpa using y.o,by go_num⟩)⟩
  simp[intOf]
 .have d:=qH a;have c0:wr.cell? (qA sb 0)=some (qX pa us ca):=(a.cell (p:=(qA sb 0)) l (λc=>c)).trans h0;have c1:wr.cell? (qA sb 1)=some (qX pb vs cb):=(a.cell (p:=(qA sb 1)) l (λc=>c)).trans U;have u:=a.size;have f:dH ok us wr (qX pa us ca):=Row.kept C.o a (λ_ _ _ c=>c);have h:dH ok vs wr (qX pb vs cb):=Row.kept D.o a (λ_ _ _ c=>c);obtain⟨p2,c2,rfl⟩:=Row.shape b;have i:=qH b;have F:=qH f;have G:=qH h;clear b a f h m n h0 U;go_wp2_with (at_builtin;refine oD rfl _ _ rfl rfl i.o rfl G.o qo u ?_)
  intro H c3 x j k;have y:=qH j;have A:qh (qK w x):=d.o.fresh k (λg I c=>qo);clear j k;go_wp2;go_roundw
  case rel=>exact⟨A.o,.inr (.inr ⟨by simpa using y.o,by go_num⟩)⟩
  simp[intOf]
 have i:=qH b;have d:=qH a;clear b a m n;go_wp2;go_ret;exact⟨_,rfl,d.o,i.o⟩
def Ci(m:dX)(ls:List Nat)(s:qS)(n:Nat)(whole:Except Err Unit)(o:Option (List Nat))(j:Nat)(Z:Bd):Prop:=
 match o with
 | none=>whole=.ok ()
 | some os=>Z.dn.length=os.length+1/\Z.dB.length<=16*j/\∃f,n - j<=f/\whole=rO m ls s n f os j Z
theorem FK{j x e n:Nat}{s:qS}{y:fO}(a:j<n)(h:iE j x s n (j+1)=.ok (y,e)):nJ n y:=((jX j x).ok qo qo h).2.2
theorem Ci.step{m:dX}{ls os:qM}{s:qS}{n N j e x:Nat}{g:Except Err Unit}{o:Option (qM)}{Z:Bd}{y:fO}(hm:iX N m)(r:n<=N)(h:Ci m ls s n g (some os) j Z)(t:Tidy Z)
  (A:x8 os o j x) (hx:x=bt s j) (u:j<n) (C:j<e) (hb:iE j x s n (j+1)=.ok (y,e)):
  (∀q p,iG m ls x y {Z with at_:=j}=.error (q,p)->g=.error (q,p))/\∀J,iG m ls x y {Z with at_:=j}=.ok J->Ci m ls s n g o e J/\Tidy J:=by
 obtain⟨U,D,v,E,a⟩:=h;obtain⟨f,rfl⟩:∃f,v=f+1:=⟨v - 1,qo⟩;have hy:=FK u hb;have B:nJ N y:=⟨⟨hy.1.1,hy.1.2.1,qam hy.1.2.2 r⟩,hy.2.1,λz k=>⟨(hy.2.2.1 z k).1,(hy.2.2.1 z k).2.1,qam (hy.2.2.1 z k).2.2 r⟩,hy.2.2.2⟩;have i:=tC (ls:=ls) hm B x {Z with at_:=j} ⟨t.kR,t.short⟩ (λc=>by simp at c;rw[c]at U;simp at U) qt;unfold rO at a;rw[dY u,<-hx]at a;simp only at a;obtain⟨b,d,l⟩ | ⟨b,w,d,l⟩:=A
 .subst l;rw[qac ⟨b,d⟩]at a;simp only[hb]at a;refine⟨λq p hc=>?_,λJ hc=>⟨?_,(i.2 J hc).1⟩⟩
  .rw[a,hc]
  show g=_;rw[a,hc];simp[b,d]
 subst l;have F:=zY (os:=os) (os':=w) (j:=j) (x:=x) (.inr ⟨b,w,d,rfl⟩);rw[qaa b,d]at a;simp only[hb]at a;refine⟨λq p hc=>?_,λJ hc=>⟨⟨?_,?_,?_⟩,(i.2 J hc).1⟩⟩
 .rw[a,hc]
 .have:=(i.2 J hc).2.2.2;simp at this;omega
 .have:=(i.2 J hc).2.2.1;simp at this;omega
 refine⟨f,qo,?_⟩;rw[a,hc];simp only[qaa b]
section
variable {K O N:qD}{w W:qW}{bb Y:Nat}{mp lv:qv}{Z:Bd}{s:qS}{m:dX}
theorem gZ.V6{K':qD}(h:gZ K O w bb mp lv Z)(X:∀k,K k->K' k)(b:∀k,O k->¬K' k)(hl:∀k,K' k->k<w.heap.size):gZ K' O w bb mp lv Z:=by
 obtain⟨sv,d,h⟩:=h;refine⟨sv,d,h.blk,h.own,h.stk,?_,b,hl⟩;obtain⟨css,U,f⟩:=h.tY;refine⟨css,U,f.to (λx cs hx=>⟨?_,hx.2⟩)⟩;obtain⟨i,gv,e,a,c⟩:=hx.1;exact⟨i,gv,e,Row.mono a (λg _=>X g),Row.mono c (λg _=>X g)⟩
theorem gZ.keep{S:qD}(h:gZ K O w bb mp lv Z)(X:Kept S w W)(a:∀k,k<w.heap.size->S k->¬O k/\¬K k):gZ K O W bb mp lv Z:=by
 obtain⟨sv,b,h⟩:=h;exact⟨sv,b,h.kept X a⟩
theorem gZ.place(h:gZ K O w bb mp lv Z)(j:Nat):gZ K O (w.setCell (qA bb 4) (qJ j)) bb mp lv {Z with at_:=j}:=by
 obtain⟨sv,a,h⟩:=h;exact⟨sv,a,h.cells (qr.own _) (h.blk.set 4 _) h.stk h.tY⟩
def Gone(K0:Nat->Prop)(w:World)(m:dX)(ls:List Nat)(s:qS)(n:Nat)(whole:Except Err Unit)(vb bb:Nat)(mp lv:Value)(o:Option (List Nat))(j:Nat)(F:Nat->Prop)(W:World):Prop:=
 ∃(K O:Nat->Prop)(Z:Bd),(∀k,K0 k->K k)/\(∀k,F k↔K k\/O k\/k=vb)/\(∀k,O k->k<W.heap.size)/\¬O vb/\¬K vb/\vb<W.heap.size/\
  gZ K O W bb mp lv Z/\Tidy Z/\Kept (λk=>¬K0 k) w W/\jf W vb [qP bb]/\Ci m ls s n whole o j Z
theorem Gone.still{g F S:qD}{l:qW}{ls:qM}{n b j:Nat}{p:Except Err Unit}{o:Option (qM)}(h:Gone g w m ls s n p b bb mp lv o j F W)(X:Kept S W l)(d:∀k,k<W.heap.size->S k->¬F k):Gone g w m ls s n p b bb mp lv o j F l:=by
 obtain⟨K,O,Z,U,a,t,u,v,f,x,y,q,z,A⟩:=h;have r:=X.size;refine⟨K,O,Z,U,a,λk B=>qad (t k B) r,u,v,qad f r,x.keep X (λk hl e=>⟨λc=>d k hl e ((a k).2 (.inr (.inl c))),λc=>d k hl e ((a k).2 (.inl c))⟩),y,q.fresh X (λi hi e c=>d i (qad hi q.size) e ((a i).2 (.inl (U i c)))),z.kept X f (λc=>d b f c ((a b).2 (.inr (.inr rfl)))),A⟩
theorem Gone.lt{a F:qD}{ls:qM}{n b j k:Nat}{d:Except Err Unit}{o:Option (qM)}(h:Gone a w m ls s n d b bb mp lv o j F W)(e:F k):k<W.heap.size:=by
 obtain⟨K,O,Z,U,f,g,l,p,q,i,r,t,u,v⟩:=h;rcases(f k).1 e with c | c | c
 .exact i.kb k c
 .exact g k c
 omega
end
section
variable {F:Fence}{n:Nat}{P:Program}
theorem IY{g:FuncId}{id:Nat}{c:Code}{Q:Exit->Act->qW->Prop}{a:Act}{w:qW}(h:IZ g F n P c (λe a w=>match e with | .normal=>Q .normal a w | .panic chain=>Q (.panic chain) a w | _=>False) a w):IZ g F n P (.block id c) Q a w:=by
 intro b k cs hf o hb f;have h0:(lone (b.atR a (.code (.block id c)::k)) cs w).fenced P F:=qdw hb f rfl;obtain⟨e,i,j,d,l⟩:=h b (.inBlock id::k) cs hf o hb f;cases e with
 | normal=>exact⟨.normal,i,j,d,.head h0 stepR_block (qcl l (.one (qdw hb f rfl) stepR_inBlock))⟩
 | panic chain=>obtain⟨p,up⟩:=l;exact⟨.panic chain,i,j,d,p,.head h0 stepR_block up⟩
 | ret=>exact d.elim
 | exit id=>exact d.elim
 | goto t=>exact d.elim
 | outgrown=>exact d.elim
end
end Go.Proofs.YtfkcodlceoghpaaGreatDoor
