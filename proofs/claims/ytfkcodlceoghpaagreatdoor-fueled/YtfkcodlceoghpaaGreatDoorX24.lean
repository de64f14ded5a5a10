import Derived.BigRegion
import Derived.Test.YtfkcodlceoghpaaGreatDoorX23
namespace Go.Proofs.YtfkcodlceoghpaaGreatDoor
set_option maxHeartbeats 3200000
set_option maxRecDepth 100000
set_option linter.unusedSimpArgs false
set_option linter.unusedVariables false
open Go.RowKit Go.Proofs.Tryz
theorem KO{K ok:qD}{w:qW}{p:qO}{A:Nat}{a:List pW}{b:pW}(h:gI 282 5 (λ_=>rD K) ok (b::a).reverse w (qX p (b::a) A)):
  gI 282 5 (λ_=>rD K) ok a.reverse w (qX p a A):=by
 obtain⟨css,d,e⟩:=h;simp only[qcu]at e;obtain⟨c,cs,rfl,U,-⟩:=e.Jc;have f:=U.Bz;have g:(b::a).reverse.length=(b::a).length:=qs;rw[g]at d;have hc:=Row.cut d (k:=a.length) qs;refine⟨c,?_,U⟩;have i:a.reverse.length=a.length:=qs;rw[i]at f ⊢;have j:(c++[cs]).flatten.take (a.length*5)=c.flatten:=by
  rw[List.flatten_append,List.take_append_of_le_length qo,qbo qo]
 rw[j]at hc;exact hc
theorem gB.narrow{K O:qD}{w:qW}{bb:Nat}{b c sv d:qv}{Z:Bd}(h:gB K O w bb b c sv d Z):gB K (λk=>O k/\k<w.heap.size) w bb b c sv d Z:=
 ⟨h.blk,⟨h.own,h.lt⟩,Row.mono h.stk (λg a ho=>⟨⟨ho.1,a⟩,ho.2⟩),by
  obtain⟨css,U,e⟩:=h.tY;exact⟨css,Row.mono U (λg a ho=>⟨⟨ho.1,a⟩,ho.2⟩),e⟩,λk X=>h.pY k X.1,h.kb⟩
def isLeft(K O:Nat->Prop)(bb:Nat)(mp lv:Value)(x:pW×Bd)(w:World)(v:Value):Prop:=
 ∃tv gv,v=.agg #[qB x.1.word,tv,gv,qJ x.1.dK,.bool x.1.cut]/\dH K x.1.takes w tv/\dH K x.1.dL w gv/\gZ K O w bb mp lv x.2
section
variable {K O:qD}{w w2:qW}{bb R:Nat}
theorem Kept.five{S:qD}{W:qW}(h:Kept S w W)(f:S R)(a b c d e:qv):Kept S w (((((W.setCell (qA R 0) a).setCell (qA R 1) b).setCell (qA R 2) c).setCell (qA R 3) d).setCell (qA R 4) e):=
 ((((h.setCell (p:=(qA R 0)) (λ_=>f) _).setCell (p:=(qA R 1)) (λ_=>f) _).setCell (p:=(qA R 2)) (λ_=>f) _).setCell (p:=(qA R 3)) (λ_=>f) _).setCell (p:=(qA R 4)) (λ_=>f) _
theorem y7{ks:qM}{v:qv}(h:dH K ks w v)(X:Kept (only bb) w w2)(hb:¬K bb)(i:¬K R)(k:Nat)(u a b c d e:qv):
  dH K ks ((((((w2.drewN k).setCell (qA bb 3) u).setCell (qA R 0) a).setCell (qA R 1) b).setCell (qA R 2) c).setCell (qA R 3) d |>.setCell (qA R 4) e) v:=by
 have l:Kept (λj=>j=bb\/j=R) w (((((((w2.drewN k).setCell (qA bb 3) u).setCell (qA R 0) a).setCell (qA R 1) b).setCell (qA R 2) c).setCell (qA R 3) d).setCell (qA R 4) e):=
  (((X.mono (λ_ _ c=>.inl c)).drewN k).setCell (p:=(qA bb 3)) (λ_=>.inl rfl) u).five (.inr rfl) _ _ _ _ _
 exact Row.kept h l (λg _ f c=>c.elim (λe=>hb (e▸f)) (λe=>i (e▸f)))
theorem JR{f g sv i:qv}{Z:Bd}(h:gB K O w bb f g sv i Z)(j:¬K R)(l:¬O R)(a b c d e:qv):
  gB K O (((((w.setCell (qA R 0) a).setCell (qA R 1) b).setCell (qA R 2) c).setCell (qA R 3) d).setCell (qA R 4) e) bb f g sv i Z:=
 h.kept (S:=only R) ((Kept.refl (only R) _).five (show R=R from rfl) _ _ _ _ _) (λk _ (X:k=R)=>⟨λc=>l (X▸c),λc=>j (X▸c)⟩)
end
theorem N9{K O:qD}{w:qW}{bb:Nat}{B C sv Q:qv}{Z:Bd}(h:gB K O w bb B C sv Q Z)(hb:Z.dn≠[])(hl:Z.dn.length<=60)(hf:Z.dJ.dK<=Z.dB.length)(T:Z.dB.length<=1000000)(U:Z.dJ.dL.length<=50):
  qC 240 #[qP bb] w (Says (only bb) w (jv Z) (isLeft K O bb B C)):=by
 have V:=qH h.pY;replace h:=h.narrow
 obtain⟨ps,cs,rfl⟩:=Row.shape h.stk;obtain⟨g,A,tv,gv,rfl,W,af,ag,Y,l,m,B0,B1,B2,B3,B4⟩:=h.uG hb;obtain⟨n,p,rfl⟩:=Row.shape l;obtain⟨pg,cg,rfl⟩:=Row.shape m;have r:¬K bb:=h.pY bb h.own;have aa:=qH h.kb;have ab:=h.lt;have D:=qH h;have HT:=qH l;have E:=qH m;have F:=h.blk;have ah:=W.2;clear h l m;go_enter func240,ntmps240;go_wp2_with fail
 refine(mF (F.alloc ab _) Y hl).mono ?_;rintro e w1⟨rfl,G,rfl⟩;go_wp2_with fail
 refine(take_any (((D.o.alloc _).drewN _).alloc _) (ok:=K) (ks:=Z.dJ.dL) ?_ r (λ_=>hb) hl hf T U).mono ?_
 .exact Row.alloc (Row.kept (S:=λ_=>False) (Row.alloc E.o _) (qr.drewN _) (λ_ _ _ c=>c)) _
 rintro e w2⟨f,H,I⟩;have a:Kept (only bb) w w2:=(((qr.alloc _).drewN _).alloc _).trans f;have ac:=f.size;have L:jf w2 (w.heap.size+1) [qB Z.dJ.word,qX n Z.dJ.takes p,qX pg Z.dJ.dL cg,qJ Z.dJ.dK,.bool Z.dJ.cut]:=
  (jf.new' (w:=(w.alloc _).drewN G) (c:= #[qB Z.dJ.word,qX n Z.dJ.takes p,qX pg Z.dJ.dL cg,qJ Z.dJ.dK,.bool Z.dJ.cut]) (t:=282) qs).kept f qs (λ(e:w.heap.size+1=bb)=>qo)
 have hR:jf w2 w.heap.size [qB 0,qN,qN,qJ 0,.bool false]:=
  ((((jf.new w #[qB 0,qN,qN,qJ 0,.bool false] 282).drewN G).alloc qs _)).kept f qt (λ(e:w.heap.size=bb)=>qo)
 rcases hm:dQ Z Z.dJ.dL with⟨q,pp⟩|st1
 .obtain rfl:=I _ _ hm;exact⟨rfl,Says.dG (by simp[jv,hm]) a⟩
 obtain⟨v,rfl,rfl,i⟩:=H _ hm;have M:=eO hf hm;have s:=i.blk;obtain⟨⟨L0,-⟩,⟨L1,-⟩,⟨L2,-⟩,⟨L3,-⟩,⟨L4,-⟩⟩:=L.five;obtain⟨⟨R0,S0⟩,⟨R1,S1⟩,⟨R2,S2⟩,⟨R3,S3⟩,⟨R4,S4⟩⟩:=hR.five;obtain⟨-,-,⟨I2,J2⟩,⟨I3,J3⟩,⟨I4,J4⟩⟩:=s.five;have u:=qH i;have N:=qH hm;have P:=qH M;have ai:w.heap.size+2<=w2.heap.size:=by simp at ac;omega
 have aj:bb<w2.heap.size:=i.lt;clear H I hm L M i B0 B1 B2 B3 B4 D F;by_cases d:st1.dB.length=Z.dJ.dK
 .have tq:((st1.dB.length:Int) !=(Z.dJ.dK:Int))=false:=by simp[d]
  have x:qh (jv Z=.ok (Z.dJ,{st1 with dn:=st1.dn.tail})):=by show _=_;simp[jv,N.o,d]
  clear d;have b1:(0:Int)<=(Z.dn.length:Int) - 1:=qo;have b2:(Z.dn.length:Int) - 1<=(A:Int):=qo;go_wp2;go_quiet (fail)
  go_wp2_with fail
  go_region
  all_goals
   have ak:bb≠w.heap.size:=qo;have al:w.heap.size≠bb:=qo;have am:w.heap.size+1≠bb:=qo;go_wp2;refine qal (v:=.agg #[qB Z.dJ.word,qX n Z.dJ.takes p,qX pg Z.dJ.dL cg,qJ Z.dJ.dK,.bool Z.dJ.cut]) ?_ rfl ?_
   .simp[results,results240,go_sem,R0,R1,R2,R3,R4]
   have y:¬K w.heap.size:=λc=>by have:=aa.o _ c;omega
   refine Says.dN x.o ((((((((a.drewN _).own _).new qR _).new qR _).new qR _).new qR _).new qR _)) ⟨_,_,rfl,?_,?_,?_⟩
   .exact y7 HT.o a r y _ _ _ _ _ _ _
   .exact y7 E.o a r y _ _ _ _ _ _ _
   have ad:=u.o.cells (J:={st1 with dn:=st1.dn.tail}) ((qr.drewN (nq+1)).own _) ((s.drewN (nq+1)).set 3 (qL g (Z.dn.length - 1) A)) u.o.stk ?_
   .refine⟨_,_,gB.more (JR ad y (λc=>qo) _ _ _ _ _) (λk X=>X.1) V.o⟩
   have z:=u.o.tY;rw[P.o.1]at z ⊢;obtain⟨b,j,ae⟩:∃b j,Z.dn=b::j:=by
    cases hc:Z.dn with
    | nil=>exact absurd hc hb
    | cons b j=>exact⟨b,j,rfl⟩
   rw[ae]at z ⊢;exact KO z
 have tq:((st1.dB.length:Int) !=(Z.dJ.dK:Int))=true:=by rw[qcm];omega
 have x:qh (jv Z=.error (4,Z.at_)):=by show _=_;simp[jv,N.o,d]
 clear d;go_wp2;go_quiet (fail)
 go_wp2_with fail
 refine(lS (s.drewN _)).mono ?_;rintro e w3⟨rfl,rfl⟩;rw[P.o.2.1];exact⟨rfl,Says.dG x.o (a.drewN _)⟩
theorem Be(b:pW)(c pg:qO)(d ng f cg:Nat)(w:qW):
  qC 293 #[.agg #[qB b.word,.slice c d f,.slice pg ng cg,qJ b.dK,.bool b.cut]] w λe w'=>e=.returned (if b.word=3 then .slice c d f else .slice pg ng cg)/\w'=w.alloc (.cells #[qB b.word,.slice c d f,.slice pg ng cg,qJ b.dK,.bool b.cut] 282):=by
 by_cases a:b.word=3
 .have g:((b.word:Int)==3)=true:=by simp[a]
  rw[qac a];clear a;go_enter func293,ntmps293;go_wp2;go_ret;exact⟨rfl,rfl⟩
 have g:((b.word:Int)==3)=false:=by simp;omega
 rw[qaa a];clear a;go_enter func293,ntmps293;go_wp2;go_ret;exact⟨rfl,rfl⟩
theorem Qh{w:qW}{d a:Nat}{f g sv i:qv}(b:Nat)(h:jf w d [f,g,sv,i,qJ a]):
  qC 245 #[qP d,qJ b] w λe w'=>w'=w/\e=(if b=0 then fo 3 a else .returned (.tuple #[])):=by
 obtain⟨-,-,-,-,⟨j,k⟩⟩:=h.five;by_cases c:b=0
 .subst c;go_enter func245,ntmps245;exact Vt
 have l:((b:Int)==0)=false:=qe;rw[qaa c];clear c;go_enter func245,ntmps245;go_wp2;go_end0;exact⟨rfl,rfl⟩
theorem vS{s:qS}{K:qD}{w:qW}{i:Nat}{m:dX}(fn:Nat)(hm:MV s K w i m)(hf:fn<m.funcs.length)(hx:0<=(m.funcs[fn]).1/\(m.funcs[fn]).1<(m.dx.length:Int)):
  qC 130 #[qP i,qJ fn] w λe w'=>qK w w'/\∃v,e=.returned v/\isTypeOf K (dM m fn) w' v:=by
 have H:=hm.lt;obtain⟨I,f,j,a⟩:=hm;obtain⟨⟨F0,z⟩,⟨B,C⟩,-⟩:=j.twelve.1;obtain⟨D,c1,l,-,J,L,n⟩:=Row.cells a.U qo;have b:m.funcs[fn]?=some m.funcs[fn]:=qab hf;have M:w.cell? ⟨D,fn*2,none⟩=some (qI m.funcs[fn].1):=(n (fn*2) qo).trans (flat_get (m:=2) (o:=0) (λ_=>rfl) b qo);have p:qh (dM m fn=m.dx.getD (m.funcs[fn]).1.toNat ⟨[],[]⟩):=by show _=_;simp[dM,b]
 rw[l]at B;generalize m.funcs[fn].1=q at*;obtain⟨k,rfl⟩:∃k:Nat,q=(k:Int):=⟨q.toNat,qo⟩;have X:k<m.dx.length:=qo;obtain⟨g,A,N,O,hv,P,hc,d,h,Q,R⟩:=sJ a.h0 X;obtain⟨r,u,rfl⟩:=Row.shape d;obtain⟨x,y,rfl⟩:=Row.shape h;rw[hv]at F0;have E:qh (dM m fn=m.dx[k]):=by show _=_;rw[p.o];simp[X]
 have F:=qH d;have G:=qH h;have S:(k:Int)<(m.dx.length:Int):=qo;have T:(fn:Int)<(m.funcs.length:Int):=qo;clear d h a j hv z C n b l p hx;generalize m.dx[k]=t at*;go_enter func130,ntmps130;go_wp2_with fail
 go_region
 all_goals
  go_wp2;refine qal (v:=.agg #[.slice r t.ins.length u,.slice x t.outs.length y]) ?_ rfl ?_
  .simp[results,results130,go_sem]
  have X:=((Kept.refl (λ_=>False) w).alloc (.cells #[.slice r t.ins.length u,.slice x t.outs.length y] 100)).drew;rw[E.o];exact⟨X,_,rfl,_,_,rfl,Row.kept F.o X (λ_ _ _ c=>c),Row.kept G.o X (λ_ _ _ c=>c)⟩
theorem Oe{K C:qD}{w:qW}{m:Nat}{D E sv F:qv}{Z:Bd}{x:Int×Nat}(h:gB K C w m D E sv F Z)(hx:0<=x.1/\x.1<=4294967295)(hl:Z.dn.length<=60):
  qC 242 #[qP m,.agg #[qI x.1,qJ x.2]] w (Says (λ_=>False) w (gX Z x) (λks w' v=>dH K ks w' v)):=by
 obtain⟨-,-,-,⟨G,N⟩,-⟩:=h.blk.five;have O:=h.lt;obtain⟨j,a⟩:=x;simp only at hx ⊢;obtain⟨h0,U⟩:=hx;by_cases t:j<(Z.dn.length:Int)
 .obtain⟨k,rfl⟩:∃k:Nat,j=(k:Int):=⟨j.toNat,qo⟩;have X:k<Z.dn.length:=qo;obtain⟨g,A,P,gv,rfl,Q,R,S,p,q,H,T,V,Y,C4⟩:=uS h.tY X;obtain⟨d,i,rfl⟩:=Row.shape p;obtain⟨pg,cg,rfl⟩:=Row.shape q;have r:qh (gX Z ((k:Int),a)=.ok (dZ Z.dn[k])):=by show _=_;simp[gX,fE,X]
  have u:=qH p;have y:=qH q;clear p q h;generalize Z.dn[k]=b at*;obtain⟨pl,cl,z,B⟩:∃pl cl,(if b.word=3 then Value.slice d b.takes.length i else Value.slice pg b.dL.length cg)=Value.slice pl (dZ b).length cl/\dH K (dZ b) w (.slice pl (dZ b).length cl):=by
   unfold dZ;by_cases l:b.word=3
   .rw[qac l,qac l];exact⟨d,i,rfl,u.o⟩
   rw[qaa l,qaa l];exact⟨pg,cg,rfl,y.o⟩
  have I:=qH z;have J:=qH B;clear z B u y;have L:qh (∀W:qW,qC 293 #[.agg #[qB b.word,.slice d b.takes.length i,.slice pg b.dL.length cg,qJ b.dK,.bool b.cut]] W λe w'=>e=.returned (.slice pl (dZ b).length cl)/\w'=W.alloc (.cells #[qB b.word,.slice d b.takes.length i,.slice pg b.dL.length cg,qJ b.dK,.bool b.cut] 282)):=λW=>by
   rw[<-I.o];exact Be b d pg b.takes.length b.dL.length i cg W
  generalize dZ b=ls at*;generalize Z.dn.length=n at*;have b1:(0:Int)<=(n:Int) - 1 - (k:Int):=qo;have b2:(n:Int) - 1 - (k:Int)<(n:Int):=qo;have w1:IntKind.i64.wrap ((n:Int) - 1)=(n:Int) - 1:=qaf _ qo;have M:IntKind.i64.wrap ((n:Int) - 1 - (k:Int))=(n:Int) - 1 - (k:Int):=qaf _ qo;have b5:(k:Int)<=(n:Int) - 1:=qo;have n1:=World.new_ne w _ G;have n2:=World.new_ne w _ H;go_enter func242,ntmps242;go_wp2_with fail
  go_region_held3 (λw'=>w'.cell? (qA m 3)=some (qL g n A)/\w'.cell? (qA w.heap.size 0)=some (qI (k:Int))/\w'.cell? (qA w.heap.size 1)=some (qJ a)) (go_keep) ((refine dP (f:=67) (args:= #[.agg #[qI (k:Int),qJ a],qJ n]) (by rfl) (by go_simp) (lG _ t h0 U) ?_;rintro e w'⟨rfl,rfl⟩;refine⟨_,rfl,?_⟩))
  all_goals
   go_wp2_with fail
   go_region_law (refine dP (f:=293) (args:= #[.agg #[qB b.word,.slice d b.takes.length i,.slice pg b.dL.length cg,qJ b.dK,.bool b.cut]]) (by rfl) (by go_simp) (L.o _) ?_;rintro e w'⟨rfl,rfl⟩;refine⟨_,rfl,?_⟩)
   all_goals
    go_wp2;go_ret;have X:=((((Kept.refl (λ_=>False) w).alloc (.cells #[qI (k:Int),qJ a] 93)).alloc (.cells #[qI (k:Int),qJ a] 93)).alloc (.cells #[qB b.word,.slice d b.takes.length i,.slice pg b.dL.length cg,qJ b.dK,.bool b.cut] 282)).drewN 2;exact Says.dN r.o X (Row.kept J.o X (λ_ _ _ c=>c))
 obtain⟨css,s,-⟩:=h.tY;rw[List.length_reverse]at s;obtain⟨pb,cb,rfl⟩:=Row.shape s;have r:qh (gX Z (j,a)=.error (3,a)):=by show _=_;simp[gX,fE,t]
 clear s h;go_enter func242,ntmps242;go_wp2_with fail
 go_region_dies
 all_goals
  refine(jY _ qo h0 U).mono ?_;rintro e M⟨rfl,rfl⟩;refine⟨rfl,Says.dG r.o ?_⟩;exact((qr.alloc _).drew.alloc _)
end Go.Proofs.YtfkcodlceoghpaaGreatDoor
