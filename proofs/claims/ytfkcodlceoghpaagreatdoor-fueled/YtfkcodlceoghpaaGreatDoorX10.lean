import Derived.Test.YtfkcodlceoghpaaGreatDoorX6
namespace Go.Proofs.YtfkcodlceoghpaaGreatDoor
set_option maxHeartbeats 3200000
set_option maxRecDepth 100000
set_option linter.unusedSimpArgs false
set_option linter.unusedVariables false
open Go.RowKit Go.Proofs.Tryz
def gW(s:qS)(n:Nat):Nat->List Nat->Nat->Except Err (List Nat×Nat)
 | 0,M,j=>.ok (M,j)
 | k+1,M,j=>
  match fD (50 - M.length) s n j with
  | .error e=>.error e
  | .ok (m,j1)=>
   match jM s n j1 with
   | .error e=>.error e
   | .ok (kd,j2)=>gW s n k (M++List.replicate m kd) j2
def kX(s:qS)(n i:Nat):Except Err (List Nat×Nat):=
 match uM s n i with
 | .error e=>.error e
 | .ok ((v,_),j)=>gW s n v.toNat [] j
theorem CU{s:qS}{n k j:Nat}{M:qM}{e:Err}(X:0<k)(h:fD (50 - M.length) s n j=.error e):gW s n k M j=.error e:=by
 obtain⟨m,rfl⟩:∃m,k=m+1:=⟨k - 1,qo⟩;simp[gW,h]
theorem CS{s:qS}{n k j m a:Nat}{M:qM}{e:Err}(X:0<k)(h:fD (50 - M.length) s n j=.ok (m,a))(b:jM s n a=.error e):gW s n k M j=.error e:=by
 obtain⟨m,rfl⟩:∃m,k=m+1:=⟨k - 1,qo⟩;simp[gW,h,b]
theorem GU{s:qS}{n k j m a b c:Nat}{M:qM}(X:0<k)(h:fD (50 - M.length) s n j=.ok (m,a))(d:jM s n a=.ok (b,c)):gW s n k M j=gW s n (k - 1) (M++List.replicate m b) c:=by
 obtain⟨m,rfl⟩:∃m,k=m+1:=⟨k - 1,qo⟩;simp[gW,h,d]
theorem OE{w:qW}{b:Nat}{s:qS}{i n:Nat}(most:Nat){z:Int}(a:z=(most:Int))(h:Rd w b s i n)(hm:most<=5000):
  qC 225 #[qP b,qJ z] w (Out w b s n isInt (fD most s n i)):=by
 subst a;exact count_any most h hm
theorem Ad{w:qW}{b:Nat}{s:qS}{i n:Nat}(h:Rd w b s i n):
  qC 285 #[qP b] w (Out w b s n (dH (λg=>w.heap.size<=g)) (kX s n i)):=by
 obtain⟨i0,ah,ai,aj,ak⟩:=qap Tryz.Bj;have aq:=gu;have al:=h.lt;go_enter func285,ntmps285;go_wp2_with fail
 refine(nD h).mono ?_;rintro e w1⟨S,c,d⟩;rcases ho:uM s n i with⟨q,p⟩|E
 .obtain rfl:=d _ _ ho;exact⟨rfl,Out.dG (by simp[kX,ho]) S⟩
 obtain⟨⟨v,a⟩,T⟩:=E;obtain⟨u,rfl,hv,r⟩:=c _ _ ho;obtain rfl:u=.agg #[qI v,qJ a]:=hv;obtain⟨v0,v1,-,-,-⟩:=iY ho;obtain⟨f,rfl⟩:=Int.eq_ofNat_of_zero_le v0;have U:qh (kX s n i=gW s n f [] T):=by show _=_;simp[kX,ho]
 clear c d ho v0;go_wp2;go_loopw [3,4,5,9,18,19] (λF _ _ q _ _ wr=>∃(k j:Nat)(M:qM),k<=f/\q=qI k/\M.length<=50/\Rd wr b s j n/\Kept (only b) w wr/\dH (λg=>w.heap.size<=g) M wr F/\kX s n i=gW s n (f - k) M j)
  (λ_ _ _ q _ _ _=>f - (intOf q).toNat)
 case atStart=>exact⟨0,T,[],qZ,rfl,qs,r,S,Row.nil _ _ _ _,U.o⟩
 obtain⟨k,j,M,X,rfl,ar,r,G,x,V⟩:=hrel;have A:=qH V;clear V U;obtain⟨pv,cv,rfl⟩:=Row.shape x;by_cases au:k<f
 .have hlt':(k:Int)<(f:Int):=qo;go_wp2_with fail
  refine(OE (50 - M.length) qo r qo).mono ?_;rintro e w2⟨H,c,d⟩;have I:=G.trans H;have W:=Row.call x H (λk X=>qo);clear x H G;rcases ho:fD (50 - M.length) s n j with⟨q,p⟩|E
  .obtain rfl:=d _ _ ho;exact⟨rfl,Out.dG (A.o.trans (CU qo ho)) I⟩
  obtain⟨m,j1⟩:=E;obtain⟨u,rfl,hv,Y⟩:=c _ _ ho;obtain rfl:u=qJ m:=hv;have aw:=(fA ho).1;have Z:=qH ho;clear c d ho r;go_wp2_with fail
  refine(sK Y).mono ?_;rintro e w3⟨J,c,d⟩;have aa:=I.trans J;have K:=Row.call W J (λk X=>qo);clear W J I;rcases ho:jM s n j1 with⟨q,p⟩|⟨l,L⟩
  .obtain rfl:=d _ _ ho;exact⟨rfl,Out.dG (A.o.trans (CS qo Z.o ho)) aa⟩
  obtain⟨u,rfl,hv,am⟩:=c _ _ ho;obtain rfl:u=qB l:=hv;have N:qh (kX s n i=gW s n (f - (k+1)) (M++List.replicate m l) L):=A.o.trans (GU qo Z.o ho);clear c d ho Y;go_wp2;go_loopw [3,19] (λF q wr=>∃(t:Nat),t<=m/\q=qJ t/\Rd wr b s L n/\Kept (only b) w wr/\dH (λg=>w.heap.size<=g) (M++List.replicate t l) wr F) (λ_ q _=>m - (intOf q).toNat)
  case atStart=>exact⟨0,qZ,rfl,am,aa,by simpa [dH] using K⟩
  obtain⟨t,ht,rfl,ab,O,y⟩:=hrel;obtain⟨pt,ct,ac⟩:=Row.shape y;have C:(M++List.replicate t l).length=M.length+t:=qs;rw[C]at ac;subst ac;by_cases ax:t<m
  .have Yx:(t:Int)<(m:Int):=qo;have P:=(Row.nK (B:=w.heap.size) y (λg Q=>Q)).alloc (.cells #[qB l] 80);rw[C]at P;have D:=qH P;have ad:M.length+t<=50:=qo;have ae:=qH ad;have ay:=O.size;clear y K ad C P;go_wp2_with (at_builtin;refine qbv _ rfl _ _ 98 rfl w.heap.size 80 i0 (qB 0) 1 1 underlying98 ah ai aj ak rfl qx _ _ _ rfl D.o ⟨_,0,none⟩ 1 1 [qB l] rfl rfl ?c1 ?c2 ?c3 ?c4 ?c5 ?_)
   case c1=>exact cell_one_new _ _ _
   case c2=>intro u hu;simp at hu;subst hu;rfl
   case c3=>have:=ae.o;unfold maxLen;omega
   case c4=>have:=ae.o;omega
   case c5=>simp;omega
   intro v' w5 af R _;have an:=iD (O.alloc _) D.o qR R;have ao:=jk (ab.alloc _) D.o al R;have ag:dH (λg=>w.heap.size<=g) (M++List.replicate (t+1) l) w5 v':=by
    have:=Row.mI (ok:=λg=>w.heap.size<=g) af (λg Q _=>Q);simpa [dH,kindCells,List.replicate_succ',Nat.add_assoc] using this
   have z:=qH ag;clear af R ag D;go_wp2;go_roundw
   case rel=>exact⟨t+1,qo,by go_num,ao,an,z.o⟩
   simp[intOf];omega
  have ap:t=m:=qo;subst ap;have z:=qH y;clear y K C;go_wp2;go_roundw
  case rel=>exact⟨k+1,L,M++List.replicate t l,qo,by go_num,qt,ab,O,z.o,N.o⟩
  simp[intOf];omega
 have N:qh (kX s n i=.ok (M,j)):=by show _=_;rw[A.o,show f - k=0 by omega];rfl
 have z:=qH x;clear x;go_wp2;go_ret;exact Out.dN N.o G z.o r
def eX{α:Type}(tM:qS->Nat->Nat->Except Err (α×Nat))(s:qS)(n i:Nat):Except Err (α×Nat):=
 match uM s n i with
 | .error e=>.error e
 | .ok ((v,_),j)=>
  if(n:Int) - (j:Int)<v then
   match tM s n j with
   | .error e=>.error e
   | .ok (_,j2)=>.error (2,j2)
  else
   match tM s (j+v.toNat) j with
   | .error e=>.error e
   | .ok (x,j2)=>if j2<j+v.toNat then .error (2,j2) else .ok (x,j2)
section
variable {α:Type}{tM:qS->Nat->Nat->Except Err (α×Nat)}{s:qS}{n i j a j2:Nat}{v:Int}{x:α}{e:Err}
theorem wQ(ho:uM s n i=.ok ((v,a),j))(b:(n:Int) - (j:Int)<v)(c:tM s n j=.error e):eX tM s n i=.error e:=by simp[eX,ho,b,c]
theorem yh(ho:uM s n i=.ok ((v,a),j))(b:(n:Int) - (j:Int)<v)(c:tM s n j=.ok (x,j2)):eX tM s n i=.error (2,j2):=by simp[eX,ho,b,c]
theorem FW(ho:uM s n i=.ok ((v,a),j))(b:¬(n:Int) - (j:Int)<v)(c:tM s (j+v.toNat) j=.error e):eX tM s n i=.error e:=by simp[eX,ho,b,c]
theorem En(ho:uM s n i=.ok ((v,a),j))(b:¬(n:Int) - (j:Int)<v)(c:tM s (j+v.toNat) j=.ok (x,j2))(d:j2<j+v.toNat):eX tM s n i=.error (2,j2):=by simp[eX,ho,b,c,d]
theorem Jb(ho:uM s n i=.ok ((v,a),j))(b:¬(n:Int) - (j:Int)<v)(c:tM s (j+v.toNat) j=.ok (x,j2))(d:¬j2<j+v.toNat):eX tM s n i=.ok (x,j2):=by simp[eX,ho,b,c,d]
end
theorem Rd.ends{w:qW}{b:Nat}{s:qS}{i n:Nat}(h:Rd w b s i n)(n':Nat)(hi:i<=n')(c:n'<=s.size){z:Int}(d:z=(n':Int)):Rd (w.setCell (qA b 2) (qJ z)) b s i n':=by
 subst d;refine⟨?_,?_,qce _ _ _ h.c2,by simp[h.f0],by simp[h.f1],by simp[h.f2],hi,c,h.sz⟩
 .rw[qbp _ _ _ _ qs];exact h.c0
 rw[qbp _ _ _ _ qs];exact h.c1
def isDone{α:Type}(Post:α->World->Prop)(x:α)(w:World)(v:Value):Prop:=v=.tuple #[]/\Post x w
theorem vQ{α:Type}{S:qD}{w:qW}{b:Nat}{s:qS}{i n K:Nat}{A:Array qv}(tM:qS->Nat->Nat->Except Err (α×Nat))(C:qW->Prop)(Post:α->qW->Prop)
  (h:Rd w b s i n) (O:C w) (hc:Enters K) (hS:S b) (P:∀W c,C W->Kept (only b) W c->C c) (Q:∀x W c,Post x W->Kept (only b) W c->Post x c)
  (R:∀W j n',Rd W b s j n'->C W->w.heap.size<=W.heap.size->qC K A W (eP S W b s n' (isDone Post) (tM s n' j))):
  qC 125 #[qP b,.func (.func K) #[] A] w (eP S w b s n (isDone Post) (eX tM s n i)):=by
 have ag:∀(args:Array qv)(w:qW),(callFunc K args).run prog w=.ok (.enter K args) w:=hc;have ah:∀(x:Bool)(w:qW),(Op.unary .not (.bool x)).run prog w=.ok (.bool (!x)) w:=λ_ _=>rfl;have ai:=gu;have T:=qH R;have L:=qH P;have U:=qH Q;have V:=qH O;clear R P Q O;have Y:∀(W c:qW),Kept (only b) W c->Kept S W c:=λW c X=>X.mono (λk _ (e:k=b)=>e▸hS);have t:=qH Y;clear Y;go_enter func125,ntmps125;go_wp2_with fail
 refine(nD h).mono ?_;rintro e w1⟨g,d,f⟩;rcases ho:uM s n i with⟨q,p⟩|xj
 .obtain rfl:=f _ _ ho;exact⟨rfl,eP.dG (by simp[eX,ho]) (t.o _ _ g)⟩
 obtain⟨⟨v,a⟩,j⟩:=xj;obtain⟨u,rfl,hv,Z⟩:=d _ _ ho;obtain rfl:u=.agg #[qI v,qJ a]:=hv;obtain⟨v0,v1,-,-,-⟩:=iY ho;have y:=qH ho;clear d f ho;have aa:=Z;obtain⟨D,E,F,G,H,I,aj,ae,ak⟩:=Z;have ab:=g.size;by_cases l:(n:Int) - (j:Int)<v
 .have t1:decide ((n:Int) - (j:Int)<v)=true:=by simpa using l
  have m:=qH l;clear l;go_wp2_with fail
  refine(T.o _ j n aa (L.o _ _ V.o g) ab).mono ?_;rintro e w2⟨M,d,f⟩;have r:=(t.o _ _ g).trans M;rcases ho:tM s n j with⟨q,p⟩|⟨x,j2⟩
  .obtain rfl:=f _ _ ho;exact⟨rfl,eP.dG (wQ y.o m.o ho) r⟩
  obtain⟨u,rfl,⟨rfl,z⟩,B⟩:=d _ _ ho;have J:=qH ho;have ac:=qH z;clear d f ho z D E F G H I;obtain⟨D,E,F,G,H,I,-,-,-⟩:=B;go_wp2_with fail
  refine(fZ _ _).mono ?_;rintro e w3⟨rfl,rfl⟩;exact⟨rfl,eP.dG (yh y.o m.o J.o) r⟩
 have t1:decide ((n:Int) - (j:Int)<v)=false:=by simpa using l
 have ad:(j:Int)+v=((j+v.toNat:Nat):Int):=qo;have HV:=qH ad;have m:=qH l;have al:j+v.toNat<=n:=qo;clear ad l;go_wp2_with fail
 refine(T.o _ j (j+v.toNat) (aa.ends (j+v.toNat) qo qo HV.o) (L.o _ _ (L.o _ _ V.o g) (qr.own _)) (by simpa using ab)).mono ?_;rintro e w2⟨M,d,f⟩;have r:=((t.o _ _ g).trans (t.o _ _ (qr.own (o:=2) (qJ ((j:Int)+v))))).trans M;rcases ho:tM s (j+v.toNat) j with⟨q,p⟩|⟨x,j2⟩
 .obtain rfl:=f _ _ ho;exact⟨rfl,eP.dG (FW y.o (by have:=m.o;omega) ho) r⟩
 obtain⟨u,rfl,⟨rfl,z⟩,B⟩:=d _ _ ho;have J:=qH ho;have ac:=qH z;clear d f ho z D E F G H I;go_wp2_with fail
 refine(og B).mono ?_;rintro e w3⟨rfl,k3,rfl⟩;have af:=B.drewN k3;obtain⟨D,E,F,G,H,I,am,-,-⟩:=af;by_cases hd:j2<j+v.toNat
 .have t2:decide (j+v.toNat<=j2)=false:=by simp;omega
  have N:=qH hd;go_wp2_with fail
  refine(fZ _ _).mono ?_;rintro e w4⟨rfl,rfl⟩;exact⟨rfl,eP.dG (En y.o (by have:=m.o;omega) J.o N.o) (r.drewN _)⟩
 have t2:decide (j+v.toNat<=j2)=true:=by simp;omega
 have N:=qH hd;go_wp2;go_end0;refine eP.dN (x:=x) (j:=j2) (Jb y.o (by have:=m.o;omega) J.o (by have:=N.o;omega)) ((r.drewN _).trans (t.o _ _ (qr.own _))) ⟨rfl,U.o _ _ _ (U.o _ _ _ ac.o (qr.drewN _)) (qr.own _)⟩ ((B.drewN _).ends n qo ae rfl)
end Go.Proofs.YtfkcodlceoghpaaGreatDoor
