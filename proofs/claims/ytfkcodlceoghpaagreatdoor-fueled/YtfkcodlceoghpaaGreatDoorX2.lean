import Derived.Test.YtfkcodlceoghpaaGreatDoorX1
namespace Go.Proofs.YtfkcodlceoghpaaGreatDoor
set_option maxHeartbeats 800000
open Go.RowKit Go.Proofs.Tryz
theorem Eo(z:Int)(x k:Nat)(w:qW)(X:k<=9):
  qC 315 #[.int .u64 z,qB x,qJ (7*k+7:Int)] w λe w'=>e=.returned (qJ (IW z x k))/\w'=w:=by
 by_cases U:bits BinOp.and IntKind.u8 (x:Int) 64=0
 .have HH:qh (IW z x k=wrap64 z):=by show _=_;simp[IW,U]
  go_enter func315,ntmps315;exact xZ
 have b:(bits BinOp.and IntKind.u8 (x:Int) 64 !=0)=true:=by simpa using U
 by_cases a:7*(k:Int)+7<64
 .have HH:qh (IW z x k=wrap64 (bits BinOp.or IntKind.u64 z (IntKind.u64.wrap (18446744073709551615*2 ^ (7*k+7))))):=by show _=_;unfold IW;rw[qac ⟨b,a⟩]
  clear U;go_enter func315,ntmps315;exact xZ
 have HH:qh (IW z x k=wrap64 z):=by show _=_;unfold IW;rw[qaa (λc=>a c.2)]
 clear U;go_enter func315,ntmps315;exact xZ
theorem U7(x:Nat):zo 4 x=((x:Int) / 8==0||(x:Int) / 8==15):=by simp[zo]
theorem Dy(x:Nat)(w:qW):
  qC 314 #[qB x,qJ 4] w λe w'=>e=.returned (.bool (zo 4 x))/\w'=w:=by
 have HH:qh (zo 4 x=((x:Int) / 8==0||(x:Int) / 8==15)):=U7 x;by_cases h0:(x:Int) / 8=0
 .exact Vu
 go_enter func314,ntmps314;exact xZ
theorem Ld{w:qW}{b:Nat}{s:qS}{i n:Nat}(h:Rd w b s i n):
  qC 283 #[qP b,qJ 32] w (Out w b s n Q7 (sM 4 4 s n i)):=by
 have d:=h.c1;go_enter func283,ntmps283;go_wp2;go_loopw [6,7,8,9] (λv q _ _ wr=>∃(k:Nat)(z:Int)(j:Nat),k<=4/\q=qJ (7*k:Int)/\v=.int .u64 z/\Rd wr b s j n/\
   Kept (only b) w wr/\sM 4 4 s n i=wZ 4 4 s n (4+1 - k) k z j) (λ_ q _ _ _=>100 - (intOf q).toNat)
 case atStart=>exact⟨0,0,i,qo,rfl,rfl,h,Kept.refl _ _,rfl⟩
 obtain⟨k,z,j,X,rfl,rfl,f,g,hm⟩:=hrel;have HM:qh (sM 4 4 s n i=wZ 4 4 s n (4+1 - k) k z j):=hm;clear hm;have d:=f.c1;go_wp2_with fail
 refine(lQ f).mono ?_;rintro e u⟨l,m,iC⟩;have TD:=g.trans l;have y:∀(x:Bool)(w:qW),(Op.unary .not (.bool x)).run prog w=.ok (.bool (!x)) w:=λ_ _=>rfl;by_cases hi:j<n
 .obtain⟨v,rfl,hv,Kc⟩:=m _ _ (dY hi);obtain rfl:v=qB (bt s j:Nat):=hv;clear m iC d g l;have p:zo 4 (bt s j)=true->lastB (bt s j)=true:=Ob ⟨bt s j,LK s j⟩;have r:=qH p;clear p;by_cases a:k=4
  .have t:((7*(k:Int))==28)=true:=by simp;omega
   cases c:zo 4 (bt s j) with
   | false=>
    have HH:qh (sM 4 4 s n i=.error (2,j)):=HM.o.trans (yx a hi c);clear a;generalize bt s j=x at*;go_wp2_with fail
    refine(Dy _ _).mono ?_;rintro e w3⟨rfl,rfl⟩;exact Uf
   | true=>
    have tX:=r.o c;have HH:qh (sM 4 4 s n i=.ok (IW (oW z (bt s j) k) (bt s j) k,j+1)):=HM.o.trans (rU X hi (by simp[c]) tX);have t3:(bits BinOp.and IntKind.u8 ((bt s j:Nat):Int) 128==0)=true:=tX;clear a tX;generalize bt s j=x at*;go_wp2_with fail
    refine(Dy _ _).mono ?_;rintro e w3⟨rfl,rfl⟩;exact OU
  have t:((7*(k:Int))==28)=false:=by simp;omega
  cases tX:lastB (bt s j) with
  | true=>have HH:qh (sM 4 4 s n i=.ok (IW (oW z (bt s j) k) (bt s j) k,j+1)):=HM.o.trans (rU X hi qo tX);have t3:(bits BinOp.and IntKind.u8 ((bt s j:Nat):Int) 128==0)=true:=tX;clear a tX;generalize bt s j=x at*;exact OU
  | false=>have HH:qh (sM 4 4 s n i=wZ 4 4 s n (4+1 - (k+1)) (k+1) (oW z (bt s j) k) (j+1)):=HM.o.trans (AB qo hi tX);exact VA
 exact Vs
theorem U6(x:Nat):zo 5 x=((x:Int) / 16==0||(x:Int) / 16==7):=by simp[zo]
theorem Dx(x:Nat)(w:qW):
  qC 314 #[qB x,qJ 5] w λe w'=>e=.returned (.bool (zo 5 x))/\w'=w:=by
 have HH:qh (zo 5 x=((x:Int) / 16==0||(x:Int) / 16==7)):=U6 x;by_cases h0:(x:Int) / 16=0
 .exact Vu
 go_enter func314,ntmps314;exact xZ
theorem SI{w:qW}{b:Nat}{s:qS}{i n:Nat}(h:Rd w b s i n):
  qC 283 #[qP b,qJ 33] w (Out w b s n Q7 (sM 4 5 s n i)):=by
 have d:=h.c1;go_enter func283,ntmps283;go_wp2;go_loopw [6,7,8,9] (λv q _ _ wr=>∃(k:Nat)(z:Int)(j:Nat),k<=4/\q=qJ (7*k:Int)/\v=.int .u64 z/\Rd wr b s j n/\
   Kept (only b) w wr/\sM 4 5 s n i=wZ 4 5 s n (4+1 - k) k z j) (λ_ q _ _ _=>100 - (intOf q).toNat)
 case atStart=>exact⟨0,0,i,qo,rfl,rfl,h,Kept.refl _ _,rfl⟩
 obtain⟨k,z,j,X,rfl,rfl,f,g,hm⟩:=hrel;have HM:qh (sM 4 5 s n i=wZ 4 5 s n (4+1 - k) k z j):=hm;clear hm;have d:=f.c1;go_wp2_with fail
 refine(lQ f).mono ?_;rintro e u⟨l,m,iC⟩;have TD:=g.trans l;have y:∀(x:Bool)(w:qW),(Op.unary .not (.bool x)).run prog w=.ok (.bool (!x)) w:=λ_ _=>rfl;by_cases hi:j<n
 .obtain⟨v,rfl,hv,Kc⟩:=m _ _ (dY hi);obtain rfl:v=qB (bt s j:Nat):=hv;clear m iC d g l;have p:zo 5 (bt s j)=true->lastB (bt s j)=true:=Oa ⟨bt s j,LK s j⟩;have r:=qH p;clear p;by_cases a:k=4
  .have t:((7*(k:Int))==28)=true:=by simp;omega
   cases c:zo 5 (bt s j) with
   | false=>
    have HH:qh (sM 4 5 s n i=.error (2,j)):=HM.o.trans (yx a hi c);clear a;generalize bt s j=x at*;go_wp2_with fail
    refine(Dx _ _).mono ?_;rintro e w3⟨rfl,rfl⟩;exact Uf
   | true=>
    have tX:=r.o c;have HH:qh (sM 4 5 s n i=.ok (IW (oW z (bt s j) k) (bt s j) k,j+1)):=HM.o.trans (rU X hi (by simp[c]) tX);have t3:(bits BinOp.and IntKind.u8 ((bt s j:Nat):Int) 128==0)=true:=tX;clear a tX;generalize bt s j=x at*;go_wp2_with fail
    refine(Dx _ _).mono ?_;rintro e w3⟨rfl,rfl⟩;exact OU
  have t:((7*(k:Int))==28)=false:=by simp;omega
  cases tX:lastB (bt s j) with
  | true=>have HH:qh (sM 4 5 s n i=.ok (IW (oW z (bt s j) k) (bt s j) k,j+1)):=HM.o.trans (rU X hi qo tX);have t3:(bits BinOp.and IntKind.u8 ((bt s j:Nat):Int) 128==0)=true:=tX;clear a tX;generalize bt s j=x at*;exact OU
  | false=>have HH:qh (sM 4 5 s n i=wZ 4 5 s n (4+1 - (k+1)) (k+1) (oW z (bt s j) k) (j+1)):=HM.o.trans (AB qo hi tX);exact VA
 exact Vs
theorem U8(x:Nat):zo 1 x=((x:Int)==0||(x:Int)==127):=by simp[zo]
theorem Dz(x:Nat)(w:qW):
  qC 314 #[qB x,qJ 1] w λe w'=>e=.returned (.bool (zo 1 x))/\w'=w:=by
 have HH:qh (zo 1 x=((x:Int)==0||(x:Int)==127)):=U8 x;by_cases h0:(x:Int)=0
 .exact Vu
 go_enter func314,ntmps314;exact xZ
theorem Lc{w:qW}{b:Nat}{s:qS}{i n:Nat}(h:Rd w b s i n):
  qC 283 #[qP b,qJ 64] w (Out w b s n Q7 (sM 9 1 s n i)):=by
 have d:=h.c1;go_enter func283,ntmps283;go_wp2;go_loopw [6,7,8,9] (λv q _ _ wr=>∃(k:Nat)(z:Int)(j:Nat),k<=9/\q=qJ (7*k:Int)/\v=.int .u64 z/\Rd wr b s j n/\
   Kept (only b) w wr/\sM 9 1 s n i=wZ 9 1 s n (9+1 - k) k z j) (λ_ q _ _ _=>100 - (intOf q).toNat)
 case atStart=>exact⟨0,0,i,qo,rfl,rfl,h,Kept.refl _ _,rfl⟩
 obtain⟨k,z,j,X,rfl,rfl,f,g,hm⟩:=hrel;have HM:qh (sM 9 1 s n i=wZ 9 1 s n (9+1 - k) k z j):=hm;clear hm;have d:=f.c1;go_wp2_with fail
 refine(lQ f).mono ?_;rintro e u⟨l,m,iC⟩;have TD:=g.trans l;have y:∀(x:Bool)(w:qW),(Op.unary .not (.bool x)).run prog w=.ok (.bool (!x)) w:=λ_ _=>rfl;by_cases hi:j<n
 .obtain⟨v,rfl,hv,Kc⟩:=m _ _ (dY hi);obtain rfl:v=qB (bt s j:Nat):=hv;clear m iC d g l;have p:zo 1 (bt s j)=true->lastB (bt s j)=true:=Oc ⟨bt s j,LK s j⟩;have r:=qH p;clear p;by_cases a:k=9
  .have t:((7*(k:Int))==63)=true:=by simp;omega
   cases c:zo 1 (bt s j) with
   | false=>
    have HH:qh (sM 9 1 s n i=.error (2,j)):=HM.o.trans (yx a hi c);clear a;generalize bt s j=x at*;go_wp2_with fail
    refine(Dz _ _).mono ?_;rintro e w3⟨rfl,rfl⟩;exact Uf
   | true=>
    have tX:=r.o c;have HH:qh (sM 9 1 s n i=.ok (IW (oW z (bt s j) k) (bt s j) k,j+1)):=HM.o.trans (rU X hi (by simp[c]) tX);have t3:(bits BinOp.and IntKind.u8 ((bt s j:Nat):Int) 128==0)=true:=tX;clear a tX;generalize bt s j=x at*;go_wp2_with fail
    refine(Dz _ _).mono ?_;rintro e w3⟨rfl,rfl⟩;exact OU
  have t:((7*(k:Int))==63)=false:=by simp;omega
  cases tX:lastB (bt s j) with
  | true=>have HH:qh (sM 9 1 s n i=.ok (IW (oW z (bt s j) k) (bt s j) k,j+1)):=HM.o.trans (rU X hi qo tX);have t3:(bits BinOp.and IntKind.u8 ((bt s j:Nat):Int) 128==0)=true:=tX;clear a tX;generalize bt s j=x at*;exact OU
  | false=>have HH:qh (sM 9 1 s n i=wZ 9 1 s n (9+1 - (k+1)) (k+1) (oW z (bt s j) k) (j+1)):=HM.o.trans (AB qo hi tX);exact VA
 exact Vs
theorem sK{w:qW}{b:Nat}{s:qS}{i n:Nat}(h:Rd w b s i n):
  qC 227 #[qP b] w (Out w b s n isByte (jM s n i)):=by
 have k:=h.lt;go_enter func227,ntmps227;go_wp2_with fail
 refine(one_any (ts:=[127,126]) (h.alloc _) (xX 127 126 rfl rfl rfl) qs qo qs).mono ?_;rintro e l⟨X,a,c⟩;have d:=X.nP;rcases ho:iO [127,126] s n i with⟨q,p⟩|⟨x,j⟩
 .obtain rfl:=c _ _ ho;exact⟨rfl,Out.dG ho d⟩
 obtain⟨u,rfl,hv,f⟩:=a _ _ ho;obtain rfl:u=qB x:=hv;clear a c;have g:=qH ho;clear ho;go_wp2;go_ret;exact Out.dN g.o d rfl f
theorem kV{w:qW}{b:Nat}{s:qS}{i n:Nat}(h:Rd w b s i n):
  qC 228 #[qP b] w (Out w b s n isConst (ja s n i)):=by
 have U:=h.lt;go_enter func228,ntmps228;go_wp2_with fail
 refine(oz (h.alloc _)).mono ?_;rintro e V⟨rfl,rfl⟩;go_wp2_with fail
 refine(one_any (ts:=[65,66]) (((h.alloc _).alloc _).alloc _) (xX 65 66 qs rfl rfl) qs qo qs).mono ?_;rintro e V⟨X,a,d⟩;have A:=X.nP.nP.nP;have K:=(((OB.new (b:=b) (g:=w.heap.size) (c:= #[qJ 0,qB 0,qJ 0]) U rfl).alloc _).alloc _).call X;have L:=((OB.new (b:=b) (g:=w.heap.size+1) (c:= #[qJ i,qB 0,qJ 0]) qt qs).alloc _).call X;clear X;rcases ho:iO [65,66] s n i with⟨q,p⟩|B
 .obtain rfl:=d _ _ ho;exact⟨rfl,Out.dG (by simp[ja,ho]) A⟩
 obtain⟨x,j⟩:=B;obtain⟨u,rfl,hv,M⟩:=a _ _ ho;obtain rfl:u=qB x:=hv;clear a d;have hx:x=65\/x=66:=by have:=(nO ho).1;simpa using this
 have z:=qH ho;clear ho;obtain rfl | rfl:=hx
 .go_wp2_with fail
  refine(Ld M).mono ?_;rintro e W⟨k,a,d⟩;have r:=A.trans k;have C:=K.call k;have f:=L.call k;clear K L k A;rcases ho:sM 4 4 s n j with⟨q,p⟩|B
  .obtain rfl:=d _ _ ho;exact⟨rfl,Out.dG (by simp[ja,z.o,ho]) r⟩
  obtain⟨v,N⟩:=B;obtain⟨u,rfl,hv,t⟩:=a _ _ ho;obtain rfl:u=qJ v:=hv;clear a d M;have D:=qH ho;clear ho;obtain⟨⟨E,l1⟩,⟨l2,F⟩,⟨G,H⟩⟩:=f.blk.three;go_wp2_with fail
  have Y:=t.lt;refine(one_any (ts:=[11]) (((t.dD f.ne _).dD f.ne _).alloc _) (oq 11 qs rfl) qs qo qs).mono ?_;rintro e Z⟨l,a,d⟩;have I:=(((r.new qo _).new qo _).alloc _).trans l;have m:=(((C.other qo _).other qo _).alloc _).call l;have J:=(((f.set 1 (qB 127)).set 2 (qJ v)).alloc _).call l;simp at J;clear C f l r E l1 l2 F G H;rcases ho:iO [11] s n N with⟨q,p⟩|⟨y,O⟩
  .obtain rfl:=d _ _ ho;exact⟨rfl,Out.dG (by simp[ja,z.o,D.o,ho]) I⟩
  obtain⟨u,rfl,-,P⟩:=a _ _ ho;have Q:qh (ja s n i=.ok (⟨i,127,v⟩,O)):=by show _=_;simp[ja,z.o,D.o,ho]
  clear a d t ho;obtain⟨⟨E,l1⟩,⟨l2,F⟩,⟨G,H⟩⟩:=J.blk.three;obtain⟨⟨R,r1⟩,⟨S,r3⟩,⟨T,r5⟩⟩:=m.blk.three;go_wp2;refine qal (v:=.agg #[qJ i,qB 127,qJ v]) ?_ rfl (Out.dN Q.o (((I.new qR _).new qR _).new qR _) rfl (((P.dD m.ne _).dD m.ne _).dD m.ne _));simp[results,results228,go_sem,R,S,T]
 go_wp2_with fail
 refine(Lc M).mono ?_;rintro e W⟨k,a,d⟩;have r:=A.trans k;have C:=K.call k;have f:=L.call k;clear K L k A;rcases ho:sM 9 1 s n j with⟨q,p⟩|B
 .obtain rfl:=d _ _ ho;exact⟨rfl,Out.dG (by simp[ja,z.o,ho]) r⟩
 obtain⟨v,N⟩:=B;obtain⟨u,rfl,hv,t⟩:=a _ _ ho;obtain rfl:u=qJ v:=hv;clear a d M;have D:=qH ho;clear ho;obtain⟨⟨E,l1⟩,⟨l2,F⟩,⟨G,H⟩⟩:=f.blk.three;go_wp2_with fail
 have Y:=t.lt;refine(one_any (ts:=[11]) (((t.dD f.ne _).dD f.ne _).alloc _) (oq 11 qs rfl) qs qo qs).mono ?_;rintro e Z⟨l,a,d⟩;have I:=(((r.new qo _).new qo _).alloc _).trans l;have m:=(((C.other qo _).other qo _).alloc _).call l;have J:=(((f.set 1 (qB 126)).set 2 (qJ v)).alloc _).call l;simp at J;clear C f l r E l1 l2 F G H;rcases ho:iO [11] s n N with⟨q,p⟩|⟨y,O⟩
 .obtain rfl:=d _ _ ho;exact⟨rfl,Out.dG (by simp[ja,z.o,D.o,ho]) I⟩
 obtain⟨u,rfl,-,P⟩:=a _ _ ho;have Q:qh (ja s n i=.ok (⟨i,126,v⟩,O)):=by show _=_;simp[ja,z.o,D.o,ho]
 clear a d t ho;obtain⟨⟨E,l1⟩,⟨l2,F⟩,⟨G,H⟩⟩:=J.blk.three;obtain⟨⟨R,r1⟩,⟨S,r3⟩,⟨T,r5⟩⟩:=m.blk.three;go_wp2;refine qal (v:=.agg #[qJ i,qB 126,qJ v]) ?_ rfl (Out.dN Q.o (((I.new qR _).new qR _).new qR _) rfl (((P.dD m.ne _).dD m.ne _).dD m.ne _));simp[results,results228,go_sem,R,S,T]
theorem Tryz.Bj:(prog.info? 80).map (λi=>(i.zero,i.size,i.bytes))=some (some (qB 0),1,1):=qk
def kindCells(ks:List Nat):List Value:=ks.map λ(k:Nat)=>qB k
def dH(ok:Nat->Prop)(ks:List Nat)(w:World)(v:Value):Prop:=Row ok w 80 1 v ks.length (kindCells ks)
theorem xC{w:qW}{b:Nat}{s:qS}{i n:Nat}(most:Nat)(h:Rd w b s i n)(hm:most<=50):
  qC 226 #[qP b,qJ most,.func (.func 227) #[] #[]] w (Out w b s n (dH (λg=>w.heap.size<=g)) (eB most jM s n i)):=by
 obtain⟨E,F,G,H,I⟩:=qap Tryz.Bj;go_enter func226,ntmps226;go_wp2_with fail
 refine(count_any most h qo).mono ?_;rintro e N⟨hk1,c,iC⟩;rcases ho:fD most s n i with⟨q,p⟩|J
 .exact IG
 obtain⟨a,t⟩:=J;obtain⟨u,rfl,hv,d⟩:=c _ _ ho;obtain rfl:u=qJ a:=hv;have O:=(fA ho).1;have y:qh (eB most jM s n i=eT jM s n a [] t):=by show _=_;simp[eB,ho]
 clear c iC ho;go_wp2;go_loopw [7,12] (λv q wr=>∃(k j:Nat)(ks:qM),k<=a/\ks.length=k/\q=qJ k/\Rd wr b s j n/\Kept (only b) w wr/\dH (λg=>w.heap.size<=g) ks wr v/\eB most jM s n i=eT jM s n (a - k) ks j) (λ_ q _=>a - (intOf q).toNat)
 case atStart=>exact⟨0,t,[],qZ,rfl,rfl,d,hk1,Row.nil _ _ _ _,y.o⟩
 obtain⟨k,j,ks,X,hl,rfl,d,l,m,z⟩:=hrel;have HE:=qH z;clear z y;by_cases Q:k<a
 .have hlt':(k:Int)<(a:Int):=qo;go_wp2_with fail
  refine(sK d).mono ?_;rintro e A⟨r,c,iC⟩;have hk3:=l.trans r;have B:Row (λg=>w.heap.size<=g) A 80 1 u7 ks.length (kindCells ks):=m.kept r (λg _ f (e:g=b)=>by have:=h.lt;omega);clear m r l;rcases ho:jM s n j with⟨q,p⟩|⟨x,j2⟩
  .exact IJ
  obtain⟨u,rfl,hv,K⟩:=c _ _ ho;obtain rfl:u=qB x:=hv;have HH:qh (eB most jM s n i=eT jM s n (a - (k+1)) (ks++[x]) j2):=HE.o.trans (jZ qo ho);clear c iC ho d;have C:=(B.nK (λg f=>f)).alloc (.cells #[qB x] 80);have HW:=qH C;have R:=hk3.size;clear C B;go_wp2_with (at_builtin;refine qbv _ rfl _ _ 98 rfl w.heap.size 80 E (qB 0) 1 1 underlying98 F G H I rfl qx _ _ _ rfl HW.o ⟨A.heap.size,0,none⟩ 1 1 [qB x] rfl rfl ?c1 ?c2 ?c3 ?c4 ?c5 ?_)
  case c1=>exact cell_one_new _ _ _
  case c2=>intro u D;simp at D;subst D;rfl
  case c3=>unfold maxLen;omega
  case c4=>omega
  case c5=>simp;omega
  intro L M hown' hgrow _;have hk4:=iD (hk3.alloc _) HW.o qR hgrow;have zA:=jk (K.alloc _) HW.o h.lt hgrow;have hrow3:dH (λg=>w.heap.size<=g) (ks++[x]) M L:=by
   have:=Row.mI (ok:=λg=>w.heap.size<=g) hown' (λg f _=>f);simpa [dH,kindCells,hl] using this
  exact OV
 have HH:qh (eB most jM s n i=.ok (ks,j)):=by show _=_;rw[HE.o,show a - k=0 by omega];rfl
 go_wp2;go_ret;exact Out.dN HH.o l m d
end Go.Proofs.YtfkcodlceoghpaaGreatDoor
