import Derived.Deep.CutRange
import Derived.Test.YtfkcodlceoghpaaGreatDoorX12
namespace Go.Proofs.YtfkcodlceoghpaaGreatDoor
set_option maxHeartbeats 6400000
set_option maxRecDepth 100000
set_option linter.unusedSimpArgs false
set_option linter.unusedVariables false
open Go.RowKit Go.Proofs.Tryz
structure Fair(m:dX):Prop where
 dx:m.dx.length<=20
 ins:∀t∈m.dx,t.ins.length<=8
 funcs:m.funcs.length<=20
 nums:∀x∈m.funcs,0<=x.1/\x.1<=4294967295
 GN:∀x∈m.dF,x.1.length<=50
theorem Fair.params{m:dX}(h:Fair m)(f:Nat):(m.params f).length<=8:=by
 unfold dX.params;split
 .simp
 split
 .simp
 rename_i t a;exact h.ins t (qai a)
theorem jA.mono{ok ok':qD}{w:qW}{x:Nat×List yc}{cs:qV}(h:jA ok x w cs)(hm:∀g,g<w.heap.size->ok g->ok' g):jA ok' x w cs:=by
 obtain⟨b,e,a⟩:=h;exact⟨b,e,Row.mono a hm⟩
theorem Fields.Yt{w:qW}{b a:Nat}{f:Fields}{v u:qv}(h:OB w b a ({f with v11:=v}:Fields).cells):OB (w.setCell ⟨a,11,none⟩ u) b a ({f with v11:=u}:Fields).cells:=h.set 11 u
theorem vW{w:qW}{b d B:Nat}{s:ByteArray}{i n:Nat}{m:dX}(h:Rd w b s i n)(hm:iF s (λg=>B<=g) w b d m)(hb:b<B)(bo:d<B)(hB:B<=w.heap.size)(hf:Fair m)(aV:m.kD=[])(bp:m.dF.length=m.funcs.length):
  qC 235 #[.pointer (some ⟨d,0,none⟩),.pointer (some ⟨b,0,none⟩)] w (eP (both b d) w b s n (nG s B b d) (fC m s n i)):=by
 obtain⟨i0,aW,aX,aY,aZ⟩:=qap Tryz.Tn;obtain⟨f,aj,Z⟩:=hm;obtain⟨⟨F0,G0⟩,⟨F1,G1⟩,-⟩:=aj.blk.twelve.1;obtain⟨p1,c1,ak⟩:=Row.shape Z.U;rw[ak]at F1;have HH:=qH Z;have a0:f.v11=.slice none 0 0:=Z.o6 aV;have bq:=hf.funcs;have N:=qH hf;clear F0 G0 Z hf;go_enter func235,ntmps235;go_wp2_with fail
 refine(count_any _ h qo).mono ?_;rintro e w1⟨al,O,P⟩;have am:Kept (both b d) w w1:=al.fB;have aA:=qH (aj.call al);clear al F1 G1 aj;rcases ho:fD m.funcs.length s n i with⟨q,p⟩|xj
 .obtain rfl:=P _ _ ho;exact⟨rfl,eP.dG (by simp[fC,ho]) am⟩
 obtain⟨C,j0⟩:=xj;obtain⟨u,rfl,hv,Q⟩:=O _ _ ho;obtain rfl:u=.int .i64 C:=hv;have br:=(fA ho).1;have HO:=qH ho;clear O P ho;go_wp2;go_loopw [4,14] (λz q wr=>∃(k j G:Nat)(xs:List (Nat×List yc)) (lv:qv),k<=C/\xs.length=k/\G<=m.funcs.length/\z=.int .i64 G/\q=.int .i64 k/\Rd wr b s j n/\Kept (both b d) w wr/\OB wr b d ({f with v11:=lv}:Fields).cells/\
   gI 203 2 jA (λg=>w.heap.size<=g) xs wr lv/\(xs=[]->lv=.slice none 0 0)/\nX m s n C 0 [] j0=nX m s n (C - k) G xs j) (λ_ q _=>C - (intOf q).toNat)
 case atStart=>refine⟨0,j0,0,[],.slice none 0 0,qZ,rfl,qZ,rfl,rfl,Q,am,?_,⟨[],Row.nil _ _ _ _,trivial⟩,λ_=>rfl,rfl⟩;rw[<-a0];exact aA.o
 obtain⟨k,j,G,ks,lv,X,hl,bs,rfl,rfl,Q,aa,ab,a1,aB,aC⟩:=hrel;subst hl;have HE:=qH aC;have a2:=qH aB;clear aC aB am aA;obtain⟨css,ac,aD⟩:=a1;obtain⟨pl,cl,rfl⟩:=Row.shape ac;have an:=qH aD;clear aD;have r:=HH.o.kept aa (λg _ E hh=>hh.elim (λe=>qo) (λe=>qo));have ao:iF s (λg=>B<=g) wr b d {m with kD:=ks}:=by
  refine⟨{f with v11:=.slice pl ks.length cl},ab,?_⟩;exact⟨r.h0,r.U,r.L,r.h3,r.h4,r.h5,r.h6,r.h7,r.h8,r.h9,r.h10,⟨css,Row.mono ac (λg _ E=>qo),an.o.to (λy cs hh=>⟨hh.1.mono (λg _ E=>qo),hh.2⟩)⟩,r.wC,r.wB,a2.o⟩
 clear r;by_cases bu:ks.length<C
 .have hlt':(ks.length:Int)<(C:Int):=qo;obtain⟨p1,c1,ak⟩:=Row.shape HH.o.U;obtain⟨I1,J1⟩:=ab.blk.twelve.1.2.1;rw[ak]at I1;go_wp2_with fail
  refine(vK G m.funcs.length rfl Q qo qo).mono ?_;rintro e l⟨M,O,P⟩;have H:=aa.trans M.fB;have J:=ab.call M;have aE:=ao.call M qo;have ad:=Row.call ac M (λk X=>by have:=h.lt;omega);have ap:qh (Each (λx cs=>jA (λg=>w.heap.size<=g) x l cs/\cs.length=2) ks css):=an.o.to (λy cs hh=>⟨hh.1.kept M (λg _ E (e:g=b)=>by have:=h.lt;omega),hh.2⟩);clear M aa ab ao ac an I1 J1;rcases ho:kQ G m.funcs.length s n j with⟨q,p⟩|xj
  .obtain rfl:=P _ _ ho;exact⟨rfl,eP.dG (by simp[fC,HO.o,HE.o,DT (m:=m) (show 0<C - ks.length by omega) (show zx m G s n j=.error (q,p) by simp[zx,ho])]) H⟩
  obtain⟨a,j2⟩:=xj;obtain⟨u,rfl,hv,ae⟩:=O _ _ ho;obtain rfl:u=.int .i64 a:=hv;obtain⟨bv,a3,-,-⟩:=xI ho;have aF:=qH ho;clear O P ho Q;have a4:=N.o.params a;have af:m.dF[a]?=some m.dF[a]:=qab qo;have a5:m.dF[a].1.length<=50:=N.o.GN _ (qai af);have aG:o7 m a=(m.params a).length+m.dF[a].1.length:=by simp[o7,af]
  have aq:=qH aG;clear aG;obtain⟨bw,aH,ar⟩:=(HH.o.kept H (λg _ E hh=>hh.elim (λe=>qo) (λe=>qo))).h8;obtain⟨g8,c8,aI,-,bz,bA,aJ⟩:=Row.cells aH qo;obtain⟨bB,aK,⟨⟨bC,bD,a6,aL,-⟩,-⟩⟩:=ar.get af;obtain⟨p8,a7,rfl⟩:=Row.shape aL;subst a6;have e8:l.cell? ⟨g8,a*2,none⟩=some (.slice p8 m.dF[a].1.length a7):=(aJ (a*2) qo).trans (Each.flat (o:=0) ar aK qo);obtain⟨Iq,J8⟩:=J.blk.twelve.2.2.2.1;have I8:l.cell? ⟨d,8,none⟩=some (.slice (some ⟨g8,0,none⟩) m.dF.length c8):=Iq.trans (congrArg some aI);clear Iq;have bE:(a:Int)<(m.dF.length:Int):=qo;clear aJ ar aH aL aK af aI;go_wp2_with fail
  go_cut [6] from 15 to 56 (λv W=>v=.int .i64 ((o7 m a:Nat):Int)/\W=l.drew)
  case first=>
   go_region_law (first
     | (refine dP (f:=291) (args:= #[.pointer (some ⟨d,0,none⟩),.int .i64 a]) (by rfl) (by go_simp) (JD a (aE.call (w':=l.drew) (qr.drew) qo) a3 N.o.nums N.o.dx N.o.funcs) ?_;rintro e F⟨pv,rfl,aM,rfl⟩;refine⟨_,rfl,?_⟩;have a8:dH (λg=>B<=g) (m.params a) l.drew pv:=aM;clear aM;obtain⟨pp,pc,rfl⟩:=Row.shape a8))
   all_goals
    go_wp2;go_meet;exact⟨by rw[aq.o,Int.natCast_add];exact congrArg (Value.int .i64) (qaf _ qo),rfl⟩
  obtain⟨rfl,rfl⟩:=hcut;have ag:qK l l.drew:=qr.drew;have au:Kept (only b) l l.drew:=qr.drew;have H:=H.drew;have J:=J.call au;have ad:=Row.call ad au (λk X=>by have:=h.lt;omega);have ap:qh (Each (λx cs=>jA (λg=>w.heap.size<=g) x l.drew cs/\cs.length=2) ks css):=ap.o.to (λy cs hh=>⟨hh.1.kept ag (λ_ _ _ c=>c),hh.2⟩);have ae:=ae.drew;clear aE I8 J8 e8 ag au;have aN:o7 m a<=1000:=by rw[aq.o];omega
  generalize l.drew=R at*;clear aq a4 a5;obtain⟨a9,ba⟩:=J.blk.twelve.2.2.2.2.2.2;have aw:d≠b:=J.ne;rcases hu:iT (o7 m a) s n j2 with⟨q,p⟩|⟨x,j3⟩
  .have T:=qH hu;clear hu;go_wp2_with fail
   go_region_dies
   all_goals
    refine(yZ (o7 m a) rfl ?_ aN T.o).mono ?_
    .exact ae.drew
    rintro e F⟨rfl,D⟩;exact⟨rfl,eP.dG (by simp[fC,HO.o,HE.o,DT (m:=m) (show 0<C - ks.length by omega) (show zx m G s n j=.error (q,p) by simp[zx,aF.o,T.o])]) (H.drew.trans D.fB)⟩
  have T:=qH hu;clear hu;go_wp2_with fail
  have ax:d<R.drew.heap.size:=J.lt;have bF:d<w.heap.size:=qo;have ah:qh (∀l,Kept (only b) R.drew l->l.ownsRow w.heap.size 203 2 (.slice pl ks.length cl) ks.length css.flatten):=λl hx=>((Row.kept ad (S:=λ_=>False) (w':=R.drew) (qr.drew) (λ_ _ _ c=>c)).call hx (λk X=>by have:=h.lt;omega)).nK (λg E=>E);go_region_law (first
    | (refine dP (f:=233) (args:= #[.pointer (some ⟨b,0,none⟩),.int .i64 ((o7 m a:Nat):Int)]) (by rfl) (by go_simp) (AY (o7 m a) rfl ae.drew aN T.o) ?_;rintro e F⟨⟨V,Y,rfl,bb⟩,aO,D⟩;refine⟨_,rfl,?_⟩;have aP:F.cell? ⟨d,11,none⟩=some (.slice pl ks.length cl):=(D.other ax aw).trans a9;have aQ:F.frozen? ⟨d,11,none⟩=false:=(D.jN ax aw).trans ba;have bc:d<F.heap.size:=qad ax D.size)
    | ((refine step_append_lies _ (by rfl) _ _ _ (by rfl) w.heap.size 203 i0 _ 2 32 underlying74 aW aX aY aZ rfl qo (.slice pl ks.length cl) ks.length css.flatten (by rfl) ((ah.o _ D).alloc _) ⟨F.heap.size,0,none⟩ 1 1 [.int .i64 a,.slice V x.length Y] (by rfl) (by rfl) (World.news_of_block (cs:= #[.int .i64 a,.slice V x.length Y]) (t:=203) (fr:=(0,0)) (heap_alloc_new F _)) (by simp[Value.oneCell']) qo (by unfold maxLen;omega) qo (by have:=H.size;have:=D.size;simp at*;omega) (F.heap.size+1) qs ?_;intro I A w4 aR K bd be;have ay:some d≠(Value.slice pl ks.length cl).ownBlock:=λe=>absurd ((ah.o _ D).lt d e.symm).1 qo;have bf:w4.cell? ⟨d,11,none⟩=some (.slice pl ks.length cl):=(K.cell_far ⟨d,11,none⟩ qt ay).trans ((qat _ _ _ bc).trans aP);have bg:w4.frozen? ⟨d,11,none⟩=false:=(K.frozen_far ⟨d,11,none⟩ qt ay).trans ((qch _ _ _ qt).trans aQ))))
  all_goals
   have ai:=(ah.o _ D).alloc (.cells #[.int .i64 a,.slice V x.length Y] 203);have bi:=(jk (aO.alloc _) ai h.lt K).dD (o:=11) aw (.slice (some ⟨I,0,none⟩) (ks.length+1) A);have bj:=(iD ((H.drew.trans D.fB).alloc _) ai qR K).mH (o:=11) (.slice (some ⟨I,0,none⟩) (ks.length+1) A);have aS:=(((J.drew.call D).alloc (.cells #[.int .i64 a,.slice V x.length Y] 203)).kept (Kept.gH K) (λe=>ay e.symm)).set 11 (.slice (some ⟨I,0,none⟩) (ks.length+1) A);have aT:gI 203 2 jA (λg=>w.heap.size<=g) (ks++[(a,x)]) (w4.setCell ⟨d,11,none⟩ (.slice (some ⟨I,0,none⟩) (ks.length+1) A)) (.slice (some ⟨I,0,none⟩) (ks.length+1) A):=by
    have ag:qK R R.drew:=qr.drew;have aU:∀y cs,jA (λg=>w.heap.size<=g) y F cs->jA (λg=>w.heap.size<=g) y (w4.setCell ⟨d,11,none⟩ (.slice (some ⟨I,0,none⟩) (ks.length+1) A)) cs:=λy cs hy=>
     ((hy.kept ((Kept.refl (λ_=>False) F).alloc _) (λ_ _ _ c=>c)).Br ai qx K).kept (S:=only d) (qr.own _) (λg _ E (e:g=d)=>qo)
    refine⟨css++[[.int .i64 a,.slice V x.length Y]],?_,?_⟩
    .have q:=Row.other (Row.mI (ok:=λg=>w.heap.size<=g) aR (λg E _=>E)) (g:=d) (o:=11) (λk X=>qo) (.slice (some ⟨I,0,none⟩) (ks.length+1) A);simpa using q
    refine Each.snoc (ap.o.to (λy cs hh=>⟨aU y cs ((hh.1.kept ag (λ_ _ _ c=>c)).kept D (λg _ E (e:g=b)=>by have:=h.lt;omega)),hh.2⟩)) ⟨aU _ _ ⟨_,rfl,Row.mono bb (λg _ E=>qam H.size E)⟩,rfl⟩
   have bk:qh (nX m s n C 0 [] j0=nX m s n (C - (ks.length+1)) (a+1) (ks++[(a,x)]) j3):=HE.o.trans (QW qo (show zx m G s n j=.ok ((a,x),j3) by simp[zx,aF.o,T.o]));have HR:=qH aT;have bm:=qH aS;clear aT aR K bd be bf bg aP aQ D ai aS aO ah ad;go_wp2;go_roundw
   case rel=>exact⟨ks.length+1,j3,a+1,ks++[(a,x)],.slice (some ⟨I,0,none⟩) (ks.length+1) A,qo,qs,qo,by go_num,by go_num,bi,bj,bm.o,HR.o,λe=>by simp at e,bk.o⟩
   simp[intOf];omega
 have bn:qh (nX m s n C 0 [] j0=.ok (ks,j)):=by show _=_;rw[HE.o,show C - ks.length=0 by omega];rfl
 go_wp2;go_end0;exact eP.dN (x:={m with kD:=ks}) (j:=j) (by simp[fC,HO.o,bn.o]) aa ⟨rfl,ao⟩ Q
theorem Aa{w:qW}{b a B c0 c1:Nat}{s:qS}{i n:Nat}{m:dX}(h:Rd w b s i n)(hm:iF s (λg=>B<=g) w b a m)(hb:b<B)(c:a<B)(d:B<=w.heap.size)(hf:Fair m)(f:m.kD=[])(k:m.dF.length=m.funcs.length)
  (l:w.cell? (qA c0 0)=some (qP a)) (o:w.cell? (qA c1 0)=some (qP b)):
  qC 234 #[qP c0,qP c1] w (eP (both b a) w b s n (nG s B b a) (fC m s n i)):=by
 go_enter func234,ntmps234;go_wp2_with fail
 refine(vW h hm hb c d hf f k).mono ?_;rintro e r⟨X,hok,iC⟩;rcases ho:fC m s n i with⟨q,p⟩|⟨x,j⟩
 .exact TV
 obtain⟨u,rfl,hv,hrd⟩:=hok _ _ ho;obtain⟨rfl,hv⟩:=hv;exact Ug
def kK{α:Type}(which:Nat)(x0:α)(tM:qS->Nat->Nat->Except Err (α×Nat))(s:qS)(n i:Nat):Except Err (α×Nat):=
 if i<n then(if bt s i=which then eX tM s n (i+1) else .ok (x0,i)) else .ok (x0,i)
theorem wS{r:Type}{S:qD}{w:qW}{b:Nat}{s:qS}{i n K:Nat}{A:Array qv}(which:Nat)(d:r)(tM:qS->Nat->Nat->Except Err (r×Nat))(l:qW->Prop)(Post:r->qW->Prop)
  (h:Rd w b s i n) (B:l w) (C:Post d w) (hc:Enters K) (D:S b) (E:∀W a,l W->Kept (only b) W a->l a) (F:∀x W a,Post x W->Kept (only b) W a->Post x a)
  (G:∀W j n',Rd W b s j n'->l W->w.heap.size<=W.heap.size->qC K A W (eP S W b s n' (isDone Post) (tM s n' j))):
  qC 231 #[qP b,qB which,.func (.func K) #[] A] w (eP S w b s n (isDone Post) (kK which d tM s n i)):=by
 have N:=qH G;have H:=qH E;have t:=qH F;have O:=qH B;have I:=qH C;clear G E F B C;have J:∀(W a:qW),Kept (only b) W a->Kept S W a:=λW a X=>X.mono (λk _ (e:k=b)=>e▸D);have v:=qH J;clear J;go_enter func231,ntmps231;by_cases hi:i<n
 .have P:decide (n<=i)=false:=by simp;omega
  go_wp2_with fail
  refine(og h).mono ?_;rintro e Q⟨rfl,y,rfl⟩;go_wp2_with fail
  refine(Gx (h.drewN y)).mono ?_;rintro e w2⟨R,c,f⟩;obtain⟨u,rfl,hv,L⟩:=c _ _ (show lJ s n i=.ok (bt s i,i) by simp[lJ,hi]);obtain rfl:u=qB (bt s i:Nat):=hv;have z:=((Kept.refl (only b) w).drewN y).trans R;clear c f;by_cases hw:bt s i=which
  .have T:(((bt s i:Nat):Int) !=((which:Nat):Int))=false:=by simp[hw]
   have g:qh (kK which d tM s n i=eX tM s n (i+1)):=by show _=_;simp[kK,hi,hw]
   go_wp2_with fail
   refine(lQ L).mono ?_;rintro e w3⟨V,c,f⟩;obtain⟨u,rfl,hv,Y⟩:=c _ _ (show iW s n i=.ok (bt s i,i+1) by simp[iW,hi]);have m:=z.trans V;clear c f;go_wp2_with fail
   refine(vQ (S:=S) (A:=A) tM l Post Y (H.o _ _ O.o m) hc D H.o t.o (λW j n' U Z h3=>N.o W j n' U Z (qam m.size h3))).mono ?_;rintro e w4⟨M,c,f⟩;rcases ho:eX tM s n (i+1) with⟨q,p⟩|⟨x,j⟩
   .obtain rfl:=f _ _ ho;exact⟨rfl,eP.dG (g.o.trans ho) ((v.o _ _ m).trans M)⟩
   obtain⟨u,rfl,⟨rfl,hp⟩,aa⟩:=c _ _ ho;have ab:=qH hp;have HO:=qH ho;clear hp c f ho;go_wp2;go_end0;exact eP.dN (g.o.trans HO.o) ((v.o _ _ m).trans M) ⟨rfl,ab.o⟩ aa
  have T:(((bt s i:Nat):Int) !=((which:Nat):Int))=true:=by simp;omega
  have g:qh (kK which d tM s n i=.ok (d,i)):=by show _=_;simp[kK,hi,hw]
  go_wp2;go_end0;exact eP.dN g.o (v.o _ _ z) ⟨rfl,t.o _ _ _ I.o z⟩ L
 have P:decide (n<=i)=true:=by simp;omega
 have g:qh (kK which d tM s n i=.ok (d,i)):=by show _=_;simp[kK,hi]
 go_wp2_with fail
 refine(og h).mono ?_;rintro e Q⟨rfl,y,rfl⟩;go_wp2;go_end0;exact eP.dN g.o (qr.drewN _) ⟨rfl,t.o _ _ _ I.o (qr.drewN _)⟩ (h.drewN _)
def iZ(x:Nat):Nat:=if x=0 then 12 else if x=2\/11<x then 0 else x
theorem oZ(x:Nat)(w:qW):qC 123 #[qB x] w λe w'=>e=.returned (qJ (iZ x:Nat))/\w'=w:=by
 by_cases h0:x=0
 .subst h0;go_enter func123,ntmps123;go_wp2;go_ret;exact⟨rfl,rfl⟩
 have c:((x:Int)==0)=false:=by simp;omega
 by_cases U:x=2
 .subst U;go_enter func123,ntmps123;go_wp2;go_ret;exact⟨rfl,rfl⟩
 have d:((x:Int)==2)=false:=by simp;omega
 by_cases a:11<x
 .have b:decide ((11:Int)<(x:Int))=true:=by simp;omega
  have HR:qh (iZ x=0):=by show _=_;simp[iZ,h0,a]
  clear h0 U a;go_enter func123,ntmps123;exact OQ
 have b:decide ((11:Int)<(x:Int))=false:=by simp;omega
 have HR:qh (iZ x=x):=by show _=_;simp[iZ,h0,U,a]
 have hx:(x:Int)<=11:=qo;clear h0 U a;go_enter func123,ntmps123;exact OQ
theorem rM{w:qW}{b g:Nat}{s:qS}{ok:qD}{m:dX}(at_:Int)(hm:iF s ok w b g m):
  qC 65 #[qP g,qJ at_] w λe w'=>(∃k,w'=w.drewN k)/\e=if m.dF.length=m.funcs.length then .returned (.tuple #[]) else fo 2 at_:=by
 obtain⟨f,c,d⟩:=hm;obtain⟨j,p⟩:=c.blk.twelve.1.2.1;obtain⟨h,q⟩:=c.blk.twelve.2.2.2.1;obtain⟨r,c1,l⟩:=Row.shape d.U;obtain⟨css,i,-⟩:=d.h8;obtain⟨t,u,n⟩:=Row.shape i;rw[l]at j;rw[n]at h;clear d i c;by_cases a:m.dF.length=m.funcs.length
 .rw[qac a];rw[a]at h;have o:(((m.funcs.length:Nat):Int) !=((m.funcs.length:Nat):Int))=false:=qs;clear a;go_enter func65,ntmps65;go_wp2;go_quiet (fail)
  go_wp2;go_end0;exact⟨⟨_,rfl⟩,rfl⟩
 rw[qaa a];have o:(((m.dF.length:Nat):Int) !=((m.funcs.length:Nat):Int))=true:=by simp;omega
 go_enter func65,ntmps65;go_wp2;go_quiet (fail)
 go_wp2_with fail
 refine(fZ _ _).mono ?_;rintro e v⟨rfl,rfl⟩;exact⟨rfl,⟨_,rfl⟩,rfl⟩
theorem gI.X5{c:Type}{E:TypeId}{d:Nat}{a:(qD)->c->qW->qV->Prop}{xs:List c}{w:qW}{v:qv}{b B:Nat}(h:gI E d a (λg=>b<=g) xs w v)(e:B<=b)
  (f:∀x cs,a (λg=>b<=g) x w cs->a (λg=>B<=g) x w cs):gI E d a (λg=>B<=g) xs w v:=by
 obtain⟨css,U,i⟩:=h;exact⟨css,Row.mono U (λg _ j=>qam e j),i.to (λx cs hh=>⟨f x cs hh.1,hh.2⟩)⟩
theorem nZ.mono{ok ok':qD}{w:qW}{x:Ty}{cs:qV}(h:nZ ok x w cs)(hm:∀g,g<w.heap.size->ok g->ok' g):nZ ok' x w cs:=by
 obtain⟨b,d,e,a,c⟩:=h;exact⟨b,d,e,Row.mono a hm,Row.mono c hm⟩
theorem kS.mono{ok ok':qD}{w:qW}{x:Cm}{cs:qV}(h:kS ok x w cs)(hm:∀g,g<w.heap.size->ok g->ok' g):kS ok' x w cs:=by
 obtain⟨b,e,a⟩:=h;exact⟨b,e,Row.mono a hm⟩
theorem zF:Enters 170:=enters_of func170 qk qk
theorem yF:Enters 173:=enters_of func173 qk qk
theorem xO:Enters 174:=enters_of func174 qk qk
theorem xP:Enters 176:=enters_of func176 qk qk
theorem xQ:Enters 178:=enters_of func178 qk qk
theorem wH:Enters 180:=enters_of func180 qk qk
theorem zG:Enters 183:=enters_of func183 qk qk
def pQ(m:dX)(s:qS)(n i:Nat):Except Err (dX×Nat):=
 match eB 20 rA s n i with
 | .error e=>.error e
 | .ok (xs,j)=>.ok ({m with dx:=xs},j)
theorem Fy{w:qW}{b d B:Nat}{s:qS}{i n:Nat}{m:dX}(h:Rd w b s i n)(hm:iF s (λg=>B<=g) w b d m)(hb:b<B)(T:d<B)(V:B<=w.heap.size):
  qC 127 #[qP d,qP b,qB 1] w (eP (both b d) w b s n (nG s B b d) (pQ m s n i)):=by
 obtain⟨f,C,D⟩:=hm;have K:=qH D;clear D;go_enter func127,ntmps127;go_wp2_with fail
 refine(EN 20 170 rA h qo zF (λv j M=>Eu M)).mono ?_;rintro e v⟨z,E,H⟩;have I:Kept (both b d) w v:=z.fB;have l:=C.call z;clear z C;rcases ho:eB 20 rA s n i with⟨q,p⟩|⟨x,j⟩
 .obtain rfl:=H _ _ ho;exact⟨rfl,eP.dG (by simp[pQ,ho]) I⟩
 obtain⟨u,rfl,hv,N⟩:=E _ _ ho;have O:∃p c,u=qX p x c:=by obtain⟨css,P,-⟩:=hv;exact Row.shape P
 obtain⟨r,t,rfl⟩:=O;have Q:=qH ho;have R:=qH hv;clear E H ho hv;obtain⟨F,G⟩:=l.blk.twelve.1.1;go_wp2;go_end0;have W:=l.lt;have J:=I.mH (o:=0) (qX r x t);have a:=K.o.kept J (λg _ k hh=>hh.elim (λe=>qo) (λe=>qo));have hI:=l.set 0 (qX r x t);have hv:=R.o;refine eP.dN (x:={m with dx:=x}) (j:=j) (by simp[pQ,Q.o]) J ⟨rfl,{f with v0:=qX r x t},hI,?_⟩ (N.dD l.ne _);have A:=hv.kept (S:=only d) (w':=v.setCell (qA d 0) (qX r x t)) (qr.own _) (λg _ k (e:g=d)=>by have k:w.heap.size<=g:=k;omega) (λy cs hy=>hy.kept (S:=only d) (qr.own _) (λg _ k (e:g=d)=>by have k:w.heap.size<=g:=k;omega));have A:=A.X5 (B:=B) qo (λy cs hy=>hy.mono (λg _ k=>by have k:w.heap.size<=g:=k;omega));exact⟨A,a.U,a.L,a.h3,a.h4,a.h5,a.h6,a.h7,a.h8,a.h9,a.h10,a.h11,a.wC,a.wB,a.o6⟩
def pO(m:dX)(s:qS)(n i:Nat):Except Err (dX×Nat):=
 match eB 20 uM s n i with
 | .error e=>.error e
 | .ok (xs,j)=>.ok ({m with funcs:=xs},j)
theorem Fx{w:qW}{b c B:Nat}{s:qS}{i n:Nat}{m:dX}(h:Rd w b s i n)(hm:iF s (λg=>B<=g) w b c m)(hb:b<B)(P:c<B)(Q:B<=w.heap.size):
  qC 127 #[qP c,qP b,qB 3] w (eP (both b c) w b s n (nG s B b c) (pO m s n i)):=by
 obtain⟨f,y,z⟩:=hm;have I:=qH z;clear z;go_enter func127,ntmps127;go_wp2_with fail
 refine(uA 20 168 uM h qo Ib (λA j J=>nD J)).mono ?_;rintro e A⟨t,C,D⟩;have E:Kept (both b c) w A:=t.fB;have d:=y.call t;clear t y;rcases ho:eB 20 uM s n i with⟨q,p⟩|⟨x,j⟩
 .obtain rfl:=D _ _ ho;exact⟨rfl,eP.dG (by simp[pO,ho]) E⟩
 obtain⟨u,rfl,hv,K⟩:=C _ _ ho;obtain⟨l,r,rfl⟩:=Row.shape hv;have M:=qH ho;have N:=qH hv;clear C D ho hv;obtain⟨F,G⟩:=d.blk.twelve.1.2.1;go_wp2;go_end0;have R:=d.lt;have H:=E.mH (o:=1) (qX l x r);have a:=I.o.kept H (λg _ v hh=>hh.elim (λe=>qo) (λe=>qo));have hI:=d.set 1 (qX l x r);have hv:=N.o;refine eP.dN (x:={m with funcs:=x}) (j:=j) (by simp[pO,M.o]) H ⟨rfl,{f with v1:=qX l x r},hI,?_⟩ (K.dD d.ne _);have O:=Row.mono (Row.other hv (g:=c) (o:=1) (λk X=>by have X:w.heap.size<=k:=X;omega) (qX l x r)) (ok':=λg=>B<=g) (λg _ v=>by have v:w.heap.size<=g:=v;omega);exact⟨a.h0,O,a.L,a.h3,a.h4,a.h5,a.h6,a.h7,a.h8,a.h9,a.h10,a.h11,a.wC,a.wB,a.o6⟩
def pM(m:dX)(s:qS)(n i:Nat):Except Err (dX×Nat):=
 match eB 1 nM s n i with
 | .error e=>.error e
 | .ok (xs,j)=>.ok ({m with tables:=xs},j)
theorem Fw{w:qW}{b c B:Nat}{s:qS}{i n:Nat}{m:dX}(h:Rd w b s i n)(hm:iF s (λg=>B<=g) w b c m)(hb:b<B)(O:c<B)(P:B<=w.heap.size):
  qC 127 #[qP c,qP b,qB 4] w (eP (both b c) w b s n (nG s B b c) (pM m s n i)):=by
 obtain⟨f,y,z⟩:=hm;have I:=qH z;clear z;go_enter func127,ntmps127;go_wp2_with fail
 refine(uB 1 173 nM h qo yF (λA j J=>CE J)).mono ?_;rintro e A⟨t,C,D⟩;have E:Kept (both b c) w A:=t.fB;have d:=y.call t;clear t y;rcases ho:eB 1 nM s n i with⟨q,p⟩|⟨x,j⟩
 .obtain rfl:=D _ _ ho;exact⟨rfl,eP.dG (by simp[pM,ho]) E⟩
 obtain⟨u,rfl,hv,K⟩:=C _ _ ho;obtain⟨l,r,rfl⟩:=Row.shape hv;have L:=qH ho;have M:=qH hv;clear C D ho hv;obtain⟨F,G⟩:=d.blk.twelve.1.2.2.1;go_wp2;go_end0;have Q:=d.lt;have H:=E.mH (o:=2) (qX l x r);have a:=I.o.kept H (λg _ v hh=>hh.elim (λe=>qo) (λe=>qo));have hI:=d.set 2 (qX l x r);have hv:=M.o;refine eP.dN (x:={m with tables:=x}) (j:=j) (by simp[pM,L.o]) H ⟨rfl,{f with v2:=qX l x r},hI,?_⟩ (K.dD d.ne _);have N:=Row.mono (Row.other hv (g:=c) (o:=2) (λk X=>by have X:w.heap.size<=k:=X;omega) (qX l x r)) (ok':=λg=>B<=g) (λg _ v=>by have v:w.heap.size<=g:=v;omega);exact⟨a.h0,a.U,N,a.h3,a.h4,a.h5,a.h6,a.h7,a.h8,a.h9,a.h10,a.h11,a.wC,a.wB,a.o6⟩
def pK(m:dX)(s:qS)(n i:Nat):Except Err (dX×Nat):=
 match eB 1 r9 s n i with
 | .error e=>.error e
 | .ok (xs,j)=>.ok ({m with fP:=xs},j)
theorem Fv{w:qW}{b c B:Nat}{s:qS}{i n:Nat}{m:dX}(h:Rd w b s i n)(hm:iF s (λg=>B<=g) w b c m)(hb:b<B)(P:c<B)(Q:B<=w.heap.size):
  qC 127 #[qP c,qP b,qB 5] w (eP (both b c) w b s n (nG s B b c) (pK m s n i)):=by
 obtain⟨f,y,z⟩:=hm;have I:=qH z;clear z;go_enter func127,ntmps127;go_wp2_with fail
 refine(uB 1 174 r9 h qo xO (λA j J=>uh J)).mono ?_;rintro e A⟨t,C,D⟩;have E:Kept (both b c) w A:=t.fB;have d:=y.call t;clear t y;rcases ho:eB 1 r9 s n i with⟨q,p⟩|⟨x,j⟩
 .obtain rfl:=D _ _ ho;exact⟨rfl,eP.dG (by simp[pK,ho]) E⟩
 obtain⟨u,rfl,hv,K⟩:=C _ _ ho;obtain⟨l,r,rfl⟩:=Row.shape hv;have M:=qH ho;have N:=qH hv;clear C D ho hv;obtain⟨F,G⟩:=d.blk.twelve.1.2.2.2.1;go_wp2;go_end0;have R:=d.lt;have H:=E.mH (o:=3) (qX l x r);have a:=I.o.kept H (λg _ v hh=>hh.elim (λe=>qo) (λe=>qo));have hI:=d.set 3 (qX l x r);have hv:=N.o;refine eP.dN (x:={m with fP:=x}) (j:=j) (by simp[pK,M.o]) H ⟨rfl,{f with v3:=qX l x r},hI,?_⟩ (K.dD d.ne _);have O:=Row.mono (Row.other hv (g:=c) (o:=3) (λk X=>by have X:w.heap.size<=k:=X;omega) (qX l x r)) (ok':=λg=>B<=g) (λg _ v=>by have v:w.heap.size<=g:=v;omega);exact⟨a.h0,a.U,a.L,O,a.h4,a.h5,a.h6,a.h7,a.h8,a.h9,a.h10,a.h11,a.wC,a.wB,a.o6⟩
def pJ(m:dX)(s:qS)(n i:Nat):Except Err (dX×Nat):=
 match eB 10 jR s n i with
 | .error e=>.error e
 | .ok (xs,j)=>.ok ({m with dI:=xs},j)
theorem Fu{w:qW}{b c B:Nat}{s:qS}{i n:Nat}{m:dX}(h:Rd w b s i n)(hm:iF s (λg=>B<=g) w b c m)(hb:b<B)(P:c<B)(Q:B<=w.heap.size):
  qC 127 #[qP c,qP b,qB 6] w (eP (both b c) w b s n (nG s B b c) (pJ m s n i)):=by
 obtain⟨f,y,z⟩:=hm;have I:=qH z;clear z;go_enter func127,ntmps127;go_wp2_with fail
 refine(A9 10 176 jR h qo xP (λA j J=>Ag J)).mono ?_;rintro e A⟨t,C,D⟩;have E:Kept (both b c) w A:=t.fB;have d:=y.call t;clear t y;rcases ho:eB 10 jR s n i with⟨q,p⟩|⟨x,j⟩
 .obtain rfl:=D _ _ ho;exact⟨rfl,eP.dG (by simp[pJ,ho]) E⟩
 obtain⟨u,rfl,hv,K⟩:=C _ _ ho;obtain⟨l,r,rfl⟩:=Row.shape hv;have M:=qH ho;have N:=qH hv;clear C D ho hv;obtain⟨F,G⟩:=d.blk.twelve.1.2.2.2.2.1;go_wp2;go_end0;have R:=d.lt;have H:=E.mH (o:=4) (qX l x r);have a:=I.o.kept H (λg _ v hh=>hh.elim (λe=>qo) (λe=>qo));have hI:=d.set 4 (qX l x r);have hv:=N.o;refine eP.dN (x:={m with dI:=x}) (j:=j) (by simp[pJ,M.o]) H ⟨rfl,{f with v4:=qX l x r},hI,?_⟩ (K.dD d.ne _);have O:=Row.mono (Row.other hv (g:=c) (o:=4) (λk X=>by have X:w.heap.size<=k:=X;omega) (qX l x r)) (ok':=λg=>B<=g) (λg _ v=>by have v:w.heap.size<=g:=v;omega);exact⟨a.h0,a.U,a.L,a.h3,O,a.h5,a.h6,a.h7,a.h8,a.h9,a.h10,a.h11,a.wC,a.wB,a.o6⟩
def pI(m:dX)(s:qS)(n i:Nat):Except Err (dX×Nat):=
 match eB 20 jy s n i with
 | .error e=>.error e
 | .ok (xs,j)=>.ok ({m with dw:=xs},j)
theorem Fq{w:qW}{b c B:Nat}{s:qS}{i n:Nat}{m:dX}(h:Rd w b s i n)(hm:iF s (λg=>B<=g) w b c m)(hb:b<B)(P:c<B)(Q:B<=w.heap.size):
  qC 127 #[qP c,qP b,qB 7] w (eP (both b c) w b s n (nG s B b c) (pI m s n i)):=by
 obtain⟨f,y,z⟩:=hm;have I:=qH z;clear z;go_enter func127,ntmps127;go_wp2_with fail
 refine(Ba 20 178 jy h qo xQ (λA j J=>Ah J)).mono ?_;rintro e A⟨t,C,D⟩;have E:Kept (both b c) w A:=t.fB;have d:=y.call t;clear t y;rcases ho:eB 20 jy s n i with⟨q,p⟩|⟨x,j⟩
 .obtain rfl:=D _ _ ho;exact⟨rfl,eP.dG (by simp[pI,ho]) E⟩
 obtain⟨u,rfl,hv,K⟩:=C _ _ ho;obtain⟨l,r,rfl⟩:=Row.shape hv;have M:=qH ho;have N:=qH hv;clear C D ho hv;obtain⟨F,G⟩:=d.blk.twelve.1.2.2.2.2.2;go_wp2;go_end0;have R:=d.lt;have H:=E.mH (o:=5) (qX l x r);have a:=I.o.kept H (λg _ v hh=>hh.elim (λe=>qo) (λe=>qo));have hI:=d.set 5 (qX l x r);have hv:=N.o;refine eP.dN (x:={m with dw:=x}) (j:=j) (by simp[pI,M.o]) H ⟨rfl,{f with v5:=qX l x r},hI,?_⟩ (K.dD d.ne _);have O:=Row.mono (Row.other hv (g:=c) (o:=5) (λk X=>by have X:w.heap.size<=k:=X;omega) (qX l x r)) (ok':=λg=>B<=g) (λg _ v=>by have v:w.heap.size<=g:=v;omega);exact⟨a.h0,a.U,a.L,a.h3,a.h4,O,a.h6,a.h7,a.h8,a.h9,a.h10,a.h11,a.wC,a.wB,a.o6⟩
def pF(m:dX)(s:qS)(n i:Nat):Except Err (dX×Nat):=
 match eB 5 tQ s n i with
 | .error e=>.error e
 | .ok (xs,j)=>.ok ({m with elems:=xs},j)
theorem Fj{w:qW}{b d B:Nat}{s:qS}{i n:Nat}{m:dX}(h:Rd w b s i n)(hm:iF s (λg=>B<=g) w b d m)(hb:b<B)(T:d<B)(V:B<=w.heap.size):
  qC 127 #[qP d,qP b,qB 9] w (eP (both b d) w b s n (nG s B b d) (pF m s n i)):=by
 obtain⟨f,C,D⟩:=hm;have K:=qH D;clear D;go_enter func127,ntmps127;go_wp2_with fail
 refine(zy 5 180 tQ h qo wH (λv j M=>zk M)).mono ?_;rintro e v⟨z,E,H⟩;have I:Kept (both b d) w v:=z.fB;have l:=C.call z;clear z C;rcases ho:eB 5 tQ s n i with⟨q,p⟩|⟨x,j⟩
 .obtain rfl:=H _ _ ho;exact⟨rfl,eP.dG (by simp[pF,ho]) I⟩
 obtain⟨u,rfl,hv,N⟩:=E _ _ ho;have O:∃p c,u=qX p x c:=by obtain⟨css,P,-⟩:=hv;exact Row.shape P
 obtain⟨r,t,rfl⟩:=O;have Q:=qH ho;have R:=qH hv;clear E H ho hv;obtain⟨F,G⟩:=l.blk.twelve.2.2.1;go_wp2;go_end0;have W:=l.lt;have J:=I.mH (o:=7) (qX r x t);have a:=K.o.kept J (λg _ k hh=>hh.elim (λe=>qo) (λe=>qo));have hI:=l.set 7 (qX r x t);have hv:=R.o;refine eP.dN (x:={m with elems:=x}) (j:=j) (by simp[pF,Q.o]) J ⟨rfl,{f with v7:=qX r x t},hI,?_⟩ (N.dD l.ne _);have A:=hv.kept (S:=only d) (w':=v.setCell (qA d 7) (qX r x t)) (qr.own _) (λg _ k (e:g=d)=>by have k:w.heap.size<=g:=k;omega) (λy cs hy=>hy.kept (S:=only d) (qr.own _) (λg _ k (e:g=d)=>by have k:w.heap.size<=g:=k;omega));have A:=A.X5 (B:=B) qo (λy cs hy=>hy.mono (λg _ k=>by have k:w.heap.size<=g:=k;omega));exact⟨a.h0,a.U,a.L,a.h3,a.h4,a.h5,a.h6,A,a.h8,a.h9,a.h10,a.h11,a.wC,a.wB,a.o6⟩
def mY(m:dX)(s:qS)(n i:Nat):Except Err (dX×Nat):=
 match eB 10 pz s n i with
 | .error e=>.error e
 | .ok (xs,j)=>.ok ({m with data:=xs},j)
theorem CZ{w:qW}{b c B:Nat}{s:qS}{i n:Nat}{m:dX}(h:Rd w b s i n)(hm:iF s (λg=>B<=g) w b c m)(hb:b<B)(P:c<B)(Q:B<=w.heap.size):
  qC 127 #[qP c,qP b,qB 11] w (eP (both b c) w b s n (nG s B b c) (mY m s n i)):=by
 obtain⟨f,y,z⟩:=hm;have I:=qH z;clear z;go_enter func127,ntmps127;go_wp2_with fail
 refine(EP 10 183 pz h qo zG (λA j J=>EC J)).mono ?_;rintro e A⟨t,C,D⟩;have E:Kept (both b c) w A:=t.fB;have d:=y.call t;clear t y;rcases ho:eB 10 pz s n i with⟨q,p⟩|⟨x,j⟩
 .obtain rfl:=D _ _ ho;exact⟨rfl,eP.dG (by simp[mY,ho]) E⟩
 obtain⟨u,rfl,hv,K⟩:=C _ _ ho;obtain⟨l,r,rfl⟩:=Row.shape hv;have M:=qH ho;have N:=qH hv;clear C D ho hv;obtain⟨F,G⟩:=d.blk.twelve.2.2.2.2.1;go_wp2;go_end0;have R:=d.lt;have H:=E.mH (o:=9) (qX l x r);have a:=I.o.kept H (λg _ v hh=>hh.elim (λe=>qo) (λe=>qo));have hI:=d.set 9 (qX l x r);have hv:=N.o;refine eP.dN (x:={m with data:=x}) (j:=j) (by simp[mY,M.o]) H ⟨rfl,{f with v9:=qX l x r},hI,?_⟩ (K.dD d.ne _);have O:=Row.mono (Row.other hv (g:=c) (o:=9) (λk X=>by have X:w.heap.size<=k:=X;omega) (qX l x r)) (ok':=λg=>B<=g) (λg _ v=>by have v:w.heap.size<=g:=v;omega);exact⟨a.h0,a.U,a.L,a.h3,a.h4,a.h5,a.h6,a.h7,a.h8,O,a.h10,a.h11,a.wC,a.wB,a.o6⟩
def pG(m:dX)(s:qS)(n i:Nat):Except Err (dX×Nat):=
 match uM s n i with
 | .error e=>.error e
 | .ok (x,j)=>.ok ({m with starts:=[x]},j)
theorem Fp{w:qW}{b a B:Nat}{s:qS}{i n:Nat}{m:dX}(h:Rd w b s i n)(hm:iF s (λg=>B<=g) w b a m)(hb:b<B)(am:a<B)(Z:B<=w.heap.size)(aa:m.starts=[]):
  qC 127 #[qP a,qP b,qB 8] w (eP (both b a) w b s n (nG s B b a) (pG m s n i)):=by
 obtain⟨i0,ab,ac,ad,ae⟩:=qap Tryz.Kb;obtain⟨f,z,F⟩:=hm;obtain⟨N,J6⟩:=z.blk.twelve.2.1;rw[F.wC aa]at N;have HH:=qH F;clear F;have G:=z.ne;have H:a<w.drew.heap.size:=z.lt;go_enter func127,ntmps127;rcases D:uM s n i with⟨q,p⟩|⟨⟨v,p⟩,j2⟩
 .have C:=qH D;clear D;go_wp2_with fail
  go_region_dies
  all_goals
   refine(Ul ?_ C.o).mono ?_
   .exact h.drew
   rintro e d⟨rfl,r⟩;exact⟨rfl,eP.dG (by simp[pG,C.o]) (qr.drew.trans r.fB)⟩
 have C:=qH D;clear D;go_wp2_with fail
 have an:=h.lt;have I:qh (∀d:qW,d.ownsRow w.heap.size 93 2 (qN) 0 []):=λd=>qdg d _ _ _;go_region_law (first
   | (refine dP (f:=168) (args:= #[qP b]) (by rfl) (by go_simp) (VP h.drew C.o) ?_;rintro e d⟨rfl,O,r⟩;refine⟨_,rfl,?_⟩;have P:d.cell? (qA a 6)=some (qN):=(r.other H G).trans N;have Q:d.frozen? (qA a 6)=false:=(r.jN H G).trans J6;have af:a<d.heap.size:=qad H r.size)
   | ((refine step_append_lies _ (by rfl) _ _ _ (by rfl) w.heap.size 93 i0 _ 2 16 underlying66 ab ac ad ae rfl qo (qN) 0 [] (by rfl) (I.o _) ⟨d.heap.size,0,none⟩ 1 1 [qI v,qJ p] (by rfl) (by rfl) (World.news_of_block (cs:= #[qI v,qJ p]) (t:=93) (fr:=(0,0)) (heap_alloc_new d _)) (by simp[Value.oneCell']) qo (by unfold maxLen;omega) qo (by have h9:w.heap.size<=d.heap.size:=r.size;first | omega | (simp;omega) | (simp at*)) (d.heap.size+1) qs ?_;intro u A J R y ag ah;have K:some a≠(Value.slice none 0 0).ownBlock:=(λe=>by simp[Value.ownBlock]at e);have ai:J.cell? (qA a 6)=some (qN):=(y.cell_far ⟨a,6,none⟩ qt K).trans ((qat _ _ _ af).trans P);have aj:J.frozen? (qA a 6)=false:=(y.frozen_far ⟨a,6,none⟩ qt K).trans ((qch _ _ _ qt).trans Q))))
 all_goals
  have M:=I.o (d.alloc (.cells #[qI v,qJ p] 93));have S:=(jk (O.alloc _) M h.lt y).dD (o:=6) G (qL u 1 A);have T:=(iD ((qr.drew.trans r.fB).alloc _) M qR y).mH (b:=b) (c:=a) (o:=6) (qL u 1 A);have V:=(((z.drew.call r).alloc (.cells #[qI v,qJ p] 93)).kept (Kept.gH y) (λe=>K e.symm)).set 6 (qL u 1 A);have ao:a<w.heap.size:=z.lt;have W:isRow 93 2 numCells (λg=>B<=g) [(v,p)] (J.setCell (qA a 6) (qL u 1 A)) (qL u 1 A):=by
   have q:=Row.mono (Row.other (Row.mI (ok:=λg=>w.heap.size<=g) R (λg E _=>E)) (g:=a) (o:=6) (λk X=>by have X:w.heap.size<=k:=X;omega) (qL u 1 A)) (ok':=λg=>B<=g) (λg _ E=>qam Z E);simpa [isRow,numCells] using q
  have HR:=qH W;have ak:=qH V;have Y:=qH T;have al:=qH S;clear W R y ag ah ai aj P Q r M V O I T S;go_wp2;go_end0;have l:=HH.o.kept Y.o (λg _ E hh=>hh.elim (λe=>qo) (λe=>qo));refine eP.dN (x:={m with starts:=[(v,p)]}) (j:=j2) (by simp[pG,C.o]) Y.o ⟨rfl,{f with v6:=qL u 1 A},ak.o,?_⟩ al.o;exact⟨l.h0,l.U,l.L,l.h3,l.h4,l.h5,HR.o,l.h7,l.h8,l.h9,l.h10,l.h11,λe=>by simp at e,l.wB,l.o6⟩
theorem C9{w:qW}{b a B:Nat}{s:qS}{i n:Nat}{m:dX}(h:Rd w b s i n)(hm:iF s (λg=>B<=g) w b a m)(hb:b<B)(c:a<B)(d:B<=w.heap.size)(f:m.funcs.length<=20)(k:m.dF=[]):
  qC 127 #[qP a,qP b,qB 10] w (eP (both b a) w b s n (nG s B b a) (lF m s n i)):=by
 go_enter func127,ntmps127;go_wp2_with fail
 refine(CG h hm hb c d f k).mono ?_;rintro e l⟨X,hok,iC⟩;rcases ho:lF m s n i with⟨q,p⟩|⟨x,j⟩
 .exact TV
 obtain⟨u,rfl,⟨rfl,hv⟩,hrd⟩:=hok _ _ ho;exact Ug
def gq(m:dX)(s:qS)(n i:Nat):Except Err (dX×Nat):=
 match iT m.funcs.length s n i with
 | .error e=>.error e
 | .ok (xs,j)=>.ok ({m with nfuncs:=xs},j)
theorem Ac{w:qW}{b c B c0 c1:Nat}{s:qS}{i n:Nat}{m:dX}(h:Rd w b s i n)(hm:iF s (λg=>B<=g) w b c m)(hb:b<B)(T:c<B)(V:B<=w.heap.size)(W:m.funcs.length<=20)
  (G:c1≠b) (Y:w.cell? (qA c0 0)=some (qP b)) (D:w.cell? (qA c1 0)=some (qP c)):
  qC 232 #[qP c0,qP c1] w (eP (both b c) w b s n (nG s B b c) (gq m s n i)):=by
 obtain⟨f,l,z⟩:=hm;obtain⟨H,Z⟩:=l.blk.twelve.1.2.1;obtain⟨I,J⟩:=l.blk.twelve.2.2.2.2.2.1;obtain⟨p1,aa,K⟩:=Row.shape z.U;rw[K]at H;have M:=qH z;clear z;have A:c≠b:=l.ne;have E:c<w.drew.heap.size:=l.lt;have N:c1<w.drew.heap.size:=qdq _ _ D;go_enter func232,ntmps232;rcases u:iT m.funcs.length s n i with⟨q,p⟩|⟨x,O⟩
 .have r:=qH u;clear u;go_wp2_with fail
  go_region_dies
  all_goals
   refine(yZ m.funcs.length rfl ?_ qo r.o).mono ?_
   .exact h.drew
   rintro e t⟨rfl,d⟩;exact⟨rfl,eP.dG (by simp[gq,r.o]) (qr.drew.trans d.fB)⟩
 have r:=qH u;clear u;go_wp2_with fail
 go_region_law (first
   | (refine dP (f:=233) (args:= #[qP b,qJ m.funcs.length]) (by rfl) (by go_simp) (AY m.funcs.length rfl h.drew qo r.o) ?_;rintro e t⟨⟨v,y,rfl,P⟩,Q,d⟩;refine⟨_,rfl,?_⟩;have ab:t.cell? (qA c 10)=some f.v10:=(d.other E A).trans I;have ac:t.frozen? (qA c 10)=false:=(d.jN E A).trans J;have ad:t.cell? (qA c1 0)=some (qP c):=(d.other N G).trans D))
 all_goals
  go_wp2;go_end0;have F:Kept (both b c) w t:=qr.drew.trans d.fB;have R:=(l.drew.call d).set 10 (qX v x y);have a:=M.o.kept (F.mH (o:=10) (qX v x y)) (λg _ C hh=>hh.elim (λe=>qo) (λe=>qo));have S:=Row.mono (Row.other P (g:=c) (o:=10) (λk X=>by have:=l.lt;have X:w.heap.size<=k:=X;omega) (qX v x y)) (ok':=λg=>B<=g) (λg _ C=>by have C:w.heap.size<=g:=C;omega);refine eP.dN (x:={m with nfuncs:=x}) (j:=O) (by simp[gq,r.o]) (F.mH _) ⟨rfl,{f with v10:=qX v x y},R,?_⟩ (Q.dD A _);exact⟨a.h0,a.U,a.L,a.h3,a.h4,a.h5,a.h6,a.h7,a.h8,a.h9,S,a.h11,a.wC,a.wB,a.o6⟩
def kL(m:dX)(s:qS)(n i:Nat):Except Err (dX×Nat):=
 match fQ [4,110,97,109,101] s n i with
 | .error e=>.error e
 | .ok (_,j)=>
  match kK 1 m (gq m) s n j with
  | .error e=>.error e
  | .ok (m1,j2)=>kK 2 m1 (fC m1) s n j2
theorem ug{a:Type}{tM:qS->Nat->Nat->Except Err (a×Nat)}{s:qS}{n i:Nat}{x:a}{j:Nat}(h:eX tM s n i=.ok (x,j)):∃n' b,tM s n' b=.ok (x,j):=by
 unfold eX at h;split at h
 .cases h
 split at h
 .split at h<;>cases h
 split at h
 .cases h
 rename_i c;split at h
 .cases h
 cases h;exact⟨_,_,c⟩
theorem DJ{a:Type}{which:Nat}{b:a}{tM:qS->Nat->Nat->Except Err (a×Nat)}{s:qS}{n i:Nat}{x:a}{j:Nat}(h:kK which b tM s n i=.ok (x,j)):x=b\/∃n' c,tM s n' c=.ok (x,j):=by
 unfold kK at h;split at h
 .split at h
  .exact .inr (ug h)
  cases h;exact .inl rfl
 cases h;exact .inl rfl
theorem zB{m a:dX}{s:qS}{n i j:Nat}(h:gq m s n i=.ok (a,j)):∃xs,a={m with nfuncs:=xs}:=by
 unfold gq at h;split at h
 .cases h
 cases h;exact⟨_,rfl⟩
theorem AU{m a:dX}{s:qS}{n i j:Nat}(h:kK 1 m (gq m) s n i=.ok (a,j)):∃xs,a={m with nfuncs:=xs}:=by
 obtain rfl | ⟨_,_,h⟩:=DJ h
 .exact⟨a.nfuncs,rfl⟩
 exact zB h
theorem xN:Enters 232:=enters_of func232 qk qk
theorem xM:Enters 234:=enters_of func234 qk qk
theorem CF{w:qW}{b a B:Nat}{s:qS}{i n:Nat}{m:dX}(h:Rd w b s i n)(hm:iF s (λg=>B<=g) w b a m)(hb:b<B)(Q:a<B)(hB:B<=w.heap.size)(hf:Fair m)(ag:m.kD=[])(ah:m.dF.length=m.funcs.length):
  qC 184 #[qP a,qP b] w (eP (both b a) w b s n (nG s B b a) (kL m s n i)):=by
 have ar:∀(fn:Fn)(first A:Array qv)(w:qW),(Instr.makeFunc fn first A).run prog w=.ok (.func fn first A) w:=λ_ _ _ _=>rfl;have ai:=h.lt;have r:=qH hf;clear hf;go_enter func184,ntmps184;go_wp2_with fail
 have R:=(hm.call (w':=w.alloc (.cells #[qP a] 41)) (qr.alloc _) qo).call (w':=(w.alloc (.cells #[qP a] 41)).alloc (.cells #[qP b] 154)) (qr.alloc _) qo;have T:=(OB.new (b:=b) (g:=w.heap.size) (c:= #[qP a]) (t:=41) ai rfl).alloc (.cells #[qP b] 154);have V:=OB.new (w:=w.alloc (.cells #[qP a] 41)) (b:=b) (g:=w.heap.size+1) (c:= #[qP b]) (t:=154) qt qs;have Y:Kept (both b a) w ((w.alloc (.cells #[qP a] 41)).alloc (.cells #[qP b] 154)):=((Kept.refl _ w).alloc _).alloc _;refine(ze ((h.alloc _).alloc _) qx).mono ?_;rintro e w1⟨v,d,f⟩;have D:=Y.trans v.fB;have l:=R.call v qo;have y:=T.call v;have z:=V.call v;have Z:tl {data:= #[4,110,97,109,101]} 0=[4,110,97,109,101]:=by rfl
 rw[Z]at d f;clear v Y R T V hm Z;rcases ho:fQ [4,110,97,109,101] s n i with⟨q,p⟩|E
 .obtain rfl:=f _ _ ho;exact⟨rfl,eP.dG (by simp[kL,ho]) D⟩
 obtain⟨_,j1⟩:=E;obtain⟨u,rfl,-,aj⟩:=d _ _ ho;have F:=qH ho;clear d f ho;have au:=D.size;have G:=qH l;clear l;obtain⟨X0,H⟩:=y.blk.rJ;obtain⟨I,J⟩:=z.blk.rJ;go_wp2_with fail
 refine(wS (S:=both b a) (K:=232) (A:= #[.pointer (some ⟨w.heap.size+1,0,none⟩),qP w.heap.size]) 1 m (gq m)
  (λW=>OB W b w.heap.size [qP a]/\OB W b (w.heap.size+1) [qP b]/\iF s (λg=>B<=g) W b a m)
  (λx W=>iF s (λg=>B<=g) W b a x) aj ⟨y,z,G.o⟩ G.o xN (.inl rfl) ?_ ?_ ?_).mono ?_
 .rintro W W'⟨U,L,h3⟩ X;exact⟨U.call X,L.call X,h3.call X qo⟩
 .rintro x W W' U X;exact U.call X qo
 .rintro W j n' hrd⟨U,L,h3⟩ hsz;exact Ac hrd h3 hb Q qo r.o.funcs qo L.blk.rJ.1 U.blk.rJ.1
 rintro e w2⟨C,d,f⟩;have M:=D.trans C;have N:=y.kept C (λhh=>hh.elim (λe=>qo) (λe=>qo));have O:=z.kept C (λhh=>hh.elim (λe=>qo) (λe=>qo));clear C y z G X0 H I J;rcases ho:kK 1 m (gq m) s n j1 with⟨q,p⟩|E
 .obtain rfl:=f _ _ ho;exact⟨rfl,eP.dG (by simp[kL,F.o,ho]) M⟩
 obtain⟨k,j2⟩:=E;obtain⟨u,rfl,⟨rfl,aa⟩,ak⟩:=d _ _ ho;have ab:=qH ho;obtain⟨xs,l⟩:=AU ho;have ac:Fair k:=by subst l;exact⟨r.o.dx,r.o.ins,r.o.funcs,r.o.nums,r.o.GN⟩
 have al:k.kD=[]:=by subst l;exact ag
 have am:k.dF.length=k.funcs.length:=by subst l;exact ah
 have an:=qH ac;clear d f ho l ac;have aw:=M.size;have P:=qH aa;clear aa;obtain⟨X0,H⟩:=N.blk.rJ;obtain⟨I,J⟩:=O.blk.rJ;go_wp2_with fail
 refine(wS (S:=both b a) (K:=234) (A:= #[qP w.heap.size,.pointer (some ⟨w.heap.size+1,0,none⟩)]) 2 k (fC k)
  (λW=>OB W b w.heap.size [qP a]/\OB W b (w.heap.size+1) [qP b]/\iF s (λg=>B<=g) W b a k)
  (λx W=>iF s (λg=>B<=g) W b a x) ak ⟨N,O,P.o⟩ P.o xM (.inl rfl) ?_ ?_ ?_).mono ?_
 .rintro W W'⟨U,L,h3⟩ X;exact⟨U.call X,L.call X,h3.call X qo⟩
 .rintro x W W' U X;exact U.call X qo
 .rintro W j n' hrd⟨U,L,h3⟩ hsz;exact Aa hrd h3 hb Q qo an.o al am U.blk.rJ.1 L.blk.rJ.1
 rintro e w3⟨ad,d,f⟩;have ae:=M.trans ad;clear ad N O P X0 H I J;rcases ho:kK 2 k (fC k) s n j2 with⟨q,p⟩|⟨m2,j3⟩
 .obtain rfl:=f _ _ ho;exact⟨rfl,eP.dG (by simp[kL,F.o,ab.o,ho]) ae⟩
 obtain⟨u,rfl,⟨rfl,af⟩,ao⟩:=d _ _ ho;have ap:=qH ho;have aq:=qH af;clear d f ho af;go_wp2;go_end0;exact eP.dN (by simp[kL,F.o,ab.o,ap.o]) ae ⟨rfl,aq.o⟩ ao
theorem Fz{w:qW}{b a B:Nat}{s:qS}{i n:Nat}{m:dX}(h:Rd w b s i n)(hm:iF s (λg=>B<=g) w b a m)(hb:b<B)(c:a<B)(d:B<=w.heap.size)(hf:Fair m)(f:m.kD=[])(k:m.dF.length=m.funcs.length):
  qC 127 #[qP a,qP b,qB 0] w (eP (both b a) w b s n (nG s B b a) (kL m s n i)):=by
 go_enter func127,ntmps127;go_wp2_with fail
 refine(CF h hm hb c d hf f k).mono ?_;rintro e l⟨X,hok,iC⟩;rcases ho:kL m s n i with⟨q,p⟩|⟨x,j⟩
 .exact TV
 obtain⟨u,rfl,⟨rfl,hv⟩,hrd⟩:=hok _ _ ho;exact Ug
def oo(m:dX)(which:Nat)(s:qS)(n i:Nat):Except Err (dX×Nat):=
 match which with
 | 0=>kL m s n i
 | 1=>pQ m s n i
 | 3=>pO m s n i
 | 4=>pM m s n i
 | 5=>pK m s n i
 | 6=>pJ m s n i
 | 7=>pI m s n i
 | 8=>pG m s n i
 | 9=>pF m s n i
 | 10=>lF m s n i
 | 11=>mY m s n i
 | _=>.ok (m,i)
structure Ready(m:dX)(which:Nat):Prop where
 fair:Fair m
 known:which<=11/\which≠2
 Z:which=8->m.starts=[]
 co:which=10->m.dF=[]
 nm:which=0->m.kD=[]/\m.dF.length=m.funcs.length
theorem Ip{w:qW}{b d B:Nat}{s:qS}{i n:Nat}{m:dX}(which:Nat)(h:Rd w b s i n)(hm:iF s (λg=>B<=g) w b d m)(hb:b<B)(a:d<B)(c:B<=w.heap.size)(f:Ready m which):
  qC 127 #[qP d,qP b,qB which] w (eP (both b d) w b s n (nG s B b d) (oo m which s n i)):=by
 obtain⟨hf,⟨U,l⟩,j,k,e⟩:=f;rcases(show which=0\/which=1\/which=3\/which=4\/which=5\/which=6\/which=7\/which=8\/which=9\/which=10\/which=11 by omega) with rfl | rfl | rfl | rfl | rfl | rfl | rfl | rfl | rfl | rfl | rfl
 .exact Fz h hm hb a c hf (e rfl).1 (e rfl).2
 .exact Fy h hm hb a c
 .exact Fx h hm hb a c
 .exact Fw h hm hb a c
 .exact Fv h hm hb a c
 .exact Fu h hm hb a c
 .exact Fq h hm hb a c
 .exact Fp h hm hb a c (j rfl)
 .exact Fj h hm hb a c
 .exact C9 h hm hb a c hf.funcs (k rfl)
 exact CZ h hm hb a c
theorem CK{w:qW}{b a B c0 c1 c2:Nat}{s:qS}{i n:Nat}{m:dX}(which:Nat)(h:Rd w b s i n)(hm:iF s (λg=>B<=g) w b a m)(hb:b<B)(c:a<B)(d:B<=w.heap.size)(f:Ready m which)
  (k:w.cell? (qA c0 0)=some (qP a)) (l:w.cell? (qA c1 0)=some (qP b)) (o:w.cell? (qA c2 0)=some (qB which)):
  qC 126 #[qP c0,qP c1,qP c2] w (eP (both b a) w b s n (nG s B b a) (oo m which s n i)):=by
 go_enter func126,ntmps126;go_wp2_with fail
 refine(Ip which h hm hb c d f).mono ?_;rintro e r⟨X,hok,iC⟩;rcases ho:oo m which s n i with⟨q,p⟩|⟨x,j⟩
 .exact TV
 obtain⟨u,rfl,⟨rfl,hv⟩,hrd⟩:=hok _ _ ho;exact Ug
structure Ce(m:dX)(last:Nat):Prop where
 fair:Fair m
 Z:last<8->m.starts=[]
 co:last<10->m.dF=[]
 nm:last<12->m.kD=[]
theorem Ce.ready{m:dX}{last x:Nat}(h:Ce m last)(a:last<iZ x)(b:10<iZ x->m.dF.length=m.funcs.length):Ready m x:=by
 have X:x<=11/\x≠2:=by
  unfold iZ at a;split at a
  .omega
  split at a<;>omega
 refine⟨h.fair,X,?_,?_,?_⟩
 .rintro rfl;exact h.Z a
 .rintro rfl;exact h.co a
 rintro rfl;exact⟨h.nm a,b qx⟩
def lH(m:dX)(last:Nat)(s:qS)(n i:Nat):Except Err ((dX×Nat)×Nat):=
 match iW s n i with
 | .error e=>.error e
 | .ok (x,j)=>
  if iZ x<=last then .error (2,i)
  else if 10<iZ x/\m.dF.length≠m.funcs.length then .error (2,i)
  else
   match eX (oo m x) s n j with
   | .error e=>.error e
   | .ok (m1,j1)=>.ok ((m1,iZ x),j1)
def Wi(s:qS)(B b Y:Nat)(x:dX×Nat)(w:World)(v:Value):Prop:=v=qJ x.2/\iF s (λg=>B<=g) w b Y x.1
theorem yG:Enters 126:=enters_of func126 qk qk
theorem Gu(x:Nat):iZ x<=12:=by
 unfold iZ;split
 .omega
 split<;>omega
theorem Jz(w:qW):qC 123 #[qB 10] w λe w'=>e=.returned (qJ 10)/\w'=w:=oZ 10 w
theorem Gg{w:qW}{b Y B:Nat}{s:qS}{i n:Nat}{m:dX}(last:Nat)(h:Rd w b s i n)(hm:iF s (λg=>B<=g) w b Y m)(hb:b<B)(hmb:Y<B)(hB:B<=w.heap.size)(G:Ce m last):
  qC 64 #[qP Y,qP b,qJ last] w (eP (both b Y) w b s n (Wi s B b Y) (lH m last s n i)):=by
 have ab:∀(fn:Fn)(first A:Array qv)(w:qW),(Instr.makeFunc fn first A).run prog w=.ok (.func fn first A) w:=λ_ _ _ _=>rfl;have R:=h.lt;have H:=qH G;clear G;go_enter func64,ntmps64;go_wp2_with fail
 have I:=(hm.call (w':=w.alloc (.cells #[qP Y] 41)) (qr.alloc _) qo).call (w':=(w.alloc (.cells #[qP Y] 41)).alloc (.cells #[qP b] 154)) (qr.alloc _) qo;have C:=(OB.new (b:=b) (g:=w.heap.size) (c:= #[qP Y]) (t:=41) R rfl).alloc (.cells #[qP b] 154);have D:=OB.new (w:=w.alloc (.cells #[qP Y] 41)) (b:=b) (g:=w.heap.size+1) (c:= #[qP b]) (t:=154) qt qs;have J:Kept (both b Y) w ((w.alloc (.cells #[qP Y] 41)).alloc (.cells #[qP b] 154)):=((Kept.refl _ w).alloc _).alloc _;have M:=qH I;clear I hm;refine(oz ((h.alloc _).alloc _)).mono ?_;rintro e w0⟨rfl,rfl⟩;obtain⟨X0,Y0⟩:=C.blk.rJ;obtain⟨X1,Y1⟩:=D.blk.rJ;go_wp2_with fail
 refine(lQ ((h.alloc _).alloc _)).mono ?_;rintro e w1⟨r,hok,iC⟩;have E:=J.trans r.fB;have Yj:=qH (M.o.call r qo);have N:=C.call r;have O:=D.call r;clear r J M C D X0 Y0 X1 Y1;rcases ho:iW s n i with⟨q,p⟩|T
 .obtain rfl:=iC _ _ ho;exact⟨rfl,eP.dG (by simp[lH,ho]) E⟩
 obtain⟨x,j⟩:=T;obtain⟨u,rfl,hv,Q⟩:=hok _ _ ho;obtain rfl:u=qB x:=hv;have z:=qH ho;clear hok iC ho;have ac:=E.size;have ad:=Gu x;have V:=Q.lt;have hk2:=E.alloc (.cells #[qB x] 5);have Om:=Q.alloc (.cells #[qB x] 5);have Xx:=N.alloc (.cells #[qB x] 5);have Xv:=O.alloc (.cells #[qB x] 5);have Xt:=OB.new (w:=w1) (b:=b) (g:=w1.heap.size) (c:= #[qB x]) (t:=5) V rfl;have FT:=qH (Yj.o.call (w':=w1.alloc (.cells #[qB x] 5)) (qr.alloc _) qo);obtain⟨X0,Y0⟩:=Xx.blk.rJ;obtain⟨X1,Y1⟩:=Xv.blk.rJ;obtain⟨X2,Y2⟩:=Xt.blk.rJ;have ae:=N.lt;have af:=O.lt;by_cases d:iZ x<=last
 .have Z:decide (((iZ x:Nat):Int)<=((last:Nat):Int))=true:=by simp;omega
  have HR:=qH d;clear d;go_wp2_with fail
  refine(oZ _ _).mono ?_;rintro e a⟨rfl,rfl⟩;go_wp2_with fail
  refine(fZ _ _).mono ?_;rintro e a⟨rfl,rfl⟩;exact⟨rfl,eP.dG (by simp[lH,z.o,HR.o]) hk2⟩
 have Z:decide (((iZ x:Nat):Int)<=((last:Nat):Int))=false:=by simp;omega
 have ag:¬((iZ x:Nat):Int)<=((last:Nat):Int):=qo;go_wp2_with fail
 refine(oZ _ _).mono ?_;rintro e a⟨rfl,rfl⟩;by_cases l:10<iZ x
 .have t2:decide ((10:Int)<((iZ x:Nat):Int))=true:=by simp;omega
  have aa:(10:Int)<((iZ x:Nat):Int):=qo;by_cases f:m.dF.length=m.funcs.length
  .have Si:qh (lH m last s n i=match eX (oo m x) s n j with | .error e=>.error e | .ok (m1,j1)=>.ok ((m1,iZ x),j1)):=by show _=_;simp[lH,z.o,d,f]
   have Yi:qh (Ready m x):=H.o.ready qo (λ_=>f);have F:=qH f;clear f d l;go_wp2_with fail
   refine(oZ _ _).mono ?_;rintro e a⟨rfl,rfl⟩;go_wp2_with fail
   refine(Jz _).mono ?_;rintro e a⟨rfl,rfl⟩;go_wp2_with fail
   refine(rM _ FT.o).mono ?_;rintro e a⟨⟨k,rfl⟩,v⟩;rw[qac F.o]at v;subst v;have Xw:=Xx.drewN k;have Xu:=Xv.drewN k;have VX:=Xt.drewN k;have hk3:=hk2.drewN k;have zA:=Om.drewN k;have O1:=qH (FT.o.call (w':=(w1.alloc (.cells #[qB x] 5)).drewN k) (qr.drewN _) qo);exact Yf
  have Si:qh (lH m last s n i=.error (2,i)):=by show _=_;simp[lH,z.o,d,l,f]
  have F:=qH f;clear f d l;go_wp2_with fail
  refine(oZ _ _).mono ?_;rintro e a⟨rfl,rfl⟩;go_wp2_with fail
  refine(Jz _).mono ?_;rintro e a⟨rfl,rfl⟩;go_wp2_with fail
  refine(rM _ FT.o).mono ?_;rintro e a⟨⟨k,rfl⟩,v⟩;rw[qaa F.o]at v;subst v;exact⟨rfl,eP.dG Si.o (hk2.drewN _)⟩
 have t2:decide ((10:Int)<((iZ x:Nat):Int))=false:=by simp;omega
 have aa:¬(10:Int)<((iZ x:Nat):Int):=qo;have Si:qh (lH m last s n i=match eX (oo m x) s n j with | .error e=>.error e | .ok (m1,j1)=>.ok ((m1,iZ x),j1)):=by show _=_;simp[lH,z.o,d,l]
 have Yi:qh (Ready m x):=H.o.ready qo (λc=>absurd c l);clear d l;go_wp2_with fail
 refine(oZ _ _).mono ?_;rintro e a⟨rfl,rfl⟩;go_wp2_with fail
 refine(Jz _).mono ?_;rintro e a⟨rfl,rfl⟩;have Xw:=Xx;have Xu:=Xv;have VX:=Xt;have hk3:=hk2;have zA:=Om;have O1:=qH FT.o;exact Yf
section
variable {α:Type}{tM:qS->Nat->Nat->Except Err (α×Nat)}{s:qS}{n:Nat}{P:α->Prop}
theorem wF(b:∀i x j,tM s n i=.ok (x,j)->P x):∀(k:Nat)(M:List α)(j:Nat){xs:List α}{a:Nat},(∀x∈M,P x)->eT tM s n k M j=.ok (xs,a)->xs.length=M.length+k/\∀x∈xs,P x
 | 0,M,j,xs,a,ha,h=>by simp[eT]at h;obtain⟨rfl,-⟩:=h;exact⟨rfl,ha⟩
 | k+1,M,j,xs,a,ha,h=>by
  unfold eT at h;rcases ho:tM s n j with e|⟨x,c⟩
  .rw[ho]at h;cases h
  rw[ho]at h;have:=wF b k (M++[x]) c (by
   intro y hy;obtain hy | hy:=qar.1 hy
   .exact ha y hy
   simp at hy;subst hy;exact b _ _ _ ho) h
  refine⟨?_,this.2⟩;have U:=this.1;simp at U;omega
theorem yB{most i:Nat}{xs:List α}{j:Nat}(a:∀i x j,tM s n i=.ok (x,j)->P x)(h:eB most tM s n i=.ok (xs,j)):xs.length<=most/\∀x∈xs,P x:=by
 unfold eB at h;rcases ho:fD most s n i with e|⟨k,b⟩
 .rw[ho]at h;cases h
 rw[ho]at h;have hc:=(fA ho).1;have:=wF a k [] b qs h;refine⟨?_,this.2⟩;have U:=this.1;simp at U;omega
end
theorem LZ{s:qS}{n i j:Nat}{t:Ty}(h:rA s n i=.ok (t,j)):t.ins.length<=8:=by
 unfold rA at h;split at h
 .cases h
 split at h
 .cases h
 rename_i U;split at h
 .cases h
 cases h;exact(yB (P:=λ_=>True) (λ_ _ _ _=>trivial) U).1
theorem xB{s:qS}{n:Nat}:∀(k:Nat)(M:qM)(j:Nat){xs:qM}{a:Nat},M.length<=50->gW s n k M j=.ok (xs,a)->xs.length<=50
 | 0,M,j,xs,a,ha,h=>by simp[gW]at h;obtain⟨rfl,-⟩:=h;exact ha
 | k+1,M,j,xs,a,ha,h=>by
  unfold gW at h;rcases ho:fD (50 - M.length) s n j with e|⟨c,b⟩
  .rw[ho]at h;cases h
  rw[ho]at h;have hc:=(fA ho).1;simp only at h;rcases X:jM s n b with e|⟨d,f⟩
  .rw[X]at h;cases h
  rw[X]at h;exact xB k _ _ qt h
theorem KF{s:qS}{n i j:Nat}{x:O4}(h:pR s n i=.ok (x,j)):x.1.length<=50:=by
 obtain⟨n',a,h⟩:=ug h;unfold lg at h;split at h
 .cases h
 rename_i ls b U;split at h
 .cases h
 cases h;unfold kX at U;split at U
 .cases U
 exact xB _ _ _ qs U
theorem U2{s:qS}{n i j:Nat}{x:Int×Nat}(h:uM s n i=.ok (x,j)):0<=x.1/\x.1<=4294967295:=by
 obtain⟨v,a⟩:=x;have:=iY h;exact⟨this.1,this.2.1⟩
theorem Ja{α:Type}{tM:qS->Nat->Nat->Except Err (α×Nat)}{s:qS}{n i:Nat}{x:α}{j:Nat}(h:eX tM s n i=.ok (x,j)):i<j:=by
 unfold eX at h;split at h
 .cases h
 rename_i v a c b;have:=iY b;split at h
 .split at h<;>cases h
 split at h
 .cases h
 split at h
 .cases h
 cases h;omega
theorem Ko{m b:dX}{last x:Nat}{s:qS}{n i j:Nat}(f:Ce m last)(a:last<iZ x)(g:Ready m x)(h:oo m x s n i=.ok (b,j)):Ce b (iZ x):=by
 obtain⟨hf,h8,h10,h12⟩:=f;obtain⟨k,l⟩:=g.known;rcases(show x=0\/x=1\/x=3\/x=4\/x=5\/x=6\/x=7\/x=8\/x=9\/x=10\/x=11 by omega) with rfl | rfl | rfl | rfl | rfl | rfl | rfl | rfl | rfl | rfl | rfl;all_goals
  first
  | have a:last<1:=a
  | skip
 .have h:kL m s n i=.ok (b,j):=h;have d:b.dx=m.dx/\b.funcs=m.funcs/\b.dF=m.dF:=by
   unfold kL at h;split at h
   .cases h
   split at h
   .cases h
   rename_i ho;obtain⟨xs,rfl⟩:=AU ho;obtain rfl | ⟨_,_,h⟩:=DJ h
   .exact⟨rfl,rfl,rfl⟩
   unfold fC at h;split at h
   .cases h
   split at h
   .cases h
   cases h;exact⟨rfl,rfl,rfl⟩
  refine⟨⟨?_,?_,?_,?_,?_⟩,λc=>absurd c qx,λc=>absurd c qx,λc=>absurd c qx⟩
  .rw[d.1];exact hf.dx
  .rw[d.1];exact hf.ins
  .rw[d.2.1];exact hf.funcs
  .rw[d.2.1];exact hf.nums
  rw[d.2.2];exact hf.GN
 .have h:pQ m s n i=.ok (b,j):=h;unfold pQ at h;split at h
  .cases h
  rename_i ho;cases h;have:=yB (P:=λt:Ty=>t.ins.length<=8) (λ_ _ _ e=>LZ e) ho;exact⟨⟨this.1,this.2,hf.funcs,hf.nums,hf.GN⟩,λ_=>h8 qo,λ_=>h10 qo,λ_=>h12 qo⟩
 .have a:last<3:=a;have h:pO m s n i=.ok (b,j):=h;unfold pO at h;split at h
  .cases h
  rename_i ho;cases h;have:=yB (P:=λx:Int×Nat=>0<=x.1/\x.1<=4294967295) (λ_ _ _ e=>U2 e) ho;exact⟨⟨hf.dx,hf.ins,this.1,this.2,hf.GN⟩,λ_=>h8 qo,λ_=>h10 qo,λ_=>h12 qo⟩
 .have a:last<4:=a;have h:pM m s n i=.ok (b,j):=h;unfold pM at h;exact Uh
 .have a:last<5:=a;have h:pK m s n i=.ok (b,j):=h;unfold pK at h;exact Uh
 .have a:last<6:=a;have h:pJ m s n i=.ok (b,j):=h;unfold pJ at h;exact Uh
 .have a:last<7:=a;have h:pI m s n i=.ok (b,j):=h;unfold pI at h;exact Uh
 .have a:last<8:=a;have h:pG m s n i=.ok (b,j):=h;unfold pG at h;exact Wy
 .have a:last<9:=a;have h:pF m s n i=.ok (b,j):=h;unfold pF at h;exact Wy
 .have a:last<10:=a;have h:lF m s n i=.ok (b,j):=h;unfold lF at h;split at h
  .cases h
  split at h
  .split at h
   .cases h
   rename_i ho;cases h;have:=wF (P:=λx:O4=>x.1.length<=50) (λ_ _ _ e=>KF e) _ _ _ qs ho;exact⟨⟨hf.dx,hf.ins,hf.funcs,hf.nums,this.2⟩,λc=>absurd c qx,λc=>absurd c qx,λ_=>h12 qo⟩
  cases h
 have a:last<11:=a;have h:mY m s n i=.ok (b,j):=h;unfold mY at h;split at h
 .cases h
 cases h;exact⟨⟨hf.dx,hf.ins,hf.funcs,hf.nums,hf.GN⟩,λc=>absurd c qx,λc=>absurd c qx,λ_=>h12 qo⟩
theorem Mv{m b:dX}{last a:Nat}{s:qS}{n i j:Nat}(d:Ce m last)(h:lH m last s n i=.ok ((b,a),j)):Ce b a/\last<a/\i<j:=by
 unfold lH at h;rcases ho:iW s n i with e|⟨x,g⟩
 .rw[ho]at h;cases h
 rw[ho]at h;simp only at h;have o:i<g:=by
  unfold iW at ho;split at ho
  .cases ho;omega
  cases ho
 by_cases f:iZ x<=last
 .rw[qac f]at h;cases h
 rw[qaa f]at h;by_cases hc:10<iZ x/\m.dF.length≠m.funcs.length
 .rw[qac hc]at h;cases h
 rw[qaa hc]at h;split at h
 .cases h
 rename_i hw;cases h;have p:=Ja hw;obtain⟨n',q,k⟩:=ug hw;have l:=d.ready (x:=x) qo (λc=>by
  by_cases e:m.dF.length=m.funcs.length
  .exact e
  exact absurd ⟨c,e⟩ hc)
 exact⟨Ko d qo l k,qo,qo⟩
theorem Gh(s:qS)(w:qW):qC 61 #[.string s] w λe w'=>e=.returned (.agg #[.string s,qJ 0,qJ s.size])/\qK w w':=by
 go_enter func61,ntmps61;go_wp2;refine qal (v:=.agg #[.string s,qJ 0,qJ s.size]) ?_ rfl ⟨rfl,?_⟩
 .simp[results,results61,go_sem]
 exact qr.alloc _
def iJ(s:qS)(n:Nat):Nat->dX->Nat->Nat->Except Err (dX×Nat)
 | 0,_,_,i=>.error (2,i)
 | k+1,m,last,i=>
  if n<=i then(if m.dF.length=m.funcs.length then .ok (m,i) else .error (2,i))
  else match lH m last s n i with
   | .error e=>.error e
   | .ok ((m1,rk),j)=>iJ s n k m1 rk j
def kH(s:qS):Except Err (dX×Nat):=
 match fQ [0,97,115,109,1,0,0,0] s s.size 0 with
 | .error e=>.error e
 | .ok (_,j)=>iJ s s.size 13 dX.new 0 j
theorem Ce.new:Ce dX.new 0:=⟨⟨by simp[dX.new],by simp[dX.new],by simp[dX.new],by simp[dX.new],by simp[dX.new]⟩,λ_=>rfl,λ_=>rfl,λ_=>rfl⟩
def Fields.nil:Fields:=⟨qN,qN,qN,qN,qN,qN,qN,qN,qN,qN,qN,qN⟩
theorem nA.new(s:qS)(ok:qD)(w:qW):nA s ok w Fields.nil dX.new:=
 ⟨⟨[],Row.nil _ _ _ _,trivial⟩,Row.nil _ _ _ _,Row.nil _ _ _ _,Row.nil _ _ _ _,Row.nil _ _ _ _,Row.nil _ _ _ _,Row.nil _ _ _ _,⟨[],Row.nil _ _ _ _,trivial⟩,⟨[],Row.nil _ _ _ _,trivial⟩,Row.nil _ _ _ _,Row.nil _ _ _ _,⟨[],Row.nil _ _ _ _,trivial⟩,λ_=>rfl,λ_=>rfl,λ_=>rfl⟩
theorem Rd.new{w:qW}{s:qS}{g:Nat}{t:TypeId}(h:s.size<=5000)(i:g=w.heap.size):Rd (w.alloc (.cells #[.string s,qJ 0,qJ s.size] t)) g s 0 s.size:=by
 subst i;obtain⟨⟨a,b⟩,⟨c,d⟩,⟨e,f⟩⟩:=(jf.new w #[.string s,qJ 0,qJ s.size] t).three;exact⟨a,c,e,b,d,f,qZ,qR,h⟩
theorem Jv{s:qS}{n k last i:Nat}{m:dX}(X:0<k)(hi:n<=i):iJ s n k m last i=if m.dF.length=m.funcs.length then .ok (m,i) else .error (2,i):=by
 obtain⟨j,rfl⟩:∃j,k=j+1:=⟨k - 1,qo⟩;simp[iJ,hi]
theorem Ju{s:qS}{n k last i:Nat}{m:dX}{e:Err}(X:0<k)(hi:i<n)(h:lH m last s n i=.error e):iJ s n k m last i=.error e:=by
 obtain⟨j,rfl⟩:∃j,k=j+1:=⟨k - 1,qo⟩;simp[iJ,h,show ¬n<=i by omega]
theorem MM{s:qS}{n k last i a b:Nat}{m c:dX}(X:0<k)(hi:i<n)(h:lH m last s n i=.ok ((c,a),b)):iJ s n k m last i=iJ s n (k - 1) c a b:=by
 obtain⟨j,rfl⟩:∃j,k=j+1:=⟨k - 1,qo⟩;simp[iJ,h,show ¬n<=i by omega]
theorem MC{m b:dX}{last a:Nat}{s:qS}{n i j:Nat}(h:lH m last s n i=.ok ((b,a),j)):a<=12:=by
 unfold lH at h;split at h
 .cases h
 split at h
 .cases h
 split at h
 .cases h
 split at h
 .cases h
 cases h;exact Gu _
def vz(s:qS)(w:World)(e:Ending)(w':World):Prop:=
 qK w w'/\(∀m j,kH s=.ok (m,j)->∃b Y B,e=.returned (qP Y)/\w.heap.size<=Y/\Y<B/\w.heap.size<=b/\b<B/\iF s (λg=>B<=g) w' b Y m)/\∀q p,kH s=.error (q,p)->e=fo q p
theorem vz.err{s:qS}{w w':qW}{q p:Nat}(a:kH s=.error (q,p))(X:qK w w'):vz s w (fo q p) w':=
 ⟨X,λm j h=>by(rw[a]at h;cases h),λb c h=>by rw[a]at h;cases h;rfl⟩
theorem Kept.Xy{S:qD}{w w':qW}(h:Kept S w w')(a:∀k,k<w.heap.size->¬S k):qK w w':=h.mono (λk X hh=>a k X hh)
theorem PM(s:qS)(w:qW)(Z:s.size<=5000):qC 22 #[.string s] w (vz s w):=by
 have ag:∀(x:Bool)(w:qW),(Op.unary .not (.bool x)).run prog w=.ok (.bool (!x)) w:=λ_ _=>rfl;go_enter func22,ntmps22;go_wp2_with fail
 refine(Gh s _).mono ?_;rintro e H⟨rfl,I⟩;have ah:=I.size;go_wp2_with fail
 refine(ze (Rd.new Z rfl) qx).mono ?_;rintro e a⟨y,d,f⟩;have n:qK w a:=(I.alloc _).fresh y (λk X (e:k=H.heap.size)=>qo);have ai:=y.size;have J:tl {data:= #[0,97,115,109,1,0,0,0]} 0=[0,97,115,109,1,0,0,0]:=by rfl
 rw[J]at d f;clear y J;rcases ho:fQ [0,97,115,109,1,0,0,0] s s.size 0 with⟨q,p⟩|xj
 .obtain rfl:=f _ _ ho;exact⟨rfl,vz.err (by simp[kH,ho]) n⟩
 obtain⟨_,K⟩:=xj;obtain⟨u,rfl,-,L⟩:=d _ _ ho;have M:qh (kH s=iJ s s.size 13 dX.new 0 K):=by show _=_;simp[kH,ho]
 clear d f ho;have aa:=L.lt;generalize aj:H.heap.size=b at*;have N:iF s (λg=>a.heap.size+1<=g) (a.alloc (.cells #[qN,qN,qN,qN,qN,qN,qN,qN,qN,qN,qN,qN] 78)) b a.heap.size dX.new:=
  ⟨Fields.nil,OB.new aa rfl,nA.new _ _ _⟩
 have O:=qH N;clear N;go_wp2;go_loopw [5] (λq wr=>∃(k j last:Nat)(m:dX),last<=12/\13 - last<=k/\q=qJ last/\Rd wr b s j s.size/\qK w wr/\iF s (λg=>a.heap.size+1<=g) wr b a.heap.size m/\a.heap.size+1<=wr.heap.size/\Ce m last/\kH s=iJ s s.size k m last j) (λq _=>12 - (intOf q).toNat)
 case atStart=>exact⟨13,K,0,dX.new,qo,qo,rfl,L.alloc _,n.alloc _,O.o,qs,Ce.new,M.o⟩
 obtain⟨k,j,last,m,hl,X,rfl,l,z,hm,P,Q,R⟩:=hrel;have A:=qH R;have r:=qH hm;have S:=qH Q;clear R hm Q O M;by_cases T:j<s.size
 .have hd:decide (s.size<=j)=false:=by simp;omega
  go_wp2_with fail
  refine(og l).mono ?_;rintro e w3⟨rfl,c,rfl⟩;have C:=l.drewN c;have D:=z.drewN c;have E:=qH (r.o.call (w':=wr.drewN c) (qr.drewN _) qo);clear r;go_wp2_with fail
  refine(Gg (B:=a.heap.size+1) last C E.o qo qo P S.o).mono ?_;rintro e t⟨F,d,f⟩;have U:qK w t:=D.fresh F (λi hi hh=>hh.elim (λe=>qo) (λe=>by have:=n.size;omega));have ab:a.heap.size+1<=t.heap.size:=qam P F.size;clear F;rcases ho:lH m last s s.size j with⟨q,p⟩|⟨⟨m1,rk⟩,j2⟩
  .obtain rfl:=f _ _ ho;exact⟨rfl,vz.err (A.o.trans (Ju qo T ho)) U⟩
  obtain⟨u,rfl,⟨hv,V⟩,ac⟩:=d _ _ ho;subst hv;obtain⟨W,ak,-⟩:=Mv S.o ho;have ad:=MC ho;have HH:=qH (A.o.trans (MM qo T ho));have ae:=qH V;have af:=qH W;clear d f ho V W;go_wp2;go_roundw
  case rel=>exact⟨k - 1,j2,rk,m1,ad,qo,by go_num,ac,U,ae.o,ab,af.o,HH.o⟩
  simp[intOf];omega
 have hd:decide (s.size<=j)=true:=by simp;omega
 have hj:=l.le;have G:=qH (A.o.trans (Jv qo qo));go_wp2_with fail
 refine(og l).mono ?_;rintro e w3⟨rfl,c,rfl⟩;have C:=l.drewN c;have D:=z.drewN c;have E:=qH (r.o.call (w':=wr.drewN c) (qr.drewN _) qo);go_wp2_with fail
 refine(oz C).mono ?_;rintro e t⟨rfl,rfl⟩;go_wp2_with fail
 refine(rM _ E.o).mono ?_;rintro e t⟨⟨k4,rfl⟩,v⟩;by_cases hc:m.dF.length=m.funcs.length
 .rw[qac hc]at v;subst v;have Y:=qH (G.o.trans (qac hc));clear hc G;go_wp2;go_ret;refine⟨z.drewN _,λm' j' h=>?_,λq p h=>by(rw[Y.o]at h;cases h)⟩;rw[Y.o]at h;cases h;exact⟨b,a.heap.size,a.heap.size+1,rfl,n.size,qo,qo,qo,r.o.call (qr.drewN _) qo⟩
 rw[qaa hc]at v;subst v;exact⟨rfl,vz.err (G.o.trans (qaa hc)) (D.drewN _)⟩
end Go.Proofs.YtfkcodlceoghpaaGreatDoor
