import Derived.Test.YtdaafkmhfedkiaaGreatX30
namespace Go.Proofs.YtdaafkmhfedkiaaGreat
set_option maxHeartbeats 6400000
set_option maxRecDepth 100000
open Go.RowKit Go.Proofs.Tryz
section
variable {S ok Gy:qD} {w w':qW} {x A:Nat} {c:FC} {p:qO} {Z:Bk} {lv:qv} {i:fA} {W:qS} {xx fb:Nat} {ms cs:qV} {pm:qO} {qb nx:Nat} {m:RM} {S9:qD}
theorem GN(h:dZ w x c p A Z)(ho:∀g,(Value.slice p Z.opn.length A).ownBlock=some g->S9 g)(z:S9 x)(f:rR Z)(aO:0<=i.xn)(hL:isRow 37 2 fU Gy i.dF w lv)(am:∀g,Gy g->¬S9 g)(F0:(W.toList==[117,110,114,101,97,99,104,97,98,108,101])=false)(F1:(W.toList==[110,111,112])=false)(F2:(W.toList==[98,108,111,99,107])=false)(F3:(W.toList==[108,111,111,112])=false)(F4:(W.toList==[105,102])=false)(F5:(W.toList==[101,108,115,101])=false)(a4:(W.toList==[101,110,100])=false)(a5:(W.toList==[98,114])=false)(a6:(W.toList==[98,114,95,105,102])=false)(a7:(W.toList==[98,114,95,116,97,98,108,101])=true)(M:i.xn.toNat<Z.opn.length)(aa:∀r∈i.dF,r.1<Z.opn.length)(a8:i.dF.length<=20):
  qC 109 #[qP x,.agg (i.cells lv).toArray,.string W] w fun e w'=>e=.returned (.bool true)/\uP S9 w' x c (uJ i Z)/\Kept S9 w w':=by
 obtain⟨pl,cl,rfl,-⟩:=tO hL;obtain⟨a,an⟩:∃a:Nat,i.xn=(a:Int):=⟨i.xn.toNat,qo⟩;have ao:i.xn.toNat=a:=qo;have ap:=hide ao;have hx:=h.lt;have HI:=hide h;have HO:=hide ho;have HG:=hide f;have HL:qh (∀V:qW,Kept S9 w V->isRow 37 2 fU Gy i.dF V (.slice pl i.dF.length cl)):=fun V hV=>Row.kept hL hV (fun g _ f e=>am g f e);unfold fA.cells;rw[an];clear h ho f aO an ao hL am;go_enter func109,ntmps109;have oI:OB (w.alloc (.cells (iC i a (.slice pl i.dF.length cl)).toArray 79)) x w.heap.size (iC i a (.slice pl i.dF.length cl)):=OB.new (c:=(iC i a (.slice pl i.dF.length cl)).toArray) (t:=79) hx rfl;have aq:=HI.o.alloc (.cells (iC i a (.slice pl i.dF.length cl)).toArray 79);have ar:Kept S9 w (w.alloc (.cells (iC i a (.slice pl i.dF.length cl)).toArray 79)):=qr.alloc _;clear HI;obtain⟨ib,ab⟩:=qE w.heap.size;rw[<-ab] at oI;go_upto_block 0 with fail
 rw[<-ab];clear ab hx;generalize (w.alloc (.cells (iC i a (.slice pl i.dF.length cl)).toArray 79))=W1 at*;rw[ap.o] at M;go_wp2_with fail
 refine(iV aq HG.o.2.2.1 ⟨#[105]⟩ qx).mono ?_;rintro e w2 ⟨rfl,au,ac⟩;have av:=ar.trans (o7 ac (uT z));have N:=oI.call ac;have O:=yU HG.o ⟨#[105]⟩;have aw:(dS ⟨#[105]⟩ Z).2.opn=Z.opn:=nM _;have ad:qh (uJ i Z=EH (ji a (dS ⟨#[105]⟩ Z).2) (zU (ji a (dS ⟨#[105]⟩ Z).2) i.dF (dS ⟨#[105]⟩ Z).2)):=by show _=_;unfold uJ;rw[ap.o];rfl
 have aP:qh (∀g,(Value.slice p (dS ⟨#[105]⟩ Z).2.opn.length A).ownBlock=some g->S9 g):=fun g f=>HO.o g (mZ.trans f);rw[<-aw] at M aa;clear aw HO HG aq ar ac oI;generalize (dS ⟨#[105]⟩ Z).2=s at*;have ax:=hide O;have aQ:=hide aa;have a9:=zl O a;have ba:=O.1;clear O aa;obtain⟨-,-,⟨A2,-⟩,-⟩:=N.blk.nine;have P:=N.lt;go_wp2_with fail
 refine(zn au a M).mono ?_;rintro e w3 ⟨rfl,ay,ae⟩;have az:=av.trans (ae.mono (fun _ _ d=>d.elim));have aA:=N.kept ae (fun c=>c);generalize ji a s=b at*;clear A2 P N au av ae M;go_wp2;go_loopw [12] (fun q wr=>∃(k:Nat) (J:Bk),k<=i.dF.length/\q=qJ k/\dZ wr x c p A J/\J.opn=s.opn/\J.di.size<=s.di.size+8*k/\OB wr x ib (iC i a (.slice pl i.dF.length cl))/\Kept S9 w wr/\zU b i.dF s=zU b (i.dF.drop k) J) (fun q _=>i.dF.length - (intOf q).toNat)
 case atStart=>exact⟨0,s,qZ,rfl,ay,rfl,qo,aA,az,rfl⟩
 obtain⟨k,J,X,rfl,B,Q,bb,G,H,aB⟩:=hrel;have C:=hide aB;have aC:=hide Q;have aR:qh (rR J\/True):=.inr trivial;have af:qh (J.opn≠[]):=by show _≠_;rw[Q];exact ax.o.2.2.1
 have aD:qh (∀g,(Value.slice p J.opn.length A).ownBlock=some g->S9 g):=fun g f=>aP.o g (mZ.trans f);have ag:qh (∀n,(ji n J).size<=8):=fun n=>by have:=zl ax.o n;unfold ji at this ⊢;rw[Q];exact this
 clear aB Q aR ay az aA;obtain⟨-,-,-,-,-,-,⟨A6,-⟩,-⟩:=G.blk.nine;have P:=G.lt;obtain⟨-,-,-,-,-,-,⟨R,-⟩,-,-⟩:=B.blk.gI;have aE:=B.lt;by_cases aS:k<i.dF.length
 .have aT:(k:Int)<(i.dF.length:Int):=qo;obtain⟨r,T⟩:∃r,i.dF[k]?=some r:=⟨_,List.getElem?_eq_getElem aS⟩;obtain⟨p3,c3,aF,aG⟩:=tO (HL.o wr H);obtain⟨g3,aU,bc,bd,R0,R1⟩:=aG k r T;subst aU;obtain⟨rfl,rfl⟩:pl=some (qA g3 0)/\cl=c3:=by cases aF;exact⟨rfl,rfl⟩
  have U:=hide (drop_cons T);have aH:r.1<J.opn.length:=by rw[aC.o];exact aQ.o r (List.mem_of_getElem? T)
  have aI:=zn B r.1 aH;have aJ:=hide aI;have aV:=ag.o r.1;clear aF aG T aH aI;go_wp2_with fail
  refine aJ.o.mono ?_;rintro e w5 ⟨rfl,u,D⟩;have I:=H.trans (D.mono (fun _ _ d=>d.elim));have aK:=G.kept D (fun c=>c);obtain⟨j,ah⟩:=qF (ji r.1 J);rw[ah] at aV ⊢;have Y:=hide ah;clear ah aJ A6 P R0 R1 B H G D R aE ag;obtain⟨-,-,-,-,-,-,⟨R,-⟩,-,-⟩:=u.blk.gI;have aW:=u.lt;by_cases E:j.size=b.size
  .have aX:(((j.size:Nat):Int) !=((b.size:Nat):Int))=false:=by rw[E];simp
   have K:qh (zU b i.dF s=zU b (i.dF.drop (k+1)) (iF (dS j J).1 (dS j J).2)):=by
    show _=_;rw[C.o,U.o];conv=>lhs;unfold zU
    rw[Y.o,if_neg (fun d=>d E)]
   have HZ:=hide E;clear E C U Y R;go_wp2_with fail
   refine(iV u af.o j qo).mono ?_;rintro e w6 ⟨rfl,l,v⟩;have F:=I.trans (o7 v (uT z));have ai:=aK.call v;have aL:=l8 (Z:=J) j;have aj:=TH (Z:=J) j;have ak:qh ((dS j J).2.opn=s.opn):=by show _=_;rw[nM];exact aC.o
   clear u I aK v aW;obtain⟨⟨y,L⟩,aM⟩:=qF (dS j J);rw[aM] at l aL aj K ak ⊢;simp only at l aL aj K ak ⊢;have be:y.size<=8:=qo;clear aM aj;obtain⟨-,-,⟨I2,J2⟩,-⟩:=l.blk.gI;have bf:=l.lt;have bg:¬9223372036854775807<L.di.size+y.size:=qo;have aY:=hide (l.dH y qo);have aZ:=hide (F.setCell (p:=(qA x 2)) (fun _=>z) (.string (L.di++y)));have a0:=hide (ai.other (o:=2) (fun e=>ai.ne e.symm) (.string (L.di++y)));have a1:qh ((iF y L).di.size<=s.di.size+8*(k+1)):=by
    show(L.di++y).size<=_;rw[ByteArray.size_append];omega
   clear l F ai;go_wp2;go_roundw
   case rel=>exact⟨k+1,_,qo,by go_num,aY.o,ak.o,a1.o,a0.o,aZ.o,K.o⟩
   simp[intOf];omega
  have aX:(((j.size:Nat):Int) !=((b.size:Nat):Int))=true:=by simp only[bne_iff_ne,ne_eq];omega
  have K:qh (uJ i Z=fF 4 J.now J):=by
   show _=_;rw[ad.o,C.o,U.o];unfold zU;rw[Y.o,if_pos E];rfl
  clear E C U Y;go_wp2_with fail
  refine(nW u 4 J.now qx).mono ?_;rintro e w6 ⟨rfl,l,v⟩;have F:=I.trans (o7 v (uT z));go_wp2;go_ret;rw[K.o];exact⟨rfl,uP.of l aD.o,F⟩
 have aT:¬(k:Int)<(i.dF.length:Int):=qo;have a2:qh (uJ i Z=sG (dS b J).2):=by
  show _=_;rw[ad.o,C.o,List.drop_eq_nil_of_le qo];rfl
 clear C ad;go_wp2_with fail
 refine(iV B af.o b qo).mono ?_;rintro e w5 ⟨rfl,u,D⟩;have I:=H.trans (o7 D (uT z));have a3:qh ((dS b J).2.opn≠[]):=by show _≠_;rw[nM];exact af.o
 have aN:qh (∀g,(Value.slice p (dS b J).2.opn.length A).ownBlock=some g->S9 g):=fun g f=>aD.o g (mZ.trans f);clear A6 P R aE B H G D ag;go_wp2_with fail
 refine(Bj u a3.o).mono ?_;rintro e w6 ⟨rfl,l,v⟩;have F:=I.trans (o7 v (ownB z aN.o));go_wp2;go_ret;rw[a2.o];exact⟨rfl,uP.of l aN.o,F⟩
end
section
variable {S ok Gy:qD} {w w':qW} {x A:Nat} {c:FC} {p:qO} {Z:Bk} {lv:qv} {i:fA} {W:qS} {xx fb:Nat} {ms cs:qV} {pm:qO} {qb nx:Nat} {m:RM} {S9:qD}
theorem PD(h:dZ w x c p A Z)(ho:∀g,(Value.slice p Z.opn.length A).ownBlock=some g->S9 g)(_hB:S9 x)(hg:rR Z)(hlv:∃p n c,lv=.slice p n c)(F0:(W.toList==[117,110,114,101,97,99,104,97,98,108,101])=false)(a:(W.toList==[110,111,112])=false)(b:(W.toList==[98,108,111,99,107])=false)(d:(W.toList==[108,111,111,112])=false)(f:(W.toList==[105,102])=false)(j:(W.toList==[101,108,115,101])=false)(k:(W.toList==[101,110,100])=false)(l:(W.toList==[98,114])=false)(o:(W.toList==[98,114,95,105,102])=false)(q:(W.toList==[98,114,95,116,97,98,108,101])=false)(r:(W.toList==[114,101,116,117,114,110])=false):
  qC 109 #[qP x,.agg (i.cells lv).toArray,.string W] w fun e w'=>e=.returned (.bool false)/\uP S9 w' x c (Z)/\Kept S9 w w':=by
 exact agQ
theorem RN(h:uP S9 w x c Z)(a:S9 x)(b:rR Z)(D:∀V,Kept S9 w V->oU V xx c.Y fb ms cs pm qb m nx)(u:0<=i.xn)(J:isRow 37 2 fU Gy i.dF w lv)(L:∀g,Gy g->¬S9 g)(M:i.dF.length<=20)(B:∀g,w.heap.size<=g->S9 g)(F0:(W.toList==[117,110,114,101,97,99,104,97,98,108,101])=decide (i.op=0))(j:(W.toList==[110,111,112])=decide (i.op=1))(o:(W.toList==[98,108,111,99,107])=decide (i.op=2))(s:(W.toList==[108,111,111,112])=decide (i.op=3))(q:(W.toList==[105,102])=decide (i.op=4))(t:(W.toList==[101,108,115,101])=decide (i.op=5))(v:(W.toList==[101,110,100])=decide (i.op=11))(z:(W.toList==[98,114])=decide (i.op=12))(C:(W.toList==[98,114,95,105,102])=decide (i.op=13))(E:(W.toList==[98,114,95,116,97,98,108,101])=decide (i.op=14))(K:(W.toList==[114,101,116,117,114,110])=decide (i.op=15))(F:W=dN i.op)(N:c.dH.size<=8)(G:∀k,(gy m.dm k).1.size<=8/\(gy m.dm k).2.size<=8)
  (H:i.op=12\/i.op=13\/i.op=14->i.xn.toNat<Z.opn.length) (O:i.op=14->∀r∈i.dF,r.1<Z.opn.length) (I:i.op=2\/i.op=3\/i.op=4->i.dH=2->i.xn.toNat<m.dm.length):
  qC 109 #[qP x,.agg (i.cells lv).toArray,.string W] w fun e w'=>e=.returned (.bool (decide (i.op∈vF)))/\uP S9 w' x c (if i.op∈vF then jw m c i Z else Z)/\Kept S9 w w':=by
 obtain⟨p,A,h,f⟩:=h;have l:∃p n c,lv=.slice p n c:=by
  obtain⟨p,c,e,-⟩:=tO J;exact⟨p,_,c,e⟩
 by_cases y:i.op∈vF
 .rw[if_pos y,decide_eq_true y];unfold jw;by_cases e:i.op=0
  .rw[if_pos e];exact PG h f a b l (by rw[F0];exact decide_eq_true e)
  rw[if_neg e];have P:=e;clear e;by_cases e:i.op=1
  .rw[if_pos e];exact RI h f a b l (by rw[F0];exact qd) (by rw[j];exact decide_eq_true e)
  rw[if_neg e];have Q:=e;clear e;by_cases e:i.op=2
  .rw[if_pos (.inl e)];exact BM h f a b D l (by rw[F0];exact qd) (by rw[j];exact qd) (.inl (by rw[o];exact decide_eq_true e)) u (I (.inl e)) G B (.inl e) F (by rw[q];exact qd)
  have R:=e;clear e;by_cases e:i.op=3
  .rw[if_pos (.inr (.inl e))];exact BM h f a b D l (by rw[F0];exact qd) (by rw[j];exact qd) (.inr ⟨by rw[o];exact qd,by rw[s];exact decide_eq_true e⟩) u (I (.inr (.inl e))) G B (.inr e) F (by rw[q];exact qd)
  have T:=e;clear e;by_cases e:i.op=4
  .rw[if_pos (.inr (.inr e))];exact UM h f a b D l (by rw[F0];exact qd) (by rw[j];exact qd) (by rw[o];exact qd) (by rw[s];exact qd) (by rw[q];exact decide_eq_true e) u (I (.inr (.inr e))) G B e F
  have U:=e;clear e;rw[if_neg qo];by_cases e:i.op=5
  .rw[if_pos e];exact PE h f a b l (by rw[F0];exact qd) (by rw[j];exact qd) (by rw[o];exact qd) (by rw[s];exact qd) (by rw[q];exact qd) (by rw[t];exact decide_eq_true e) B
  rw[if_neg e];have X:=e;clear e;by_cases e:i.op=11
  .rw[if_pos e];exact RJ h f a b l (by rw[F0];exact qd) (by rw[j];exact qd) (by rw[o];exact qd) (by rw[s];exact qd) (by rw[q];exact qd) (by rw[t];exact qd) (by rw[v];exact decide_eq_true e)
  rw[if_neg e];have aa:=e;clear e;by_cases e:i.op=12
  .rw[if_pos e];exact UN h f a b u l (by rw[F0];exact qd) (by rw[j];exact qd) (by rw[o];exact qd) (by rw[s];exact qd) (by rw[q];exact qd) (by rw[t];exact qd) (by rw[v];exact qd) (by rw[z];exact decide_eq_true e) (H (.inl e))
  rw[if_neg e];have ab:=e;clear e;by_cases e:i.op=13
  .rw[if_pos e];exact PI h f a b u l (by rw[F0];exact qd) (by rw[j];exact qd) (by rw[o];exact qd) (by rw[s];exact qd) (by rw[q];exact qd) (by rw[t];exact qd) (by rw[v];exact qd) (by rw[z];exact qd) (by rw[C];exact decide_eq_true e) (H (.inr (.inl e)))
  rw[if_neg e];have ac:=e;clear e;by_cases e:i.op=14
  .rw[if_pos e];exact GN h f a b u J L (by rw[F0];exact qd) (by rw[j];exact qd) (by rw[o];exact qd) (by rw[s];exact qd) (by rw[q];exact qd) (by rw[t];exact qd) (by rw[v];exact qd) (by rw[z];exact qd) (by rw[C];exact qd) (by rw[E];exact decide_eq_true e) (H (.inr (.inr e))) (O e) M
  rw[if_neg e];have ad:=e;clear e;have e:i.op=15:=by
   simp[vF] at y;omega
  exact RH h f a b l (by rw[F0];exact qd) (by rw[j];exact qd) (by rw[o];exact qd) (by rw[s];exact qd) (by rw[q];exact qd) (by rw[t];exact qd) (by rw[v];exact qd) (by rw[z];exact qd) (by rw[C];exact qd) (by rw[E];exact qd) (by rw[K];exact decide_eq_true e) N
 rw[if_neg y,decide_eq_false y];have ae:¬(i.op=0\/i.op=1\/i.op=2\/i.op=3\/i.op=4\/i.op=5\/i.op=11\/i.op=12\/i.op=13\/i.op=14\/i.op=15):=fun d=>y (by simp[vF];omega);exact PD h f a b l (by rw[F0];exact qd) (by rw[j];exact qd) (by rw[o];exact qd) (by rw[s];exact qd) (by rw[q];exact qd) (by rw[t];exact qd) (by rw[v];exact qd) (by rw[z];exact qd) (by rw[C];exact qd) (by rw[E];exact qd) (by rw[K];exact qd)
end
end Go.Proofs.YtdaafkmhfedkiaaGreat
