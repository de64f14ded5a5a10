import Derived.Test.YtdaafkmhfedkiaaGreatX10
import Derived.Test.YtdaafkmhfedkiaaGreatX24
namespace Go.Proofs.YtdaafkmhfedkiaaGreat
set_option maxHeartbeats 6400000
set_option maxRecDepth 100000
open Go.RowKit Go.Proofs.Tryz
def nZ(word l7 fo:qS)(Z:Bk):Bk:={Z with opn:=⟨word,l7,fo,Z.di.size,false⟩::Z.opn,di:=Z.di++l7}
def sG(Z:Bk):Bk:=match Z.opn with
 | []=>Z
 | b::bs=>{Z with opn:={b with dead:=true}::bs,di:=Z.di.extract 0 b.high}
def BI:qS:=⟨#[108,111,111,112]⟩
def ji(n:Nat)(Z:Bk):qS:=match Z.opn[n]? with
 | none=>⟨#[]⟩
 | some b=>if b.word=BI then b.l7 else b.fo
theorem Tryz.acr:(prog.info? 170).map (fun i=>(i.zero,i.size,i.bytes))=some (some (.agg #[.string ⟨#[]⟩,.string ⟨#[]⟩,.string ⟨#[]⟩,qJ 0,.bool false]),5,64):=qk
section
variable {S:qD} {w w':qW} {x A:Nat} {c:FC} {p:qO} {Z:Bk}
theorem dZ.own_ne(h:dZ w x c p A Z):¬(Value.slice p Z.opn.length A).ownBlock=some x:=fun e=>h.row.at_ x e rfl
theorem CP(h:dZ w x c p A Z)(s l7 fo:qS)(hz:Z.di.size+l7.size<=1000000)(hl:Z.opn.length<=1000):qC 107 #[qP x,.string s,.agg #[.string l7,.string fo]] w fun e w'=>qU e/\(∃p' n,dZ w' x c p' n (nZ s l7 fo Z)/\∀g,(Value.slice p' (Z.opn.length+1) n).ownBlock=some g->(Value.slice p Z.opn.length A).ownBlock=some g\/w.heap.size<=g)/\Kept (fun k=>k=x\/(Value.slice p Z.opn.length A).ownBlock=some k) w w':=by
 obtain⟨i0,ah,ai,aj,ak⟩:=info_parts Tryz.acr;have hx:=h.lt;have u:=h.own_ne;obtain⟨b,opn,er,now⟩:=Z;simp only at hz hl u;have N:=hide h;clear h;go_enter func107,ntmps107;go_wp2_with fail
 have E:OB (w.alloc (.cells #[.string l7,.string fo] 83)) x w.heap.size [.string l7,.string fo]:=OB.new (c:= #[.string l7,.string fo]) (t:=83) hx rfl;have v:=N.o.alloc (.cells #[.string l7,.string fo] 83);have aa:Kept (fun k=>k=x\/(Value.slice p opn.length A).ownBlock=some k) w (w.alloc (.cells #[.string l7,.string fo] 83)):=qr.alloc _;have I:¬(Value.slice p opn.length A).ownBlock=some w.heap.size:=fun e=>by have:=(N.o.row.own.lt _ e).2;omega
 have am:¬w.heap.size=x:=E.ne;clear N;generalize az:w.heap.size=G at*;generalize (w.alloc (.cells #[.string l7,.string fo] 83))=f at*;obtain⟨-,-,⟨y,O⟩,⟨J,J3⟩,-,-,-,-,-⟩:=v.blk.gI;obtain⟨z,R⟩:=E.blk 0 qs;obtain⟨T,U1⟩:=E.blk 1 qs;simp only[List.getD_cons_zero,List.getD_cons_succ] at z T;simp only at y J;have F:=v.lt;have U:=E.lt;have V:∀d,Kept (fun i=>(Value.slice p opn.length A).ownBlock=some i) f d->d.cell? (qA x 2)=some (.string b):=fun d B=>(B.cell (p:=(qA x 2)) F u).trans y;have W:∀d,Kept (fun i=>(Value.slice p opn.length A).ownBlock=some i) f d->d.cell? (qA x 3)=some (.slice p opn.length A):=fun d B=>(B.cell (p:=(qA x 3)) F u).trans J;have an:∀d,Kept (fun i=>(Value.slice p opn.length A).ownBlock=some i) f d->d.cell? (qA G 0)=some (.string l7):=fun d B=>(B.cell (p:=(qA G 0)) U I).trans z;have ao:∀d,Kept (fun i=>(Value.slice p opn.length A).ownBlock=some i) f d->d.cell? (qA G 1)=some (.string fo):=fun d B=>(B.cell (p:=(qA G 1)) U I).trans T;have hS:Kept (fun i=>(Value.slice p opn.length A).ownBlock=some i) f f.drew:=qr.drew;refine kQ (Kept (fun i=>(Value.slice p opn.length A).ownBlock=some i) f) 17 ?_;iterate 13 refine pQ hS ?_
 refine dx (i:=13) qk (dn rfl (fun K j=>?_));go_simp;have L:qK f (f.drew.alloc (.cells #[.string s,.string l7,.string fo,qJ b.size,.bool false] 170)):=(qr.drew).alloc _;refine j _ _ ⟨.inr (L.mono (fun _ _ c=>c.elim)),?_⟩;clear j K;have ab:Row (fun g=>g≠x) f 170 5 (.slice p opn.length A) opn.length (opn.reverse.flatMap kX.cells):=by have:=v.row;unfold isRow at this;rwa[List.length_reverse] at this
 refine dx (i:=14) qk (dn rfl (fun K j=>?_));refine step_append_lies _ (by rfl) _ _ _ (by rfl) 0 170 i0 _ 5 64 underlying163 ah ai aj ak rfl qo (.slice p opn.length A) opn.length (opn.reverse.flatMap kX.cells) (by rfl) (ab.Ce L (fun _ _=>qZ)) ⟨f.heap.size,0,none⟩ 1 1 [.string s,.string l7,.string fo,qJ b.size,.bool false] (by rfl) (by rfl) (World.news_of_block (cs:= #[.string s,.string l7,.string fo,qJ b.size,.bool false]) (t:=170) (fr:=(0,0)) (heap_alloc_new f.drew _)) (by simp[Value.oneCell']) qo (by unfold maxLen;omega) qo qs (f.heap.size+1) qs ?_;intro m n C ac ad M aA;have r:Kept (fun i=>(Value.slice p opn.length A).ownBlock=some i) f C:=(L.mono (fun _ _ c=>c.elim)).trans (Kept.iB ad);have ap:m≠x:=by rcases M with e | e;exact fun c=>u (c▸e);omega
 have aB:m≠G:=by rcases M with e | e;exact fun c=>I (c▸e);omega
 have aq:qh ((Value.slice p opn.length A).ownBlock=some m\/w.heap.size<=m):=by rcases M with e | e;exact .inl e;exact .inr qo
 refine j _ _ ⟨.inr r,?_⟩;clear j K;refine tk 15 [16] r ?_;refine tk 16 [] r ?_;have X:=v.blk.kept r F u;have aC:x<C.heap.size:=X.lt;have P1:C.cell? (qA x 3)=some (.slice p opn.length A):=(r.cell (p:=(qA x 3)) F u).trans J;have P2:C.frozen? (qA x 3)=false:=(r.frozen (p:=(qA x 3)) F u).trans J3;refine dx (i:=17) qk (dn rfl (fun K j=>?_));go_simp;refine j _ _ ⟨.inl rfl,?_⟩;clear j K;refine dM qk ?_ _;have ae:Row (fun g=>g≠x) (C.setCell (qA x 3) (.slice (some (qA m 0)) (opn.length+1) n)) 170 5 (.slice (some (qA m 0)) (opn.length+1) n) (opn.length+1) (opn.reverse.flatMap kX.cells++[.string s,.string l7,.string fo,qJ b.size,.bool false]):=by
  refine Row.kept (S:=fun k=>k=x) (Row.DN (Row.nS (ok:=fun _=>True) ac (fun _ _ _=>trivial)) (fun g D=>?_)) ((Kept.refl (fun k=>k=x) C).setCell (p:=(qA x 3)) (fun _=>rfl) _) (fun g _ D e=>D e);have e:m=g:=by simpa [Value.ownBlock] using D
  rw[<-e];exact ap
 have b4:=X.set 3 (.slice (some (qA m 0)) (opn.length+1) n);have k4:=(aa.fresh r (fun i _ e=>Or.inr e)).setCell (p:=(qA x 3)) (fun _=>.inl rfl) (.slice (some (qA m 0)) (opn.length+1) n);have af:=(E.kept r I).other (fun e=>am e.symm) (.slice (some (qA m 0)) (opn.length+1) n) (o:=3);have ar:=hide ae;have Y:=hide b4;have au:=hide k4;have av:=hide v.hi;have aw:=hide v.code;clear V W an ao hS r L ab ac ad M P1 P2 X ae b4 k4 v aa E y O J J3 z R T U1 F U;generalize C.setCell (qA x 3) (.slice (some (qA m 0)) (opn.length+1) n)=H at*;obtain⟨-,-,⟨y,O⟩,-,-,-,-,-,-⟩:=Y.o.gI;obtain⟨z,R⟩:=af.blk 0 qs;simp only[List.getD_cons_zero] at z;simp only at y;have ax:=Y.o.lt;have ay:=af.lt;have aD:¬9223372036854775807<b.size+l7.size:=qo;go_wp2_with fail
 have V:=dX ax y;have W:=dX ay z;have ag:qK H H.drew:=qr.drew;refine kQ (qK H) 10 ?_;iterate 10 refine pQ ag ?_
 refine dx (i:=10) qk (dn rfl (fun K j=>?_));go_simp;refine j _ _ ⟨.inl rfl,?_⟩;clear j K;refine dM qk ?_ _;clear V W;have aE:(b++l7).size=b.size+l7.size:=ByteArray.size_append;have hF:dZ (H.setCell (qA x 2) (.string (b++l7))).drew x c (some (qA m 0)) n (nZ s l7 fo ⟨b,opn,er,now⟩):=by
  refine dZ.drew ⟨Y.o.set 2 (.string (b++l7)),?_,⟨?_,av.o⟩,?_,aw.o⟩
  .have q:=Row.kept ar.o ((Kept.refl (fun k=>k=x) H).setCell (p:=(qA x 2)) (fun _=>rfl) (.string (b++l7))) (fun g _ D e=>D e);show isRow _ _ _ _ _ _ _;simpa [isRow,nZ,kX.cells] using q
  .show b.size<=(b++l7).size;omega
  show(b++l7).size<=1000000;omega
 have j:=(au.o.setCell (p:=(qA x 2)) (fun _=>.inl rfl) (.string (b++l7))).drew;clear ag y O z R;go_wp2;go_end0;exact⟨rfl,⟨_,_,hF,fun g D=>by(have e:m=g:=by simpa [Value.ownBlock] using D);rw[<-e];exact aq.o⟩,j⟩
end
section
variable {S:qD} {w w':qW} {x A:Nat} {c:FC} {p:qO} {Z:Bk}
theorem Rz(d:List kX)(b:kX):((b::d).reverse.flatMap kX.cells).set (d.length*5+4) (.bool true)=(({b with dead:=true}::d).reverse).flatMap kX.cells:=by
 have e:(d.reverse.flatMap kX.cells).length=d.length*5:=by
  exact agt
 simp only[List.reverse_cons,List.flatMap_append,List.flatMap_cons,List.flatMap_nil,List.append_nil];rw[List.set_append_right _ _ qo,e,show d.length*5+4 - d.length*5=4 by omega];rfl
theorem Bj(h:dZ w x c p A Z)(B:Z.opn≠[]):qC 138 #[qP x] w fun e w'=>qU e/\dZ w' x c p A (sG Z)/\Kept (fun k=>k=x\/(Value.slice p Z.opn.length A).ownBlock=some k) w w':=by
 obtain⟨f,opn,er,now⟩:=Z;cases opn with
 | nil=>exact absurd rfl B
 | cons b d=>
 obtain⟨-,-,⟨s,C⟩,⟨D,O⟩,-,-,-,-,-⟩:=h.blk.gI;obtain⟨j,rfl,v,E,F,-,-,-,t,u⟩:=h.at_ (k:=0) (b:=b) rfl;simp only[List.length_cons,Nat.add_sub_cancel,Nat.sub_zero] at t u D F s;have hx:=h.lt;have aa:b.high<=f.size:=h.hi.1;have ab:f.size<=1000000:=h.big;have G:=hide h;have ac:IntKind.i64.wrap (d.length:Int)=(d.length:Int):=IntWalk.i64_in _ ⟨qo,by have:=F.2;unfold maxLen at this;omega⟩;have t1:(0:Int)<=(d.length:Int):=qo;have t2:(d.length:Int)<(d.length:Int)+1:=qo;clear h B;go_enter func138,ntmps138;go_wp2_with fail
 go_quiet (fail)
 have r:=G.o.drewN nq;have R:Kept (fun k=>k=x\/(Value.slice (some (qA j 0)) (d.length+1) A).ownBlock=some k) w (w.drewN nq):=qr.drewN _;clear s C D O t u G v hx;generalize w.drewN nq=m at*;obtain⟨-,-,⟨s,C⟩,-,-,-,-,-,-⟩:=r.blk.gI;obtain⟨T,U,v,-,-,-,-,-,t,u⟩:=r.at_ (k:=0) (b:=b) rfl;obtain rfl:j=T:=by cases U;rfl
 simp only[List.length_cons,Nat.add_sub_cancel,Nat.sub_zero] at t u s;have V:=r.lt;have t3:(0:Int)<=(b.high:Int):=qo;have t4:(b.high:Int)<=(f.size:Int):=qo;go_wp2_with fail
 have W:=dX V s;have X:=dX v t;have H:qK m m.drew:=qr.drew;refine kQ (qK m) 12 ?_;iterate 12 refine pQ H ?_
 refine dx (i:=12) qk (dn rfl (fun K I=>?_));go_simp;refine I _ _ ⟨.inl rfl,?_⟩;clear I K;refine dM qk ?_ _;clear W X;have Y:(f.extract 0 b.high).size=b.high:=by rw[ByteArray.size_extract];omega
 have J:=r.blk.set 2 (.string (f.extract 0 b.high));have y:=r.row;have ad:m.frozen? ⟨j,d.length*5+4,none⟩=false:=Row.free (n:=d.length+1) (c:=A) (by have q:=y;unfold isRow at q;rwa[List.length_reverse] at q) _;have L:Row (fun g=>g≠x) (m.setCell (qA x 2) (.string (f.extract 0 b.high))).drew 170 5 (.slice (some (qA j 0)) (d.length+1) A) (d.length+1) ((b::d).reverse.flatMap kX.cells):=by
  have q:=Row.kept y (((Kept.refl (fun k=>k=x) m).setCell (p:=(qA x 2)) (fun _=>rfl) (.string (f.extract 0 b.high))).drew) (fun g _ hg e=>hg e);unfold isRow at q;rwa[List.length_reverse] at q
 have z:=Row.set (i:=d.length*5+4) L (.bool true);rw[Rz] at z;have M:=(((R.setCell (p:=(qA x 2)) (fun _=>.inl rfl) (.string (f.extract 0 b.high))).drew).setCell (p:=⟨j,d.length*5+4,none⟩) (fun _=>.inr (by simp[Value.ownBlock])) (.bool true));have N:dZ ((m.setCell (qA x 2) (.string (f.extract 0 b.high))).drew.setCell ⟨j,d.length*5+4,none⟩ (.bool true)) x c (some (qA j 0)) A (sG ⟨f,b::d,er,now⟩):=by
  refine⟨?_,?_,⟨?_,r.hi.2⟩,?_,r.code⟩
  .exact kY.dA (w:=(m.setCell (qA x 2) (.string (f.extract 0 b.high))).drew) J E (.bool true)
  .show isRow _ _ _ _ _ _ _;simpa [isRow,sG] using z
  .show b.high<=(f.extract 0 b.high).size;omega
  show(f.extract 0 b.high).size<=1000000;omega
 have HF:=hide N;have HK:=hide M;have ae:¬x=j:=fun e=>E e.symm;clear N M z L J y H Y;go_wp2;go_end0;exact⟨rfl,HF.o,HK.o⟩
theorem zn(h:dZ w x c p A Z)(n:Nat)(B:n<Z.opn.length):qC 141 #[qP x,qJ n] w fun e w'=>e=.returned (.string (ji n Z))/\dZ w' x c p A Z/\qK w w':=by
 obtain⟨b,hb⟩:∃b,Z.opn[n]?=some b:=⟨_,List.getElem?_eq_getElem B⟩;obtain⟨-,-,-,⟨j,L⟩,-,-,-,-,-⟩:=h.blk.gI;obtain⟨W,rfl,d,X,k,q,r,s,u,v⟩:=h.at_ hb;have hx:=h.lt;have C:=hide h;have g:qh (ji n Z=if b.word=BI then b.l7 else b.fo):=by show _=_;unfold ji;rw[hb]
 obtain⟨m,hm⟩:∃m,Z.opn.length=m+n+1:=⟨Z.opn.length - 1 - n,qo⟩;have D:Z.opn.length - 1 - n=m:=qo;rw[D] at q r s u v;rw[hm] at j k;have E:=k.2;unfold maxLen at E;have Y:IntKind.i64.wrap (((m+n:Nat):Int))=((m+n:Nat):Int):=IntWalk.i64_in _ ⟨qo,qo⟩;have aa:IntKind.i64.wrap ((m:Int))=(m:Int):=IntWalk.i64_in _ ⟨qo,qo⟩;have ab:IntKind.i64.wrap ((m:Int)+(n:Int))=(m:Int)+(n:Int):=IntWalk.i64_in _ ⟨qo,qo⟩;have t1:(0:Int)<=(m:Int):=qo;have t2:(m:Int)<(m:Int)+(n:Int)+1:=qo;have t3:(m:Int)+(n:Int) - (n:Int)=(m:Int):=qo;have ac:=hide hm;clear h hb D hm B k E;go_enter func141,ntmps141;go_wp2_with fail
 have M:=dX hx j;have N:=dX d q;have O:=dX d r;have R:=dX d s;have T:=dX d u;have U:=dX d v;have y:qK w w.drew:=qr.drew;refine kQ (qK w) 15 ?_;iterate 14 refine pQ y ?_
 refine dx (i:=14) qk (dn rfl (fun K f=>?_));go_simp;refine f _ _ ⟨.inr (y.alloc _),?_⟩;clear f K;refine dx (i:=15) qk (dn rfl (fun K f=>?_));go_simp;refine f _ _ ⟨.inl rfl,?_⟩;clear f K;refine dM qk ?_ _;clear M N O R T U;have F:OB (w.alloc (.cells #[.string b.word,.string b.l7,.string b.fo,qJ b.high,.bool b.dead] 170)).drew x w.heap.size [.string b.word,.string b.l7,.string b.fo,qJ b.high,.bool b.dead]:=(OB.new (c:= #[.string b.word,.string b.l7,.string b.fo,qJ b.high,.bool b.dead]) (t:=170) hx rfl).drew;have G:=(C.o.alloc (.cells #[.string b.word,.string b.l7,.string b.fo,qJ b.high,.bool b.dead] 170)).drew;have H:qK w (w.alloc (.cells #[.string b.word,.string b.l7,.string b.fo,qJ b.high,.bool b.dead] 170)).drew:=(qr.alloc _).drew;clear j L q r s u v y C hx;generalize (w.alloc (.cells #[.string b.word,.string b.l7,.string b.fo,qJ b.high,.bool b.dead] 170)).drew=W1 at*;obtain⟨⟨I,C0⟩,⟨B1,C1⟩,⟨B2,C2⟩,-,-⟩:=F.blk.five;have lB:=F.lt;by_cases hw:b.word=BI
 .rw[hw] at I;have z:qh (ji n Z=b.l7):=by show _=_;rw[g.o,if_pos hw]
  unfold BI at I;clear hw g;go_wp2;go_ret;rw[z.o];exact⟨rfl,G,H⟩
 have z:qh (ji n Z=b.fo):=by show _=_;rw[g.o,if_neg hw]
 have V:(b.word.toList==BI.toList)=false:=by rw[vw];simpa using hw
 have J:BI.toList=[108,111,111,112]:=by decide+kernel
 rw[J] at V;clear hw g J;go_wp2;go_ret;rw[z.o];exact⟨rfl,G,H⟩
end
def iq(Z:Bk):Bk:=match Z.opn with
 | []=>Z
 | b::bs=>{(if(dS b.fo Z).2.di.size=b.high then(dS b.fo Z).2 else {fF 4 (dS b.fo Z).2.now (dS b.fo Z).2 with di:=(dS b.fo Z).2.di.extract 0 b.high}) with opn:=bs}
section
variable {S:qD} {w w':qW} {x A:Nat} {c:FC} {p:qO} {Z:Bk}
theorem dZ.other(h:dZ w x c p A Z){g o:Nat}(a:g≠x)(b:¬(Value.slice p Z.opn.length A).ownBlock=some g)(u:qv):dZ (w.setCell (qA g o) u) x c p A Z:=
 h.kept (S:=fun k=>k=g) ((Kept.refl (fun k=>k=g) w).setCell (p:=(qA g o)) (fun _=>rfl) u) (fun e=>a e.symm) (fun _ X e=>b (e▸X))
theorem za(ks:qS):∀(i:Nat) (a:qS) (Z:Bk),(jE ks i a Z).2.opn=Z.opn/\(jE ks i a Z).2.now=Z.now
 | 0,_,_=>⟨rfl,rfl⟩
 | i+1,a,Z=>by
  have h:=za ks i (strOfNums [((jg Z).1:Int)]++a) (if(jg Z).1≠bt ks i/\(jg Z).1≠63 then fF 4 Z.now (jg Z).2 else(jg Z).2);unfold jE;rw[h.1,h.2];split
  .rw[vD,Bi];exact⟨zZ,yQ⟩
  exact⟨zZ,yQ⟩
theorem nM(ks:qS):(dS ks Z).2.opn=Z.opn:=(za ks _ _ _).1
theorem AP(ks:qS):(dS ks Z).2.now=Z.now:=(za ks _ _ _).2
theorem acG(d:List kX)(b:kX):((b::d).reverse.flatMap kX.cells).take (d.length*5)=d.reverse.flatMap kX.cells:=by
 have e:(d.reverse.flatMap kX.cells).length=d.length*5:=by
  exact agt
 simp only[List.reverse_cons,List.flatMap_append];rw[<-e,List.take_left'];rfl
theorem CO{b:kX}{d:List kX}(h:dZ w x c p A Z)(hn:Z.opn=b::d)(aN:b.fo.size<=100000):qC 111 #[qP x] w fun e w'=>e=.returned (.agg #[.string b.word,.string b.l7,.string b.fo,qJ b.high,.bool b.dead])/\dZ w' x c p A (iq Z)/\Kept (only x) w w':=by
 obtain⟨s,opn,er,now⟩:=Z;simp only at hn;subst hn;have hx:=h.lt;obtain⟨n,rfl,aO,a8,-⟩:=h.at_ (k:=0) (b:=b) rfl;have az:¬w.heap.size=n:=qo;clear aO;have M:=hide (h.alloc (.cells #[.string ⟨#[]⟩,.string ⟨#[]⟩,.string ⟨#[]⟩,qJ 0,.bool false] 170));have oR:OB (w.alloc (.cells #[.string ⟨#[]⟩,.string ⟨#[]⟩,.string ⟨#[]⟩,qJ 0,.bool false] 170)) x w.heap.size [.string ⟨#[]⟩,.string ⟨#[]⟩,.string ⟨#[]⟩,qJ 0,.bool false]:=OB.new (c:= #[.string ⟨#[]⟩,.string ⟨#[]⟩,.string ⟨#[]⟩,qJ 0,.bool false]) (t:=170) hx rfl;have aA:Kept (only x) w (w.alloc (.cells #[.string ⟨#[]⟩,.string ⟨#[]⟩,.string ⟨#[]⟩,qJ 0,.bool false] 170)):=qr.alloc _;clear h;go_enter func111,ntmps111;go_wp2_with fail
 clear hx;obtain⟨z,an⟩:=qE w.heap.size;rw[<-an] at oR az ⊢;have aP:=hide an;clear an;generalize (w.alloc (.cells #[.string ⟨#[]⟩,.string ⟨#[]⟩,.string ⟨#[]⟩,qJ 0,.bool false] 170))=B at*;obtain⟨-,-,-,⟨F,J3⟩,-,-,-,-,-⟩:=M.o.blk.gI;obtain⟨aQ,aB,N,-,ao,Q0,Q1,Q2,Q3,Q4⟩:=M.o.at_ (k:=0) (b:=b) rfl;obtain rfl:n=aQ:=by cases aB;rfl
 clear aB;simp only[List.length_cons,Nat.add_sub_cancel,Nat.sub_zero] at Q0 Q1 Q2 Q3 Q4 F ao;have hx:=M.o.lt;have a9:IntKind.i64.wrap (d.length:Int)=(d.length:Int):=IntWalk.i64_in _ ⟨qo,by have:=ao.2;unfold maxLen at this;omega⟩;have t1:(0:Int)<=(d.length:Int):=qo;have t2:(d.length:Int)<(d.length:Int)+1:=qo;have ba:(d.length:Int)<=(A:Int):=by have:=ao.1;omega
 have O:=dX hx F;have ap:=dX N Q0;have aR:=dX N Q1;have aS:=dX N Q2;have aT:=dX N Q3;have aU:=dX N Q4;have C:qK B B.drew:=qr.drew;refine kQ (qK B) 13 ?_;iterate 12 refine pQ C ?_
 refine dx (i:=12) qk (dn rfl (fun K y=>?_));go_simp;refine y _ _ ⟨.inr (C.alloc _),?_⟩;clear y K;refine dx (i:=13) qk (dn rfl (fun K y=>?_));go_simp;refine y _ _ ⟨.inl rfl,?_⟩;clear y K;refine dM qk ?_ _;clear O ap aR aS aT aU;have oB:OB (B.alloc (.cells #[.string b.word,.string b.l7,.string b.fo,qJ b.high,.bool b.dead] 170)).drew x B.heap.size [.string b.word,.string b.l7,.string b.fo,qJ b.high,.bool b.dead]:=(OB.new (c:= #[.string b.word,.string b.l7,.string b.fo,qJ b.high,.bool b.dead]) (t:=170) hx rfl).drew;have aC:=(oR.alloc (.cells #[.string b.word,.string b.l7,.string b.fo,qJ b.high,.bool b.dead] 170)).drew;have aD:=(M.o.alloc (.cells #[.string b.word,.string b.l7,.string b.fo,qJ b.high,.bool b.dead] 170)).drew;have aE:Kept (only x) w (B.alloc (.cells #[.string b.word,.string b.l7,.string b.fo,qJ b.high,.bool b.dead] 170)).drew:=(aA.alloc _).drew;have bc:¬z=B.heap.size:=by have:=oR.lt;omega
 clear F J3 Q0 Q1 Q2 Q3 Q4 C M hx oR aA;generalize B.heap.size=bb at*;generalize (B.alloc (.cells #[.string b.word,.string b.l7,.string b.fo,qJ b.high,.bool b.dead] 170)).drew=W1 at*;obtain⟨-,-,⟨B2,C2⟩,-,-⟩:=oB.blk.five;have lB:=oB.lt;have G:qh (iq ⟨s,b::d,er,now⟩={(if(dS b.fo ⟨s,b::d,er,now⟩).2.di.size=b.high then(dS b.fo ⟨s,b::d,er,now⟩).2 else {fF 4 (dS b.fo ⟨s,b::d,er,now⟩).2.now (dS b.fo ⟨s,b::d,er,now⟩).2 with di:=(dS b.fo ⟨s,b::d,er,now⟩).2.di.extract 0 b.high}) with opn:=d}):=rfl;go_wp2_with fail
 refine(iV aD qs b.fo aN).mono ?_;rintro e w2 ⟨rfl,D,ab⟩;have o2:=nM (Z:=⟨s,b::d,er,now⟩) b.fo;obtain⟨⟨bd,⟨f,be,H,j⟩⟩,aF⟩:=qF (dS b.fo ⟨s,b::d,er,now⟩);rw[aF] at D o2 G ⊢;simp only at D o2 G ⊢;subst o2;have ac:=oB.call ab;have aG:=aC.call ab;have aH:=aE.trans ab;have aV:b.high<=f.size:=D.hi.1;have aW:f.size<=1000000:=D.big;clear aF B2 C2 lB oB aC aE ab aD;obtain⟨-,-,⟨R,J2⟩,-,-,-,⟨T,J6⟩,-,-⟩:=D.blk.gI;obtain⟨-,-,-,⟨B3,C3⟩,-⟩:=ac.blk.five;have aX:=D.lt;have aY:=ac.lt;simp only at R T;go_wp2_with fail
 go_cut [28] from 21 to 28 (fun u W=>u=.bool (decide (¬f.size=b.high))/\qK w2 W)
 case first=>
  by_cases hq:f.size=b.high
  .have q1:(((f.size:Nat):Int) !=(b.high:Int))=false:=by rw[hq];simp
   have HO:qh (decide (¬f.size=b.high)=false):=by show _=_;simp[hq]
   clear hq;exact BA
  have q1:(((f.size:Nat):Int) !=(b.high:Int))=true:=by simp only[bne_iff_ne,ne_eq];omega
  have HO:qh (decide (¬f.size=b.high)=true):=by show _=_;simp[hq]
  clear hq;exact BA
 case rest=>
 obtain⟨rfl,U⟩:=hcut;obtain⟨w3,aZ⟩:=qE wc;subst aZ;have I:=D.kept U (fun c=>c) (fun _ _ c=>c);have ad:=ac.kept U (fun c=>c);have ae:=aG.kept U (fun c=>c);have af:Kept (only x) w w3:=aH.trans (U.mono (fun _ _ c=>c.elim));obtain⟨ob,aq⟩:=qF (decide (¬f.size=b.high));rw[aq];have ar:=hide aq;clear aq U D ac aG aH R J2 T J6 B3 C3 aX aY;go_upto_if 28 with fail
 go_cut [] from 28 to 44 (fun W=>∃V ag,iq ⟨s,b::d,er,now⟩=⟨V,d,ag,j⟩/\V.size=b.high/\dZ W x c (some (qA n 0)) A ⟨V,b::d,ag,j⟩/\OB W x bb [.string b.word,.string b.l7,.string b.fo,qJ b.high,.bool b.dead]/\OB W x z [.string ⟨#[]⟩,.string ⟨#[]⟩,.string ⟨#[]⟩,qJ 0,.bool false]/\Kept (only x) w W)
 case first=>
  cases ob with
  | false=>
   have hq:f.size=b.high:=by simpa using ar.o
   have au:qh (iq ⟨s,b::d,er,now⟩=⟨f,d,H,j⟩):=by show _=_;rw[G.o,if_pos hq]
   have HQ:=hide hq;clear hq;go_wp2;go_meet;exact⟨f,H,au.o,HQ.o,I,ad,ae,af⟩
  | true=>
   have hq:¬f.size=b.high:=by simpa using ar.o
   have av:fF 4 j ⟨f,b::d,H,j⟩=⟨f,b::d,(fF 4 j ⟨f,b::d,H,j⟩).err,j⟩:=by
    unfold fF;split<;>rfl
   have au:qh (iq ⟨s,b::d,er,now⟩=⟨f.extract 0 b.high,d,(fF 4 j ⟨f,b::d,H,j⟩).err,j⟩):=by
    show _=_;rw[G.o,if_neg hq,av]
   have aI:=hide av;obtain⟨-,-,-,-,-,-,⟨T,J6⟩,-,-⟩:=I.blk.gI;have a0:=I.lt;simp only at T;clear hq av G;go_wp2_with fail
   refine(nW I 4 j qx).mono ?_;rintro e r ⟨rfl,m,ah⟩;rw[aI.o] at m;generalize (fF 4 j ⟨f,b::d,H,j⟩).err=aJ at*;have E:=ad.call ah;have L:=ae.call ah;have ai:=af.trans ah;clear aI T J6 a0 I ad ae af ah;obtain⟨-,-,⟨R,J2⟩,-,-,-,-,-,-⟩:=m.blk.gI;obtain⟨-,-,-,⟨B3,C3⟩,-⟩:=E.blk.five;have aj:=m.lt;have a1:=E.lt;simp only at R;have t3:(0:Int)<=(b.high:Int):=qo;have t4:(b.high:Int)<=(f.size:Int):=qo;go_wp2_with fail
   have O:=dX aj R;have ap:=dX a1 B3;have C:qK r r.drew:=qr.drew;refine kQ (qK r) 10 ?_;iterate 10 refine pQ C ?_
   refine dx (i:=10) qk (dn rfl (fun K y=>?_));go_simp;refine y _ _ ⟨.inl rfl,?_⟩;clear y K;refine dM qk ?_ _;clear O ap;have ak:(f.extract 0 b.high).size=b.high:=by rw[ByteArray.size_extract];omega
   have aw:dZ (r.setCell (qA x 2) (.string (f.extract 0 b.high))).drew x c (some (qA n 0)) A ⟨f.extract 0 b.high,b::d,aJ,j⟩:=by
    refine(m.EX (J:=⟨f.extract 0 b.high,b::d,aJ,j⟩) (qr.own _) (m.blk.set 2 (.string (f.extract 0 b.high))) rfl ⟨?_,m.hi.2⟩ ?_ m.code).drew
    .simp only[ak];omega
    simp only[ak];omega
   have am:=(E.other (fun e=>E.ne e.symm) (.string (f.extract 0 b.high)) (o:=2)).drew;have X:=(L.other (fun e=>L.ne e.symm) (.string (f.extract 0 b.high)) (o:=2)).drew;have ax:=(ai.own (o:=2) (.string (f.extract 0 b.high))).drew;have a2:=hide ak;clear C ak;go_wp2;go_meet;exact⟨_,_,au.o,a2.o,aw,am,X,ax⟩
 case rest=>
 obtain⟨V,ag,aK,aL,m,E,L,ai⟩:=hcut;obtain⟨r,a3⟩:=qE wc;subst a3;have a4:=hide aK;have a5:=hide aL;clear aK aL G ar I ad ae af aV aW;obtain⟨-,-,-,⟨F,J3⟩,-,-,-,-,-⟩:=m.blk.gI;have aj:=m.lt;simp only[List.length_cons] at F;go_wp2_with fail
 have O:=dX aj F;have C:qK r r.drew:=qr.drew;refine kQ (qK r) 14 ?_;iterate 14 refine pQ C ?_
 refine dx (i:=14) qk (dn rfl (fun K y=>?_));go_simp;refine y _ _ ⟨.inl rfl,?_⟩;clear y K;refine dM qk ?_ _;clear O;have aM:Row (fun g=>g≠x) r 170 5 (.slice (some (qA n 0)) (d.length+1) A) (d.length+1) ((b::d).reverse.flatMap kX.cells):=by
  have q:=m.row;unfold isRow at q;rwa[List.length_reverse] at q
 have ay:=Row.cut aM (show d.length<=d.length+1 by omega);rw[acG] at ay;have aw:dZ (r.setCell (qA x 3) (.slice (some (qA n 0)) d.length A)).drew x c (some (qA n 0)) A ⟨V,d,ag,j⟩:=by
  refine dZ.drew ⟨m.blk.set 3 (.slice (some (qA n 0)) d.length A),?_,?_,m.big,m.code⟩
  .have q:=Row.kept ay ((Kept.refl (fun k=>k=x) r).setCell (p:=(qA x 3)) (fun _=>rfl) (.slice (some (qA n 0)) d.length A)) (fun g _ hg e=>hg e);show isRow _ _ _ _ _ _ _;unfold isRow;rw[List.length_reverse];exact q
  have q:=m.hi.2;simp only;rw[a5.o];exact q
 have am:=(E.other (fun e=>E.ne e.symm) (.slice (some (qA n 0)) d.length A) (o:=3)).drew;have X:=(L.other (fun e=>L.ne e.symm) (.slice (some (qA n 0)) d.length A) (o:=3)).drew;have ax:=(ai.own (o:=3) (.slice (some (qA n 0)) d.length A)).drew;clear C aM ay F J3 m E L ai aj;generalize (r.setCell (qA x 3) (.slice (some (qA n 0)) d.length A)).drew=W5 at*;obtain⟨⟨B0,C0⟩,⟨B1,C1⟩,⟨B2,C2⟩,⟨B3,C3⟩,⟨B4,C4⟩⟩:=am.blk.five;obtain⟨⟨R0,D0⟩,⟨R1,D1⟩,⟨R2,D2⟩,⟨R3,D3⟩,⟨R4,D4⟩⟩:=X.blk.five;have bf:=am.lt;have bg:=X.lt;have Y:=X.ne;have hno:¬(Value.slice (some (qA n 0)) d.length A).ownBlock=some z:=fun e=>by simp[Value.ownBlock] at e;exact az e.symm
 have f9:=((((aw.other Y hno (.string b.word) (o:=0)).other Y hno (.string b.l7) (o:=1)).other Y hno (.string b.fo) (o:=2)).other Y hno (qJ b.high) (o:=3)).other Y hno (.bool b.dead) (o:=4);have aa:w.heap.size<=z:=Nat.le_of_eq aP.o.symm;have k9:=((((ax.new (g:=z) (o:=0) aa (.string b.word)).new (g:=z) (o:=1) aa (.string b.l7)).new (g:=z) (o:=2) aa (.string b.fo)).new (g:=z) (o:=3) aa (qJ b.high)).new (g:=z) (o:=4) aa (.bool b.dead);have a6:=hide f9;have a7:=hide k9;clear f9 k9 hno;go_wp2;refine bodyPost_ret (v:=.agg #[.string b.word,.string b.l7,.string b.fo,qJ b.high,.bool b.dead]) ?_ rfl ⟨rfl,by rw[a4.o];exact a6.o,a7.o⟩;simp[results,go_sem,R0,R1,R2,R3,R4]
end
abbrev iC(i:fA)(x:Int)(v:Value):List Value:=[qJ i.op,qJ i.at_,qJ x,qJ i.pX,qJ i.off,qJ i.val,v,qJ i.dH,qB i.kind]
def jU(dm:List (qS×qS))(i:fA):qS×qS:=
 if i.dH=1 then(⟨#[]⟩,strOfNums [(i.kind:Int)]) else if i.dH=2 then gy dm i.xn.toNat else(⟨#[]⟩,⟨#[]⟩)
section
variable {S okT:qD} {w w':qW} {Y:Nat} {dm:List (qS×qS)} {tv lv:qv} {i:fA}
theorem TT(N:w.cell? (qA Y 0)=some tv)(D:isRow 83 2 iG okT dm w tv)(O:0<=i.xn)(x:i.dH=2->i.xn.toNat<dm.length)(ab:∃p n c,lv=.slice p n c):
  qC 140 #[qP Y,.agg (i.cells lv).toArray] w fun e w'=>e=.returned (.agg #[.string (jU dm i).1,.string (jU dm i).2])/\qK w w':=by
 obtain⟨pl,nl,cl,rfl⟩:=ab;have E:Y<w.heap.size:=World.block_lt_of_cell? w ⟨Y,0,none⟩ N;obtain⟨p,cc,rfl,F⟩:=yI D;have T:∀(G B:Obj) (z:Int),(convert 86 9 (.slice (some ⟨w.heap.size+1+1,0,none⟩) 1 1)).run prog (((w.alloc G).alloc B).alloc (.cells #[qB z] 5))=.ok (.string (strOfNums [z])) (((w.alloc G).alloc B).alloc (.cells #[qB z] 5)):=fun G B z=>by
  have:=Ar ((w.alloc G).alloc B) z;simpa using this
 obtain⟨b,H⟩:∃b:Nat,i.xn=(b:Int):=⟨i.xn.toNat,qo⟩;have y:i.xn.toNat=b:=qo;rw[y] at x;by_cases U:i.dH=1
 .have A:qh (jU dm i=(⟨#[]⟩,strOfNums [(i.kind:Int)])):=by show _=_;unfold jU;rw[if_pos U]
  unfold fA.cells;rw[U];clear F D U x H y O;go_enter func140,ntmps140;go_wp2;refine bodyPost_ret (v:=.agg #[.string ⟨#[]⟩,.string (strOfNums [(i.kind:Int)])]) ?_ rfl ⟨by rw[A.o],?_⟩
  .simp[results,go_sem]
  exact(((qr.alloc _).alloc _).alloc _)
 by_cases L:i.dH=2
 .have hlt:=x L;have ad:(b:Int)<(dm.length:Int):=qo;obtain⟨r,P⟩:∃r,dm[b]?=some r:=⟨_,List.getElem?_eq_getElem hlt⟩;obtain⟨g,rfl,-,I,ae,f,j⟩:=F _ _ P;have A:qh (jU dm i=r):=by show _=_;unfold jU;rw[if_neg U,if_pos L,y];simp[gy,P]
  unfold fA.cells;rw[L,H];have Q:OB ((w.alloc (.cells #[qJ i.op,qJ i.at_,qJ b,qJ i.pX,qJ i.off,qJ i.val,.slice pl nl cl,qJ 2,qB i.kind] 79)).alloc (.cells #[.string ⟨#[]⟩,.string ⟨#[]⟩] 83)) Y w.heap.size [qJ i.op,qJ i.at_,qJ b,qJ i.pX,qJ i.off,qJ i.val,.slice pl nl cl,qJ 2,qB i.kind]:=(OB.new (c:= #[qJ i.op,qJ i.at_,qJ b,qJ i.pX,qJ i.off,qJ i.val,.slice pl nl cl,qJ 2,qB i.kind]) (t:=79) E rfl).alloc _;have C:OB ((w.alloc (.cells #[qJ i.op,qJ i.at_,qJ b,qJ i.pX,qJ i.off,qJ i.val,.slice pl nl cl,qJ 2,qB i.kind] 79)).alloc (.cells #[.string ⟨#[]⟩,.string ⟨#[]⟩] 83)) Y (w.heap.size+1) [.string ⟨#[]⟩,.string ⟨#[]⟩]:=OB.new (w:=w.alloc (.cells #[qJ i.op,qJ i.at_,qJ b,qJ i.pX,qJ i.off,qJ i.val,.slice pl nl cl,qJ 2,qB i.kind] 79)) (c:= #[.string ⟨#[]⟩,.string ⟨#[]⟩]) (t:=83) qt qs;have u:qK w ((w.alloc (.cells #[qJ i.op,qJ i.at_,qJ b,qJ i.pX,qJ i.off,qJ i.val,.slice pl nl cl,qJ 2,qB i.kind] 79)).alloc (.cells #[.string ⟨#[]⟩,.string ⟨#[]⟩] 83)):=(qr.alloc _).alloc _;clear F D U L x H y O P T;go_enter func140,ntmps140;go_wp2_with fail
  have M0:=(u.cell (p:=(qA Y 0)) E (fun c=>c)).trans N;have Q0:=(u.cell (p:=⟨g,b*2,none⟩) I (fun c=>c)).trans f;have Q1:=(u.cell (p:=⟨g,b*2+1,none⟩) I (fun c=>c)).trans j;have lM:Y<((w.alloc (.cells #[qJ i.op,qJ i.at_,qJ b,qJ i.pX,qJ i.off,qJ i.val,.slice pl nl cl,qJ 2,qB i.kind] 79)).alloc (.cells #[.string ⟨#[]⟩,.string ⟨#[]⟩] 83)).heap.size:=Nat.lt_of_lt_of_le E u.size;have V:g<((w.alloc (.cells #[qJ i.op,qJ i.at_,qJ b,qJ i.pX,qJ i.off,qJ i.val,.slice pl nl cl,qJ 2,qB i.kind] 79)).alloc (.cells #[.string ⟨#[]⟩,.string ⟨#[]⟩] 83)).heap.size:=Nat.lt_of_lt_of_le I u.size;obtain⟨R,W⟩:=qE (w.heap.size+1);obtain⟨X,Z⟩:=qE w.heap.size;rw[<-W] at C ⊢;rw[<-Z] at Q ⊢;have aa:w.heap.size<=R:=qo;clear N f j I E W Z;generalize ((w.alloc (.cells #[qJ i.op,qJ i.at_,qJ b,qJ i.pX,qJ i.off,qJ i.val,.slice pl nl cl,qJ 2,qB i.kind] 79)).alloc (.cells #[.string ⟨#[]⟩,.string ⟨#[]⟩] 83))=J at*;obtain⟨-,-,⟨X2,-⟩,-⟩:=Q.blk.nine;have lI:=Q.lt;have lR:=C.lt;obtain⟨R0,F0⟩:=C.blk 0 qs;obtain⟨R1,F1⟩:=C.blk 1 qs;simp only[List.getD_cons_zero,List.getD_cons_succ] at R0 R1;have k:∀a,qK J a->a.cell? (qA Y 0)=some (.slice (some (qA g 0)) dm.length cc)/\a.cell? ⟨g,b*2,none⟩=some (.string r.1)/\a.cell? ⟨g,b*2+1,none⟩=some (.string r.2)/\a.cell? (qA X 2)=some (qJ b)/\True:=fun a M=>⟨(M.cell (p:=(qA Y 0)) lM (fun c=>c)).trans M0,(M.cell (p:=⟨g,b*2,none⟩) V (fun c=>c)).trans Q0,(M.cell (p:=⟨g,b*2+1,none⟩) V (fun c=>c)).trans Q1,(M.cell (p:=(qA X 2)) lI (fun c=>c)).trans X2,trivial⟩;have l:qK J J.drew:=qr.drew;refine zO (qK J) 9 qk ?_;refine jD (i:=0) (v:=?av0) [8,7,3,2,1] rfl qk qk qk qk (fun _ _ _ h=>h) (Or.inl ⟨by rfl,?ay0⟩) l ?ar0
  case ay0=>(intro a d;obtain⟨f,j,m,q,s⟩:=k a d;go_simp;try with_reducible rfl)
  dsimp only[Act.put,qy,qz,qw];refine jD (i:=1) (v:=?av1) [8,7,3,2] rfl qk qk qk qk (fun _ _ _ h=>h) (Or.inl ⟨by rfl,?ay1⟩) l ?ar1
  case ay1=>(intro a d;obtain⟨f,j,m,q,s⟩:=k a d;go_simp;try with_reducible rfl)
  dsimp only[Act.put,qy,qz,qw];refine jD (i:=2) (v:=?av2) [8,7,3] rfl qk qk qk qk (fun _ _ _ h=>h) (Or.inl ⟨by rfl,?ay2⟩) l ?ar2
  case ay2=>(intro a d;obtain⟨f,j,m,q,s⟩:=k a d;go_simp;try with_reducible rfl)
  dsimp only[Act.put,qy,qz,qw];refine jD (i:=3) (v:=?av3) [8,7] rfl qk qk qk qk (fun _ _ _ h=>h) (Or.inl ⟨by rfl,?ay3⟩) l ?ar3
  case ay3=>(intro a d;obtain⟨f,j,m,q,s⟩:=k a d;go_simp;try with_reducible rfl)
  dsimp only[Act.put,qy,qz,qw];refine jD (i:=4) (v:=?av4) [8,7,6,5] rfl qk qk qk qk (fun _ _ _ h=>h) (Or.inl ⟨by rfl,?ay4⟩) l ?ar4
  case ay4=>(intro a d;obtain⟨f,j,m,q,s⟩:=k a d;go_simp;try with_reducible rfl)
  dsimp only[Act.put,qy,qz,qw];refine jD (i:=5) (v:=?av5) [8,7,6] rfl qk qk qk qk (fun _ _ _ h=>h) (Or.inl ⟨by rfl,?ay5⟩) l ?ar5
  case ay5=>(intro a d;obtain⟨f,j,m,q,s⟩:=k a d;go_simp;try with_reducible rfl)
  dsimp only[Act.put,qy,qz,qw];refine jD (i:=6) (v:=?av6) [8,7] rfl qk qk qk qk (fun _ _ _ h=>h) (Or.inl ⟨by rfl,?ay6⟩) l ?ar6
  case ay6=>(intro a d;obtain⟨f,j,m,q,s⟩:=k a d;go_simp;try with_reducible rfl)
  dsimp only[Act.put,qy,qz,qw];refine jD (i:=7) (v:=?av7) [8] rfl qk qk qk qk (fun _ _ _ h=>h) (Or.inl ⟨by rfl,?ay7⟩) l ?ar7
  case ay7=>(intro a d;obtain⟨f,j,m,q,s⟩:=k a d;go_simp;try with_reducible rfl)
  dsimp only[Act.put,qy,qz,qw];refine jD (i:=8) (v:=?av8) [] rfl qk qk qk qk (fun _ _ _ h=>h) (Or.inl ⟨by rfl,?ay8⟩) l ?ar8
  case ay8=>(intro a d;obtain⟨f,j,m,q,s⟩:=k a d;go_simp;try with_reducible rfl)
  dsimp only[Act.put,qy,qz,qw];refine dx (i:=9) qk (dn rfl (fun K hK=>?_));go_simp;refine hK _ _ ⟨.inl rfl,?_⟩;clear hK K;refine dM qk ?_ _;clear k;have k9:=((u.new (g:=R) (o:=0) aa (.string r.1)).new (g:=R) (o:=1) aa (.string r.2)).drew;have o9:=((C.set 0 (.string r.1)).set 1 (.string r.2)).drew;obtain⟨S0,-⟩:=o9.blk 0 qs;obtain⟨S1,-⟩:=o9.blk 1 qs;simp only[qz,qw,List.getD_cons_zero,List.getD_cons_succ] at S0 S1;have ac:=hide k9;clear k9 l;go_wp2;refine bodyPost_ret (v:=.agg #[.string r.1,.string r.2]) ?_ rfl ⟨by rw[A.o],ac.o⟩;simp[results,go_sem,S0,S1]
 have A:qh (jU dm i=(⟨#[]⟩,⟨#[]⟩)):=by show _=_;unfold jU;rw[if_neg U,if_neg L]
 have t1:¬((i.dH:Nat):Int)=1:=qo;have t2:¬((i.dH:Nat):Int)=2:=qo;unfold fA.cells;clear F D U L x H y O T;go_enter func140,ntmps140;go_wp2;refine bodyPost_ret (v:=.agg #[.string ⟨#[]⟩,.string ⟨#[]⟩]) ?_ rfl ⟨by rw[A.o],?_⟩
 .simp[results,go_sem]
 exact((qr.alloc _).alloc _)
end
def jM(most:Nat):Option zA->Bool
 | none=>false
 | some l=>decide (most<l.min)||(l.has&&(decide (most<l.max)||decide (l.max<l.min)))
def iU(nf:Nat)(there:Bool):List lJ->Nat×Nat
 | []=>(0,0)
 | p::ps=>if there=false then(3,p.at_) else if p.place.kind≠105 then(4,p.place.at_) else match p.funcs.find? (fun r=>decide (nf<=r.1)) with
  | some r=>(3,r.2)
  | none=>iU nf there ps
section
variable {S ok:qD} {w w':qW} {Y:Nat}
theorem Ea(o:Option zA)(most:Nat):qC 103 #[.agg (wh o).toArray,qJ most] w fun e w'=>e=.returned (.bool (jM most o))/\qK w w':=by
 cases o with
 | none=>unfold wh;go_enter func103,ntmps103;go_wp2;go_ret;exact⟨rfl,qr.alloc _⟩
 | some l=>
  obtain⟨b,a,mx,at_⟩:=l;unfold wh zA.cells;simp only;by_cases c1:most<a
  .have c:(most:Int)<(a:Int):=qo;have HO:qh (jM most (some ⟨b,a,mx,at_⟩)=true):=by show _=_;simp[jM,c1]
   clear c1;exact aaY
  have c:¬(most:Int)<(a:Int):=qo;cases b with
  | false=>
   have HO:qh (jM most (some ⟨false,a,mx,at_⟩)=false):=by show _=_;simp[jM];omega
   clear c1;exact aaY
  | true=>
   by_cases c2:most<mx
   .have d:(most:Int)<(mx:Int):=qo;have HO:qh (jM most (some ⟨true,a,mx,at_⟩)=true):=by show _=_;simp[jM,c2]
    clear c1 c2;exact aaY
   have d:¬(most:Int)<(mx:Int):=qo;by_cases c3:mx<a
   .have f:(mx:Int)<(a:Int):=qo;have HO:qh (jM most (some ⟨true,a,mx,at_⟩)=true):=by show _=_;simp[jM,c3]
    clear c1 c2 c3;exact aaY
   have f:¬(mx:Int)<(a:Int):=qo;have HO:qh (jM most (some ⟨true,a,mx,at_⟩)=false):=by show _=_;simp[jM];omega
   clear c1 c2 c3;exact aaY
theorem tO{M:List (Nat×Nat)}{v:qv}(h:isRow 37 2 fU ok M w v):∃p c,v=.slice p M.length c/\∀k r,M[k]?=some r->∃g,p=some (qA g 0)/\g<w.heap.size/\M.length<=c/\w.cell? ⟨g,k*2,none⟩=some (qJ (r.1:Nat))/\w.cell? ⟨g,k*2+1,none⟩=some (qJ (r.2:Nat)):=by
 obtain⟨p,c,rfl⟩:=Row.form h;refine⟨p,c,rfl,fun k r a=>?_⟩;have X:=(List.getElem?_eq_some_iff.1 a).1;obtain⟨b,e,f,l,i,j,d⟩:=Row.cells h qo;obtain⟨rfl,rfl⟩:p=some (qA b 0)/\c=e:=by cases f;exact⟨rfl,rfl⟩
 exact⟨b,rfl,i,j,by rw[d _ qo,ZF a],by rw[d _ qo,VR a]⟩
theorem Js{l:List lJ}{v:qv}(h:gu 77 6 uF ok l w v):∃p c,v=.slice p l.length c/\∀k r,l[k]?=some r->∃g lv,p=some (qA g 0)/\g<w.heap.size/\l.length<=c/\w.cell? ⟨g,k*6,none⟩=some (qJ (r.at_:Nat))/\w.cell? ⟨g,k*6+1,none⟩=some (qB (r.place.kind:Nat))/\w.cell? ⟨g,k*6+3,none⟩=some (qJ (r.place.at_:Nat))/\w.cell? ⟨g,k*6+4,none⟩=some lv/\isRow 37 2 fU ok r.funcs w lv:=by
 obtain⟨css,b,d⟩:=h;obtain⟨p,c,rfl⟩:=Row.form b;refine⟨p,c,rfl,fun k r X=>?_⟩;have u:=(List.getElem?_eq_some_iff.1 X).1;obtain⟨cs,e,⟨lv,rfl,i⟩,-⟩:=d.get X;obtain⟨a,j,m,x,n,q,s⟩:=Row.cells b qo;obtain⟨rfl,rfl⟩:p=some (qA a 0)/\c=j:=by cases m;exact⟨rfl,rfl⟩
 have f:∀o,o<6->w.cell? ⟨a,k*6+o,none⟩=(r.cells lv)[o]?:=fun o t=>by
  rw[s _ qo];exact Each.flat d e t
 exact⟨a,lv,rfl,n,q,f 0 qo,f 1 qo,f 3 qo,f 4 qo,i⟩
theorem JW{l:List lJ}{lv:qv}{nf cf:Nat}{pf:qO}(d:Bool)(x:gu 77 6 uF ok l w lv)(D:w.cell? (qA Y 1)=some (.slice pf nf cf))(E:l.length<=1000/\∀p∈l,p.funcs.length<=1000):
  qC 64 #[qP Y,lv,.bool d] w fun e w'=>e=.returned (.tuple #[qJ ((iU nf d l).1:Nat),qJ ((iU nf d l).2:Nat)])/\qK w w':=by
 have F:Y<w.heap.size:=World.block_lt_of_cell? w ⟨Y,1,none⟩ D;have HL:=hide x;have G:=hide E;obtain⟨p,c,rfl,-⟩:=Js x;clear x E;go_enter func64,ntmps64;go_wp2;go_loopw [8] (fun q wr=>∃k:Nat,k<=l.length/\q=qJ k/\iU nf d l=iU nf d (l.drop k)/\qK w wr) (fun q _=>l.length - (intOf q).toNat)
 case atStart=>exact⟨0,qZ,rfl,rfl,Kept.refl _ _⟩
 obtain⟨k,X,rfl,H,i⟩:=hrel;have b:=hide H;clear H;by_cases y:k<l.length
 .have aa:(k:Int)<(l.length:Int):=qo;obtain⟨r,s⟩:∃r,l[k]?=some r:=⟨_,List.getElem?_eq_getElem y⟩;have I:=xP (ok':=ok) HL.o i (fun g _ J=>⟨fun c=>c,J⟩);obtain⟨p',c',K,L⟩:=Js I;obtain⟨g,aj,hp,J,ak,Q0,M,Q3,N,z⟩:=L k r s;subst hp;obtain⟨rfl,rfl⟩:p=some (qA g 0)/\c=c':=by cases K;exact⟨rfl,rfl⟩
  have m:qh (l.drop k=r::l.drop (k+1)):=by
   show _=_;have:r=l[k]:=by rw[List.getElem?_eq_getElem y] at s;exact(Option.some.inj s).symm
   rw[this];exact List.drop_eq_getElem_cons y
  have am:=G.o.2 r (List.mem_of_getElem? s);have an:=G.o.1;clear K L I s;cases d with
  | false=>
   have a:qh (iU nf false l=(3,r.at_)):=by show _=_;rw[b.o,m.o];rfl
   clear b m;go_wp2_with fail
   go_quiet (fail)
   go_wp2;go_ret2
   rw[a.o];exact⟨rfl,i.drewN _⟩
  | true=>
   by_cases t:r.place.kind=105
   .have a:qh (iU nf true l=match r.funcs.find? (fun r=>decide (nf<=r.1)) with | some r=>(3,r.2) | none=>iU nf true (l.drop (k+1))):=by show _=_;rw[b.o,m.o,iU,if_neg qs,if_neg (by simp[t])]
    rw[t] at M;obtain⟨A,u,rfl,ab⟩:=tO z;have O:=hide z;clear b m t ab z;have ao:=hide i;go_wp2;go_loopw [9] (fun q wr=>∃j:Nat,j<=r.funcs.length/\q=qJ j/\r.funcs.find? (fun r=>decide (nf<=r.1))=(r.funcs.drop j).find? (fun r=>decide (nf<=r.1))/\qK w wr/\wr.cell? ⟨g,k*6+4,none⟩=some (.slice A r.funcs.length u)/\isRow 37 2 fU ok r.funcs wr (.slice A r.funcs.length u)) (fun q _=>r.funcs.length - (intOf q).toNat)
    case atStart=>exact⟨0,qZ,rfl,rfl,i,N,O.o⟩
    obtain⟨j,hj,rfl,Q,JJ,R,T⟩:=hrel;have n:=hide Q;have U:=hide T;clear Q T Q0 M Q3 N O;have lg:g<wr.heap.size:=World.block_lt_of_cell? wr ⟨g,k*6+4,none⟩ R;by_cases B:j<r.funcs.length
    .have ac:(j:Int)<(r.funcs.length:Int):=qo;obtain⟨f,hf⟩:∃f,r.funcs[j]?=some f:=⟨_,List.getElem?_eq_getElem B⟩;obtain⟨p3,c3,V,W⟩:=tO U.o;obtain⟨C,ad,ap,aq,R0,R1⟩:=W j f hf;subst ad;obtain⟨rfl,rfl⟩:A=some (qA C 0)/\u=c3:=by cases V;exact⟨rfl,rfl⟩
     have v:qh (r.funcs.drop j=f::r.funcs.drop (j+1)):=by
      show _=_;have:f=r.funcs[j]:=by rw[List.getElem?_eq_getElem B] at hf;exact(Option.some.inj hf).symm
      rw[this];exact List.drop_eq_getElem_cons B
     have M1:=(JJ.cell (p:=(qA Y 1)) F (fun c=>c)).trans D;have ar:Y<wr.heap.size:=Nat.lt_of_lt_of_le F JJ.size;clear V W hf;by_cases hbad:nf<=f.1
     .have ae:(nf:Int)<=(f.1:Int):=qo;have HR2:qh (iU nf true l=(3,f.2)):=by show _=_;rw[a.o,n.o,v.o];simp[hbad]
      clear n v a hbad;exact ae9
     have ae:¬(nf:Int)<=(f.1:Int):=qo;have af:qh (r.funcs.find? (fun r=>decide (nf<=r.1))=(r.funcs.drop (j+1)).find? (fun r=>decide (nf<=r.1))):=by show _=_;rw[n.o,v.o];simp[hbad]
     clear n v hbad;go_wp2_with fail
     go_quiet (fail)
     have ag:=JJ.drewN nq;have ah:qh (isRow 37 2 fU ok r.funcs (wr.drewN nq) (.slice (some (qA C 0)) r.funcs.length u)):=Row.kept U.o ((Kept.refl (fun _=>False) wr).drewN nq) (fun _ _ _ c=>c);have Z:(wr.drewN nq).cell? ⟨g,k*6+4,none⟩=some (.slice (some (qA C 0)) r.funcs.length u):=R;have ai:=hide Z;clear Z;go_wp2;go_roundw
     case rel=>exact⟨j+1,qo,by go_num,af.o,ag,ai.o,ah.o⟩
     simp[intOf];omega
    have ac:¬(j:Int)<(r.funcs.length:Int):=qo;have HR2:qh (iU nf true l=iU nf true (l.drop (k+1))):=by
     show _=_;rw[a.o,n.o,List.drop_eq_nil_of_le qo];rfl
    clear n a;go_wp2;go_roundw
    case rel=>exact⟨k+1,qo,by go_num,HR2.o,JJ⟩
    simp[intOf];omega
   have a:qh (iU nf true l=(4,r.place.at_)):=by show _=_;rw[b.o,m.o,iU,if_neg qs,if_pos t]
   have tk:(((r.place.kind:Nat):Int) !=105)=true:=by simp only[bne_iff_ne,ne_eq];omega
   clear b m t;go_wp2_with fail
   go_quiet (fail)
   go_wp2;go_ret2
   rw[a.o];exact⟨rfl,i.drewN _⟩
 have aa:¬(k:Int)<(l.length:Int):=qo;have a:qh (iU nf d l=(0,0)):=by show _=_;rw[b.o,List.drop_eq_nil_of_le qo];rfl
 clear b;go_wp2;go_ret2
 rw[a.o];exact⟨rfl,i⟩
end
def yF(ths:List Nat):List qc->List qc->Nat×Nat
 | _,[]=>(0,0)
 | seen,e::es=>if seen.any (fun k=>decide (k.name=e.name))=true then(6,e.at_) else if ths.getD e.what 0<=e.x.1 then(3,e.x.2) else yF ths (seen++[e]) es
def jP(nf ng:Nat)(tb tm:Bool)(l:List qc):Nat×Nat:=yF [nf,tb.toNat,tm.toNat,ng] [] l
section
variable {S ok:qD} {w w':qW} {Y:Nat}
theorem Wt:∀(l:List qc) (k o:Nat),o<5->(l.flatMap qc.cells)[k*5+o]?=(l[k]?).bind (fun r=>(qc.cells r)[o]?)
 | [],k,o,_=>qs
 | r::l,0,o,h=>by
  rw[List.flatMap_cons,List.getElem?_append_left (by simp[qc.cells];omega)];simp
 | r::l,k+1,o,h=>by
  rw[List.flatMap_cons,List.getElem?_append_right (by simp[qc.cells];omega)];have:(k+1)*5+o - (qc.cells r).length=k*5+o:=by simp[qc.cells];omega
  rw[this,Wt l k o h];simp
theorem Kb{l:List qc}{v:qv}(h:isRow 72 5 qc.cells ok l w v):∃p c,v=.slice p l.length c/\∀k e,l[k]?=some e->∃g,p=some (qA g 0)/\g<w.heap.size/\l.length<=c/\w.cell? ⟨g,k*5,none⟩=some (qJ (e.at_:Nat))/\w.cell? ⟨g,k*5+1,none⟩=some (.string e.name)/\w.cell? ⟨g,k*5+2,none⟩=some (qJ (e.what:Nat))/\w.cell? ⟨g,k*5+3,none⟩=some (qJ (e.x.1:Nat))/\w.cell? ⟨g,k*5+4,none⟩=some (qJ (e.x.2:Nat)):=by
 obtain⟨p,c,rfl⟩:=Row.form h;refine⟨p,c,rfl,fun k r b=>?_⟩;have X:=(List.getElem?_eq_some_iff.1 b).1;obtain⟨a,d,i,s,j,m,n⟩:=Row.cells h qo;obtain⟨rfl,rfl⟩:p=some (qA a 0)/\c=d:=by cases i;exact⟨rfl,rfl⟩
 have f:∀o,o<5->w.cell? ⟨a,k*5+o,none⟩=(qc.cells r)[o]?:=fun o q=>by
  rw[n _ qo,Wt _ _ _ q,b];rfl
 exact⟨a,rfl,j,m,f 0 qo,f 1 qo,f 2 qo,f 3 qo,f 4 qo⟩
theorem abn{W:qW}{g nf ng a b k:Nat}(h:kY W g [qJ nf,qJ a,qJ b,qJ ng])(X:k<4):W.cell? (qA g k)=some (qJ (([nf,a,b,ng].getD k 0:Nat):Int)):=by
 have:k=0\/k=1\/k=2\/k=3:=qo;rcases this with rfl | rfl | rfl | rfl<;>exact(h _ qs).1
theorem LJ{l:List qc}{lv:qv}{nf cf ng cg:Nat}{pf pg:qO}(b f:Bool)(M:isRow 72 5 qc.cells ok l w lv)(ag:w.cell? (qA Y 13)=some lv)(N:w.cell? (qA Y 1)=some (.slice pf nf cf))(ah:w.cell? (qA Y 12)=some (.slice pg ng cg))(m2:w.cell? (qA Y 2)=some (.bool b))(m7:w.cell? (qA Y 7)=some (.bool f))(h9:l.length<=1000)(hw:∀e∈l,e.what<=3):
  qC 104 #[qP Y] w fun e w'=>e=.returned (.tuple #[qJ ((jP nf ng b f l).1:Nat),qJ ((jP nf ng b f l).2:Nat)])/\qK w w':=by
 have r:Y<w.heap.size:=World.block_lt_of_cell? w ⟨Y,1,none⟩ N;obtain⟨p,c,rfl,-⟩:=Kb M;have HL:=hide M;have HW:=hide hw;clear M hw;go_enter func104,ntmps104;go_wp2_with fail
 have ay:=dX r N;have az:=dX r ah;have O:qK w w.drew:=qr.drew;refine kQ (qK w) 11 ?_;iterate 10 refine pQ O ?_
 refine dx (i:=10) qk (dn rfl (fun K A=>?_));go_simp;have hV:qK w (w.drew.alloc (.cells #[qJ nf,qJ 0,qJ 0,qJ ng] 3)):=O.alloc _;refine A _ _ ⟨.inr hV,?_⟩;clear A K;refine dx (i:=11) qk (dn rfl (fun K A=>?_));go_simp;refine A _ _ ⟨.inl rfl,?_⟩;clear A K;refine dM qk ?_ _;clear ay az;have n:OB (w.alloc (.cells #[qJ nf,qJ 0,qJ 0,qJ ng] 3)).drew Y w.heap.size [qJ nf,qJ 0,qJ 0,qJ ng]:=(OB.new (c:= #[qJ nf,qJ 0,qJ 0,qJ ng]) (t:=3) r rfl).drew;have E:qK w (w.alloc (.cells #[qJ nf,qJ 0,qJ 0,qJ ng] 3)).drew:=(qr.alloc _).drew;obtain⟨s,R⟩:=qE w.heap.size;rw[<-R] at n ⊢;have ai:w.heap.size<=s:=Nat.le_of_eq R.symm;have aL:¬Y=s:=qo;have F:qh (∀W:qW,qK w W->W.cell? (qA Y 13)=some (.slice p l.length c)/\W.cell? (qA Y 2)=some (.bool b)/\W.cell? (qA Y 7)=some (.bool f)/\Y<W.heap.size/\isRow 72 5 qc.cells ok l W (.slice p l.length c)):=fun W B=>⟨(B.cell (p:=(qA Y 13)) r (fun c=>c)).trans ag,(B.cell (p:=(qA Y 2)) r (fun c=>c)).trans m2,(B.cell (p:=(qA Y 7)) r (fun c=>c)).trans m7,Nat.lt_of_lt_of_le r B.size,Row.kept HL.o B (fun _ _ _ c=>c)⟩;clear O hV ag N ah m2 m7 R HL;generalize (w.alloc (.cells #[qJ nf,qJ 0,qJ 0,qJ ng] 3)).drew=W1 at*;obtain⟨-,E2,T,aA,-⟩:=F.o W1 E;have U:=n.lt;obtain⟨R1,F1⟩:=n.blk 1 qs;simp only[List.getD_cons_zero,List.getD_cons_succ] at R1;go_upto_if 23 with fail
 go_cut [] from 19 to 25 (fun W=>OB W Y s [qJ nf,qJ ((b.toNat:Nat):Int),qJ 0,qJ ng]/\qK w W)
 case first=>
  cases b with
  | true=>go_wp2;go_meet;exact⟨n.set 1 (qJ 1),E.new ai _⟩
  | false=>go_wp2;go_meet;exact⟨n,E⟩
 case rest=>
 obtain⟨m,G⟩:=hcut;obtain⟨W2,aB⟩:=qE wc;subst aB;clear R1 F1 E2 T aA n E U;obtain⟨-,-,T,aj,-⟩:=F.o W2 G;have U:=m.lt;obtain⟨R2,F2⟩:=m.blk 2 qs;simp only[List.getD_cons_zero,List.getD_cons_succ] at R2;go_upto_if 30 with fail
 go_cut [] from 26 to 32 (fun W=>OB W Y s [qJ nf,qJ ((b.toNat:Nat):Int),qJ ((f.toNat:Nat):Int),qJ ng]/\qK w W)
 case first=>
  cases f with
  | true=>go_wp2;go_meet;exact⟨m.set 2 (qJ 1),G.new ai _⟩
  | false=>go_wp2;go_meet;exact⟨m,G⟩
 case rest=>
 obtain⟨u,ak⟩:=hcut;obtain⟨W3,aC⟩:=qE wc;subst aC;clear R2 F2 T aj m G U;have am:qh (jP nf ng b f l=yF [nf,b.toNat,f.toNat,ng] (l.take 0) (l.drop 0)):=rfl;have an:=hide u;clear u;go_wp2;go_loopw [5] (fun q wr=>∃k:Nat,k<=l.length/\q=qJ k/\jP nf ng b f l=yF [nf,b.toNat,f.toNat,ng] (l.take k) (l.drop k)/\qK w wr/\OB wr Y s [qJ nf,qJ ((b.toNat:Nat):Int),qJ ((f.toNat:Nat):Int),qJ ng]) (fun q _=>l.length - (intOf q).toNat)
 case atStart=>exact⟨0,qZ,rfl,am.o,ak,an.o⟩
 obtain⟨k,X,rfl,ao,V,n⟩:=hrel;have H:=hide ao;have ap:=hide n;clear ao am an ak n;obtain⟨aq,-,-,lM,ar⟩:=F.o wr V;by_cases Z:k<l.length
 .have aD:(k:Int)<(l.length:Int):=qo;obtain⟨e,v⟩:∃e,l[k]?=some e:=⟨_,List.getElem?_eq_getElem Z⟩;obtain⟨p',c',C,D⟩:=Kb ar;obtain⟨g,hp,hg,aM,Q0,Q1,Q2,Q3,Q4⟩:=D k e v;subst hp;obtain⟨rfl,rfl⟩:p=some (qA g 0)/\c=c':=by cases C;exact⟨rfl,rfl⟩
  have aN:=HW.o e (List.mem_of_getElem? v);have HD:qh (l.drop k=e::l.drop (k+1)/\l.take (k+1)=l.take k++[e]):=by
   have aE:e=l[k]:=by rw[List.getElem?_eq_getElem Z] at v;exact(Option.some.inj v).symm
   exact⟨by rw[aE];exact List.drop_eq_getElem_cons Z,by rw[List.take_add_one,v];rfl⟩
  have I:qh (jP nf ng b f l=if(l.take k).any (fun k=>decide (k.name=e.name))=true then(6,e.at_) else if[nf,b.toNat,f.toNat,ng].getD e.what 0<=e.x.1 then(3,e.x.2) else yF [nf,b.toNat,f.toNat,ng] (l.take (k+1)) (l.drop (k+1))):=by
   show _=_;rw[H.o,HD.o.1,yF,HD.o.2]
  clear C D v ar HD H;go_wp2;have oE:OB (wr.alloc (.cells #[qJ e.at_,.string e.name,qJ e.what,qJ e.x.1,qJ e.x.2] 72)) Y wr.heap.size [qJ e.at_,.string e.name,qJ e.what,qJ e.x.1,qJ e.x.2]:=OB.new (c:= #[qJ e.at_,.string e.name,qJ e.what,qJ e.x.1,qJ e.x.2]) (t:=72) lM rfl;have au:=V.alloc (.cells #[qJ e.at_,.string e.name,qJ e.what,qJ e.x.1,qJ e.x.2] 72);have av:=hide (ap.o.alloc (.cells #[qJ e.at_,.string e.name,qJ e.what,qJ e.x.1,qJ e.x.2] 72));obtain⟨eb,aw⟩:=qE wr.heap.size;rw[<-aw] at oE ⊢;clear Q0 Q1 Q2 Q3 Q4 aq aw ap;go_loopw [7] (fun q aa=>∃j:Nat,j<=k/\q=qJ j/\(l.take k).any (fun k=>decide (k.name=e.name))=((l.take k).drop j).any (fun k=>decide (k.name=e.name))/\qK w aa/\OB aa Y eb [qJ e.at_,.string e.name,qJ e.what,qJ e.x.1,qJ e.x.2]/\OB aa Y s [qJ nf,qJ ((b.toNat:Nat):Int),qJ ((f.toNat:Nat):Int),qJ ng]) (fun q _=>k - (intOf q).toNat)
  case atStart=>exact⟨0,qZ,rfl,rfl,au,oE,av.o⟩
  obtain⟨j,hj,rfl,ax,JJ,ab,m⟩:=hrel;have y:=hide ax;clear ax au oE av;obtain⟨aq,-,-,aj,ac⟩:=F.o wr JJ;obtain⟨⟨B0,-⟩,⟨B1,-⟩,⟨B2,-⟩,⟨B3,-⟩,⟨B4,-⟩⟩:=ab.blk.five;have aO:=ab.lt;by_cases aF:j<k
  .have aG:(j:Int)<(k:Int):=qo;have aP:(j:Int)<(l.length:Int):=qo;obtain⟨d,hd⟩:∃d,l[j]?=some d:=⟨_,List.getElem?_eq_getElem qo⟩;obtain⟨p',c',C,D⟩:=Kb ac;obtain⟨g',hp,aQ,aR,-,Q1,-,-,-⟩:=D j d hd;subst hp;obtain⟨rfl,rfl⟩:g=g'/\c=c':=by cases C;exact⟨rfl,rfl⟩
   have ad:(l.take k)[j]?=some d:=by rw[List.getElem?_take_of_lt aF];exact hd
   have ae:j<(l.take k).length:=by rw[List.length_take];omega
   have J:qh ((l.take k).drop j=d::(l.take k).drop (j+1)):=by
    show _=_;have:d=(l.take k)[j]:=by rw[List.getElem?_eq_getElem ae] at ad;exact(Option.some.inj ad).symm
    rw[this];exact List.drop_eq_getElem_cons ae
   clear C D hd ad ae ac;have hq:=vw d.name e.name;by_cases z:d.name=e.name
   .have HR2:qh (jP nf ng b f l=(6,e.at_)):=by show _=_;rw[I.o,y.o,J.o];simp[z]
    have aH:(d.name.toList==e.name.toList)=true:=by rw[hq];simp[z]
    clear I y J z hq;exact ae9
   have aI:qh ((l.take k).any (fun k=>decide (k.name=e.name))=((l.take k).drop (j+1)).any (fun k=>decide (k.name=e.name))):=by show _=_;rw[y.o,J.o];simp[z]
   have aH:(d.name.toList==e.name.toList)=false:=by rw[hq];simp[z]
   clear y J z hq;go_wp2_with fail
   go_quiet (fail)
   have af:=JJ.drewN nq;have aJ:=ab.drewN nq;have u:=m.drewN nq;go_wp2;go_roundw
   case rel=>exact⟨j+1,qo,by go_num,aI.o,af,aJ,u⟩
   simp[intOf];omega
  have aG:¬(j:Int)<(k:Int):=qo;have L:qh (jP nf ng b f l=if[nf,b.toNat,f.toNat,ng].getD e.what 0<=e.x.1 then(3,e.x.2) else yF [nf,b.toNat,f.toNat,ng] (l.take (k+1)) (l.drop (k+1))):=by
   show _=_;rw[I.o,y.o,List.drop_eq_nil_of_le (by rw[List.length_take];omega)];rfl
  have aS:=abn (k:=e.what) m.blk qo;have aT:=m.lt;have aU:(e.what:Int)<4:=qo;clear I y ac;generalize [nf,b.toNat,f.toNat,ng].getD e.what 0=tw at*;by_cases hbad:tw<=e.x.1
  .have aK:(tw:Int)<=(e.x.1:Int):=qo;have HR2:qh (jP nf ng b f l=(3,e.x.2)):=by show _=_;rw[L.o,if_pos hbad]
   clear L hbad;exact ae9
  have aK:¬(tw:Int)<=(e.x.1:Int):=qo;have HR2:qh (jP nf ng b f l=yF [nf,b.toNat,f.toNat,ng] (l.take (k+1)) (l.drop (k+1))):=by show _=_;rw[L.o,if_neg hbad]
  clear L hbad;go_wp2_with fail
  go_quiet (fail)
  have af:=JJ.drewN nq;have u:=m.drewN nq;go_wp2;go_roundw
  case rel=>exact⟨k+1,qo,by go_num,HR2.o,af,u⟩
  simp[intOf];omega
 have aD:¬(k:Int)<(l.length:Int):=qo;have HR:qh (jP nf ng b f l=(0,0)):=by show _=_;rw[H.o,List.drop_eq_nil_of_le qo];rfl
 clear H;go_wp2;go_ret2
 rw[HR.o];exact⟨rfl,V⟩
end
end Go.Proofs.YtdaafkmhfedkiaaGreat
