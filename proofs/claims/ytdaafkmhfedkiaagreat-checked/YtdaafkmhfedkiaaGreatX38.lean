import Derived.Test.YtdaafkmhfedkiaaGreatX35
import Derived.Test.YtdaafkmhfedkiaaGreatX36
import Derived.Test.YtdaafkmhfedkiaaGreatX37
namespace Go.Proofs.YtdaafkmhfedkiaaGreat
set_option maxHeartbeats 12800000
set_option maxRecDepth 100000
open Go.RowKit Go.Proofs.Tryz
section
variable {S ok Gy:qD} {w w':qW} {x A:Nat} {c:FC} {p:qO} {Z:Bk} {lv:qv} {i:fA} {W:qS} {xx fb:Nat} {ms cs:qV} {pm:qO} {qb nx:Nat} {m:RM} {B:Nat}
theorem ahk:∀op:Fin 256,((dN op.val).toList==[117,110,114,101,97,99,104,97,98,108,101])=decide (op.val=0):=by decide+kernel
theorem ahj:∀op:Fin 256,((dN op.val).toList==[110,111,112])=decide (op.val=1):=by decide+kernel
theorem afx:∀op:Fin 256,((dN op.val).toList==[98,108,111,99,107])=decide (op.val=2):=by decide+kernel
theorem afu:∀op:Fin 256,((dN op.val).toList==[108,111,111,112])=decide (op.val=3):=by decide+kernel
theorem aft:∀op:Fin 256,((dN op.val).toList==[105,102])=decide (op.val=4):=by decide+kernel
theorem ahi:∀op:Fin 256,((dN op.val).toList==[101,108,115,101])=decide (op.val=5):=by decide+kernel
theorem afz:∀op:Fin 256,((dN op.val).toList==[101,110,100])=decide (op.val=11):=by decide+kernel
theorem ado:∀op:Fin 256,((dN op.val).toList==[98,114])=decide (op.val=12):=by decide+kernel
theorem adn:∀op:Fin 256,((dN op.val).toList==[98,114,95,105,102])=decide (op.val=13):=by decide+kernel
theorem adm:∀op:Fin 256,((dN op.val).toList==[98,114,95,116,97,98,108,101])=decide (op.val=14):=by decide+kernel
theorem afy:∀op:Fin 256,((dN op.val).toList==[114,101,116,117,114,110])=decide (op.val=15):=by decide+kernel
theorem adl:∀op:Fin 256,((dN op.val).toList==[99,97,108,108])=decide (op.val=16):=by decide+kernel
theorem adk:∀op:Fin 256,((dN op.val).toList==[99,97,108,108,95,105,110,100,105,114,101,99,116])=decide (op.val=17):=by decide+kernel
theorem afw:∀op:Fin 256,((dN op.val).toList==[100,114,111,112])=decide (op.val=26):=by decide+kernel
theorem afv:∀op:Fin 256,((dN op.val).toList==[115,101,108,101,99,116])=decide (op.val=27):=by decide+kernel
theorem adi:∀op:Fin 256,((dN op.val).toList==[108,111,99,97,108,46,103,101,116])=decide (op.val=32):=by decide+kernel
theorem adh:∀op:Fin 256,((dN op.val).toList==[108,111,99,97,108,46,115,101,116])=decide (op.val=33):=by decide+kernel
theorem adg:∀op:Fin 256,((dN op.val).toList==[108,111,99,97,108,46,116,101,101])=decide (op.val=34):=by decide+kernel
theorem adf:∀op:Fin 256,((dN op.val).toList==[103,108,111,98,97,108,46,103,101,116])=decide (op.val=35):=by decide+kernel
theorem ade:∀op:Fin 256,((dN op.val).toList==[103,108,111,98,97,108,46,115,101,116])=decide (op.val=36):=by decide+kernel
theorem adb:∀op:Fin 256,((dN op.val).toList==[109,101,109,111,114,121,46,115,105,122,101])=decide (op.val=63):=by decide+kernel
theorem ada:∀op:Fin 256,((dN op.val).toList==[109,101,109,111,114,121,46,103,114,111,119])=decide (op.val=64):=by decide+kernel
theorem afs:∀op:Fin 256,((dN op.val).toList==[105,51,50,46,99,111,110,115,116])=decide (op.val=65):=by decide+kernel
theorem afr:∀op:Fin 256,((dN op.val).toList==[105,54,52,46,99,111,110,115,116])=decide (op.val=66):=by decide+kernel
theorem aei:∀op:Fin 256,((dN op.val).toList==[105,51,50,46,119,114,97,112,95,105,54,52])=decide (op.val=167):=by decide+kernel
theorem aeh:∀op:Fin 256,((dN op.val).toList==[105,54,52,46,101,120,116,101,110,100,95,105,51,50,95,115])=decide (op.val=172):=by decide+kernel
theorem aeg:∀op:Fin 256,((dN op.val).toList==[105,54,52,46,101,120,116,101,110,100,95,105,51,50,95,117])=decide (op.val=173):=by decide+kernel
theorem abk:∀op:Fin 256,37<=op.val/\(op.val∈iL\/rF op.val=true)->3<(dN op.val).size:=by decide+kernel
theorem Vb{l:List fA}{v:qv}(h:gu 79 9 kW ok l w v):∃p c,v=.slice p l.length c/\∀k r,l[k]?=some r->∃g lv,p=some (qA g 0)/\g<w.heap.size/\l.length<=c/\(∀o,o<9->w.cell? ⟨g,k*9+o,none⟩=(r.cells lv)[o]?)/\isRow 37 2 fU ok r.dF w lv:=by
 obtain⟨css,a,b⟩:=h;obtain⟨p,c,rfl⟩:=Row.form a;refine⟨p,c,rfl,fun k r X=>?_⟩;have y:=(List.getElem?_eq_some_iff.1 X).1;obtain⟨cs,e,⟨lv,rfl,f⟩,-⟩:=b.get X;obtain⟨d,j,n,z,q,s,t⟩:=Row.cells a qo;obtain⟨rfl,rfl⟩:p=some (qA d 0)/\c=j:=by cases n;exact⟨rfl,rfl⟩
 exact⟨d,lv,rfl,q,s,fun o u=>by rw[t _ qo];exact Each.flat b e u,f⟩
theorem oU.kept{Y:Nat}(h:oU w xx Y fb ms cs pm qb m nx)(X:Kept S w w')(a:∀g,g<w.heap.size->¬S g):oU w' xx Y fb ms cs pm qb m nx:=
 {h with
  ob:=h.ob.kept X (a _ h.ob.lt)
  c:=h.c.move X (fun g d e=>⟨a g d,e⟩)
  fp:=fun b=>⟨(h.fp b).1,(h.fp b).2.1.kept X (a _ (h.fp b).2.1.lt),(h.fp b).2.2⟩
  fc:=h.fc.move X (fun g d e=>⟨a g d,e⟩)}
theorem dZ.Zt(h:dZ w x c p A Z)(n:Nat):dZ (w.setCell (qA x 6) (qJ n)) x c p A {Z with now:=n}:=
 h.EX (J:={Z with now:=n}) (qr.own _) (h.blk.set 6 (qJ n)) rfl h.hi h.big h.code
theorem dZ.first(c:FC)(t:TypeId):dZ (w.alloc (.cells (D8 c ⟨⟨#[]⟩,[],none,0⟩ (qN)).toArray t)) w.heap.size c none 0 ⟨⟨#[]⟩,[],none,0⟩:=
 ⟨kY.new w (D8 c ⟨⟨#[]⟩,[],none,0⟩ (qN)).toArray t,Row.nil _ _ _ _,trivial,qZ,fun e h=>by cases h⟩
theorem zo(h:Z.err=none):lu Z.err=0:=by rw[h];rfl
theorem dZ.CR(h:dZ w x c p A Z)(a:Z.err≠none):lu Z.err≠0:=fun d=>a ((Ed h.code).2 d)
end
section
variable {S ok Gy:qD} {w w':qW} {x A:Nat} {c:FC} {p:qO} {Z:Bk} {lv:qv} {i:fA} {W:qS} {xx fb:Nat} {ms cs:qV} {pm:qO} {qb nx:Nat} {m:RM} {S9:qD}
theorem kY.seven{g:Nat}{a b d e f j k:qv}(h:kY w g [a,b,d,e,f,j,k]):(w.cell? (qA g 0)=some a/\w.frozen? (qA g 0)=false)/\(w.cell? (qA g 1)=some b/\w.frozen? (qA g 1)=false)/\(w.cell? (qA g 2)=some d/\w.frozen? (qA g 2)=false)/\(w.cell? (qA g 3)=some e/\w.frozen? (qA g 3)=false)/\(w.cell? (qA g 4)=some f/\w.frozen? (qA g 4)=false)/\(w.cell? (qA g 5)=some j/\w.frozen? (qA g 5)=false)/\(w.cell? (qA g 6)=some k/\w.frozen? (qA g 6)=false):=
 ⟨h 0 qs,h 1 qs,h 2 qs,h 3 qs,h 4 qs,h 5 qs,h 6 qs⟩
theorem ab3{l:List fA}{v:qv}(h:gu 79 9 kW ok l w v):l.length<=maxLen:=by
 obtain⟨css,a,d⟩:=h;rcases a.own.2 with⟨b,e⟩ | ⟨g',f,g,b,_,_,U,L,_⟩
 .omega
 omega
theorem Yf{Y f:Nat}(hm:oU w xx Y fb ms cs pm qb m nx)(hf:f<m.tys.length)(hd:m.ds.length=m.tys.length)(hr:Ot m (yE m Y f) (m.ds.getD f ⟨⟨#[]⟩,[],0⟩).code (wm (yE m Y f)))(aR:∀k,(gy m.dm k).1.size<=8/\(gy m.dm k).2.size<=8):
  qC 65 #[qP Y,qJ f] w fun e w'=>e=.returned (.tuple #[qJ ((codeF m Y f).1:Nat),qJ ((codeF m Y f).2:Nat)])/\qK w w':=by
 obtain⟨ty,aS⟩:∃ty,m.tys[f]?=some ty:=⟨_,List.getElem?_eq_getElem hf⟩;obtain⟨d,aJ⟩:∃d,m.ds[f]?=some d:=⟨_,List.getElem?_eq_getElem qo⟩;have aK:m.tys≠[]:=fun e=>by rw[e] at hf;exact absurd hf qs
 obtain⟨rfl,oF,-⟩:=hm.fp aK;obtain⟨c0,c1,ba,-⟩:=hm.fc.each f ty aS;obtain⟨c2,aT,c4⟩:=ba d aJ;have bP:=hm.fc.len;obtain⟨pc,cc,c3,bb⟩:=Vb aT;have cp:d.code.length<=9223372036854775807:=by have:=ab3 aT;unfold maxLen at this;omega
 have bQ:=hm.wZ d (List.mem_of_getElem? aJ);have e1:m.tys.getD f (0,0)=ty:=by rw[List.getD_eq_getElem?_getD,aS];rfl
 have e2:m.ds.getD f ⟨⟨#[]⟩,[],0⟩=d:=by rw[List.getD_eq_getElem?_getD,aJ];rfl
 obtain⟨⟨D,E⟩,ap⟩:=qF (gy m.dm ty.1);have bc:=aR ty.1;rw[ap] at bc;simp only at bc;obtain⟨c,hc⟩:∃c:FC,c=⟨Y,f,D++d.locals,E⟩:=⟨_,rfl⟩;have aU:yE m Y f=c:=by unfold yE;rw[e1,e2,ap,hc]
 have bd:c.Y=Y:=by rw[hc]
 have be:c.dH=E:=by rw[hc]
 have aV:c.kinds=D++d.locals:=by rw[hc]
 have bR:c.f=f:=by rw[hc]
 have bf:c.kinds.size<=1000:=by rw[aV,ByteArray.size_append];omega
 have ab:qh (codeF m Y f=(lu (oL d.end_ (lX m c d.code (wm c))).err,pz (oL d.end_ (lX m c d.code (wm c))).err)):=by show _=_;unfold codeF Ki;rw[aU,e2];rfl
 have bg:qh (YM m c d.code (wm c)):=by have:=hr.o;rw[aU,e2] at this;exact this
 obtain⟨B,bS⟩:=qE w.heap.size;have ay:qh (∀V,Kept (fun g=>B<=g) w V->oU V xx Y fb ms cs (some (qA fb 0)) qb m nx):=fun V u=>hm.kept u (fun g O e=>qo);have bh:qh (∀k r,d.code[k]?=some r->∃g lv,pc=some (qA g 0)/\d.code.length<=cc/\∀V,Kept (fun g=>B<=g) w V->g<V.heap.size/\(∀o,o<9->V.cell? ⟨g,k*9+o,none⟩=(r.cells lv)[o]?)/\isRow 37 2 fU (fun q=>q<B) r.dF V lv):=fun k r X=>by
  obtain⟨g,lv,U,L,h3,h4,h5⟩:=bb k r X;have bi:¬B<=g:=qo;refine⟨g,lv,U,h3,fun V u=>⟨Nat.lt_of_lt_of_le L u.size,fun o ho=>(u.cell (p:=⟨g,k*9+o,none⟩) L bi).trans (h4 o ho),?_⟩⟩;exact Row.kept (Row.DN h5 (ok':=fun q=>q<B) (fun q hq=>by rw[bS];exact(h5.own.lt q hq).2)) u (fun q _ hq e=>qo)
 obtain⟨n5,bj⟩:∃t,cs.getD (f*7+5) undef=.string t:=(hm.fc.nm (f*7+5) qo).1 qo;obtain⟨p6,n6,c6,bk⟩:∃p n c,cs.getD (f*7+6) undef=.slice p n c:=(hm.fc.nm (f*7+6) qo).2 qo;have bT:qh (∀V,Kept (fun g=>B<=g) w V->V.cell? (qA Y 1)=some (.slice (some (qA fb 0)) m.tys.length qb)/\Y<V.heap.size/\fb<V.heap.size/\V.cell? ⟨fb,f*7,none⟩=some (qJ ty.1)/\V.cell? ⟨fb,f*7+1,none⟩=some (qJ ty.2)/\V.cell? ⟨fb,f*7+2,none⟩=some (.string d.locals)/\V.cell? ⟨fb,f*7+3,none⟩=some (.slice pc d.code.length cc)/\V.cell? ⟨fb,f*7+4,none⟩=some (qJ d.end_)/\V.cell? ⟨fb,f*7+5,none⟩=some (.string n5)/\V.cell? ⟨fb,f*7+6,none⟩=some (.slice p6 n6 c6)):=fun V u=>by
  have R:=ay.o V u;obtain⟨-,M,-⟩:=R.fp aK;exact⟨(R.cell (k:=1) qo).trans (congrArg some R.fv),R.ob.lt,M.lt,(M.cell qo c0).1,(M.cell qo c1).1,(M.cell qo c2).1,(M.cell qo c3).1,(M.cell qo c4).1,(M.cell qo bj).1,(M.cell qo bk).1⟩
 have bm:qh (qC 105 #[qP Y,qJ f] w fun e w'=>e=.returned (.agg #[.string D,.string E])/\qK w w'):=by
  have v:=yh (w:=w) (Y:=Y) (fb:=fb) (f:=f) (nf:=m.tys.length) (A:=qb) (n:=ty.1) (hm.cell (k:=0) qo) hm.c.dm ((hm.cell (k:=1) qo).trans (congrArg some hm.fv)) hf (oF.cell (k:=f*7) qo c0).1;rw[ap] at v;exact v
 have bn:qh (∀V,Kept (fun g=>B<=g) w V->qC 106 #[qP Y,qJ f] V fun e w'=>e=.returned (.string (D++d.locals))/\qK V w'):=fun V u=>by
  have R:=ay.o V u;obtain⟨-,M,-⟩:=R.fp aK;have v:=FQ (w:=V) (Y:=Y) (fb:=fb) (f:=f) (nf:=m.tys.length) (A:=qb) (n:=ty.1) (lc:=d.locals) (R.cell (k:=0) qo) R.c.dm ((R.cell (k:=1) qo).trans (congrArg some R.fv)) hf (M.cell (k:=f*7) qo c0).1 (M.cell (k:=f*7+2) qo c2).1 (by rw[ap];show D.size+d.locals.size<=1000;omega);rw[ap] at v;exact v
 have cq:(f:Int)<(m.tys.length:Int):=qo;have bU:Y<w.heap.size:=hm.ob.lt;have bV:=hide hc;have aL:=hide bd;have bo:=hide be;have cr:=hide aV;have bW:=hide bf;have bp:=hide aR;clear hm hd hr aS aJ aK oF c0 c1 ba c2 aT c4 bP c3 bb e1 e2 ap aU bd be aV bR bj bk bf bQ aR hc;go_enter func65,ntmps65;go_wp2_with fail
 refine bm.o.mono ?_;rintro e w1 ⟨rfl,aM⟩;have bq:Kept (fun g=>B<=g) w w1:=aM.mono (fun _ _ d=>d.elim);have bu:Y<w1.heap.size:=Nat.lt_of_lt_of_le bU aM.size;have oT:OB (w1.alloc (.cells #[.string D,.string E] 83)) Y w1.heap.size [.string D,.string E]:=OB.new (c:= #[.string D,.string E]) (t:=83) bu rfl;have T:=bq.alloc (.cells #[.string D,.string E] 83);have bi:B<=w1.heap.size:=by have:=aM.size;omega
 clear bm bq aM;go_upto_region 2 with fail
 generalize (w1.alloc (.cells #[.string D,.string E] 83))=W2 at*;generalize w1.heap.size=gt at*;obtain⟨T1,-⟩:=oT.blk 1 qs;simp only[List.getD_cons_zero,List.getD_cons_succ] at T1;have lT:=oT.lt;have bX:=dX lT T1;have az:qK W2 W2.drew:=qr.drew;refine kQ (qK W2) 9 ?_;iterate 4 refine pQ az ?_
 refine tk 5 [8,7,6] az ?_;refine tk 6 [8,7] az ?_;refine dx (i:=4) qk (dn rfl (fun K hK=>?_));refine eG (f:=106) (args:= #[qP Y,qJ f]) (by rfl) (by go_simp) (bn.o _ T.drew) ?_;rintro e5 J ⟨rfl,aq⟩;have ag:=az.trans aq;refine⟨_,rfl,hK _ _ ⟨.inr ag,?_⟩⟩;clear hK K;refine tk 7 [8] ag ?_;refine dx (i:=8) qk (dn rfl (fun K hK=>?_));go_simp;refine hK _ _ ⟨.inr (ag.alloc _),?_⟩;clear hK K;refine dx (i:=9) qk (dn rfl (fun K hK=>?_));go_simp;refine hK _ _ ⟨.inl rfl,?_⟩;clear hK K;refine dM qk ?_ _;clear bX;have aa:Kept (fun g=>B<=g) w J:=T.trans (ag.mono (fun _ _ d=>d.elim));have aA:dZ (J.alloc (.cells #[qP Y,qJ f,.string ⟨#[]⟩,qN,qJ 0,qJ 0,qJ 0,.string (D++d.locals),.string E] 165)) J.heap.size c none 0 ⟨⟨#[]⟩,[],none,0⟩:=by
  have:=dZ.first (w:=J) c 165;rw[bV.o] at this ⊢;exact this
 have aB:=aa.alloc (.cells #[qP Y,qJ f,.string ⟨#[]⟩,qN,qJ 0,qJ 0,qJ 0,.string (D++d.locals),.string E] 165);have aW:OB (J.alloc (.cells #[qP Y,qJ f,.string ⟨#[]⟩,qN,qJ 0,qJ 0,qJ 0,.string (D++d.locals),.string E] 165)) J.heap.size gt [.string D,.string E]:=by
  have q:=(oT.kept ag (fun c=>c)).alloc (.cells #[qP Y,qJ f,.string ⟨#[]⟩,qN,qJ 0,qJ 0,qJ 0,.string (D++d.locals),.string E] 165);have hl:gt<J.heap.size:=(oT.kept ag (fun c=>c)).lt;exact⟨q.blk,q.lt,qo⟩
 have ac:B<=J.heap.size:=by have:=aa.size;omega
 clear az ag aq aa T oT T1 lT bu bn;go_upto_region 3 with fail
 generalize (J.alloc (.cells #[qP Y,qJ f,.string ⟨#[]⟩,qN,qJ 0,qJ 0,qJ 0,.string (D++d.locals),.string E] 165))=W6 at*;generalize J.heap.size=x at*;obtain⟨T1,-⟩:=aW.blk 1 qs;simp only[List.getD_cons_zero,List.getD_cons_succ] at T1;have lT:=aW.lt;go_wp2_with fail
 refine(CP aA ⟨#[99,111,100,101]⟩ ⟨#[]⟩ E (by show 0+0<=_;omega) (by show 0<=_;omega)).mono ?_;rintro e w7 ⟨rfl,⟨p7,bv,aX,bw⟩,aC⟩;have aY:Kept (fun g=>B<=g) w w7:=aB.trans (o7 aC (fun k d=>d.elim (fun e=>e▸ac) (fun e=>by cases e)));have aZ:dZ w7 x c p7 bv (wm c):=by
  unfold wm;rw[bo.o];exact aX
 have bz:=aX.lt;have a0:uP (fun g=>B<=g/\g≠w7.heap.size) (w7.alloc (.cells #[qJ ty.1,qJ ty.2,.string d.locals,.slice pc d.code.length cc,qJ d.end_,.string n5,.slice p6 n6 c6] 70)) x c (wm c):=⟨p7,bv,aZ.alloc _,fun g O=>⟨(bw g (mZ.trans O)).elim (fun e=>by cases e) (fun h=>by have:=aB.size;omega),fun e=>by have:=(aZ.row.own.lt g O).2;omega⟩⟩;clear T1 lT aW aA aB aC aX aZ bw;have oG:OB (w7.alloc (.cells #[qJ ty.1,qJ ty.2,.string d.locals,.slice pc d.code.length cc,qJ d.end_,.string n5,.slice p6 n6 c6] 70)) x w7.heap.size [qJ ty.1,qJ ty.2,.string d.locals,.slice pc d.code.length cc,qJ d.end_,.string n5,.slice p6 n6 c6]:=OB.new (c:= #[qJ ty.1,qJ ty.2,.string d.locals,.slice pc d.code.length cc,qJ d.end_,.string n5,.slice p6 n6 c6]) (t:=70) bz rfl;have bA:=aY.alloc (.cells #[qJ ty.1,qJ ty.2,.string d.locals,.slice pc d.code.length cc,qJ d.end_,.string n5,.slice p6 n6 c6] 70);obtain⟨gf,a1⟩:=qE w7.heap.size;rw[<-a1] at oG a0;have bY:B<=x/\x≠gf:=⟨ac,qo⟩;obtain⟨Q0,lM,lF,Q1,Q2,Q3,Q4,Q5,Q6,Q7⟩:=bT.o w7 aY;go_wp2;rw[<-a1];clear Q0 lM lF Q1 Q2 Q3 Q4 Q5 Q6 Q7 aY a1 bz;go_loopw [9] (fun q wr=>∃(k:Nat) (fs:Bk),k<=d.code.length/\q=qJ k/\uP (fun g=>B<=g/\g≠gf) wr x c fs/\OB wr x gf [qJ ty.1,qJ ty.2,.string d.locals,.slice pc d.code.length cc,qJ d.end_,.string n5,.slice p6 n6 c6]/\Kept (fun g=>B<=g) w wr/\lX m c d.code (wm c)=lX m c (d.code.drop k) fs/\Ot m c (d.code.drop k) fs) (fun q _=>d.code.length - (intOf q).toNat)
 case atStart=>exact⟨0,wm c,qZ,rfl,a0,oG,bA,rfl,⟨bg.o⟩⟩
 obtain⟨k,fs,X,rfl,bZ,aD,ad,v,bB⟩:=hrel;obtain⟨p,A,hI,ho⟩:=bZ;have ae:=hide v;have ar:=hide bB;have aE:=hide ho;clear v bB ho a0 oG bA bg;obtain⟨-,-,-,⟨G3,-⟩,⟨G4,-⟩,-⟩:=aD.blk.seven;have lG:=aD.lt;obtain⟨-,-,-,-,⟨I,-⟩,⟨I5,-⟩,⟨I6,J6⟩,-,-⟩:=hI.blk.gI;have a2:=hI.lt;by_cases b0:k<d.code.length
 .have b1:(k:Int)<(d.code.length:Int):=qo;by_cases C:fs.err=none
  .rw[zo C] at I;obtain⟨i,hi⟩:∃i,d.code[k]?=some i:=⟨_,List.getElem?_eq_getElem b0⟩;have a3:d.code.drop k=i::d.code.drop (k+1):=drop_cons hi;have a4:=ar.o.o;rw[a3] at a4;obtain⟨au,b2,b3,bC⟩:=a4 C;obtain⟨bD,b4,j,bE⟩:=b2;have ah:qh (lX m c d.code (wm c)=lX m c (d.code.drop (k+1)) (oq m c i fs)):=by
    show _=_;rw[ae.o,a3];conv=>lhs;unfold lX
    rw[if_neg (fun d=>d C)]
   have av:qh (Ot m c (d.code.drop (k+1)) (oq m c i fs)):=⟨bC⟩;obtain⟨g,lv,b5,ct,u⟩:=bh.o k i hi;obtain⟨pl,cl,b6,-⟩:=tO (u wr ad).2.2;subst b5;subst b6;have HC:qh (∀V,Kept (fun g=>B<=g) w V->g<V.heap.size/\isRow 37 2 fU (fun q=>q<B) i.dF V (.slice pl i.dF.length cl)/\V.cell? ⟨g,k*9,none⟩=some (qJ i.op)/\V.cell? ⟨g,k*9+1,none⟩=some (qJ i.at_)/\V.cell? ⟨g,k*9+2,none⟩=some (qJ i.xn)/\V.cell? ⟨g,k*9+3,none⟩=some (qJ i.pX)/\V.cell? ⟨g,k*9+4,none⟩=some (qJ i.off)/\V.cell? ⟨g,k*9+5,none⟩=some (qJ i.val)/\V.cell? ⟨g,k*9+6,none⟩=some (.slice pl i.dF.length cl)/\V.cell? ⟨g,k*9+7,none⟩=some (qJ i.dH)/\V.cell? ⟨g,k*9+8,none⟩=some (qB i.kind)):=fun V F=>⟨(u V F).1,(u V F).2.2,(u V F).2.1 0 qo,(u V F).2.1 1 qo,(u V F).2.1 2 qo,(u V F).2.1 3 qo,(u V F).2.1 4 qo,(u V F).2.1 5 qo,(u V F).2.1 6 qo,(u V F).2.1 7 qo,(u V F).2.1 8 qo⟩;have b7:=hide au;have a5:=hide bD;have bF:=hide bE;obtain⟨lg,-,C0,C1,-⟩:=HC.o wr ad;clear u hi a3 a4 au b3 bC ae ar bh bD bE;go_wp2_with fail
   refine(yg _ i.op j).mono ?_;rintro e w2 ⟨rfl,aN⟩;have T:=ad.trans (aN.mono (S':=fun g=>B<=g) (fun _ _ d=>d.elim));have ai:=hI.kept aN (fun c=>c) (fun _ _ c=>c);have aF:=aD.kept aN (fun c=>c);obtain⟨W,hW⟩:=qF (dN i.op);rw[hW];have s:=hide hW;clear hW lg C0 C1 G3 G4 lG I I5 I6 J6 a2 hI ad aD aN;obtain⟨lg,-,-,C1,-⟩:=HC.o w2 T;obtain⟨-,-,-,⟨G3,-⟩,-⟩:=aF.blk.seven;have lG:=aF.lt;obtain⟨-,-,-,-,-,-,⟨I6,J6⟩,-,-⟩:=ai.blk.gI;have b8:=ai.lt;have aw:=ai.Zt i.at_;have aj:=T.setCell (p:=(qA x 6)) (fun _=>ac) (qJ i.at_);have aO:=aF.other (o:=6) (fun e=>aF.ne e.symm) (qJ i.at_);go_upto_region 10 with fail
   clear lg C1 G3 lG I6 J6 b8 ai T aF;generalize (w2.setCell (qA x 6) (qJ i.at_))=W3 at*;obtain⟨lg,bG,C0,C1,C2,C3,C4,C5,C6,C7,C8⟩:=HC.o W3 aj;obtain⟨-,-,-,⟨G3,-⟩,-⟩:=aO.blk.seven;have lG:=aO.lt;have b9:x≠c.Y:=by rw[aL.o];omega
   have v:=Pz (lv:=.slice pl i.dF.length cl) (Gy:=fun q=>q<B) (m:=m) (W:=W) aw (by rw[aL.o];exact ay.o W3 aj) a5.o bG (fun g O=>qo) qo (by rw[<-s.o];exact afx ⟨i.op,j⟩) (by rw[<-s.o];exact afu ⟨i.op,j⟩) (by rw[<-s.o];exact aft ⟨i.op,j⟩) (by rw[<-s.o];exact ado ⟨i.op,j⟩) (by rw[<-s.o];exact adn ⟨i.op,j⟩) (by rw[<-s.o];exact adm ⟨i.op,j⟩) (by rw[<-s.o];exact adl ⟨i.op,j⟩) (by rw[<-s.o];exact adi ⟨i.op,j⟩) (by rw[<-s.o];exact adh ⟨i.op,j⟩) (by rw[<-s.o];exact adg ⟨i.op,j⟩) (by rw[<-s.o];exact adf ⟨i.op,j⟩) (by rw[<-s.o];exact ade ⟨i.op,j⟩) (by rw[<-s.o];exact adk ⟨i.op,j⟩) (by rw[<-s.o];exact adb ⟨i.op,j⟩) (by rw[<-s.o];exact ada ⟨i.op,j⟩) b9;unfold fA.cells at v;have af:=hide v;clear v bG;go_wp2_with fail
   refine af.o.mono ?_;rintro e w4 ⟨rfl,ak,a6⟩;have ax:=aj.trans (o7 a6 (uT ac));have aG:=aO.call a6;clear af lg C0 C1 C2 C3 C4 C5 C6 C7 C8 G3 lG aw aj aO a6;obtain⟨-,-,-,-,⟨I,-⟩,⟨I5,-⟩,-,-,-⟩:=ak.blk.gI;have cd:=ak.lt;by_cases am:(eY m c i {fs with now:=i.at_}).err=none
   .have hix:=aeP am;rw[hix.same] at ak I I5;have aH:oq m c i fs=if i.op∈vF then jw m c i {fs with now:=i.at_} else kD m c i {fs with now:=i.at_}:=by
     unfold oq;rw[hix.same,if_neg (fun d=>d C)]
    have bH:({fs with now:=i.at_}:Bk).err=none:=C;have a7:rR {fs with now:=i.at_}:=b7.o;rw[zo bH] at I;rw[aH] at ah av;clear am aH C bH;generalize ({fs with now:=i.at_}:Bk)=s4 at*;have an:=hide hix;have bI:=hide a7;clear hix;obtain⟨lg,bJ,C0,C1,C2,C3,C4,C5,C6,C7,C8⟩:=HC.o w4 ax;obtain⟨-,-,-,⟨G3,-⟩,-⟩:=aG.blk.seven;have lG:=aG.lt;have v:=RN (S9:=fun g=>B<=g/\g≠gf) (lv:=.slice pl i.dF.length cl) (Gy:=fun q=>q<B) (m:=m) (c:=c) (W:=W) ⟨p,A,ak,fun g O=>aE.o g (mZ.trans O)⟩ bY a7 (fun V F=>by rw[aL.o];exact ay.o V (ax.trans (F.mono (fun _ _ d=>d.1)))) a5.o bJ (fun g O d=>qo) b4 (fun g O=>⟨by have:=ax.size;omega,by have:=aG.lt;omega⟩) (by rw[<-s.o];exact ahk ⟨i.op,j⟩) (by rw[<-s.o];exact ahj ⟨i.op,j⟩) (by rw[<-s.o];exact afx ⟨i.op,j⟩) (by rw[<-s.o];exact afu ⟨i.op,j⟩) (by rw[<-s.o];exact aft ⟨i.op,j⟩) (by rw[<-s.o];exact ahi ⟨i.op,j⟩) (by rw[<-s.o];exact afz ⟨i.op,j⟩) (by rw[<-s.o];exact ado ⟨i.op,j⟩) (by rw[<-s.o];exact adn ⟨i.op,j⟩) (by rw[<-s.o];exact adm ⟨i.op,j⟩) (by rw[<-s.o];exact afy ⟨i.op,j⟩) s.o.symm (by rw[bo.o];omega) bp.o (fun d=>(an.o.br d).1) (fun d=>(an.o.br (.inr (.inr d))).2) an.o.blk;unfold fA.cells at v;have af:=hide v;clear v bJ a7;go_wp2_with fail
    refine af.o.mono ?_;rintro e J ⟨rfl,aP,aq⟩;have aa:=ax.trans (aq.mono (S':=fun g=>B<=g) (fun _ _ d=>d.1));have aI:=aG.kept aq (fun d=>d.2 rfl);clear af lg C0 C1 C2 C3 C4 C5 C6 C7 C8 G3 lG ak ax aG aq I I5 cd;by_cases ao:i.op∈vF
    .rw[if_pos ao] at aP ah av;rw[decide_eq_true ao];clear ao;go_wp2;go_roundw
     case rel=>exact⟨k+1,_,qo,by go_num,aP,aI,aa,ah.o,av.o⟩
     simp[intOf];omega
    rw[if_neg ao] at aP ah av;rw[decide_eq_false ao];have ce:¬(i.op=0\/i.op=1\/i.op=2\/i.op=3\/i.op=4\/i.op=5\/i.op=11\/i.op=12\/i.op=13\/i.op=14\/i.op=15):=fun d=>ao (by simp[vF];omega);have aC:i.op=16\/i.op=17\/i.op=26\/i.op=27\/(32<=i.op/\i.op<=36)\/37<=i.op:=by
     rcases bF.o with d | d
     .simp[iL] at d;omega
     simp[rF] at d;omega
    obtain⟨p5,cf,a8,bK⟩:=aP;have ch:=hide bK;obtain⟨lg,ci,C0,C1,C2,C3,C4,C5,C6,C7,C8⟩:=HC.o J aa;obtain⟨-,-,-,⟨G3,-⟩,-⟩:=aI.blk.seven;have lG:=aI.lt;have cj:=a8.lt;have v:=UL (lv:=.slice pl i.dF.length cl) (m:=m) (c:=c) (W:=W) a8 bI.o.2.2.1 (fun V F=>by rw[aL.o];exact ay.o V (aa.trans (o7 F (uT ac)))) a5.o ⟨_,_,_,rfl⟩ (Nat.le_trans bI.o.1 qo) bp.o bW.o (by rw[<-s.o];exact adl ⟨i.op,j⟩) (by rw[<-s.o];exact adk ⟨i.op,j⟩) (by rw[<-s.o];exact afw ⟨i.op,j⟩) (by rw[<-s.o];exact afv ⟨i.op,j⟩) (by rw[<-s.o];exact adi ⟨i.op,j⟩) (by rw[<-s.o];exact adh ⟨i.op,j⟩) (by rw[<-s.o];exact adg ⟨i.op,j⟩) (by rw[<-s.o];exact adf ⟨i.op,j⟩) (by rw[<-s.o];exact ade ⟨i.op,j⟩) (fun d=>by rw[<-s.o];exact abk ⟨i.op,j⟩ ⟨d,bF.o⟩) (by rw[<-s.o];rfl) (by rw[<-s.o];exact adb ⟨i.op,j⟩) (by rw[<-s.o];exact afs ⟨i.op,j⟩) (by rw[<-s.o];exact afr ⟨i.op,j⟩) (by rw[<-s.o];exact ada ⟨i.op,j⟩) (by rw[<-s.o];exact aei ⟨i.op,j⟩) (by rw[<-s.o];exact aeh ⟨i.op,j⟩) (by rw[<-s.o];exact aeg ⟨i.op,j⟩) j aC an.o.call an.o.ind an.o.loc an.o.glb;unfold fA.cells at v;have af:=hide v;clear v ci ao ce aC bK;go_wp2_with fail
    refine af.o.mono ?_;rintro e w6 ⟨rfl,aA,a9⟩;have aB:=aa.trans (o7 a9 (uT ac));have ck:=aI.call a9;have cm:uP (fun g=>B<=g/\g≠gf) w6 x c (kD m c i s4):=⟨p5,cf,aA,fun g O=>ch.o g (mZ.trans O)⟩;clear af lg C0 C1 C2 C3 C4 C5 C6 C7 C8 G3 lG a8 aa aI a9 aA cj;go_wp2;go_roundw
    case rel=>exact⟨k+1,_,qo,by go_num,cm,ck,aB,ah.o,av.o⟩
    simp[intOf];omega
   have aH:oq m c i fs=eY m c i {fs with now:=i.at_}:=by
    unfold oq;rw[if_pos am]
   have N:qh (codeF m Y f=(lu (eY m c i {fs with now:=i.at_}).err,pz (eY m c i {fs with now:=i.at_}).err)):=by
    show _=_;rw[ab.o,ah.o,aH,Bn am];unfold oL;rw[if_neg am]
   clear aH C ah av ab;generalize eY m c i {fs with now:=i.at_}=s4 at*;have hz:=ak.CR am;have HK9:=hide (ax.mono (S':=fun _=>False) (fun k X h=>absurd h qo));obtain⟨z,G⟩:=qF (lu s4.err);obtain⟨y,H⟩:=qF (pz s4.err);rw[G] at I hz;rw[H] at I5;have HE2:qh (codeF m Y f=(z,y)):=by show _=_;rw[N.o,G,H]
   have tz:(((z:Nat):Int)==0)=false:=by simp only[beq_eq_false_iff_ne,ne_eq];omega
   have bL:(((z:Nat):Int) !=0)=true:=by simp only[bne_iff_ne,ne_eq];omega
   have bM:¬((z:Nat):Int)=0:=qo;clear hz G H N am ak aE;exact acZ
  have N:qh (codeF m Y f=(lu fs.err,pz fs.err)):=by
   show _=_;rw[ab.o,ae.o,Bn C];unfold oL;rw[if_neg C]
  have hz:=hI.CR C;have HK9:=hide (ad.mono (S':=fun _=>False) (fun k X h=>absurd h qo));obtain⟨z,G⟩:=qF (lu fs.err);obtain⟨y,H⟩:=qF (pz fs.err);rw[G] at I hz;rw[H] at I5;have HE2:qh (codeF m Y f=(z,y)):=by show _=_;rw[N.o,G,H]
  have tz:(((z:Nat):Int)==0)=false:=by simp only[beq_eq_false_iff_ne,ne_eq];omega
  have bL:(((z:Nat):Int) !=0)=true:=by simp only[bne_iff_ne,ne_eq];omega
  have bM:¬((z:Nat):Int)=0:=qo;clear hz G H N ab ae ar C hI aE;exact acZ
 have b1:¬(k:Int)<(d.code.length:Int):=qo;have aQ:d.code.drop k=[]:=List.drop_eq_nil_of_le qo;by_cases C:fs.err=none
 .have au:rR fs:=by have:=ar.o.o;rw[aQ] at this;exact this C
  have N:qh (codeF m Y f=(lu (iq {fs with now:=d.end_}).err,pz (iq {fs with now:=d.end_}).err)):=by
   show _=_;have cn:oL d.end_ (lX m c (d.code.drop k) fs)=iq {fs with now:=d.end_}:=by
    rw[aQ];show oL d.end_ fs=_;unfold oL;rw[if_pos C]
   rw[ab.o,ae.o,cn]
  rw[zo C] at I;obtain⟨b,bs,j⟩:∃b bs,fs.opn=b::bs:=by
   cases hq:fs.opn with
   | nil=>exact absurd hq au.2.2.1
   | cons b bs=>exact⟨b,bs,rfl⟩
  have cu:=au.2.2.2 b (by rw[j];simp);have ai:=hI.Zt d.end_;have T:=ad.setCell (p:=(qA x 6)) (fun _=>ac) (qJ d.end_);have co:qh (({fs with now:=d.end_}:Bk).opn=b::bs):=j;clear ab ae ar C aQ au j;go_upto_region 17 with fail
  generalize (wr.setCell (qA x 6) (qJ d.end_))=W2 at*;generalize ({fs with now:=d.end_}:Bk)=bN at*;clear G3 G4 lG I I5 I6 J6 a2 hI ad aD aE;go_wp2_with fail
  refine(CO ai co.o qo).mono ?_;rintro e w3 ⟨rfl,aw,bO⟩;have aj:=T.trans (o7 bO (uT ac));obtain⟨-,-,-,-,⟨I,-⟩,⟨I5,-⟩,-,-,-⟩:=aw.blk.gI;have a2:=aw.lt;have HK9:=hide (aj.mono (S':=fun _=>False) (fun k X h=>absurd h qo));obtain⟨z,G⟩:=qF (lu (iq bN).err);obtain⟨y,H⟩:=qF (pz (iq bN).err);rw[G] at I;rw[H] at I5;have HE2:qh (codeF m Y f=(z,y)):=by show _=_;rw[N.o,G,H]
  clear G H N ai T bO aw aj;exact acZ
 have N:qh (codeF m Y f=(lu fs.err,pz fs.err)):=by
  show _=_;rw[ab.o,ae.o,Bn C];unfold oL;rw[if_neg C]
 have hz:=hI.CR C;have HK9:=hide (ad.mono (S':=fun _=>False) (fun k X h=>absurd h qo));obtain⟨z,G⟩:=qF (lu fs.err);obtain⟨y,H⟩:=qF (pz fs.err);rw[G] at I hz;rw[H] at I5;have HE2:qh (codeF m Y f=(z,y)):=by show _=_;rw[N.o,G,H]
 have tz:(((z:Nat):Int)==0)=false:=by simp only[beq_eq_false_iff_ne,ne_eq];omega
 have bL:(((z:Nat):Int) !=0)=true:=by simp only[bne_iff_ne,ne_eq];omega
 have bM:¬((z:Nat):Int)=0:=qo;clear hz G H N ab ae ar C hI aE aQ;exact acZ
end
section
variable {S ok Gy:qD} {w w':qW} {x A:Nat} {c:FC} {p:qO} {Z:Bk} {lv:qv} {i:fA} {W:qS} {xx fb:Nat} {ms cs:qV} {pm:qO} {qb nx:Nat} {m:RM} {S9:qD}
theorem Ye{Y:Nat}(hm:oU w xx Y fb ms cs pm qb m nx)(B:aba m)(hd:m.ds.length=m.tys.length)(u:∀f,f<m.tys.length->Ot m (yE m Y f) (m.ds.getD f ⟨⟨#[]⟩,[],0⟩).code (wm (yE m Y f))):
  qC 37 #[qP Y] w fun e w'=>e=.returned (.tuple #[qJ ((xU m Y).1:Nat),qJ ((xU m Y).2:Nat)])/\qK w w':=by
 have D:qh (∀V,qK w V->oU V xx Y fb ms cs pm qb m nx):=fun V s=>hm.kept s (fun _ _ d=>d);have aB:=hm.f20;obtain⟨b1,b2,b3,b4,ai,-⟩:=pK m.table;obtain⟨d1,d2,d3,d4,aj,-⟩:=pK m.memory;obtain⟨ev,ab⟩:=qF (ms.getD 17 undef);obtain⟨dv,ac⟩:=qF (ms.getD 18 undef);have I:qh (∀V,qK w V->Y<V.heap.size/\V.cell? (qA Y 1)=some (.slice pm m.tys.length qb)/\V.cell? (qA Y 2)=some (.bool m.table.isSome)/\V.cell? (qA Y 7)=some (.bool m.memory.isSome)/\V.cell? (qA Y 17)=some ev/\V.cell? (qA Y 18)=some dv):=fun V s=>by
  have h:=D.o V s;refine⟨h.ob.lt,(h.cell (k:=1) qo).trans (congrArg some h.fv),(h.cell (k:=2) qo).trans (congrArg some (by have u:=h.c.table;rw[ai] at u;exact u 0 qs)),(h.cell (k:=7) qo).trans (congrArg some (by have u:=h.c.memory;rw[aj] at u;exact u 0 qs)),(h.cell (k:=17) qo).trans (congrArg some ab),(h.cell (k:=18) qo).trans (congrArg some ac)⟩
 have ak:qh (∀V,qK w V->∀t,qC 64 #[qP Y,ev,.bool t] V fun e w'=>e=.returned (.tuple #[qJ ((iU m.tys.length t m.elems).1:Nat),qJ ((iU m.tys.length t m.elems).2:Nat)])/\qK V w'):=fun V s t=>by
  have h:=D.o V s;exact JW t (ab▸h.c.elems) (I.o V s).2.1 B.elems
 have ar:qh (∀V,qK w V->∀t,qC 64 #[qP Y,dv,.bool t] V fun e w'=>e=.returned (.tuple #[qJ ((iU m.tys.length t m.data).1:Nat),qJ ((iU m.tys.length t m.data).2:Nat)])/\qK V w'):=fun V s t=>by
  have h:=D.o V s;exact JW t (ac▸h.c.data) (I.o V s).2.1 B.data
 have au:qh (∀V,qK w V->∀f,f<m.tys.length->qC 65 #[qP Y,qJ (f:Nat)] V fun e w'=>e=.returned (.tuple #[qJ ((codeF m Y f).1:Nat),qJ ((codeF m Y f).2:Nat)])/\qK V w'):=fun V s f hf=>Yf (D.o V s) hf hd (u f hf) B.T8;have am:=hide (Yd hm B.ahw B.what);clear hm B hd u ai aj ab ac D;go_enter func37,ntmps37;go_wp2_with fail
 refine am.o.mono ?_;rintro e J ⟨rfl,E⟩;obtain⟨⟨U,L⟩,F⟩:=qF (mq m);rw[F];simp only;by_cases j:U=0
 .have tz:(((U:Nat):Int) !=0)=false:=by rw[j];rfl
  have y:qh (xU m Y=if(r9 m Y m.tys.length 0 (iU m.tys.length m.table.isSome m.elems)).1≠0 then r9 m Y m.tys.length 0 (iU m.tys.length m.table.isSome m.elems) else iU m.tys.length m.memory.isSome m.data):=by show _=_;unfold xU;rw[F,if_neg (fun d=>d j)]
  clear j F am;obtain⟨z,M1,M,N,O,R⟩:=I.o J E;generalize m.table.isSome=G at*;go_upto_region 4 with fail
  go_cut [4,5] from 16 to 29 (fun a b V=>a=qJ ((iU m.tys.length G m.elems).1:Nat)/\b=qJ ((iU m.tys.length G m.elems).2:Nat)/\qK w V)
  case first=>
   have ad:=dX z O;have ae:=dX z M;have H:qK J J.drew:=qr.drew;refine kQ (qK J) 15 ?_;iterate 10 refine pQ H ?_
   refine dx (i:=10) qk (dn rfl (fun K g=>?_));refine eG (f:=64) (args:= #[qP Y,ev,.bool G]) (by rfl) (by go_simp) (ak.o _ E.drew G) ?_;rintro e5 w5 ⟨rfl,af⟩;have r:=H.trans af;refine⟨_,rfl,g _ _ ⟨.inr r,?_⟩⟩;clear g K;refine tk 11 [13] r ?_;refine tk 12 [] r ?_;refine tk 13 [] r ?_;refine dx (i:=14) qk (dn rfl (fun K g=>?_));go_simp;refine g _ _ ⟨.inr r,?_⟩;clear g K;refine dx (i:=15) qk (dn rfl (fun K g=>?_));go_simp;refine g _ _ ⟨.inl rfl,?_⟩;clear g K;refine dM qk ?_ _;clear ad ae;have ag:=E.trans r;go_wp2;go_meet;exact⟨rfl,rfl,ag⟩
  case rest=>
  obtain⟨rfl,rfl,ag⟩:=hcut;obtain⟨T,an⟩:=qF (iU m.tys.length G m.elems);rw[an] at y ⊢;clear an z M1 M N O R ak E;go_wp2;go_loopw [4,5,6] (fun a b q wr=>∃(k:Nat) (e:Nat×Nat),k<=m.tys.length/\a=qJ e.1/\b=qJ e.2/\q=qJ k/\qK w wr/\r9 m Y m.tys.length 0 T=r9 m Y (m.tys.length - k) k e) (fun _ _ q _=>m.tys.length - (intOf q).toNat)
  case atStart=>exact⟨0,T,qZ,rfl,rfl,rfl,ag,rfl⟩
  obtain⟨k,e,X,rfl,rfl,rfl,v,ao⟩:=hrel;have C:=hide ao;clear ao;obtain⟨z,M1,M,N,O,R⟩:=I.o wr v;by_cases j:e.1=0
  .have av:(((e.1:Nat):Int)==0)=true:=by rw[j];rfl
   have aw:(((e.1:Nat):Int) !=0)=false:=by rw[j];rfl
   by_cases ap:k<m.tys.length
   .have ah:(k:Int)<(m.tys.length:Int):=qo;have ax:qh (r9 m Y m.tys.length 0 T=r9 m Y (m.tys.length - (k+1)) (k+1) (codeF m Y k)):=by
     show _=_;rw[C.o];obtain⟨n,hn⟩:∃n,m.tys.length - k=n+1:=⟨m.tys.length - k - 1,qo⟩;rw[hn,show m.tys.length - (k+1)=n by omega];conv=>lhs;unfold r9
     rw[if_neg (fun d=>d j)]
    clear j C;go_wp2_with fail
    refine(au.o wr v k ap).mono ?_;rintro e2 w2 ⟨rfl,aq⟩;have ay:=v.trans aq;clear z M1 M N O R v aq;go_wp2;go_roundw
    case rel=>exact⟨k+1,codeF m Y k,qo,rfl,rfl,by go_num,ay,ax.o⟩
    simp[intOf];omega
   have ah:¬(k:Int)<(m.tys.length:Int):=qo;have aa:qh (xU m Y=iU m.tys.length m.memory.isSome m.data):=by
    show _=_;have:r9 m Y m.tys.length 0 T=e:=by
     rw[C.o,show m.tys.length - k=0 by omega];rfl
    rw[y.o,this,if_neg (fun d=>d j)]
   clear j C y;generalize m.memory.isSome=tm at*;go_wp2_with fail
   have ad:=dX z R;have ae:=dX z N;have H:qK wr wr.drew:=qr.drew;refine kQ (qK wr) 14 ?_;iterate 10 refine pQ H ?_
   refine dx (i:=10) qk (dn rfl (fun K g=>?_));refine eG (f:=64) (args:= #[qP Y,dv,.bool tm]) (by rfl) (by go_simp) (ar.o _ v.drew tm) ?_;rintro e5 w5 ⟨rfl,af⟩;have r:=H.trans af;refine⟨_,rfl,g _ _ ⟨.inr r,?_⟩⟩;clear g K;refine tk 11 [] r ?_;refine tk 12 [] r ?_;refine dx (i:=13) qk (dn rfl (fun K g=>?_));go_simp;refine g _ _ ⟨.inr r,?_⟩;clear g K;refine dx (i:=14) qk (dn rfl (fun K g=>?_));go_simp;refine g _ _ ⟨.inl rfl,?_⟩;clear g K;refine dM qk ?_ _;clear ad ae;have az:=v.trans r;go_wp2;go_ret2
   rw[aa.o];exact⟨rfl,az⟩
  have av:(((e.1:Nat):Int)==0)=false:=by simp only[beq_eq_false_iff_ne,ne_eq];omega
  have aw:(((e.1:Nat):Int) !=0)=true:=by simp only[bne_iff_ne,ne_eq];omega
  have aA:¬((e.1:Nat):Int)=0:=qo;have aa:qh (xU m Y=e):=by
   show _=_;rw[y.o,C.o,N9 j,if_pos j]
  clear j C y;by_cases ap:k<m.tys.length
  .have ah:(k:Int)<(m.tys.length:Int):=qo;go_wp2;go_ret2
   rw[aa.o];exact⟨rfl,v⟩
  have ah:¬(k:Int)<(m.tys.length:Int):=qo;go_wp2;go_ret2
  rw[aa.o];exact⟨rfl,v⟩
 have tz:(((U:Nat):Int) !=0)=true:=by simp only[bne_iff_ne,ne_eq];omega
 have aA:¬((U:Nat):Int)=0:=qo;have y:qh (xU m Y=(U,L)):=by show _=_;unfold xU;rw[F,if_pos j]
 clear j F;go_wp2;go_ret2
 rw[y.o];exact⟨rfl,E⟩
theorem Xx(s:qS):qC 11 #[.string s] w fun e w'=>(∃o,e=.returned (.tuple #[.pointer o,qJ ((jo s).1:Nat),qJ ((jo s).2:Nat)]))/\qK w w':=by
 by_cases h:5000<s.size
 .have E:(5000:Int)<(s.size:Int):=qo;have a:qh (jo s=(1,0)):=by show _=_;unfold jo;rw[if_pos h]
  clear h;go_enter func11,ntmps11;go_wp2;refine bodyPost_ret (v:=.tuple #[.pointer none,qJ 1,qJ 0]) ?_ rfl ⟨⟨none,by rw[a.o];rfl⟩,Kept.refl _ _⟩;simp[results,results11,go_sem]
 have E:¬(5000:Int)<(s.size:Int):=qo;have j:s.size<=5000:=qo;have J:=hide j;have r:=QJ (w:=w) j;have F:=hide r;clear r h;go_enter func11,ntmps11;go_wp2_with fail
 refine F.o.mono ?_;rintro e K ⟨x,Y,fb,ms,cs,p,A,nx,rfl,k,l,t⟩;have g:qh (jo s=DJ s Y):=aeY s Y;cases hb:(dR s).2.bad with
 | some q=>
  have hq:gX (some q)=(q:Int):=rfl;rw[hq];have a:qh (jo s=(2,q)):=by show _=_;rw[g.o];unfold DJ;rw[if_neg qo,hb]
  have L:(0:Int)<=(q:Int):=qo;clear k l hq hb g;go_wp2;refine bodyPost_ret (v:=.tuple #[.pointer none,qJ 2,qJ q]) ?_ rfl ⟨⟨none,by rw[a.o];rfl⟩,t⟩;simp[results,results11,go_sem]
 | none=>
  have hq:gX none= -1:=rfl;rw[hq];have u:=aap s hb;have y:=ZE s j hb Y;have z:=l hb;have a:qh (jo s=if(xU (dR s).1 Y).1≠0 then xU (dR s).1 Y else(0,0)):=by show _=_;rw[g.o];unfold DJ;rw[if_neg qo,hb]
  have hf:=Ye k u z y;have B:=hide hf;clear k l hq hb g u y z hf;generalize xU (dR s).1 Y=G at*;obtain⟨b,C⟩:=G;simp only at B a;go_wp2_with fail
  refine B.o.mono ?_;rintro e M ⟨rfl,H⟩;have D:=t.trans H;by_cases f:b=0
  .have I:(((b:Nat):Int) !=0)=false:=by rw[f];rfl
   have n:qh (jo s=(0,0)):=by show _=_;rw[a.o,if_neg (fun d=>d f)]
   clear f a;go_wp2;refine bodyPost_ret (v:=.tuple #[qP Y,qJ 0,qJ 0]) ?_ rfl ⟨⟨_,by rw[n.o];rfl⟩,D⟩;simp[results,results11,go_sem]
  have I:(((b:Nat):Int) !=0)=true:=by simp only[bne_iff_ne,ne_eq];omega
  have N:¬((b:Nat):Int)=0:=qo;have n:qh (jo s=(b,C)):=by show _=_;rw[a.o,if_pos f]
  clear f a;go_wp2;refine bodyPost_ret (v:=.tuple #[.pointer none,qJ b,qJ C]) ?_ rfl ⟨⟨none,by rw[n.o]⟩,D⟩;simp[results,results11,go_sem]
end
section
variable {w:qW}
theorem Z5(n:Nat)(w:qW):qC 12 #[qJ n] w fun e w'=>e=.returned (qJ n)/\w'=w:=by
 go_enter func12,ntmps12;go_wp2;go_ret;exact⟨rfl,rfl⟩
theorem xS(s:qS)(c:s.size<=9223372036854775807)(w:qW):qC 5 #[.string s] w fun e w'=>e=.returned (.bool true)/\qK w w':=by
 go_enter func5,ntmps5;go_wp2_with fail
 refine(check_any s _ c).mono ?_;rintro e h ⟨rfl,d⟩;go_wp2_with fail
 refine(Xx s).mono ?_;rintro e i ⟨⟨o,rfl⟩,f⟩;have g:=d.trans f;generalize jo s=q at*;obtain⟨a,b⟩:=q;simp only;go_wp2_with fail
 refine(Z5 a _).mono ?_;rintro e j ⟨rfl,rfl⟩;go_wp2;go_ret;exact⟨qs,g⟩
def mO:qS:=⟨#[40,109,111,100,117,108,101,32,40,102,117,110,99,32,36,105,100,32,40,112,97,114,97,109,32,36,120,32,105,51,50,41,32,40,114,101,115,117,108,116,32,105,51,50,41,32,108,111,99,97,108,46,103,101,116,32,36,120,41,32,40,101,120,112,111,114,116,32,34,105,100,34,32,40,102,117,110,99,32,36,105,100,41,41,41]⟩
theorem Pg(c:∀w,qC 4 #[.string mO] w fun e w'=>(∃t a b,e=.returned (.tuple #[.string t,qJ a,qJ b])/\1<=t.size/\t.size<=1000000)/\qK w w')(s u:qS)(d:s.size<=9223372036854775807)(k:u.size<=9223372036854775807)(w:qW):qC 3 #[.string s,.string u] w fun e w'=>e=.returned (.bool true)/\qK w w':=by
 have l:=hide c;clear c;go_enter func3,ntmps3;go_wp2_with fail
 refine(l.o _).mono ?_;rintro e p ⟨⟨t,a,b,rfl,q,r⟩,f⟩;go_wp2_with fail
 refine(xS s d _).mono ?_;rintro e v ⟨rfl,g⟩;go_wp2_with fail
 refine(xS u k _).mono ?_;rintro e x ⟨rfl,h⟩;go_wp2_with fail
 refine(xS s d _).mono ?_;rintro e y ⟨rfl,i⟩;go_wp2_with fail
 refine(xS t qo _).mono ?_;rintro e z ⟨rfl,j⟩;have A:(0:Int)<=(t.size:Int) - 1:=qo;have B:(t.size:Int) - 1<=(t.size:Int):=qo;have C:(1:Int)<=(t.size:Int):=qo;have D:IntKind.i64.wrap ((t.size:Int) - 1)=(t.size:Int) - 1:=IntWalk.i64_in _ ⟨qo,qo⟩;have m:=(((f.trans g).trans h).trans i).trans j;clear f g h i j;go_wp2_with fail
 refine(xS _ (by rw[ByteArray.size_extract];omega) _).mono ?_;rintro e E ⟨rfl,n⟩;go_wp2;go_ret;exact⟨qs,m.trans n⟩
end
def SB(i:Nat):Nat:=(mO.data.toList.getD i 0).toNat
def kk(i:Nat):Nat:=(toks.filter fun t=>t.2.2<i).length
def ve(i:Nat):Bool:=i==85||SB i==32||toks.any fun t=>t.2.2==i
def we(i:Nat):Nat:=i+(((List.range 85).drop i).takeWhile fun j=>vM (SB j)).length
theorem Zy:∀i:Fin 85,ve i.1=true->SB i.1=32->ve (i.1+1)=true/\kk (i.1+1)=kk i.1:=by decide+kernel
theorem abO:∀i:Fin 85,ve i.1=true->(SB i.1=40\/SB i.1=41)->ve (i.1+1)=true/\kk (i.1+1)=kk i.1+1/\toks[kk i.1]?=some (SB i.1,mO.extract i.1 (i.1+1),i.1):=by decide+kernel
theorem abN:∀i:Fin 85,SB i.1≠10/\SB i.1≠59/\SB i.1<256:=by decide+kernel
theorem Zx:∀i:Fin 85,ve i.1=true->SB i.1=34->i.1=68:=by decide+kernel
theorem abM:∀i:Fin 85,ve i.1=true->SB i.1≠32->SB i.1≠40->SB i.1≠41->SB i.1≠34->i.1<we i.1/\we i.1<85/\vM (SB (we i.1))=false/\ve (we i.1)=true/\kk (we i.1)=kk i.1+1/\toks[kk i.1]?=some (119,mO.extract i.1 (we i.1),i.1):=by decide+kernel
theorem afH:∀i:Fin 85,∀j:Fin 85,ve i.1=true->SB i.1≠32->SB i.1≠40->SB i.1≠41->SB i.1≠34->i.1<=j.1->j.1<we i.1->vM (SB j.1)=true:=by decide+kernel
theorem aex(i:Nat)(h:i<mO.size):mO[i].toNat=SB i:=by
 unfold SB;have h':i<mO.data.toList.length:=by simpa using h
 rw[List.getD_eq_getElem?_getD,List.getElem?_eq_getElem h'];simp[ByteArray.getElem_eq_getElem_data]
theorem agY:mO.size=85:=rfl
theorem Yv(w:qW):qC 13 #[.string mO,qJ 68] w fun e w'=>e=.returned (.tuple #[.string ⟨#[105,100]⟩,qJ 72])/\w'=w:=by
 have c:∀a b:qS,(a++b).size=a.size+b.size:=fun _ _=>ByteArray.size_append;have d:mO.size=85:=rfl;have f:((mO[69]' qx).toNat:Int)=105:=rfl;have g:((mO[70]' qx).toNat:Int)=100:=rfl;have h:((mO[71]' qx).toNat:Int)=34:=rfl;have i:mO.extract 69 70=⟨#[105]⟩:=qk;have j:mO.extract 70 71=⟨#[100]⟩:=qk;go_enter func13,ntmps13;go_wp2_with fail
 refine wp_loop_rounds 3 ?_;rw[rounds_succ];go_wp2_with fail
 rw[rounds_succ];go_wp2_with fail
 rw[rounds_succ];go_wp2;go_ret2
 exact⟨rfl,rfl⟩
section
variable {P:Program} {o:Oper} {a:Act} {w W:qW} {s x:Operand} {t E:TypeId} {z v:qv} {size bytes n:Nat} {xs news:qV}
theorem Ho{K:Act->qW->Prop}{Q:Exit->Act->qW->Prop}(d:(P.info? E).map (fun i=>(i.zero,i.size,i.bytes))=some (some z,size,bytes))(e:P.underlying t=some (.slice E))(X:qK w W)(c:W.ownsRow w.heap.size E size v n xs)(F:n<1000)
  (f:∀g A w',qK w w'->w'.ownsRow w.heap.size E size (.slice (some (qA g 0)) (n+1) A) (n+1) (xs++news)->K (a.put o.dst (.slice (some (qA g 0)) (n+1) A)) w')
  (h:o.op=.call {callee:=.builtin .append,args:= #[s,x],argTypes:= #[t,t]}:=by rfl) (k:a.eval s=v:=by rfl) {b:Nat} (hx:a.eval x=.slice (some (qA b 0)) 1 1:=by rfl) (hb:W.heap.size=b:=by first | rfl | simp)
  (l:z.cells.size=size:=by rfl) (m:0<size:=by omega) (p:bytes<=1000:=by omega) (G:news.length=size:=by rfl) (U:∀u∈news,u.oneCell'=true:=by simp[Value.oneCell']):o.wp P a (W.alloc (.cells news.toArray E)) K Q:=by
 obtain⟨q,r,y,B,C⟩:=info_parts d;subst hb;have H:=X.size;have I:(n+1)*bytes<=1000*1000:=Nat.mul_le_mul (show n+1<=1000 by omega) p;refine wp_append_lies _ s x t h w.heap.size E q z size bytes e r y B C l m v n xs k (c.alloc _) ⟨W.heap.size,0,none⟩ 1 1 news hx qo
  (fun j u D=>World.news_of_block (cs:=news.toArray) (t:=E) (fr:=(0,0)) (heap_alloc_new W _) j u (by simpa using D)) U qo (by unfold maxLen;omega) qo qt (W.heap.size+1) qs (fun g A w' L h3 h4 h5=>f g A w' ?_ L)
 exact iP (X.alloc _) (c.alloc _) qR h3
theorem Xd{K:Act->qW->Prop}{Q:Exit->Act->qW->Prop}{b:Array Oper}{F:Prop}(c:o.guard=none)(h:o.wp P a W K Q):if Region.wanted o (yielded b a.tmps)=true then Oper.wp P o a W K Q else F:=by
 rw[if_pos (by simp[Region.wanted,c])];exact h
end
theorem Tryz.Pk:(prog.info? 54).map (fun i=>(i.zero,i.size,i.bytes))=some (some (.agg #[qB 0,.string ⟨#[]⟩,qJ 0]),3,32):=qk
theorem Dl{k:Nat}{t:Nat×qS×Nat}(h:toks[k]?=some t):(toks.take (k+1)).flatMap zT=(toks.take k).flatMap zT++zT t:=by
 rw[List.take_add_one,h];simp
theorem sbs{s:qS}(h:s=mO)(i:Nat)(b:i<s.size):s[i].toNat=SB i:=by subst h;exact aex i b
theorem afT:∀i:Fin 86,kk i.1<28:=by decide+kernel
theorem afI:ve 72=true/\kk 72=kk 68+1/\toks[kk 68]?=some (113,⟨#[105,100]⟩,68):=by decide+kernel
theorem abP:kk 85=26/\toks[kk 85]?=some (0,⟨#[]⟩,85):=by decide+kernel
theorem aaT{s:qS}(b:s=mO){i:Nat}(c:i=68)(w:qW):qC 13 #[.string s,qJ i] w fun e w'=>e=.returned (.tuple #[.string ⟨#[105,100]⟩,qJ 72])/\w'=w:=by
 subst b c;exact Yv w
theorem Yt(s:qS)(F:qh (s=mO))(w:qW):qC 6 #[.string s] w fun e w'=>∃g A,e=.returned (.slice (some (qA g 0)) 27 A)/\qK w w'/\w'.ownsRow w.heap.size 54 3 (.slice (some (qA g 0)) 27 A) 27 (toks.flatMap zT):=by
 have hs:s.size=85:=by rw[F.o];rfl
 go_enter func6,ntmps6;go_wp2;go_loopw [3,4] (fun q p wr=>∃(i:Nat) (pl:qO) (cl:Nat),i<=85/\ve i=true/\p=qJ i/\q=.slice pl (kk i) cl/\qK w wr/\wr.ownsRow w.heap.size 54 3 (.slice pl (kk i) cl) (kk i) ((toks.take (kk i)).flatMap zT)) (fun _ p _=>85 - (intOf p).toNat)
 case atStart=>exact⟨0,none,0,qo,by decide+kernel,rfl,by rfl,Kept.refl _ _,World.ownsRow_nil _ _ _ _⟩
 obtain⟨i,pl,cl,hi,hv,rfl,rfl,X,ac⟩:=hrel;have ag:=afT ⟨i,qo⟩;simp only at ag;have G:=hide ac;have J:=hide hv;clear ac hv;by_cases u:i<85
 .have ah:(i:Int)<85:=qo;have c:i<s.size:=qo;have hb:(s[i]'c).toNat=SB i:=sbs F.o i qo;obtain⟨M,N,O⟩:=abN ⟨i,u⟩;simp only at M N O;by_cases m:SB i=32
  .obtain⟨y,k⟩:=Zy ⟨i,u⟩ J.o m;have t1:(((s[i]'c).toNat:Nat):Int)=32:=by rw[hb,m];rfl
   have Y:=hide y;have r:=hide k;clear hb m M N O y k;go_wp2;go_roundw
   case rel=>exact⟨i+1,pl,cl,qo,Y.o,by go_num,by rw[r.o],X,by rw[r.o];exact G.o⟩
   simp[intOf];omega
  have ad:((((s[i]'c).toNat:Nat):Int)==32)=false:=Mc (by rw[hb];omega);have ae:((((s[i]'c).toNat:Nat):Int)==10)=false:=Mc (by rw[hb];omega);have af:((((s[i]'c).toNat:Nat):Int)==59)=false:=Mc (by rw[hb];omega);have ai:IntKind.i64.wrap ((i:Int)+1)=(i:Int)+1:=IntWalk.i64_in _ ⟨qo,qo⟩;have i0:(0:Int)<=i:=qo;have i1:(i:Int)<=(i:Int)+1:=qo;have i2:(i:Int)+1<=85:=qo;by_cases H:SB i=40\/SB i=41
  .obtain⟨y,k,B⟩:=abO ⟨i,u⟩ J.o H;have Y:=hide y;have r:=hide k;rw[<-F.o] at B;have b:=hide (Dl B);simp only[zT,<-hb] at b;have b4':(((s[i]'c).toNat:Nat):Int)=40\/(((s[i]'c).toNat:Nat):Int)=41:=by rw[hb];omega
   clear hb M N O y k B m H ad ae af;rcases b4' with b4' | b4';all_goals
    go_wp2_with fail
    simp only[b4'] at b;refine kQ (fun _=>True) 13 ?_;iterate 11 refine pQ trivial ?_
    refine Cf (fun K d=>?_);go_simp;refine d _ _ (.inr trivial) ?_;refine Cf (fun K d=>?_);refine Xd rfl (Ho Tryz.Pk underlying27 X.drew G.o.drew qo (fun g A Z C f=>d _ _ (.inr trivial) ?_));have D:=hide f;clear f;refine uW (fun K d=>?_);go_simp;refine d _ _ ?_;go_wp2;go_roundw
    case rel=>exact⟨i+1,some (qA g 0),A,qo,Y.o,by go_num,by rw[r.o],C,by rw[r.o,b.o];exact D.o⟩
    simp[intOf];omega
  have b4':((((s[i]'c).toNat:Nat):Int)==40)=false:=Mc (by rw[hb];omega);have aj:((((s[i]'c).toNat:Nat):Int)==41)=false:=Mc (by rw[hb];omega);by_cases I:SB i=34
  .have acB:=Zx ⟨i,u⟩ J.o I;simp only at acB;have ak:(((s[i]'c).toNat:Nat):Int)=34:=by rw[hb,I];rfl
   have R:=hide acB;obtain⟨y,k,B⟩:=afI;rw[<-acB] at k B;have r:=hide k;have b:=hide (Dl B);simp only[zT] at b;clear hb M N O m H I ad ae af b4' aj acB k B;go_wp2_with fail
   refine(aaT F.o R.o _).mono ?_;rintro e w2 ⟨rfl,rfl⟩;go_wp2_with (at_builtin;refine wpList_plain rfl fun _ d=>Ho Tryz.Pk underlying27 X G.o qo (fun g A Z C f=>d _ _ ?_);have D:=hide f;clear f)
   go_roundw
   case rel=>exact⟨72,some (qA g 0),A,qo,y,by go_num,by rw[r.o],C,by rw[r.o,b.o];exact D.o⟩
   have:=R.o;simp[intOf];omega
  have ak:((((s[i]'c).toNat:Nat):Int)==34)=false:=Mc (by rw[hb];omega);have aa:SB i≠40:=fun h=>H (.inl h);have ab:SB i≠41:=fun h=>H (.inr h);obtain⟨e1,e2,e3,e4,e5,T⟩:=abM ⟨i,u⟩ J.o m aa ab I;have R:qh (∀j,i<=j->j<we i->vM (SB j)=true):=fun j U L=>afH ⟨i,u⟩ ⟨j,by simp only at e2;omega⟩ J.o m aa ab I U L;simp only at e1 e2 e3 e4 e5 T;rw[<-F.o] at T;have b:=hide (Dl T);simp only[zT] at b;have H3:=hide e3;have H4:=hide e4;have H5:=hide e5;have f1:((we i:Int)==(i:Int))=false:=Mc qo;have f2:(we i:Int)<85:=qo;have f3:(i:Int)<=we i:=qo;have f4:(we i:Int)<=85:=qo;clear hb M N O m H aa ab I e3 e4 e5 T i1 i2 ai;generalize wr=W at*;generalize we i=e at*;go_wp2;go_loopw [4] (fun p wr=>∃j:Nat,i<=j/\j<=e/\p=qJ j/\wr=W) (fun p _=>e - (intOf p).toNat)
  case atStart=>exact⟨i,qR,qo,rfl,rfl⟩
  obtain⟨j,am,ap,rfl,rfl⟩:=hrel;have aq:(j:Int)<85:=qo;have V:(s[j]' qo).toNat=SB j:=sbs F.o j qo;by_cases an:j<e
  .have HW:=hide (R.o j am an);have HB:=hide V;clear V;go_wp2_with fail
   refine(Gn _ _).mono ?_;rintro ee w2 ⟨rfl,rfl⟩;rw[HB.o,HW.o];go_wp2;go_roundw
   case rel=>exact⟨j+1,qo,qo,by go_num,trivial⟩
   simp[intOf];omega
  obtain rfl:j=e:=qo;have HB:=hide V;clear V;go_wp2_with fail
  refine(Gn _ _).mono ?_;rintro ee w2 ⟨rfl,rfl⟩;rw[HB.o,H3.o];go_wp2_with (at_builtin;refine wpList_plain rfl fun _ d=>Ho Tryz.Pk underlying27 X G.o qo (fun g A Z C f=>d _ _ ?_);have D:=hide f;clear f)
  go_roundw
  case rel=>exact⟨j,some (qA g 0),A,qo,H4.o,by go_num,by rw[H5.o],C,by rw[H5.o,b.o];exact D.o⟩
  simp[intOf];omega
 obtain rfl:i=85:=qo;obtain⟨ao,ht⟩:=abP;have b:=hide (Dl ht);simp only[zT] at b;rw[ao] at b G ⊢;have ah:¬((85:Nat):Int)<85:=qo;clear u ht;go_wp2_with (at_builtin;refine wpList_plain rfl fun _ d=>Ho Tryz.Pk underlying27 X G.o qo (fun g A Z C f=>d _ _ ?_);have D:=hide f;clear f)
 go_ret;exact⟨g,A,rfl,C,by have:=D.o;rw[show toks.flatMap zT=_ from b.o];exact this⟩
theorem SG(w:qW):qC 6 #[.string mO] w fun e w'=>∃g A,e=.returned (.slice (some (qA g 0)) 27 A)/\qK w w'/\w'.ownsRow w.heap.size 54 3 (.slice (some (qA g 0)) 27 A) 27 (toks.flatMap zT):=Yt mO (hide rfl) w
theorem fZ.row{c w w':qW}{l:List (Nat×qV)}{E:TypeId}{a A g n:Nat}{ys:qV}(h:fZ c w l)(X:qK w w')(d:w'.ownsRow w.heap.size E a (.slice (some (qA g 0)) n A) n ys)(e:ys.length=n*a):fZ c w' (l++[(g,ys)]):=by
 have L:=d.lt g rfl;refine h.add X L.1 L.2 (fun i f=>?_);rcases d.2 with⟨b,_⟩ | ⟨g',A,cur,b,hb,hgg,U,L,h3,h4⟩
 .cases b
 cases b;refine⟨?_,by simp[World.frozen?,hgg]⟩;have hi':i<n*a:=qo;exact agn
theorem Mv(w:qW):qC 4 #[.string mO] w fun e w'=>(∃t a b,e=.returned (.tuple #[.string t,qJ a,qJ b])/\1<=t.size/\t.size<=1000000)/\qK w w':=by
 have k:mO.size=85:=rfl;go_enter func4,ntmps4;go_wp2_with fail
 refine(SG w).mono ?_;rintro e d ⟨f,A,rfl,h,i⟩;have U:=(fZ.start w).row h i (by decide+kernel);have L:fZ w _ (TL (d.heap.size+1) f A 0 d.heap.size (qN) (qN) [(d.heap.size,Cm (qN) (qN) (qN))]):=fZ.ins (l1:=[]) (l2:=[_,_]) ((U.new (Cm (qN) (qN) (qN)).toArray 40).Ue (txC f A 0 d.heap.size (qN) (qN)).toArray 45 (d.heap.size+1) qs);have j:=hide L;clear h i U L;go_wp2_with fail
 refine(SK j.o).mono ?_;rintro e l ⟨fb,m,g,n,y,p,z,q,r,s,u,v,B,C,rfl,h3⟩;generalize d.heap.size+1=x at*;generalize d.heap.size=Y at*;obtain⟨D,-⟩:=h3.c 0 3;have hx:=h3.lt 0;go_wp2_with fail
 refine(SH h3).mono ?_;rintro e E ⟨rfl,h4⟩;obtain⟨F,-⟩:=h4.c 0 7;obtain⟨G,-⟩:=h4.c 0 8;obtain⟨H,-⟩:=h4.c 0 9;obtain⟨I,-⟩:=h4.c 0 2;have hx:=h4.lt 0;go_wp2_with fail
 refine(aaQ ((((h4.rm 0).rm 0).rm 2).rm 5)).mono ?_;rintro e J ⟨b,rfl,hb,h5⟩;go_wp2;go_ret3
 exact⟨⟨b,0,0,rfl,qo,qo⟩,h5.kept⟩
theorem Ph(s u:qS)(a:s.size<=9223372036854775807)(b:u.size<=9223372036854775807)(w:qW):qC 3 #[.string s,.string u] w fun e w'=>e=.returned (.bool true)/\qK w w':=
 Pg Mv s u a b w
end Go.Proofs.YtdaafkmhfedkiaaGreat
