import Derived.LoopIn
import Derived.RangeFuncLeaves
import Derived.RangeFuncRecord
import Derived.RegionIn
import Derived.TacticsIn
import Derived.Test.YtfkcodlceoghpaaGreatDoorX6
import Derived.Test.YtfkcodlceoghpaaGreatDoorX8
namespace Go.Proofs.YtfkcodlceoghpaaGreatDoor
set_option maxHeartbeats 6400000
set_option maxRecDepth 100000
set_option linter.unusedSimpArgs false
set_option linter.unusedVariables false
open Go.RowKit Go.Proofs.Tryz
theorem Q3{m l fb:Nat}{a:qW}{s:qS}{i n:Nat}{yf:Nat->Nat->qW->Prop}{Jq:Option (qM)->Nat->(qD)->qW->Prop}{F0:qD}(B:Goes prog m l s n yf Jq)
  (hf:Rd a fb s i n) (hJ:Jq (some []) i F0 a):
  CallsIn Fence.wide (m+1) prog 316 #[.func (.yield l) #[] #[],qP fb] a (Sa s n i yf Jq F0 a):=by
 have bs:=hf;obtain⟨r0,r1,r2,f0,f1,f2,bc,bd,be⟩:=hf;have bu:=qdq _ _ r0;refine callsIn_of_wp func316 rfl trivial ?_ rfl;simp only[ntmps316,List.size_toArray,qbb,qbs,Nat.reduceAdd,Nat.reduceSub,qdh,qdi,qdx,qdo,qay,qax];gi_wp2
 gi_loopw [4,5,6] (λov _ _ wr=>∃(fuel j:Nat)(os:qM)(F:qD),Rd wr a.heap.size s j n/\Jq (some os) j F wr/\isOpen (λg=>g≠a.heap.size/\¬F g/\a.heap.size<=g) os wr ov/\os.length<=50/\n - j<=fuel/\
   o8 s n i=jI s n fuel os j/\Kept F0 a wr/\(∀k,F k->k<a.heap.size->F0 k)/\¬F a.heap.size) (λ_ _ _ wr=>n - PN wr a.heap.size)
 case atStart=>refine⟨n - i,i,[],F0,⟨qs,qs,qs,qs,qs,qs,bc,bd,be⟩,B.still _ _ _ _ _ (λ_=>False) hJ (qr.alloc _) (λ_ _ c=>c.elim),Row.nil _ _ _ _,qs,qR,rfl,qr.alloc _,λk X _=>X,λh=>?_⟩;have:=B.lt _ _ _ _ _ hJ h;omega
 obtain⟨fuel,j,os,F,ax,aQ,aF,ay,R,aR,S,T,aA⟩:=hrel;obtain⟨C,D,rfl⟩:=Row.shape aF;have V:=qH aR;have I:=qH aQ;have ac:=qH aF;clear aR aQ aF hJ;have bf:=ax.lt;gi_wp2_with fail
 refine⟨trivial,(callsIn_wide.2 (oz ax)).mono ?_⟩;rintro e d⟨rfl,rfl⟩;gi_wp2_with fail
 refine⟨trivial,(callsIn_wide.2 (lQ (ax.alloc _))).mono ?_⟩;rintro e A⟨ad,aS,aT⟩;have aG:d.heap.size≠a.heap.size:=qo;have aB:∀k,(Value.slice C os.length D).ownBlock=some k->k≠a.heap.size/\¬F k/\a.heap.size<=k/\k<d.heap.size:=λk X=>⟨(ac.o.at_ k X).1,(ac.o.at_ k X).2.1,(ac.o.at_ k X).2.2,(ac.o.own.lt k X).2⟩;have W:∀k,k<a.heap.size->(k=a.heap.size\/(Value.slice C os.length D).ownBlock=some k)->F0 k:=λk X hh=>hh.elim (λe=>absurd e qo) (λe=>absurd (aB k e).2.2.1 qo);have Y:∀k,k<d.heap.size->(k=a.heap.size\/(Value.slice C os.length D).ownBlock=some k)->¬F k:=λk _ hh=>hh.elim (λe=>e▸aA) (λe=>(aB k e).2.1);have aC:Kept (λk=>k=a.heap.size\/(Value.slice C os.length D).ownBlock=some k) d A:=(qr.alloc _).trans (ad.mono (λ_ _ e=>.inl e));by_cases H:j<n
 .obtain⟨v,rfl,hv,Om⟩:=aS _ _ (dY H);obtain rfl:v=qB (bt s j:Nat):=hv;have aH:OB A a.heap.size d.heap.size (lY j 0 0):=(OB.new (b:=a.heap.size) (g:=d.heap.size) (c:=(lY j 0 0).toArray) bf rfl).call ad;have aU:isOpen (λg=>g≠a.heap.size/\¬F g/\a.heap.size<=g/\g≠d.heap.size) os (A.setCell (qA d.heap.size 2) (qB (bt s j:Nat))) (qX C os D):=
   Row.other (Row.call (isOpen.alloc (ac.o.mono (λg t h=>⟨h.1,h.2.1,h.2.2,qo⟩)) _) ad (λk X=>X.1)) (λk X=>X.2.2.2) _
  have aV:OB (A.setCell (qA d.heap.size 2) (qB (bt s j:Nat))) a.heap.size d.heap.size (lY j 0 (bt s j)):=aH.set 2 (qB (bt s j:Nat));have aW:=Om.dD (o:=2) aG (qB (bt s j:Nat));have aX:Kept (λk=>k=a.heap.size\/(Value.slice C os.length D).ownBlock=some k) d (A.setCell (qA d.heap.size 2) (qB (bt s j:Nat))):=aC.new qR _;have bg:d.heap.size+1<=A.heap.size:=by have:=ad.size;simpa using this
  obtain⟨⟨Z,J0⟩,⟨I1,J1⟩,⟨I2,J2⟩,⟨I3,J3⟩,⟨I4,J4⟩,⟨I5,J5⟩,⟨I6,J6⟩,⟨I7,J7⟩,⟨I8,J8⟩,⟨I9,J9⟩⟩:=aH.blk.ten;have aY:=qH aU;have aZ:=qH aV;clear aU aH aV aS aT ad aC Om;by_cases x:bt s j=11/\os=[]
  .have a0:(((bt s j:Nat):Int)==11)=true:=by simp[x.1]
   have tl:((os.length:Int)==0)=true:=by simp[x.2]
   have HL:qh (bt s j=11/\os=[]/\os=[]\/¬(bt s j=11/\os=[])/\gp os j (bt s j)=.ok os):=.inl ⟨x.1,x.2,x.2⟩;have bi:=qH x;clear x;gi_wp2_with fail
   have x:=bi.o;have aa:=aW;have ae:=aZ.o;have ab:=aY.o;have J:=aX;have bj:=qH J;refine⟨trivial,(callsIn_wide.2 (uj aa ae)).mono ?_⟩;rintro e K⟨L,af,ag⟩;have M:Kept (λk=>k=a.heap.size\/(Value.slice C os.length D).ownBlock=some k) d K:=J.fresh L (λk X hh=>hh.elim .inl (λe=>absurd (show k=d.heap.size from e) qo));have ah:Kept F0 a K:=S.fresh M W;have bk:d.heap.size+1<=A.heap.size:=bg;have bm:A.heap.size<=K.heap.size:=by have:=L.size;simpa using this
   clear J Z J0 I1 J1 I2 J2 I3 J3 I4 J4 I5 J5 I6 J6 I7 J7 I8 J8 I9 J9;rcases hb:iE j (bt s j) s n (j+1) with⟨q,p⟩|⟨y,r⟩
   .obtain rfl:=ag _ _ hb;exact⟨rfl,⟨ah,.inr (.inl ⟨q,p,V.o.trans (DZ R H HL.o hb),rfl,some os,j,F,B.still _ _ _ _ _ _ I.o M Y⟩)⟩⟩
   obtain⟨u,rfl,⟨rfl,gv,lv,aI,N,O⟩,P⟩:=af _ _ hb;have bn:j+1<=r:=LQ hb;have HB:=qH hb;have ai:isOpen (λg=>g≠a.heap.size/\¬F g/\a.heap.size<=g/\g≠d.heap.size/\g<A.heap.size) os K (qX C os D):=(ab.mono (λg t h=>⟨h.1,h.2.1,h.2.2.1,h.2.2.2,by simpa using t⟩)).kept L (λg _ t hh=>hh.elim (λe=>t.1 e) (λe=>t.2.2.2.1 e));clear af ag hb aa ae ab L;obtain⟨pg,cg,rfl⟩:=Row.shape N;obtain⟨pl,cl,rfl⟩:=Row.shape O;obtain⟨⟨Z,J0⟩,⟨I1,J1⟩,⟨I2,J2⟩,⟨I3,J3⟩,⟨I4,J4⟩,⟨I5,J5⟩,⟨I6,J6⟩,⟨I7,J7⟩,⟨I8,J8⟩,⟨I9,J9⟩⟩:=aI.blk.ten;have aj:=qH ai;clear ai;gi_wp2_with fail
   refine⟨trivial,(callsIn_wide.2 (oz P)).mono ?_⟩;rintro e w⟨rfl,rfl⟩;have ak:Kept (λk=>k=a.heap.size\/(Value.slice C os.length D).ownBlock=some k) d (w.setCell (qA d.heap.size 1) (qJ r)):=M.new qR _;have al:=B.still _ _ _ _ _ _ I.o ak Y;have am:Kept F0 a (w.setCell (qA d.heap.size 1) (qJ r)):=S.fresh ak W;have aJ:Rd (w.setCell (qA d.heap.size 1) (qJ r)) a.heap.size s r n:=P.dD aG _;have an:isOpen (λg=>g≠a.heap.size/\¬F g/\a.heap.size<=g/\g≠d.heap.size/\g<A.heap.size) os (w.setCell (qA d.heap.size 1) (qJ r)) (qX C os D):=Row.other aj.o (λk X=>X.2.2.2.1) _;have ao:dH (λg=>A.heap.size<=g/\g<w.heap.size) y.dL (w.setCell (qA d.heap.size 1) (qJ r)) (qX pg y.dL cg):=Row.other (Row.mono N (λg t h=>⟨by simpa using h,t⟩)) (λk X=>qo) _;have ap:isRow 93 2 numCells (λg=>A.heap.size<=g/\g<w.heap.size) y.dA (w.setCell (qA d.heap.size 1) (qJ r)) (qX pl y.dA cl):=Row.other (Row.mono O (λg t h=>⟨by simpa using h,t⟩)) (λk X=>qo) _;obtain⟨f,tmps,assign,body,hy,hR⟩:=B.round os none j F _ r (bt s j) y _ _ (λg=>A.heap.size<=g/\g<w.heap.size) al P.le qo ay (.inl ⟨x.1,x.2,rfl⟩) rfl H HB.o ao ap (λk X=>⟨by simpa using X.2,λz=>by have:=B.lt _ _ _ _ _ I.o z;omega⟩);rw[x.1]at hy;have aK:(Instr.yield l #[.agg #[qJ j,qJ r,qB 11,.bool y.typed,qX pg y.dL cg,qI y.align,qI y.num.1,qJ y.num.2,qX pl y.dA cl,qJ y.val]]).run prog (w.setCell (qA d.heap.size 1) (qJ r))=.ok (.round l f tmps assign body) (w.setCell (qA d.heap.size 1) (qJ r)):=hy;have HR:=qH hR;have a1:=qH an;clear hy hR an ao ap N O al M ah aj;gi_wp2
   refine HR.o.mono ?_;rintro ε w6 (⟨bb,rfl,-,F',aq,E,ar⟩ | ⟨q,p,rfl,hbad,E⟩)
   .have aL:Kept F0 a w6:=am.fresh E (λk X z=>T k z X);have aM:=qH aq;have aD:=qH E;have au:=qH ar;clear aq E ar HR aK Z J0 I1 J1 I2 J2 I3 J3 I4 J4 I5 J5 I6 J6 I7 J7 I8 J8 I9 J9;cases bb;all_goals
     gi_wp2
     refine qal (results_none rfl _ _ _) rfl ?_;refine⟨aL,.inl ⟨r,F',V.o.trans (JY R H x HB.o),rfl,aM.o,λk X aN=>?_⟩⟩;obtain h | h | h:=au.o k X
     .exact T k h aN
     .omega
     simp at h;omega
   exact⟨rfl,⟨am.fresh E (λk X z=>T k z X),.inr (.inr ⟨q,p,hbad,rfl⟩)⟩⟩
  have aO:=qH x;have aE:=x;have a2:bt s j=11->os≠[]:=λU aP=>x ⟨U,aP⟩;have a3:=qH a2;clear x aE a2;have bo:((((bt s j:Nat):Int)==11)=false)\/((((bt s j:Nat):Int)==11)=true/\((os.length:Int)==0)=false):=by
   by_cases U:bt s j=11
   .refine .inr ⟨by simp[U],?_⟩;have h0:os.length≠0:=λaP=>a3.o U (by simpa using aP);exact qe
   exact .inl qt
  obtain a0 | ⟨a0,tl⟩:=bo;all_goals
   gi_wp2_with fail
   refine⟨trivial,(callsIn_wide.2 (Qg aY.o ay a3.o)).mono ?_⟩;rintro e G⟨aw,a4,a5⟩;have J:Kept (λk=>k=a.heap.size\/(Value.slice C os.length D).ownBlock=some k) d G:=aX.trans (aw.mono (λ_ _ e=>.inr e));have a6:Kept F0 a G:=S.fresh J W;rcases Q:gp os j (bt s j) with⟨q,p⟩|os'
   .obtain rfl:=a5 _ _ Q;exact⟨rfl,⟨a6,.inr (.inl ⟨q,p,V.o.trans (JW R H aO.o Q),rfl,some os,j,F,B.still _ _ _ _ _ _ I.o J Y⟩)⟩⟩
   obtain⟨v',rfl,a7⟩:=a4 _ Q;have ab:isOpen (λg=>g≠a.heap.size/\¬F g/\a.heap.size<=g/\g≠d.heap.size) os' G v':=a7.mono (λg _ t=>t.elim (λh=>h) (λh0=>have h:A.heap.size<=g:=(by simpa using h0);⟨qo,λz=>by have:=B.lt _ _ _ _ _ I.o z;omega,qo,qo⟩));have bp:=MQ Q ay;have bq:d.heap.size+1<=G.heap.size:=by have:=aw.size;simp at this;omega
   have aa:=aW.kept aw (λe=>(aB _ e).1 rfl);have ae:=aZ.o.kept aw (λe=>absurd (aB _ e).2.2.2 qo);have HL:qh (bt s j=11/\os=[]/\os'=[]\/¬(bt s j=11/\os=[])/\gp os j (bt s j)=.ok os'):=.inr ⟨aO.o,Q⟩;have a8:=qH Q;obtain⟨a9,ba,rfl⟩:=Row.shape ab;have aE:=aO.o;clear a4 a5 Q a7 aw a6 Z J0 I1 J1 I2 J2 I3 J3 I4 J4 I5 J5 I6 J6 I7 J7 I8 J8 I9 J9;have bv:=qH aa;gi_wp2_with fail
   have bj:=qH J;refine⟨trivial,(callsIn_wide.2 (uj aa ae)).mono ?_⟩;rintro e K⟨L,af,ag⟩;have M:Kept (λk=>k=a.heap.size\/(Value.slice C os.length D).ownBlock=some k) d K:=J.fresh L (λk X hh=>hh.elim .inl (λe=>absurd (show k=d.heap.size from e) qo));have ah:Kept F0 a K:=S.fresh M W;have bk:d.heap.size+1<=G.heap.size:=bq;have bm:G.heap.size<=K.heap.size:=by have:=L.size;simpa using this
   clear J;rcases hb:iE j (bt s j) s n (j+1) with⟨q,p⟩|⟨y,r⟩
   .obtain rfl:=ag _ _ hb;exact⟨rfl,⟨ah,.inr (.inl ⟨q,p,V.o.trans (DZ R H HL.o hb),rfl,some os,j,F,B.still _ _ _ _ _ _ I.o M Y⟩)⟩⟩
   obtain⟨u,rfl,⟨rfl,gv,lv,aI,N,O⟩,P⟩:=af _ _ hb;have bn:j+1<=r:=LQ hb;have HB:=qH hb;have ai:isOpen (λg=>g≠a.heap.size/\¬F g/\a.heap.size<=g/\g≠d.heap.size/\g<G.heap.size) os' K (qX a9 os' ba):=(ab.mono (λg t h=>⟨h.1,h.2.1,h.2.2.1,h.2.2.2,by simpa using t⟩)).kept L (λg _ t hh=>hh.elim (λe=>t.1 e) (λe=>t.2.2.2.1 e));clear af ag hb aa ae ab L;obtain⟨pg,cg,rfl⟩:=Row.shape N;obtain⟨pl,cl,rfl⟩:=Row.shape O;obtain⟨⟨Z,J0⟩,⟨I1,J1⟩,⟨I2,J2⟩,⟨I3,J3⟩,⟨I4,J4⟩,⟨I5,J5⟩,⟨I6,J6⟩,⟨I7,J7⟩,⟨I8,J8⟩,⟨I9,J9⟩⟩:=aI.blk.ten;have aj:=qH ai;clear ai;gi_wp2_with fail
   refine⟨trivial,(callsIn_wide.2 (oz P)).mono ?_⟩;rintro e w⟨rfl,rfl⟩;have ak:Kept (λk=>k=a.heap.size\/(Value.slice C os.length D).ownBlock=some k) d (w.setCell (qA d.heap.size 1) (qJ r)):=M.new qR _;have al:=B.still _ _ _ _ _ _ I.o ak Y;have am:Kept F0 a (w.setCell (qA d.heap.size 1) (qJ r)):=S.fresh ak W;have aJ:Rd (w.setCell (qA d.heap.size 1) (qJ r)) a.heap.size s r n:=P.dD aG _;have an:isOpen (λg=>g≠a.heap.size/\¬F g/\a.heap.size<=g/\g≠d.heap.size/\g<G.heap.size) os' (w.setCell (qA d.heap.size 1) (qJ r)) (qX a9 os' ba):=Row.other aj.o (λk X=>X.2.2.2.1) _;have ao:dH (λg=>G.heap.size<=g/\g<w.heap.size) y.dL (w.setCell (qA d.heap.size 1) (qJ r)) (qX pg y.dL cg):=Row.other (Row.mono N (λg t h=>⟨by simpa using h,t⟩)) (λk X=>qo) _;have ap:isRow 93 2 numCells (λg=>G.heap.size<=g/\g<w.heap.size) y.dA (w.setCell (qA d.heap.size 1) (qJ r)) (qX pl y.dA cl):=Row.other (Row.mono O (λg t h=>⟨by simpa using h,t⟩)) (λk X=>qo) _;obtain⟨f,tmps,assign,body,hy,hR⟩:=B.round os (some os') j F _ r (bt s j) y _ _ (λg=>G.heap.size<=g/\g<w.heap.size) al P.le qo ay (.inr ⟨aE,_,a8.o,rfl⟩) rfl H HB.o ao ap (λk X=>⟨by simpa using X.2,λz=>by have:=B.lt _ _ _ _ _ I.o z;omega⟩);skip
   have aK:(Instr.yield l #[.agg #[qJ j,qJ r,qB (bt s j:Nat),.bool y.typed,qX pg y.dL cg,qI y.align,qI y.num.1,qJ y.num.2,qX pl y.dA cl,qJ y.val]]).run prog (w.setCell (qA d.heap.size 1) (qJ r))=.ok (.round l f tmps assign body) (w.setCell (qA d.heap.size 1) (qJ r)):=hy;have HR:=qH hR;have a1:=qH an;clear hy hR an ao ap N O al M ah aj;gi_wp2
   refine HR.o.mono ?_;rintro ε w6 (⟨bb,rfl,br,F',aq,E,ar⟩ | ⟨q,p,rfl,hbad,E⟩)
   .obtain rfl:=br.resolve_left qs;have aL:Kept F0 a w6:=am.fresh E (λk X z=>T k z X);have aM:=qH aq;have aD:=qH E;have au:=qH ar;clear aq E ar HR aK Z J0 I1 J1 I2 J2 I3 J3 I4 J4 I5 J5 I6 J6 I7 J7 I8 J8 I9 J9;gi_wp2
    go_roundw
    case rel=>
     refine⟨fuel - 1,r,os',F',aJ.kept aD.o aA,aM.o,?_,bp,qo,V.o.trans (JX R H aE a8.o HB.o),aL,λk X aN=>?_,λX=>?_⟩
     .refine(a1.o.kept aD.o (λg _ t=>t.2.1)).mono (λg _ t=>⟨t.1,λz=>?_,t.2.2.1⟩);obtain h | h | h:=au.o g z
      .exact t.2.1 h
      .omega
      simp at h;omega
     .obtain h | h | h:=au.o k X
      .exact T k h aN
      .omega
      simp at h;omega
     obtain h | h | h:=au.o _ X
     .exact aA h
     .omega
     simp at h;omega
    rw[Gt (aJ.kept aD.o aA),Gt ax];omega
   exact⟨rfl,⟨am.fresh E (λk X z=>T k z X),.inr (.inr ⟨q,p,hbad,rfl⟩)⟩⟩
 obtain rfl:=aT _ _ (gQ H);exact⟨rfl,⟨S.fresh aC W,.inr (.inl ⟨2,n,V.o.trans (JZ R H),rfl,some os,j,F,B.still _ _ _ _ _ _ I.o aC Y⟩)⟩⟩
section
variable {F:Fence}{n:Nat}{P:Program}
def Js(P:Program)(l:Nat)(R:Ending->World->Prop):Exit->Act->World->Prop
 | .normal,_,w=>∃v w',(Instr.endRound l none).run P w=.ok v w'/\R (.returned v) w'
 | .ret,_,w=>∃v w',(Instr.endRound l (some .ret)).run P w=.ok v w'/\R (.returned v) w'
 | .panic chain,a,w=>a.defers=[]/\R (.panicked chain) w
 | _,_,_=>False
theorem AL{l:Nat}{f:FuncId}{tmps:Array qv}{assign body:Code}{w:qW}{R:Ending->qW->Prop}(q:F.fn f)(i:(∃fn,P.funcs[f]?=some fn)\/∀chain w',¬R (.panicked chain) w')
  (h:assign.wpIn (F.inRound l) n P (Exit.then (λz A=>∃r,(Instr.beginRound l).run P A=.ok () r/\body.wpIn (F.inRound l) n P (Js P l R) z r) (λ_ _ _=>False))
   {tmps:=tmps,defers:=[]} w):
  RoundIn F n P l f tmps assign body w R:=by
 refine⟨q,λd e B=>?_⟩;have a:(F.inRound l).room ((d::e).length+1+n):=B;have start:∀g,(g=[.code assign,.beginRound,.code body])->Frame.round l f tmps assign body .normal=({(default:Frame) with fn:=f,kind:=.normal,roundOf:=some l}:Frame).atR {tmps:=tmps,defers:=[]} g:=by
  rintro _ rfl;simp[Frame.round,Frame.atR]
 rw[start _ rfl];generalize j:({(default:Frame) with fn:=f,kind:=.normal,roundOf:=some l}:Frame)=fr;have ho:fr.roundOf=some l:=by rw[<-j]
 have s:fr.kind=.normal:=by rw[<-j]
 have t:fr.fn=f:=by rw[<-j]
 have b:(F.inRound l).fn fr.fn:=by rw[t];exact q
 obtain⟨C,D,L,u,m⟩:=h fr [.beginRound,.code body] (d::e) ho b a;cases C<;>first | exact u.elim | skip;obtain⟨M,E,G⟩:=u;obtain⟨H,o,x,c,p⟩:=G fr [] (d::e) ho b a;have begun:=StepsIn.one (I:=Machine.fenced P (F.inRound l)) (qdw (fr:=fr.atR D [.beginRound,.code body]) b a rfl) (stepR_beginRound (cs:=d::e) (k:=[.code body]) ho E);cases H<;>first | exact c.elim | skip
 .obtain⟨v,w4,hend,hR⟩:=c;exact⟨.returned v,w4,hR,(qcl m begun).trans (qcl p (.one (qdw (fr:=fr.atR o []) b a rfl) (stepR_round_end ho s hend)))⟩
 .obtain⟨v,w4,hend,hR⟩:=c;obtain⟨J,K⟩:=p.2 (by rw[ho];rfl);exact⟨.returned v,w4,hR,(qcl m begun).trans (qcl K (.one (qdw (fr:=fr.atR o (.code .ret::J)) b a rfl) (stepR_round_ret ho s hend)))⟩
 rename_i chain;obtain⟨fn,i⟩ | hno:=i
 case inr=>exact absurd c.2 (hno _ _)
 obtain⟨g,up⟩:=p;have y:({fr.atR o g with mode:=.panicking chain}:Frame).leaving P x (.panicked chain):=⟨rfl,c.1,fn,by show P.funcs[fr.fn]?=_;rw[t];exact i⟩;exact⟨.panicked chain,x,c.2,(qcl m begun).trans (qcl up (.one (fenced_leaving (F:=F.inRound l) (n:=n) b a y) (step_leave_panicked y)))⟩
end
structure IL(P:Program)(m:Nat)(s:qS)(n pt:Nat)(yf:Nat->Nat->World->Prop)(mr:Prop)(tmps:Array Value)(assign body:Code)(I:Option (List Nat)->Nat->(Nat->Prop)->World->Prop):Prop where
 still:∀o j F W W' S,I o j F W->Kept S W W'->(∀k,k<W.heap.size->S k->¬F k)->I o j F W'
 lt:∀o j F W k,I o j F W->F k->k<W.heap.size
 round:∀l os o' j F W e x y gv lv hand,I (some os) j F W->e<=n->j<e->os.length<=50->x8 os o' j x->x=bt s j->j<n->iE j x s n (j+1)=.ok (y,e)->
  dH hand y.dL W gv->isRow 93 2 numCells hand y.dA W lv->(∀k,hand k->k<W.heap.size/\¬F k)->¬F l->l<W.heap.size->¬hand l->
  ∃W1 a1,(∀K:Act->World->Prop,K a1 W1->assign.wpIn (Fence.wide.inRound l) m P (Exit.then K (λ_ _ _=>False)) {tmps:=tmps.setIfInBounds pt (.agg (lM j e x y gv lv).toArray),defers:=[]} W)/\qK W W1/\
   ∀W2,Kept (only l) W1 W2->body.wpIn (Fence.wide.inRound l) m P (λex a w=>match ex with
    | .normal=>∃F',I o' e F' w/\Kept F W2 w/\∀k,F' k->F k\/hand k\/W.heap.size<=k
    | .ret=>mr/\o'=none/\∃F',I o' e F' w/\Kept F W2 w/\∀k,F' k->F k\/hand k\/W.heap.size<=k
    | .panic chain=>a.defers=[]/\∃q p:Nat,Ending.panicked chain=fo q p/\yf q p w/\Kept F W2 w
    | _=>False) a1 W2
theorem Kept.putObj{w:qW}{r:Nat}{o:Obj}:Kept (only r) w (w.putObj r o):=
 ⟨rfl,rfl,rfl,qs,λk _ X=>World.putObj_heap_other (λe=>X e)⟩
def FP(mr:Prop)(l D:Nat)(r:Loop)(I:Option (List Nat)->Nat->(Nat->Prop)->World->Prop)(os:Option (List Nat))(j:Nat)(F:Nat->Prop)(W:World):Prop:=
 ∃Fi,I os j Fi W/\(∀k,Fi k->F k)/\(∀k,F k->Fi k\/k=l\/k=D)/\F l/\F D/\¬Fi l/\¬Fi D/\l≠D/\(∃r',W.heap[l]?=some (.loop r')/\(r'=r\/(mr/\os=none/\r'.pending=some .ret/\r'.state≠.busy)))/\W.heap[D]?=some (.deferred (some []))
theorem CV{P:Program}{mr:Prop}{m:Nat}{s:qS}{n l b M:Nat}{yf:Nat->Nat->qW->Prop}{r:Loop}{I:Option (qM)->Nat->(qD)->qW->Prop}(af:(∃fn,P.funcs[r.fn]?=some fn)\/∀q p w,¬yf q p w)(aa:r.state=.ready)(ag:r.pending=none)(ab:r.params= #[M])
  (hw:IL P m s n M yf mr r.tmps r.assign r.body I):Goes P m l s n (λq p W=>yf q p W/\W.heap[b]?=some (.deferred (some []))) (FP mr l b r I):=by
 refine⟨?_,?_,?_⟩
 .rintro os j F W W' S⟨D,U,L,E,h4,h5,h6,g,i,⟨N,d,G⟩,o⟩ X hs;have A:l<W.heap.size:=(qah.1 d).1;have H:b<W.heap.size:=(qah.1 o).1;exact⟨D,hw.still _ _ _ _ _ _ U X (λk ah hS hF=>hs k ah hS (L k hF)),L,E,h4,h5,h6,g,i,⟨N,(X.block l A (λc=>hs l A c h4)).trans d,G⟩,(X.block b H (λc=>hs b H c h5)).trans o⟩
 .rintro os j F W k⟨D,U,L,E,h4,h5,h6,g,i,⟨N,d,G⟩,o⟩ X;obtain h | rfl | rfl:=E k X
  .exact hw.lt _ _ _ _ _ U h
  .exact(qah.1 d).1
  exact(qah.1 o).1
 rintro os o' j F W e x y gv J ai⟨D,U,L,E,h4,h5,h6,g,i,⟨N,d,G⟩,o⟩ he hj aj hl ak al am hg an hh;have d:W.heap[l]?=some (.loop r):=by rw[d,G.resolve_right (λc=>by cases c.2.1)]
 have A:l<W.heap.size:=(qah.1 d).1;have H:b<W.heap.size:=(qah.1 o).1;obtain⟨u,a1,ao,O,ap⟩:=hw.round l os o' j D W e x y gv J ai U he hj aj hl ak al am hg an (λk X=>⟨(hh k X).1,λc=>(hh k X).2 (L k c)⟩) h6 A (λc=>(hh l c).2 h4);have hy:=run_yield (P:=P) (args:= #[.agg (lM j e x y gv J).toArray]) d (by rw[ab];rfl);have aq:(r.params.zip #[Value.agg (lM j e x y gv J).toArray]).foldl (λtmps (t,a)=>tmps.setIfInBounds t a) r.tmps=r.tmps.setIfInBounds M (.agg (lM j e x y gv J).toArray):=by simp[ab]
 rw[aq]at hy;refine⟨r.fn,_,r.assign,r.body,hy,AL trivial (af.imp id λhb chain w' hR=>?_) (ao _ ?_)⟩
 .obtain⟨bb,hc,_⟩ | ⟨q,p,_,hbad,_⟩:=hR
  .cases hc
  exact hb q p _ hbad.1
 have ac:u.heap[l]?=some (.loop r):=(O.block l A (λc=>c)).trans d;have K:u.heap[b]?=some (.deferred (some [])):=(O.block b H (λc=>c)).trans o;have Q:l<u.heap.size:=(qah.1 ac).1;refine⟨_,run_beginRound ac aa,wpIn_mono (ap _ Kept.putObj) ?_⟩;have ad:(u.putObj l (.loop {r with state:=.busy})).heap[l]?=some (.loop {r with state:=.busy}):=World.putObj_heap_same Q;have R:(u.putObj l (.loop {r with state:=.busy})).heap[b]?=some (.deferred (some [])):=(World.putObj_heap_other (λc=>i c.symm)).trans K;have T:Kept F W (u.putObj l (.loop {r with state:=.busy})):=(O.mono (λ_ _ c=>c.elim)).trans (Kept.putObj.mono (λk _ (c:k=l)=>c▸h4));intro ex a v z;cases ex with
 | normal=>
  obtain⟨B,V,f,hF'⟩:=z;have C:v.heap[l]?=some (.loop {r with state:=.busy}):=(f.block l (by simpa using Q) h6).trans ad;have Y:v.heap[b]?=some (.deferred (some [])):=(f.block b (by simpa using (qah.1 K).1) g).trans R;have Z:l<v.heap.size:=(qah.1 C).1;refine⟨_,_,run_endRound none C,.inl ⟨_,rfl,.inr rfl,λk=>B k\/k=l\/k=b,⟨B,?_,λk X=>.inl X,λk X=>X,.inr (.inl rfl),.inr (.inr rfl),?_,?_,i,⟨_,World.putObj_heap_same Z,.inl ?_⟩,(World.putObj_heap_other (λc=>i c.symm)).trans Y⟩,?_,?_⟩⟩
  .refine hw.still _ _ _ _ _ (only l) V Kept.putObj (λk _ (X:k=l) hF=>?_);subst X;exact Ua
  .intro hF;exact Ua
  .intro hF;obtain h | h | h:=hF' _ hF
   .exact g h
   .exact(hh _ h).2 h5
   omega
  .have:({r with state:=.ready,pending:=none}:Loop)=r:=by rw[<-aa,<-ag]
   simp[this]
  .exact(T.fresh f (λk _ hF=>L k hF)).trans (Kept.putObj.mono (λk _ (c:k=l)=>c▸h4))
  exact WI
 | ret=>
  obtain⟨ar,ae,B,V,f,hF'⟩:=z;have C:v.heap[l]?=some (.loop {r with state:=.busy}):=(f.block l (by simpa using Q) h6).trans ad;have Y:v.heap[b]?=some (.deferred (some [])):=(f.block b (by simpa using (qah.1 K).1) g).trans R;have Z:l<v.heap.size:=(qah.1 C).1;refine⟨_,_,run_endRound (some .ret) C,.inl ⟨_,rfl,.inl ae,λk=>B k\/k=l\/k=b,⟨B,?_,λk X=>.inl X,λk X=>X,.inr (.inl rfl),.inr (.inr rfl),?_,?_,i,⟨_,World.putObj_heap_same Z,.inr ⟨ar,ae,rfl,qs⟩⟩,(World.putObj_heap_other (λc=>i c.symm)).trans Y⟩,?_,?_⟩⟩
  .refine hw.still _ _ _ _ _ (only l) V Kept.putObj (λk _ (X:k=l) hF=>?_);subst X;exact Ua
  .intro hF;exact Ua
  .intro hF;obtain h | h | h:=hF' _ hF
   .exact g h
   .exact(hh _ h).2 h5
   omega
  .exact(T.fresh f (λk _ hF=>L k hF)).trans (Kept.putObj.mono (λk _ (c:k=l)=>c▸h4))
  exact WI
 | panic chain=>obtain⟨hd,q,p,hc,hbad,f⟩:=z;exact⟨hd,.inr ⟨q,p,hc,⟨hbad,(f.block b (by simpa using (qah.1 K).1) g).trans R⟩,T.fresh f (λk _ hF=>L k hF)⟩⟩
 | exit id=>exact z.elim
 | goto t=>exact z.elim
 | outgrown=>exact z.elim
theorem xu{mr:Prop}{m:Nat}{g:Operand}{D:Tmp}{assign body:Code}{Q:Exit->Act->qW->Prop}{a:Act}{w:qW}{fb:Nat}{s:qS}{i n:Nat}{yf:Nat->Nat->qW->Prop}{I:Option (qM)->Nat->(qD)->qW->Prop}{F0:qD}(fn:FuncId)
  (T:a.eval g=.func (.func 316) #[] #[qP fb]) (V:Enters 316) (hf:Rd w fb s i n) (hI:I (some []) i F0 w) (hw:IL prog m s n D yf mr a.tmps assign body I) (Y:(∃Z,prog.funcs[fn]?=some Z)\/∀q p W,¬yf q p W)
  (hdone:∀h j u b,o8 s n i=.ok j->I none j u b->w.heap.size<=h->b.heap[h]?=some (.deferred (some []))->Kept F0 w b->Q .normal {a with defers:={target:=.collected h,args:= #[]}::a.defers} b)
  (hret:mr->∀h j u b,o8 s n i=.ok j->I none j u b->w.heap.size<=h->b.heap[h]?=some (.deferred (some []))->Kept F0 w b->Q .ret {a with defers:={target:=.collected h,args:= #[]}::a.defers} b)
  (hstop:∀h (q p:Nat) chain b,o8 s n i=.error (q,p)->Ending.panicked chain=fo q p->w.heap.size<=h->b.heap[h]?=some (.deferred (some []))->Kept F0 w b->Q (.panic chain) {a with defers:={target:=.collected h,args:= #[]}::a.defers} b)
  (hbad:∀h (q p:Nat) chain b,yf q p b->Ending.panicked chain=fo q p->w.heap.size<=h->b.heap[h]?=some (.deferred (some []))->Kept F0 w b->Q (.panic chain) {a with defers:={target:=.collected h,args:= #[]}::a.defers} b):
  ∃(l:Nat)(mark:List Deferred)(K:qW)(d:Deferred)(L:qW)(f:FuncId)(args:Array qv)(M:qW),
   (Instr.enterLoop fn a.tmps #[D] assign body Fence.wide.round).run prog w=.ok (l,mark) K/\
   (resolve a.eval (rangeCall g l) 0).run prog K=.ok d L/\
   (invoke d.target d.args).run prog L=.ok (.enter f args) M/\
   CallsIn Fence.wide (m+1) prog f args M λe E=>match e with
    | .returned _=>(∃v,(Instr.endLoop l).run prog E=.ok none v/\Q .normal {a with defers:=mark++a.defers} v)\/(mr/\∃v,(Instr.endLoop l).run prog E=.ok (some .ret) v/\Q .ret {a with defers:=mark++a.defers} v)
    | .panicked chain=>Q (.panic chain) {a with defers:=mark++a.defers} E
    | .outgrown=>False:=by
 have aa:∀(args:Array qv)(w:qW),(callFunc 316 args).run prog w=.ok (.enter 316 args) w:=V;obtain⟨r,o⟩:∃r:Loop,r={state:=.ready,pending:=none,fn,tmps:=a.tmps,params:= #[D],assign,body,defers:=w.heap.size}:=⟨_,rfl⟩;obtain⟨t,y⟩:=qE ((w.alloc (.deferred (some []))).alloc (.loop r));have ab:t.heap[w.heap.size+1]?=some (.loop r):=by rw[y];have:=World.alloc_heap_new (w.alloc (.deferred (some []))) (.loop r);rwa[qbn]at this
 have ac:t.heap[w.heap.size]?=some (.deferred (some [])):=by rw[y];exact(Below.heap_alloc _ _ _ qs).trans (World.alloc_heap_new w _)
 have G:qK w t:=by rw[y];exact(qr.alloc _).alloc _
 refine⟨w.heap.size+1,[{target:=.collected w.heap.size,args:= #[]}],t,{target:=.fn (.func 316) #[qP fb],args:= #[.func (.yield (w.heap.size+1)) #[] #[]]},t,316,#[.func (.yield (w.heap.size+1)) #[] #[],qP fb],t,?_,?_,?_,?_⟩
 .rw[y,o];exact run_enterLoop_outer _ _ _ _ _
 .simp only[resolve,T];simp[go_sem]
 .simp[invoke,go_sem,aa]
 have hG:Goes prog m (w.heap.size+1) s n (λq p W=>yf q p W/\W.heap[w.heap.size]?=some (.deferred (some []))) (FP mr (w.heap.size+1) w.heap.size r I):=
  CV (by rw[o];exact Y) (by rw[o]) (by rw[o]) (by rw[o]) (by rw[o];exact hw)
 have N:∀k,F0 k->k<w.heap.size:=λk X=>hw.lt _ _ _ _ _ hI X;have hJ:FP mr (w.heap.size+1) w.heap.size r I (some []) i (λk=>F0 k\/k=w.heap.size+1\/k=w.heap.size) t:=
  ⟨F0,hw.still _ _ _ _ _ _ hI G (λ_ _ c=>c.elim),λk X=>.inl X,λk X=>X,.inr (.inl rfl),.inr (.inr rfl),λc=>by have:=N _ c;omega,λc=>by have:=N _ c;omega,qo,⟨r,ab,.inl rfl⟩,ac⟩
 refine(Q3 hG (hf.kept G (λc=>c)) hJ).mono ?_;rintro ε b⟨X,ad⟩;have z:Kept F0 w b:=(G.mono (λ_ _ c=>c.elim)).fresh X (λk O x=>x.elim id (λc=>qo));obtain⟨j,u,A,rfl,⟨H,U,ae,h3,h4,h5,J,h7,h8,⟨r',B,R⟩,C⟩,-⟩ | ⟨q,p,A,rfl,os,j,u,⟨H,U,ae,h3,h4,h5,J,h7,h8,⟨r',B,R⟩,C⟩⟩ | ⟨q,p,⟨af,ag⟩,rfl⟩:=ad
 .have ll:w.heap.size+1<b.heap.size:=(qah.1 B).1;obtain rfl | ⟨S,-,hp,ah⟩:=R
  .refine .inl ⟨_,by rw[run_endLoop B (by rw[o];simp)];rw[o],?_⟩;refine hdone w.heap.size j H _ A (hw.still _ _ _ _ _ _ U (Kept.putObj (r:=w.heap.size+1)) (λk _ (c:k=_) x=>J (c▸x))) qR ((World.putObj_heap_other qo).trans C) ?_;exact z.fresh Kept.putObj (λk O (c:k=_)=>qo)
  refine .inr ⟨S,_,by rw[run_endLoop B ah,hp],?_⟩;refine hret S w.heap.size j H _ A (hw.still _ _ _ _ _ _ U (Kept.putObj (r:=w.heap.size+1)) (λk _ (c:k=_) x=>J (c▸x))) qR ((World.putObj_heap_other qo).trans C) ?_;exact z.fresh Kept.putObj (λk O (c:k=_)=>qo)
 .exact hstop w.heap.size q p _ b A rfl qR C z
 exact hbad w.heap.size q p _ b af rfl qR ag z
theorem Dq{mr:Prop}{m:Nat}{g:Operand}{u:Tmp}{assign body:Code}{Q:Exit->Act->qW->Prop}{a:Act}{w:qW}{fb:Nat}{s:qS}{i n:Nat}{yf:Nat->Nat->qW->Prop}{I:Option (qM)->Nat->(qD)->qW->Prop}{F0:qD}
  (x:a.eval g=.func (.func 316) #[] #[qP fb]) (y:Enters 316) (hf:Rd w fb s i n) (hI:I (some []) i F0 w) (hw:IL prog m s n u yf mr a.tmps assign body I) (hb:∀q p W,¬yf q p W)
  (hdone:∀k j o b,o8 s n i=.ok j->I none j o b->w.heap.size<=k->b.heap[k]?=some (.deferred (some []))->Kept F0 w b->Q .normal {a with defers:={target:=.collected k,args:= #[]}::a.defers} b)
  (hret:mr->∀k j o b,o8 s n i=.ok j->I none j o b->w.heap.size<=k->b.heap[k]?=some (.deferred (some []))->Kept F0 w b->Q .ret {a with defers:={target:=.collected k,args:= #[]}::a.defers} b)
  (hstop:∀k (q p:Nat) chain b,o8 s n i=.error (q,p)->Ending.panicked chain=fo q p->w.heap.size<=k->b.heap[k]?=some (.deferred (some []))->Kept F0 w b->Q (.panic chain) {a with defers:={target:=.collected k,args:= #[]}::a.defers} b):
  (Code.rangeFunc g #[u] assign body).wpIn Fence.wide (m+2) prog Q a w:=by
 refine wpIn_rangeFunc ?_;intro fn _;obtain⟨l,mark,z,d,A,f,args,B,U,C,D,E⟩:=xu (Q:=Q) fn x y hf hI hw (.inr hb) hdone hret hstop (λ_ _ _ _ _ c=>absurd c (hb _ _ _));refine⟨l,mark,z,d,A,f,args,B,U,C,λ_ _=>trivial,D,λh=>by simp[Fence.wide]at h,E.mono ?_⟩;intro e G hh;cases e with
 | returned v=>
  obtain⟨r,t,hb⟩ | ⟨-,r,t,hb⟩:=hh
  .exact⟨none,r,t,hb⟩
  exact⟨some .ret,r,t,wpIn_ret hb⟩
 | panicked chain=>exact hh
 | outgrown=>exact hh.elim
theorem O7{m:Nat}{g:Operand}{e:Tmp}{assign body:Code}{Q:Exit->Act->qW->Prop}{a:Act}{w:qW}{fb:Nat}{s:qS}{i n:Nat}{yf:Nat->Nat->qW->Prop}{I:Option (qM)->Nat->(qD)->qW->Prop}{F0:qD}
  (f:a.eval g=.func (.func 316) #[] #[qP fb]) (h:Enters 316) (hf:Rd w fb s i n) (hI:I (some []) i F0 w) (hw:IL prog m s n e yf False a.tmps assign body I) (hb:∀q p W,¬yf q p W)
  (hdone:∀d j k b,o8 s n i=.ok j->I none j k b->w.heap.size<=d->b.heap[d]?=some (.deferred (some []))->Kept F0 w b->Q .normal {a with defers:={target:=.collected d,args:= #[]}::a.defers} b)
  (hstop:∀d (q p:Nat) chain b,o8 s n i=.error (q,p)->Ending.panicked chain=fo q p->w.heap.size<=d->b.heap[d]?=some (.deferred (some []))->Kept F0 w b->Q (.panic chain) {a with defers:={target:=.collected d,args:= #[]}::a.defers} b):
  (Code.rangeFunc g #[e] assign body).wpIn Fence.wide (m+2) prog Q a w:=
 Dq f h hf hI hw hb hdone (λc=>c.elim) hstop
section
variable {F:Fence}{n:Nat}{P:Program}
def IZ(f0:FuncId)(F:Fence)(n:Nat)(P:Program)(c:Code)(Q:Exit->Act->World->Prop)(a:Act)(w:World):Prop:=
 ∀(b:Frame)(k:List Item)(cs:List Frame),b.fn=f0->b.roundOf=F.round->F.fn b.fn->F.room (cs.length+1+n)->
  ∃e a' w',Q e a' w'/\ArrivesIn (Machine.fenced P F) P (lone (b.atR a (.code c::k)) cs w) b k cs e a' w'
theorem Xr{d:FuncId}{c:Code}{Q:Exit->Act->qW->Prop}{a:Act}{w:qW}(h:c.wpIn F n P Q a w):IZ d F n P c Q a w:=λb k cs _=>h b k cs
theorem rQ{f:FuncId}{x y:Code}{Q:Exit->Act->qW->Prop}{a:Act}{w:qW}(h:x.wpIn F n P (Exit.then (IZ f F n P y Q) Q) a w):IZ f F n P (.seq x y) Q a w:=by
 intro b k cs hf g hb c;obtain⟨e,l,m,i,j⟩:=h b (.code y::k) cs g hb c;have h0:(lone (b.atR a (.code (.seq x y)::k)) cs w).fenced P F:=qdw hb c rfl;by_cases d:e=.normal
 .subst d;obtain⟨o,p,q,r,s⟩:=i b k cs hf g hb c;exact⟨o,p,q,r,.of_steps (.head h0 stepR_seq j) s⟩
 refine⟨e,l,m,?_,.of_steps (.one h0 stepR_seq) (.pass (x:=.code y) rfl (λ_ _=>.inl d) j)⟩;cases e<;>first | exact absurd rfl d | exact i
theorem KJ{f:FuncId}{fn:Func}{c:Code}{args:Array qv}{w:qW}{R:Ending->qW->Prop}
  (hf:P.funcs[f]?=some fn) (hb:fn.body=some c) (s:F.fn f)
  (h:IZ f F n P c (bodyPostM F n P fn R) {tmps:=args++Array.replicate (fn.ntmps - args.size) undef,defers:=[]} w) (hno:∀w,¬R .outgrown w) (t:F.round=none:=by rfl):CallsIn F n P f args w R:=by
 refine⟨s,λcs o=>?_⟩;obtain⟨b,k⟩:∃b:Frame,b={(default:Frame) with fn:=f,kind:=.normal,roundOf:=none}:=⟨_,rfl⟩;have U:b.fn=f:=by rw[k]
 have p:b.roundOf=none:=by rw[k]
 have v:b.kind=.normal:=by rw[k]
 have x:Frame.enter P f args .normal=b.atR {tmps:=args++Array.replicate (fn.ntmps - args.size) undef,defers:=[]} [.code c]:=by
  simp[Frame.enter,Frame.atR,hf,hb,k]
 have q:F.fn b.fn:=by rw[U];exact s
 have y:P.funcs[b.fn]?=some fn:=by rw[U];exact hf
 obtain⟨e,d,w',g,m⟩:=h b [] cs U (p.trans t.symm) q o;rw[<-x]at m;have r:∀(u:FrameMode)(a:List Item),StepsIn (Machine.fenced P F) P (lone (Frame.enter P f args .normal) cs w) (lone {b.atR d a with mode:=u} cs w')->LeavesInM F n P fn d.tmps R d.defers u w'->
   ∃e i fr,R e i/\ComesIn (Machine.fenced P F) P (lone (Frame.enter P f args .normal) cs w) (lone fr cs i) e/\fr.fn=f/\fr.leaving P i e:=by
  intro u a j hl;obtain⟨z,i,A,B,C,D,E⟩:=leaves_stepsInM d.defers u w' {b.atR d a with mode:=u} cs rfl rfl rfl y v q o hl;exact⟨z,i,A,B,ComesIn.of_steps j C,D.trans U,E⟩
 cases e with
 | normal=>exact r .returning [] (qcl m (.one (qdw (fr:=b.atR d []) q o rfl) (stepR_end p))) g
 | ret=>obtain⟨a,j⟩:=m.1 p;exact r _ a j g
 | panic chain=>obtain⟨a,j⟩:=m;exact r _ a j g
 | exit id=>exact g.elim
 | goto l=>exact g.elim
 | outgrown=>exact absurd g (hno _)
end
theorem IX{t:FuncId}{m:Nat}{g:Operand}{u:Tmp}{assign body:Code}{Q:Exit->Act->qW->Prop}{a:Act}{w:qW}{fb:Nat}{s:qS}{i n:Nat}{yf:Nat->Nat->qW->Prop}{I:Option (qM)->Nat->(qD)->qW->Prop}{F0:qD}
  (C:∃D,prog.funcs[t]?=some D)
  (E:a.eval g=.func (.func 316) #[] #[qP fb]) (G:Enters 316) (hf:Rd w fb s i n) (hI:I (some []) i F0 w) (hw:IL prog m s n u yf False a.tmps assign body I)
  (hdone:∀o j H h,o8 s n i=.ok j->I none j H h->w.heap.size<=o->h.heap[o]?=some (.deferred (some []))->Kept F0 w h->Q .normal {a with defers:={target:=.collected o,args:= #[]}::a.defers} h)
  (hstop:∀o (q p:Nat) chain h,o8 s n i=.error (q,p)->Ending.panicked chain=fo q p->w.heap.size<=o->h.heap[o]?=some (.deferred (some []))->Kept F0 w h->Q (.panic chain) {a with defers:={target:=.collected o,args:= #[]}::a.defers} h)
  (hbad:∀o (q p:Nat) chain h,yf q p h->Ending.panicked chain=fo q p->w.heap.size<=o->h.heap[o]?=some (.deferred (some []))->Kept F0 w h->Q (.panic chain) {a with defers:={target:=.collected o,args:= #[]}::a.defers} h):
  IZ t Fence.wide (m+2) prog (Code.rangeFunc g #[u] assign body) Q a w:=by
 intro b k cs J K hb z;obtain⟨l,mark,T,d,V,f,args,W,U,L,M,-,N⟩:=xu (Q:=Q) t E G hf hI hw (.inl C) hdone (λc=>c.elim) hstop hbad;rw[<-J,<-K]at U;have A:=stepR_rangeFunc (P:=prog) (b:=b) (a:=a) (k:=k) (cs:=cs) (w:=w) U L M;have h0:(lone (b.atR a (.code (.rangeFunc g #[u] assign body)::k)) cs w).fenced prog Fence.wide:=fenced_lone (.inl trivial) (λ_ _=>trivial) (Fence.room_le z qo);obtain⟨e,x,fr,y,B,X,r⟩:=N (b.atR {a with defers:=mark++a.defers} (.inRangeFunc l::k)::cs) (room_wide _);cases e with
 | outgrown=>exact y.elim
 | returned v=>obtain⟨O,R,S⟩:=y.resolve_right (λc=>c.1.elim);have hl:(lone fr (b.atR {a with defers:=mark++a.defers} (.inRangeFunc l::k)::cs) x).fenced prog Fence.wide:=fenced_leaving (n:=0) trivial (room_wide _) r;refine⟨.normal,_,O,S,?_⟩;refine .head h0 A (qcl B (.head hl ?_ (.one (qdw (fr:=b.atR {a with defers:=mark++a.defers} (.endRangeFunc l::k)) hb z rfl) (stepR_endRangeFunc R))));rw[<-finish_atR_inRangeFunc l v];exact step_leave_returned r
 | panicked chain=>have hl:(lone fr (b.atR {a with defers:=mark++a.defers} (.inRangeFunc l::k)::cs) x).fenced prog Fence.wide:=fenced_leaving (n:=0) trivial (room_wide _) r;refine⟨.panic chain,_,x,y,.inRangeFunc l::k,.head h0 A (qcl B (.one hl ?_))⟩;rw[<-Frame.raise_atR];exact step_leave_panicked r
end Go.Proofs.YtfkcodlceoghpaaGreatDoor
