import Derived.BigQuiet
import Derived.Deep.AppendLies
import Derived.Deep.QuietTactic
import Derived.Deep.RegionLaw
import Derived.Laws.EntriesVeiled
import Derived.RangeFuncCalls
import Derived.RangeFuncLeaves
import Derived.RangeFuncRecord
import Derived.RegionDies
import Derived.Test.YtfkcodlceoghpaaGreatDoorX9
import Derived.Test.YtfkcodlceoghpaaGreatDoorX10
import Derived.Test.YtfkcodlceoghpaaGreatDoorX11
namespace Go.Proofs.YtfkcodlceoghpaaGreatDoor
set_option maxHeartbeats 3200000
set_option maxRecDepth 100000
set_option linter.unusedSimpArgs false
set_option linter.unusedVariables false
open Go.RowKit Go.Proofs.Tryz
section
theorem yE(s:ByteArray)(i n:Int)(w:qW):
  qC 286 #[.agg #[.string s,.int .i64 i,.int .i64 n]] w λe w'=>e=.returned (.func (.func 316) #[] #[.pointer (some ⟨w.heap.size,0,none⟩)])/\w'=w.alloc (.cells #[.string s,.int .i64 i,.int .i64 n] 151):=by
 have a:∀(fn:Fn)(first A:Array qv)(w:qW),(Instr.makeFunc fn first A).run prog w=.ok (.func fn first A) w:=λ_ _ _ _=>rfl;go_enter func286,ntmps286;go_wp2;go_ret;exact⟨rfl,rfl⟩
def kP(ok:Nat->Prop)(s:ByteArray)(i n:Nat)(w:World)(v:Value):Prop:=
 ∃fb,v=.func (.func 316) #[] #[.pointer (some ⟨fb,0,none⟩)]/\ok fb/\w.heap[fb]?=some (.cells #[.string s,.int .i64 i,.int .i64 n] 151)
section
variable {ok ok' S:qD}{s:ByteArray}{i n:Nat}{w w':qW}{v:qv}
theorem kP.kept(h:kP ok s i n w v)(X:Kept S w w')(c:∀g,g<w.heap.size->ok g->¬S g):kP ok s i n w' v:=by
 obtain⟨fb,U,a,b⟩:=h;have hl:fb<w.heap.size:=(qah.1 b).1;exact⟨fb,U,a,(X.block fb hl (c fb hl a)).trans b⟩
theorem kP.mono(h:kP ok s i n w v)(hm:∀g,g<w.heap.size->ok g->ok' g):kP ok' s i n w v:=by
 obtain⟨fb,U,b,a⟩:=h;exact⟨fb,U,hm fb (qah.1 a).1 b,a⟩
theorem kP.grown{E:TypeId}{c k B:Nat}{u:qv}{xs:qV}(h:kP ok s i n w v)(ho:w.ownsRow B E c u k xs)(d:151≠E)(f:w.grownBy w' u.ownBlock):kP ok s i n w' v:=by
 obtain⟨fb,U,g,a⟩:=h;have hl:fb<w.heap.size:=(qah.1 a).1;refine⟨fb,U,g,(f.block fb hl ?_).trans a⟩;intro e;obtain⟨rfl,_⟩ | ⟨j,l,m,rfl,_,b,_⟩:=ho.2
 .simp[Value.ownBlock]at e
 simp[Value.ownBlock]at e;subst e;rw[a]at b;simp at b;exact d b.2
theorem wu{fb:Nat}(h:w.heap[fb]?=some (.cells #[.string s,.int .i64 i,.int .i64 n] 151))(U:i<=n)(a:n<=s.size)(b:s.size<=5000):Rd w fb s i n:=by
 have c:∀k,w.frozen? ⟨fb,k,none⟩=false:=λk=>by simp[World.frozen?,h]
 exact⟨by simp[World.cell?,h],by simp[World.cell?,h],by simp[World.cell?,h],c 0,c 1,c 2,U,a,b⟩
end
def lg(s:ByteArray)(n i:Nat):Except Err ((List Nat×Nat×Nat)×Nat):=
 match kX s n i with
 | .error e=>.error e
 | .ok (ls,j)=>
  match o8 s n j with
  | .error e=>.error e
  | .ok e=>.ok ((ls,j,n),e)
def DX(ok:Nat->Prop)(s:ByteArray)(b cb:Nat)(x:List Nat×Nat×Nat)(w:World):Prop:=
 ∃lv fv,OB w b cb [lv,fv]/\dH ok x.1 w lv/\kP ok s x.2.1 x.2.2 w fv
theorem uN:Enters 316:=enters_of func316 qk qk
attribute [local go_sem] Oper.semAt_some
def three(b c d:Nat):Nat->Prop:=λk=>k=b\/k=c\/k=d
def U9(s:ByteArray)(n b rb:Nat)(_:Option (List Nat))(j:Nat)(F:Nat->Prop)(W:World):Prop:=
 (∀k,F k↔k=b\/k=rb)/\Rd W b s j n/\OB W b rb [.pointer (some ⟨b,0,none⟩)]
theorem Ai{w:qW}{b d cb:Nat}{s:ByteArray}{i n:Nat}{c0 c1:qv}(h:Rd w b s i n)(G:OB w b d [.pointer (some ⟨b,0,none⟩)])(hc:OB w b cb [c0,c1])(am:d≠cb):
  qC 284 #[.pointer (some ⟨d,0,none⟩),.pointer (some ⟨cb,0,none⟩)] w (eP (three b cb d) w b s n (isDone (DX (λg=>w.heap.size<=g) s b cb)) (lg s n i)):=by
 refine(qbl (n:=10)).1 ?_;obtain⟨L,q1⟩:=G.blk 0 qs;simp at L;refine callsIn_of_wp_marks func284 rfl trivial ?_ rfl;simp only[ntmps284,List.size_toArray,qbb,qbs,Nat.reduceAdd,Nat.reduceSub,qdh,qdi,qdx,qdo,qay,qax];gi_wp2_with fail
 refine⟨trivial,(callsIn_wide.2 (Ad h)).mono ?_⟩;rintro e a⟨E,V,Y⟩;have Z:Kept (three b cb d) w a:=E.mono (λk _ (e:k=b)=>.inl e);have aa:∀{W:qW}{o:Nat}(u:qv),Kept (three b cb d) w W->Kept (three b cb d) w (W.setCell ⟨cb,o,none⟩ u):=λu X=>X.setCell (p:=⟨cb,_,none⟩) (λ_=>.inr (.inl rfl)) u;rcases ho:kX s n i with⟨q,p⟩|⟨ls,j⟩
 .obtain rfl:=Y _ _ ho;exact eP.dG (by simp[lg,ho]) Z
 obtain⟨u,rfl,hv,ab⟩:=V _ _ ho;obtain⟨pl,cl,rfl⟩:=Row.shape hv;have M:=hc.call E;have ac:=G.call E;obtain⟨⟨C0,D0⟩,⟨C1,D1⟩⟩:=M.blk.two;obtain⟨L,q1⟩:=ac.blk 0 qs;simp at L;have an:=ab;obtain⟨z0,z1,z2,-,-,-,ao,ap,aq⟩:=ab;have N:=hc.ne;have ar:=E.size;have au:=hc.lt;have HO:=qH ho;have HV:=qH hv;have aw:=h.lt;clear V Y ho hv E;gi_wp2_with fail
 refine⟨trivial,(callsIn_wide.2 (yE _ _ _ _)).mono ?_⟩;rintro e w2⟨rfl,rfl⟩;have O:cb≠d:=λe=>am e.symm;have aM:cb<a.heap.size:=M.lt;have e0:((a.setCell ⟨cb,0,none⟩ (.slice pl ls.length cl)).setCell ⟨cb,1,none⟩ (.func (.func 316) #[] #[.pointer (some ⟨a.heap.size,0,none⟩)])).heap.size=a.heap.size:=qs;have ad:(((a.setCell ⟨cb,0,none⟩ (.slice pl ls.length cl)).setCell ⟨cb,1,none⟩ (.func (.func 316) #[] #[.pointer (some ⟨a.heap.size,0,none⟩)])).alloc (.cells #[.string s,.int .i64 j,.int .i64 n] 151)).heap[a.heap.size]?=some (.cells #[.string s,.int .i64 j,.int .i64 n] 151):=by
  have q:=World.alloc_heap_new ((a.setCell ⟨cb,0,none⟩ (.slice pl ls.length cl)).setCell ⟨cb,1,none⟩ (.func (.func 316) #[] #[.pointer (some ⟨a.heap.size,0,none⟩)])) (.cells #[.string s,.int .i64 j,.int .i64 n] 151);rwa[e0]at q
 have ae:=((M.set 0 (.slice pl ls.length cl)).set 1 (.func (.func 316) #[] #[.pointer (some ⟨a.heap.size,0,none⟩)])).alloc (.cells #[.string s,.int .i64 j,.int .i64 n] 151);have af:=((ac.other (o:=0) O (.slice pl ls.length cl)).other (o:=1) O (.func (.func 316) #[] #[.pointer (some ⟨a.heap.size,0,none⟩)])).alloc (.cells #[.string s,.int .i64 j,.int .i64 n] 151);have ag:=((an.dD (o:=0) N (.slice pl ls.length cl)).dD (o:=1) N (.func (.func 316) #[] #[.pointer (some ⟨a.heap.size,0,none⟩)])).alloc (.cells #[.string s,.int .i64 j,.int .i64 n] 151);have B:=(aa (o:=1) (.func (.func 316) #[] #[.pointer (some ⟨a.heap.size,0,none⟩)]) (aa (o:=0) (.slice pl ls.length cl) Z)).alloc (.cells #[.string s,.int .i64 j,.int .i64 n] 151);have ah:=Row.alloc (Row.other (Row.other HV.o (g:=cb) (o:=0) (λk X=>qo) (.slice pl ls.length cl)) (g:=cb) (o:=1) (λk X=>qo) (.func (.func 316) #[] #[.pointer (some ⟨a.heap.size,0,none⟩)])) (.cells #[.string s,.int .i64 j,.int .i64 n] 151);have ax:=qH ae;have ay:=qH af;have aA:=qH ag;have H:=qH B;have aB:=qH ah;have P:=qH ad;clear ae af ag B ah ad e0;gi_wp2
 refine O7 (m:=8) (fb:=a.heap.size) (s:=s) (i:=j) (n:=n) (yf:=λ_ _ _=>False) (I:=U9 s n b d) (F0:=λk=>k=b\/k=d) (by rfl) uN ?hf ⟨λ_=>Iff.rfl,aA.o,ay.o⟩ ?hw (λ_ _ _ hh=>hh) ?hdone ?hstop
 case hf=>exact wu P.o ao ap aq
 case hdone=>
  intro f j2 F' J Q aC hD R C;have aD:w.heap.size<=f:=by have:=H.o.size;omega
  have aN:=(qah.1 P.o).1;have T:Kept (three b cb d) w (J.putObj f (.deferred none)):=(H.o.trans (C.mono (λk _ X=>X.elim .inl (λe=>.inr (.inr e))))).fresh Kept.putObj (λk X (e:k=f)=>qo);have ai:∀k,k<w.heap.size->¬only f k:=λk X (e:k=f)=>qo;have aE:kP (λg=>w.heap.size<=g/\g<f) s j n _ (.func (.func 316) #[] #[.pointer (some ⟨a.heap.size,0,none⟩)]):=⟨a.heap.size,rfl,⟨ar,qo⟩,P.o⟩;refine⟨qs,.inl ⟨f,_,rfl,run_takeDeferred R,?_⟩⟩;refine⟨_,results_none rfl _ _ _,eP.dN (x:=(ls,j,n)) (j:=j2) (by simp[lg,HO.o,Q]) T ⟨rfl,_,_,((ax.o.kept C ?_).kept Kept.putObj ?_),Row.mono (Row.kept (Row.kept (Row.mono aB.o (ok':=λg=>w.heap.size<=g/\g<f) ?_) C ?_) Kept.putObj ?_) (λg _ r=>r.1),((aE.kept C ?_).kept Kept.putObj ?_).mono (λg _ r=>r.1)⟩ (aC.2.1.kept Kept.putObj (ai b aw))⟩
  .exact λhh=>hh.elim N (λe=>O e)
  .exact ai cb au
  .exact λg r h0=>⟨h0,qad r hD⟩
  .exact λg _ r hh=>by have:=G.lt;omega
  .exact λg _ r (e:g=f)=>qo
  .exact λg _ r hh=>by have:=G.lt;omega
  exact λg _ r (e:g=f)=>qo
 case hstop=>
  intro f q p chain J Q aF hD R C;have aD:w.heap.size<=f:=by have:=H.o.size;omega
  have T:Kept (three b cb d) w (J.putObj f (.deferred none)):=(H.o.trans (C.mono (λk _ X=>X.elim .inl (λe=>.inr (.inr e))))).fresh Kept.putObj (λk X (e:k=f)=>qo);refine⟨qs,.inl ⟨f,_,rfl,run_takeDeferred R,?_⟩⟩;show eP _ _ _ _ _ _ _ (Ending.panicked chain) _;rw[aF];exact eP.dG (by simp[lg,HO.o,Q]) T
 refine⟨?_,?_,?_⟩
 .rintro os j F W J S⟨t,z,ho⟩ X hs;exact⟨t,z.kept X (λc=>hs b z.lt c ((t b).2 (.inl rfl))),ho.kept X (λc=>hs d ho.lt c ((t d).2 (.inr rfl)))⟩
 .rintro os j F W k⟨t,z,ho⟩ X;rcases(t k).1 X with rfl | rfl
  .exact z.lt
  exact ho.lt
 rintro l os o' D F W A x y gv lv aO⟨t,z,ho⟩ he hj aP hl - - - r aG hh aj aQ -;obtain⟨pg,cg,rfl⟩:=Row.shape r;obtain⟨pq,cq,rfl⟩:=Row.shape aG;obtain⟨U,p1⟩:=ho.blk 0 qs;simp at U;have aR:=ho.lt;have aS:=z.lt;have aH:l≠b:=λe=>aj ((t l).2 (.inl e));have aI:l≠d:=λe=>aj ((t l).2 (.inr e));refine⟨W.alloc (.cells #[.int .i64 D,.int .i64 A,.int .u8 x,.bool y.typed,.slice pg y.dL.length cg,qI y.align,qI y.num.1,.int .i64 y.num.2,.slice pq y.dA.length cq,.int .i64 y.val] 195),
  {tmps:= #[.pointer (some ⟨d,0,none⟩),.pointer (some ⟨cb,0,none⟩),.pointer (some ⟨W.heap.size,0,none⟩),.pointer (some ⟨b,0,none⟩),.slice pl ls.length cl,.pointer (some ⟨cb,0,none⟩),.pointer (some ⟨b,0,none⟩),.pointer (some ⟨b,0,none⟩),
    .agg #[.string s,.int .i64 j,.int .i64 n],.func (.func 316) #[] #[.pointer (some ⟨a.heap.size,0,none⟩)],.pointer (some ⟨cb,1,none⟩),.pointer (some ⟨cb,1,none⟩),.func (.func 316) #[] #[.pointer (some ⟨a.heap.size,0,none⟩)],
    .agg #[.int .i64 D,.int .i64 A,.int .u8 x,.bool y.typed,.slice pg y.dL.length cg,qI y.align,qI y.num.1,.int .i64 y.num.2,.slice pq y.dA.length cq,.int .i64 y.val],undef,undef,undef,undef],defers:=[]},λK hK=>?_,qr.alloc _,λW2 B=>?_⟩
 .simp only[lM];gi_wp2
  exact hK
 have aJ:jf W2 W.heap.size [.int .i64 D,.int .i64 A,.int .u8 x,.bool y.typed,.slice pg y.dL.length cg,qI y.align,qI y.num.1,.int .i64 y.num.2,.slice pq y.dA.length cq,.int .i64 y.val]:=(jf.new W #[.int .i64 D,.int .i64 A,.int .u8 x,.bool y.typed,.slice pg y.dL.length cg,qI y.align,qI y.num.1,.int .i64 y.num.2,.slice pq y.dA.length cq,.int .i64 y.val] 195).kept B qs (λ(e:W.heap.size=l)=>qo);have aK:=(z.alloc (.cells #[.int .i64 D,.int .i64 A,.int .u8 x,.bool y.typed,.slice pg y.dL.length cg,qI y.align,qI y.num.1,.int .i64 y.num.2,.slice pq y.dA.length cq,.int .i64 y.val] 195)).kept B (λ(e:b=l)=>aH e.symm);have ak:=(ho.alloc (.cells #[.int .i64 D,.int .i64 A,.int .u8 x,.bool y.typed,.slice pg y.dL.length cg,qI y.align,qI y.num.1,.int .i64 y.num.2,.slice pq y.dA.length cq,.int .i64 y.val] 195)).kept B (λ(e:d=l)=>aI e.symm);obtain⟨U,p1⟩:=ak.blk 0 qs;simp at U;obtain⟨⟨I0,J0⟩,⟨I1,J1⟩,⟨I2,J2⟩,⟨I3,J3⟩,⟨I4,J4⟩,⟨I5,J5⟩,⟨I6,J6⟩,⟨I7,J7⟩,⟨I8,J8⟩,⟨I9,J9⟩⟩:=aJ.ten;gi_wp2_with fail
 refine⟨trivial,(CallsIn.inRound l (callsIn_wide.2 (JM aK A he))).mono ?_⟩;rintro e W3⟨rfl,aL,al⟩;gi_wp2
 refine⟨F,⟨t,aL,ak.kept al (λ(e:d=b)=>ho.ne e)⟩,al.mono (λk _ (e:k=b)=>(t k).2 (.inl e)),λk X=>.inl X⟩
end
def pR(s:qS)(n i:Nat):Except Err ((List Nat×Nat×Nat)×Nat):=eX lg s n i
def Vh(ok:Nat->Prop)(s:qS)(x:List Nat×Nat×Nat)(w:World)(v:Value):Prop:=
 ∃lv fv,v=.agg #[lv,fv]/\dH ok x.1 w lv/\kP ok s x.2.1 x.2.2 w fv
theorem xR:Enters 284:=enters_of func284 qk qk
theorem jf.rJ{w:qW}{g:Nat}{a:qv}(h:jf w g [a]):w.cell? (qA g 0)=some a/\w.frozen? (qA g 0)=false:=h 0 qs
theorem wU{w:qW}{b:Nat}{s:qS}{i n:Nat}(h:Rd w b s i n):
  qC 230 #[qP b] w (Out w b s n (Vh (λg=>w.heap.size<=g) s) (pR s n i)):=by
 have aa:∀(fn:Fn)(first A:Array qv)(w:qW),(Instr.makeFunc fn first A).run prog w=.ok (.func fn first A) w:=λ_ _ _ _=>rfl;have G:=h.lt;go_enter func230,ntmps230;go_wp2_with fail
 have B:=((OB.new (b:=b) (g:=w.heap.size) (c:= #[qP b]) (t:=154) G rfl).alloc (.cells #[qN,.nilFunc] 131)).alloc (.cells #[qN,.nilFunc] 131);have m:=(OB.new (w:=w.alloc (.cells #[qP b] 154)) (b:=b) (g:=w.heap.size+1) (c:= #[qN,.nilFunc]) (t:=131) qt qs).alloc (.cells #[qN,.nilFunc] 131);have C:=OB.new (w:=(w.alloc (.cells #[qP b] 154)).alloc (.cells #[qN,.nilFunc] 131)) (b:=b) (g:=w.heap.size+1+1) (c:= #[qN,.nilFunc]) (t:=131) qt qs;refine(vQ (S:=three b (w.heap.size+1+1) w.heap.size) (A:= #[qP w.heap.size,.pointer (some ⟨w.heap.size+1+1,0,none⟩)]) lg
  (λW=>OB W b w.heap.size [qP b]/\∃c0 c1,OB W b (w.heap.size+1+1) [c0,c1])
  (DX (λg=>w.heap.size+1+1<g) s b (w.heap.size+1+1)) (((h.alloc _).alloc _).alloc _) ⟨B,_,_,C⟩ xR (.inl rfl) ?_ ?_ ?_).mono ?_
 .rintro W D⟨U,c0,c1,L⟩ X;exact⟨U.call X,c0,c1,L.call X⟩
 .rintro x W D⟨d,fv,U,L,h3⟩ X;exact⟨d,fv,U.call X,Row.call L X (λk ab=>qo),h3.kept X (λg _ a (e:g=b)=>qo)⟩
 .rintro W j n' hrd⟨U,c0,c1,L⟩ hsz;refine(Ai hrd U L qo).mono ?_;rintro e D⟨X,f,l⟩;refine⟨X,λx j hx=>?_,l⟩;obtain⟨v,H,⟨I,d,fv,J,K,M⟩,N⟩:=f x j hx;exact⟨v,H,⟨I,d,fv,J,Row.mono K (λg _ a=>by simp at hsz;omega),M.mono (λg _ a=>by simp at hsz;omega)⟩,N⟩
 rintro e O⟨r,f,l⟩;have E:Kept (only b) w O:=((((Kept.refl (only b) w).alloc _).alloc _).alloc _).fresh r (λk X hh=>hh.elim id (λhh=>hh.elim (λe=>qo) (λe=>qo)));have y:=m.kept r (λhh=>hh.elim (λe=>m.ne e) (λhh=>hh.elim (λe=>qo) (λe=>qo)));clear B m C r;rcases ho:eX lg s n i with⟨q,p⟩|⟨x,j⟩
 .obtain rfl:=l _ _ ho;exact⟨rfl,Out.dG ho E⟩
 obtain⟨u,rfl,⟨rfl,d,fv,P,z,F⟩,Q⟩:=f _ _ ho;obtain⟨pl,cl,rfl⟩:=Row.shape z;have R:=qH F;obtain⟨fb,rfl,-,-⟩:=F;have T:=qH ho;have V:=qH z;clear f l ho z;obtain⟨⟨C0,D0⟩,⟨C1,D1⟩⟩:=P.blk.two;obtain⟨⟨Y,Q0⟩,⟨Z,Q1⟩⟩:=y.blk.two;go_wp2;refine qal (v:=.agg #[qX pl x.1 cl,.func (.func 316) #[] #[qP fb]]) ?_ rfl (Out.dN T.o ((E.new qo _).new qo _) ⟨_,_,rfl,?_,?_⟩ ((Q.dD y.ne _).dD y.ne _))
 .simp[results,results230,go_sem,Y,Z]
 .exact Row.mono (Row.other (Row.other V.o (g:=w.heap.size+1) (o:=0) (λk X=>qo) _) (g:=w.heap.size+1) (o:=1) (λk X=>qo) _) (λg _ a=>qo)
 exact((R.o.kept (S:=only (w.heap.size+1)) (qr.own _) (λg _ a (e:g=w.heap.size+1)=>qo)).kept (S:=only (w.heap.size+1)) (qr.own _) (λg _ a (e:g=w.heap.size+1)=>qo)).mono (λg _ a=>qo)
abbrev O4:=List Nat×Nat×Nat
abbrev yc:=Nat×qS
structure dX where
 dx:List Ty
 funcs:List (Int×Nat)
 tables:List tZ
 fP:List tZ
 dI:List Cn
 dw:List CB
 starts:List (Int×Nat)
 elems:List Cm
 dF:List O4
 data:List Dat
 nfuncs:List yc
 kD:List (Nat×List yc)
def dX.new:dX:=⟨[],[],[],[],[],[],[],[],[],[],[],[]⟩
def lK(x:yc):List Value:=[qJ x.1,.string x.2]
def kC(s:qS)(ok:Nat->Prop)(x:O4)(w:World)(cs:List Value):Prop:=
 ∃lv fv,cs=[lv,fv]/\dH ok x.1 w lv/\kP ok s x.2.1 x.2.2 w fv
def jA(ok:Nat->Prop)(x:Nat×List yc)(w:World)(cs:List Value):Prop:=
 ∃lv,cs=[qJ x.1,lv]/\isRow 199 2 lK ok x.2 w lv
structure Fields where
 v0:Value
 v1:Value
 v2:Value
 v3:Value
 v4:Value
 v5:Value
 v6:Value
 v7:Value
 v8:Value
 v9:Value
 v10:Value
 v11:Value
def Fields.cells(f:Fields):List Value:=[f.v0,f.v1,f.v2,f.v3,f.v4,f.v5,f.v6,f.v7,f.v8,f.v9,f.v10,f.v11]
structure nA(s:qS)(ok:Nat->Prop)(w:World)(f:Fields)(m:dX):Prop where
 h0:gI 100 2 nZ ok m.dx w f.v0
 U:isRow 93 2 numCells ok m.funcs w f.v1
 L:isRow 87 4 tZ.cells ok m.tables w f.v2
 h3:isRow 87 4 tZ.cells ok m.fP w f.v3
 h4:isRow 84 5 Cn.cells ok m.dI w f.v4
 h5:isRow 120 5 CB.cells ok m.dw w f.v5
 h6:isRow 93 2 numCells ok m.starts w f.v6
 h7:gI 125 5 kS ok m.elems w f.v7
 h8:gI 131 2 (kC s) ok m.dF w f.v8
 h9:isRow 135 5 Dat.cells ok m.data w f.v9
 h10:isRow 199 2 lK ok m.nfuncs w f.v10
 h11:gI 203 2 jA ok m.kD w f.v11
 wC:m.starts=[]->f.v6=qN
 wB:m.dF=[]->f.v8=qN
 o6:m.kD=[]->f.v11=qN
theorem gI.kept{i:Type}{E:TypeId}{j:Nat}{f:(qD)->i->qW->qV->Prop}{S ok:qD}{xs:List i}{w w':qW}{v:qv}(h:gI E j f ok xs w v)(X:Kept S w w')(k:∀g,g<w.heap.size->ok g->¬S g)
  (l:∀x cs,f ok x w cs->f ok x w' cs):gI E j f ok xs w' v:=by
 obtain⟨css,U,m⟩:=h;exact⟨css,U.kept X k,m.to (λx cs hh=>⟨l x cs hh.1,hh.2⟩)⟩
theorem kC.kept{s:qS}{S ok:qD}{w w':qW}{x:O4}{cs:qV}(h:kC s ok x w cs)(X:Kept S w w')(f:∀g,g<w.heap.size->ok g->¬S g):kC s ok x w' cs:=by
 obtain⟨i,fv,e,a,c⟩:=h;exact⟨i,fv,e,Row.kept a X f,c.kept X f⟩
theorem jA.kept{S ok:qD}{w w':qW}{x:Nat×List yc}{cs:qV}(h:jA ok x w cs)(X:Kept S w w')(f:∀g,g<w.heap.size->ok g->¬S g):jA ok x w' cs:=by
 obtain⟨i,e,a⟩:=h;exact⟨i,e,Row.kept a X f⟩
theorem nA.kept{s:qS}{S ok:qD}{w w':qW}{f:Fields}{m:dX}(h:nA s ok w f m)(X:Kept S w w')(i:∀g,g<w.heap.size->ok g->¬S g):nA s ok w' f m:=
 ⟨h.h0.kept X i (λ_ _ e=>e.kept X i),Row.kept h.U X i,Row.kept h.L X i,Row.kept h.h3 X i,Row.kept h.h4 X i,Row.kept h.h5 X i,Row.kept h.h6 X i,
  h.h7.kept X i (λ_ _ e=>e.kept X i),h.h8.kept X i (λ_ _ e=>e.kept X i),Row.kept h.h9 X i,Row.kept h.h10 X i,h.h11.kept X i (λ_ _ e=>e.kept X i),h.wC,h.wB,h.o6⟩
def iF(s:qS)(ok:Nat->Prop)(w:World)(b Y:Nat)(m:dX):Prop:=∃f:Fields,OB w b Y f.cells/\nA s ok w f m
theorem iF.call{s:qS}{ok:qD}{w w':qW}{b i:Nat}{m:dX}(h:iF s ok w b i m)(X:Kept (only b) w w')(hb:¬ok b):iF s ok w' b i m:=by
 obtain⟨f,U,j⟩:=h;exact⟨f,U.call X,j.kept X (λg _ k (e:g=b)=>hb (e▸k))⟩
section
variable {w:qW}{g:Nat}{a b c d e a' b' c' d' e' x y:qv}
theorem jf.twelve(h:jf w g [a,b,c,d,e,a',b',c',d',e',x,y]):
  ((w.cell? (qA g 0)=some a/\w.frozen? (qA g 0)=false)/\(w.cell? (qA g 1)=some b/\w.frozen? (qA g 1)=false)/\(w.cell? (qA g 2)=some c/\w.frozen? (qA g 2)=false)/\
  (w.cell? (qA g 3)=some d/\w.frozen? (qA g 3)=false)/\(w.cell? (qA g 4)=some e/\w.frozen? (qA g 4)=false)/\(w.cell? (qA g 5)=some a'/\w.frozen? (qA g 5)=false))/\
  ((w.cell? (qA g 6)=some b'/\w.frozen? (qA g 6)=false)/\(w.cell? (qA g 7)=some c'/\w.frozen? (qA g 7)=false)/\(w.cell? (qA g 8)=some d'/\w.frozen? (qA g 8)=false)/\
  (w.cell? (qA g 9)=some e'/\w.frozen? (qA g 9)=false)/\(w.cell? (qA g 10)=some x/\w.frozen? (qA g 10)=false)/\(w.cell? (qA g 11)=some y/\w.frozen? (qA g 11)=false)):=
 ⟨⟨h 0 qs,h 1 qs,h 2 qs,h 3 qs,h 4 qs,h 5 qs⟩,h 6 qs,h 7 qs,h 8 qs,h 9 qs,h 10 qs,h 11 qs⟩
end
theorem gI.grown{j:Type}{E i:TypeId}{m k n B:Nat}{f:(qD)->j->qW->qV->Prop}{ok:qD}{xs:List j}{w w':qW}{v l:qv}{ys:qV}(h:gI i k f ok xs w l)(ho:w.ownsRow B E m v n ys)(o:i≠E)(p:w.grownBy w' v.ownBlock)
  (q:∀x cs,f ok x w cs->f ok x w' cs):gI i k f ok xs w' l:=by
 obtain⟨css,U,r⟩:=h;exact⟨css,U.grown ho o p,r.to (λx cs hh=>⟨q x cs hh.1,hh.2⟩)⟩
theorem nZ.Br{E:TypeId}{ok:qD}{w w':qW}{t:Ty}{cs:qV}{j n B:Nat}{v:qv}{xs:qV}(h:nZ ok t w cs)(ho:w.ownsRow B E j v n xs)(f:80≠E)(i:w.grownBy w' v.ownBlock):nZ ok t w' cs:=by
 obtain⟨k,l,e,a,c⟩:=h;exact⟨k,l,e,Row.grown a ho f i,Row.grown c ho f i⟩
theorem kS.Br{E:TypeId}{ok:qD}{w w':qW}{t:Cm}{cs:qV}{f n B:Nat}{v:qv}{xs:qV}(h:kS ok t w cs)(ho:w.ownsRow B E f v n xs)(i:93≠E)(j:w.grownBy w' v.ownBlock):kS ok t w' cs:=by
 obtain⟨k,e,a⟩:=h;exact⟨k,e,Row.grown a ho i j⟩
theorem kC.Br{s:qS}{E:TypeId}{ok:qD}{w w':qW}{t:O4}{cs:qV}{i n B:Nat}{v:qv}{xs:qV}(h:kC s ok t w cs)(ho:w.ownsRow B E i v n xs)(j:80≠E)(k:151≠E)(f:w.grownBy w' v.ownBlock):kC s ok t w' cs:=by
 obtain⟨l,fv,e,a,c⟩:=h;exact⟨l,fv,e,Row.grown a ho j f,c.grown ho k f⟩
theorem jA.Br{E:TypeId}{ok:qD}{w w':qW}{t:Nat×List yc}{cs:qV}{f n B:Nat}{v:qv}{xs:qV}(h:jA ok t w cs)(ho:w.ownsRow B E f v n xs)(i:199≠E)(j:w.grownBy w' v.ownBlock):jA ok t w' cs:=by
 obtain⟨k,e,a⟩:=h;exact⟨k,e,Row.grown a ho i j⟩
structure pW where
 word:Nat
 takes:List Nat
 dL:List Nat
 dK:Nat
 cut:Bool
structure Bd where
 dB:List Nat
 dn:List pW
 at_:Nat
def pW.none:pW:=⟨0,[],[],0,false⟩
def Bd.dJ(Z:Bd):pW:=Z.dn.headD pW.none
def fE(x:Int×Nat)(many:Nat):Except Err Nat:=if x.1<(many:Int) then .ok x.1.toNat else .error (3,x.2)
def iR(bl:pW)(at_:Nat)(stk:List Nat):Except Err (Nat×List Nat):=
 if stk.length=bl.dK then(if bl.cut then .ok (0,stk) else .error (4,at_))
 else .ok (stk.getD (stk.length - 1) 0,stk.take (stk.length - 1))
def jD(bl:pW)(at_:Nat)(ks:List Nat):Nat->List Nat->Except Err (List Nat)
 | 0,stk=>.ok stk
 | i+1,stk=>match iR bl at_ stk with
  | .error e=>.error e
  | .ok (got,XG)=>if got≠ks.getD i 0/\got≠0 then .error (4,at_) else jD bl at_ ks i XG
def dQ(Z:Bd)(ks:List Nat):Except Err Bd:=
 match jD Z.dJ Z.at_ ks ks.length Z.dB with
 | .error e=>.error e
 | .ok stk=>.ok {Z with dB:=stk}
def fJ(Z:Bd)(ks:List Nat):Bd:={Z with dB:=Z.dB++ks}
def fV(Z:Bd):Bd:={Z with dB:=Z.dB.take Z.dJ.dK,dn:={Z.dJ with cut:=true}::Z.dn.tail}
def iV(word:Nat)(t:Ty)(Z:Bd):Except Err Bd:=
 match dQ Z t.ins with
 | .error e=>.error e
 | .ok st1=>.ok {st1 with dn:=⟨word,t.ins,t.outs,st1.dB.length,false⟩::st1.dn,dB:=st1.dB++t.ins}
def jv(Z:Bd):Except Err (pW×Bd):=
 match dQ Z Z.dJ.dL with
 | .error e=>.error e
 | .ok st1=>if st1.dB.length=Z.dJ.dK then .ok (Z.dJ,{st1 with dn:=st1.dn.tail}) else .error (4,Z.at_)
def dZ(b:pW):List Nat:=if b.word=3 then b.takes else b.dL
def gX(Z:Bd)(x:Int×Nat):Except Err (List Nat):=
 match fE x Z.dn.length with
 | .error e=>.error e
 | .ok k=>.ok (dZ (Z.dn.getD k pW.none))
def iH(m:dX)(x:Int×Nat):Except Err Ty:=
 match fE x m.dx.length with
 | .error e=>.error e
 | .ok k=>.ok (m.dx.getD k ⟨[],[]⟩)
def dM(m:dX)(f:Nat):Ty:=m.dx.getD (m.funcs.getD f (0,0)).1.toNat ⟨[],[]⟩
def eU(m:dX)(y:fO):Except Err Ty:=if y.typed then iH m y.num else .ok ⟨[],y.dL⟩
def kT(t:Ty)(Z:Bd):Except Err Bd:=
 match dQ Z t.ins with
 | .error e=>.error e
 | .ok st1=>.ok (fJ st1 t.outs)
def dR(m:dX)(x:Nat)(y:fO)(Z:Bd):Except Err Bd:=
 if x=0 then .ok (fV Z)
 else if x=2\/x=3 then
  match eU m y with
  | .error e=>.error e
  | .ok t=>iV x t Z
 else if x=4 then
  match eU m y with
  | .error e=>.error e
  | .ok t=>match dQ Z [127] with
   | .error e=>.error e
   | .ok st1=>iV 4 t st1
 else if x=5 then
  match jv Z with
  | .error e=>.error e
  | .ok (left,st1)=>iV 5 ⟨left.takes,left.dL⟩ (fJ st1 left.takes)
 else if x=11 then
  match jv Z with
  | .error e=>.error e
  | .ok (left,st1)=>if left.word=4/\left.takes≠left.dL then .error (4,Z.at_) else .ok (fJ st1 left.dL)
 else .ok Z
def iy(Z:Bd):List (Int×Nat)->List (List Nat)->Except Err (List (List Nat))
 | [],M=>.ok M
 | x::xs,M=>match gX Z x with
  | .error e=>.error e
  | .ok ks=>iy Z xs (M++[ks])
def jG(Z:Bd)(last:List Nat):List (List Nat)->Except Err Unit
 | []=>.ok ()
 | ks::rest=>if ks.length≠last.length then .error (4,Z.at_) else
  match dQ Z ks with
  | .error e=>.error e
  | .ok _=>jG Z last rest
def fU(y:fO)(Z:Bd):Except Err Bd:=
 match iy Z y.dA [] with
 | .error e=>.error e
 | .ok others=>match gX Z y.num with
  | .error e=>.error e
  | .ok last=>match dQ Z [127] with
   | .error e=>.error e
   | .ok st1=>match jG st1 last others with
    | .error e=>.error e
    | .ok _=>match dQ st1 last with
     | .error e=>.error e
     | .ok st2=>.ok (fV st2)
def dU(m:dX)(x:Nat)(y:fO)(Z:Bd):Except Err Bd:=
 if x=12 then
  match gX Z y.num with
  | .error e=>.error e
  | .ok ks=>match dQ Z ks with
   | .error e=>.error e
   | .ok st1=>.ok (fV st1)
 else if x=13 then
  match gX Z y.num with
  | .error e=>.error e
  | .ok ks=>match dQ Z [127] with
   | .error e=>.error e
   | .ok st1=>match dQ st1 ks with
    | .error e=>.error e
    | .ok st2=>.ok (fJ st2 ks)
 else if x=14 then fU y Z
 else if x=15 then
  match dQ Z (Z.dn.getD (Z.dn.length - 1) pW.none).dL with
  | .error e=>.error e
  | .ok st1=>.ok (fV st1)
 else if x=16 then
  match fE y.num m.funcs.length with
  | .error e=>.error e
  | .ok f=>kT (dM m f) Z
 else if x=17 then
  if m.tables.length=0 then .error (3,Z.at_) else
  match iH m y.num with
  | .error e=>.error e
  | .ok t=>match dQ Z [127] with
   | .error e=>.error e
   | .ok st1=>kT t st1
 else .ok Z
def fe(Z:Bd):Except Err (Nat×Bd):=
 match iR Z.dJ Z.at_ Z.dB with
 | .error e=>.error e
 | .ok (k,stk)=>.ok (k,{Z with dB:=stk})
def fH(Z:Bd):Except Err Bd:=
 match dQ Z [127] with
 | .error e=>.error e
 | .ok st1=>match fe st1 with
  | .error e=>.error e
  | .ok (second,st2)=>match fe st2 with
   | .error e=>.error e
   | .ok (first,XH)=>if second≠0/\second≠(if first=0 then second else first) then .error (4,Z.at_) else .ok (fJ XH [if first=0 then second else first])
def gD(m:dX)(x:Int×Nat):Except Err Cn:=
 match fE x m.dI.length with
 | .error e=>.error e
 | .ok k=>.ok (m.dI.getD k ⟨0,false,⟨0,0,0⟩⟩)
def fT(ls:List Nat)(x:Nat)(y:fO)(Z:Bd):Except Err Bd:=
 match fE y.num ls.length with
 | .error e=>.error e
 | .ok k=>match(if x=32 then .ok Z else dQ Z [ls.getD k 0]) with
  | .error e=>.error e
  | .ok st1=>if x=33 then .ok st1 else .ok (fJ st1 [ls.getD k 0])
def eF(m:dX)(ls:List Nat)(x:Nat)(y:fO)(Z:Bd):Except Err Bd:=
 if x=26 then
  match fe Z with
  | .error e=>.error e
  | .ok (_,st1)=>.ok st1
 else if x=27 then fH Z
 else if x=35 then
  match gD m y.num with
  | .error e=>.error e
  | .ok g=>.ok (fJ Z [g.kind])
 else if x=36 then
  match gD m y.num with
  | .error e=>.error e
  | .ok g=>if g.sO then dQ Z [g.kind] else .error (4,Z.at_)
 else fT ls x y Z
def mG(x:Nat):Int:=if x=44\/x=45\/x=58 then 0 else if x=41\/x=55 then 3 else 2
def kN(x k:Nat)(y:fO)(Z:Bd):Except Err Bd:=
 if mG x<y.align then .error (4,Z.at_) else
 match dQ Z [127] with
 | .error e=>.error e
 | .ok st1=>.ok (fJ st1 [k])
def jq(x k:Nat)(y:fO)(Z:Bd):Except Err Bd:=
 if mG x<y.align then .error (4,Z.at_) else dQ Z [127,k]
def eG(m:dX)(x:Nat)(y:fO)(Z:Bd):Except Err Bd:=
 if m.fP.length=0 then .error (3,Z.at_)
 else if x=63 then .ok (fJ Z [127])
 else if x=64 then
  match dQ Z [127] with
  | .error e=>.error e
  | .ok st1=>.ok (fJ st1 [127])
 else if x=41 then kN x 126 y Z
 else if x=40\/x=44\/x=45 then kN x 127 y Z
 else if x=55 then jq x 126 y Z
 else if x=54\/x=58 then jq x 127 y Z
 else .ok Z
def gy(puts:Nat)(takes:List Nat)(Z:Bd):Except Err Bd:=
 match dQ Z takes with
 | .error e=>.error e
 | .ok st1=>.ok (fJ st1 [puts])
def gG(x:Nat)(Z:Bd):Except Err Bd:=
 if x=65 then .ok (fJ Z [127])
 else if x=66 then .ok (fJ Z [126])
 else if x=69 then gy 127 [127] Z
 else if x<=79 then gy 127 [127,127] Z
 else if x=80 then gy 127 [126] Z
 else if x<=90 then gy 127 [126,126] Z
 else if x<=105 then gy 127 [127] Z
 else if x<=120 then gy 127 [127,127] Z
 else if x<=123 then gy 126 [126] Z
 else if x<=138 then gy 126 [126,126] Z
 else if x=167 then gy 127 [126] Z
 else gy 126 [127] Z
def iG(m:dX)(ls:List Nat)(x:Nat)(y:fO)(Z:Bd):Except Err Bd:=
 if x<=11 then dR m x y Z
 else if x<=17 then dU m x y Z
 else if x<=36 then eF m ls x y Z
 else if x<=64 then eG m x y Z
 else gG x Z
def rO(m:dX)(ls:List Nat)(s:qS)(n:Nat):Nat->List Nat->Nat->Bd->Except Err Unit
 | 0,_,_,_=>.error (2,n)
 | fuel+1,os,j,Z=>
  match iW s n j with
  | .error e=>.error e
  | .ok (x,j1)=>
   match(if x=11/\os=[] then .ok os else gp os j x) with
   | .error e=>.error e
   | .ok os'=>
    match iE j x s n j1 with
    | .error e=>.error e
    | .ok (y,e)=>
     match iG m ls x y {Z with at_:=j} with
     | .error e=>.error e
     | .ok J=>if x=11/\os=[] then .ok () else rO m ls s n fuel os' e J
def gJ(s:qS)(m:dX)(f:Nat):Except Err Unit:=
 rO m ((dM m f).ins++(m.dF.getD f ([],0,0)).1) s (m.dF.getD f ([],0,0)).2.2 ((m.dF.getD f ([],0,0)).2.2 - (m.dF.getD f ([],0,0)).2.1) [] (m.dF.getD f ([],0,0)).2.1
  ⟨[],[⟨2,[],(dM m f).outs,0,false⟩],0⟩
def dV{α:Type}(f:α->Except Err Unit):List α->Except Err Unit
 | []=>.ok ()
 | x::xs=>match f x with
  | .error e=>.error e
  | .ok _=>dV f xs
def gV(many:Nat)(x:Int×Nat):Except Err Unit:=if x.1<(many:Int) then .ok () else .error (3,x.2)
def jQ(most:Int)(x:tZ):Except Err Unit:=if most<x.least\/(x.has=true/\(x.most<x.least\/most<x.most)) then .error (5,x.at_) else .ok ()
def jc(k:Nat)(c:Cst):Except Err Unit:=if c.kind=k then .ok () else .error (4,c.at_)
def mO(m:dX)(AX:Nat):Nat:=if AX=0 then m.funcs.length else if AX=1 then m.tables.length else if AX=2 then m.fP.length else m.dI.length
def fM(m:dX)(i:Nat):Except Err Unit:=
 match m.dw[i]? with
 | none=>.ok ()
 | some e=>if(m.dw.take i).any (λe'=>decide (e'.name.data.toList=e.name.data.toList)) then .error (6,e.nameAt) else gV (mO m e.AX) e.idx
def ig(m:dX)(x:Int×Nat):Except Err Unit:=
 match fE x m.funcs.length with
 | .error e=>.error e
 | .ok f=>if(dM m f).ins.length=0/\(dM m f).outs.length=0 then .ok () else .error (4,x.2)
def jd(m:dX)(e:Cm):Except Err Unit:=
 if m.tables.length=0 then .error (3,e.at_) else
 match jc 127 e.place with
 | .error q=>.error q
 | .ok _=>dV (gV m.funcs.length) e.funcs
def jB(m:dX)(d:Dat):Except Err Unit:=if m.fP.length=0 then .error (3,d.at_) else jc 127 d.place
def lq(a b:Except Err Unit):Except Err Unit:=match a with
 | .error e=>.error e
 | .ok _=>b
def zC(s:qS)(m:dX):Except Err Unit:=
 lq (dV (gV m.dx.length) m.funcs) <|
 lq (dV (jQ 20) m.tables) <|
 lq (dV (jQ 16) m.fP) <|
 lq (dV (λg=>jc g.kind g.first) m.dI) <|
 lq (dV (fM m) (List.range m.dw.length)) <|
 lq (dV (ig m) m.starts) <|
 lq (dV (jd m) m.elems) <|
 lq (dV (gJ s m) (List.range m.dF.length)) <|
 dV (jB m) m.data
def jF(t:qS):Bool:=(tl t 0).all lU&&t.size !=0
theorem TT{t:qS}{k:Nat}(h:k<t.size)(hx:lU t[k].toNat=true):(tl t k).all lU=(tl t (k+1)).all lU:=by
 rw[uW h];simp[hx]
theorem Vp{t:qS}{k:Nat}(h:k<t.size)(hx:lU t[k].toNat=false):(tl t k).all lU=false:=by
 rw[uW h];simp[hx]
theorem EL(t:qS)(w:qW)(m:t.size<=20):qC 290 #[.string t] w λe w'=>e=.returned (.bool (jF t))/\w'=w:=by
 have n:∀(x:Bool)(w:qW),(Op.unary .not (.bool x)).run prog w=.ok (.bool (!x)) w:=λ_ _=>rfl;have p:(t.size:Int)<=20:=qo;go_enter func290,ntmps290;go_wp2;go_loop [3,6] (λ_ q=>∃k:Nat,k<=t.size/\q=qJ k/\(tl t 0).all lU=(tl t k).all lU) (λ_ q=>t.size - (intOf q).toNat)
 case atStart=>exact⟨0,qZ,rfl,rfl⟩
 obtain⟨k,X,rfl,f⟩:=hrel;have b:=qH f;clear f;by_cases g:k<t.size
 .have hlt':(k:Int)<(t.size:Int):=qo;cases hx:lU t[k].toNat with
  | true=>
   have HN:=qH (b.o.trans (TT g hx));have HX:=qH hx;clear hx;go_wp2_with fail
   refine(Bn _ _).mono ?_;exact UR
  | false=>
   have HN:=qH (b.o.trans (Vp g hx));have HX:=qH hx;clear hx;go_wp2_with fail
   refine(Bn _ _).mono ?_;rintro e w3⟨rfl,rfl⟩;rw[HX.o];go_wp2;go_ret;exact⟨by simp[jF,HN.o],rfl⟩
 have HN:qh ((tl t 0).all lU=true):=b.o.trans (by rw[Jh qo];rfl);by_cases h0:t.size=0
 .have c:qh (jF t=false):=by show _=_;simp[jF,h0]
  have i:t={data:= #[]}:=by
   have:t.data.size=0:=h0;cases t;rename_i d;congr;exact Array.eq_empty_of_size_eq_zero this
  subst i;go_wp2;go_ret;exact⟨by rw[c.o];rfl,rfl⟩
 have c:qh (jF t=true):=by show _=_;unfold jF;rw[HN.o];simpa using h0
 have r:(t.toList.isEmpty)=false:=by
  rw[ByteArray.toList_eq];cases j:t.data.toList with
  | nil=>exact absurd (show t.data.size=0 by rw[<-qcw,j];rfl) h0
  | cons a l=>rfl
 go_wp2;go_ret;exact⟨by rw[c.o];rfl,rfl⟩
def kQ(least end_:Nat)(s:qS)(n i:Nat):Except Err (Nat×Nat):=
 match uM s n i with
 | .error e=>.error e
 | .ok ((v,a),j)=>if v<(least:Int)\/(end_:Int)<=v then .error (2,a) else .ok (v.toNat,j)
theorem vK{w:qW}{b:Nat}{s:qS}{i n:Nat}(c d:Nat){z:Int}(l:z=(c:Int))(h:Rd w b s i n)(_hl:c<=5000)(_he:d<=5000):
  qC 289 #[qP b,qJ z,qJ d] w (Out w b s n isInt (kQ c d s n i)):=by
 subst l;go_enter func289,ntmps289;go_wp2_with fail
 refine(nD h).mono ?_;rintro e r⟨X,g,k⟩;rcases ho:uM s n i with⟨q,p⟩|⟨⟨v,a⟩,j⟩
 .obtain rfl:=k _ _ ho;exact⟨rfl,Out.dG (by simp[kQ,ho]) X⟩
 obtain⟨u,rfl,hv,hrd⟩:=g _ _ ho;obtain rfl:u=.agg #[qI v,qJ a]:=hv;obtain⟨v0,v1,-,-,-⟩:=iY ho;clear g k;by_cases U:v<(c:Int)
 .have m:decide (v<(c:Int))=true:=by simpa using U
  have HH:qh (kQ c d s n i=.error (2,a)):=by show _=_;simp[kQ,ho,U]
  clear ho U;exact Vv
 have m:decide (v<(c:Int))=false:=by simpa using U
 by_cases f:(d:Int)<=v
 .have o:decide ((d:Int)<=v)=true:=by simpa using f
  have HH:qh (kQ c d s n i=.error (2,a)):=by show _=_;simp[kQ,ho,f]
  clear ho U;exact Vv
 have o:decide ((d:Int)<=v)=false:=by simpa using f
 have HH:qh (kQ c d s n i=.ok (v.toNat,j)):=by show _=_;simp[kQ,ho,U,f]
 clear ho U;exact UQ
theorem Tryz.Tp:(prog.info? 199).map (λi=>(i.zero,i.size,i.bytes))=some (some (.agg #[qJ 0,.string {data:= #[]}]),2,24):=qk
def mK(ns:List yc)(t:qS):Bool:=ns.any λx=>x.2.toList==t.toList
theorem Row.cells{ok:qD}{w:qW}{E:TypeId}{a:Nat}{v:qv}{n:Nat}{xs:qV}(h:Row ok w E a v n xs)(c:0<n):
  ∃g A,v=qL g n A/\ok g/\g<w.heap.size/\n<=A/\∀i,i<n*a->w.cell? (qA g i)=xs[i]?:=by
 obtain⟨_,d⟩ | ⟨g,A,e,rfl,_,hb,U,f,j,b⟩:=h.own.2
 .omega
 refine⟨g,A,rfl,h.at_ g rfl,(qah.1 hb).1,U,λi hi=>?_⟩;rw[<-b,qcs hi,Array.getElem?_toList];simp[World.cell?,hb]
theorem flat_get{a:Type}{f:a->qV}{m:Nat}(hf:∀x,(f x).length=m):∀{xs:List a}{k o:Nat}{x:a},xs[k]?=some x->o<m->(xs.flatMap f)[k*m+o]?=(f x)[o]?
 | [],k,o,x,h,_=>by simp at h
 | y::ys,0,o,x,h,ho=>by
  simp at h;subst h;simp only[qci];rw[qbe (by rw[hf];omega)];simp
 | y::ys,k+1,o,x,h,ho=>by
  simp at h;simp only[qci];rw[qdf (by rw[hf,Nat.add_mul];omega),hf,show(k+1)*m+o - m=k*m+o by rw[Nat.add_mul];omega];exact flat_get hf h ho
theorem Hf{w:qW}{ok:qD}{a:List yc}{v:qv}(t:qS)(f:isRow 199 2 lK ok a w v)(u:a.length<=5000):qC 272 #[v,.string t] w λe w'=>(∃z:Int,e=.returned (.tuple #[qJ z,.bool (mK a t)]))/\qK w w':=by
 obtain⟨p,c,rfl⟩:=Row.shape f;go_enter func272,ntmps272;go_wp2;go_loopw [10] (λq wr=>∃k:Nat,k<=a.length/\q=qJ k/\qK w wr/\mK a t=mK (a.drop k) t) (λq _=>a.length - (intOf q).toNat)
 case atStart=>exact⟨0,qZ,rfl,Kept.refl _ _,rfl⟩
 obtain⟨k,X,rfl,d,j⟩:=hrel;have h:=qH j;clear j;by_cases l:k<a.length
 .have hlt':(k:Int)<(a.length:Int):=qo;have n:isRow 199 2 lK ok a wr (qX p a c):=Row.kept f d (λ_ _ _ hc=>hc);obtain⟨g,A,hv,-,y,B,i⟩:=Row.cells n qo;cases hv;have hx:a[k]?=some a[k]:=qab l;have c0:wr.cell? ⟨g,k*2,none⟩=some (qJ (a[k].1:Nat)):=(i (k*2) qo).trans (flat_get (m:=2) (o:=0) (λ_=>rfl) hx qo);have c1:wr.cell? ⟨g,k*2+1,none⟩=some (.string a[k].2):=(i (k*2+1) qo).trans (flat_get (m:=2) (o:=1) (λ_=>rfl) hx qo);have r:mK (a.drop k) t=(a[k].2.toList==t.toList||mK (a.drop (k+1)) t):=by rw[qan l];rfl
  have s:=qH r;clear i n f hx r;generalize a[k]=x at*;cases hx:(x.2.toList==t.toList) with
  | true=>
   have b:qh (mK a t=true):=h.o.trans (s.o.trans (by rw[hx];rfl));go_wp2;go_ret2
   exact⟨⟨_,by rw[b.o];rfl⟩,d.alloc _⟩
  | false=>
   have b:qh (mK a t=mK (a.drop (k+1)) t):=h.o.trans (s.o.trans (by rw[hx];rfl));go_wp2;go_roundw
   case rel=>exact⟨k+1,qo,by go_num,d.alloc _,b.o⟩
   simp[intOf];omega
 have b:qh (mK a t=false):=h.o.trans (by rw[qbq qo];rfl);go_wp2;go_ret2
 exact⟨⟨_,by rw[b.o];rfl⟩,d⟩
def rZ(ns:List yc)(least many:Nat)(s:qS)(n i:Nat):Except Err (yc×Nat):=
 match kQ least many s n i with
 | .error e=>.error e
 | .ok (ix,j)=>
  match fD 20 s n j with
  | .error e=>.error e
  | .ok (k,j2)=>
   match jL k s n j2 with
   | .error e=>.error e
   | .ok (t,j3)=>if jF t&&!mK ns t then .ok ((ix,t),j3) else .error (2,j)
def jP(many:Nat)(s:qS)(n:Nat):Nat->Nat->List yc->Nat->Except Err (List yc×Nat)
 | 0,_,M,j=>.ok (M,j)
 | k+1,least,M,j=>match rZ M least many s n j with
  | .error e=>.error e
  | .ok (x,j')=>jP many s n k (x.1+1) (M++[x]) j'
def iT(many:Nat)(s:qS)(n i:Nat):Except Err (List yc×Nat):=
 match fD many s n i with
 | .error e=>.error e
 | .ok (k,j)=>jP many s n k 0 [] j
theorem nW{a:Nat}{s:qS}{n k b j:Nat}{M:List yc}{e:Err}(X:0<k)(h:rZ M b a s n j=.error e):jP a s n k b M j=.error e:=by
 obtain⟨m,rfl⟩:∃m,k=m+1:=⟨k - 1,qo⟩;simp[jP,h]
theorem JK{a:Nat}{s:qS}{n k b j c:Nat}{M:List yc}{x:yc}(X:0<k)(h:rZ M b a s n j=.ok (x,c)):jP a s n k b M j=jP a s n (k - 1) (x.1+1) (M++[x]) c:=by
 obtain⟨m,rfl⟩:∃m,k=m+1:=⟨k - 1,qo⟩;simp[jP,h]
theorem xI{b c:Nat}{s:qS}{n i x j:Nat}(h:kQ b c s n i=.ok (x,j)):b<=x/\x<c/\i<j/\j<=n:=by
 unfold kQ at h;exact WG
theorem Ji{k:Nat}{s:qS}{n i j:Nat}{t:qS}(h:jL k s n i=.ok (t,j)):t.size<=k:=by
 unfold jL at h;split at h
 .cases h
 cases h;simp;omega
theorem tJ{w:qW}{b:Nat}{s:qS}{i n:Nat}(a:Nat)(h:Rd w b s i n)(hm:a<=1000):
  qC 233 #[qP b,qJ a] w (Out w b s n (isRow 199 2 lK (λg=>w.heap.size<=g)) (iT a s n i)):=by
 obtain⟨i0,al,am,an,ao⟩:=qap Tryz.Tp;have ax:∀(x:Bool)(w:qW),(Op.unary .not (.bool x)).run prog w=.ok (.bool (!x)) w:=λ_ _=>rfl;go_enter func233,ntmps233;go_wp2_with fail
 refine(count_any a h qo).mono ?_;rintro e w1⟨L,c,d⟩;rcases ho:fD a s n i with⟨q,p⟩|y
 .obtain rfl:=d _ _ ho;exact⟨rfl,Out.dG (by simp[iT,ho]) L⟩
 obtain⟨f,j0⟩:=y;obtain⟨u,rfl,hv,A⟩:=c _ _ ho;obtain rfl:u=qJ f:=hv;have ay:=(fA ho).1;have HM:qh (iT a s n i=jP a s n f 0 [] j0):=by show _=_;simp[iT,ho]
 clear c d ho;go_wp2;go_loopw [5,6,15] (λv z q wr=>∃(k j m:Nat)(ks:List yc),k<=f/\ks.length=k/\m<=a/\z=qJ m/\q=qJ k/\Rd wr b s j n/\Kept (only b) w wr/\isRow 199 2 lK (λg=>w.heap.size<=g) ks wr v/\iT a s n i=jP a s n (f - k) m ks j) (λ_ _ q _=>f - (intOf q).toNat)
 case atStart=>exact⟨0,j0,0,[],qZ,rfl,qZ,rfl,rfl,A,L,Row.nil _ _ _ _,HM.o⟩
 obtain⟨k,j,m,ks,X,hl,aA,rfl,rfl,A,M,D,ac⟩:=hrel;subst hl;obtain⟨pl,cl,rfl⟩:=Row.shape D;have r:=qH ac;clear ac HM L;by_cases aB:ks.length<f
 .have hlt':(ks.length:Int)<(f:Int):=qo;have ad:=qH D;clear D;go_wp2_with fail
  refine(vK m a rfl A qo qo).mono ?_;rintro e w2⟨N,c,d⟩;have O:=M.trans N;have ae:=qH (Row.call ad.o N (λk X=>by have:=h.lt;omega));clear N M ad;rcases ho:kQ m a s n j with⟨q,p⟩|y
  .obtain rfl:=d _ _ ho;exact⟨rfl,Out.dG (r.o.trans (nW qo (by simp[rZ,ho]))) O⟩
  obtain⟨l,j2⟩:=y;obtain⟨u,rfl,hv,P⟩:=c _ _ ho;obtain rfl:u=qJ l:=hv;obtain⟨aC,aD,-,-⟩:=xI ho;have B:=qH ho;clear c d ho A;go_wp2_with fail
  refine(oz P).mono ?_;rintro e w0⟨rfl,rfl⟩;go_wp2_with fail
  refine(count_any 20 P qo).mono ?_;rintro e w3⟨Q,c,d⟩;have R:=O.trans Q;have af:=qH (Row.call ae.o Q (λk X=>by have:=h.lt;omega));clear Q O ae;rcases ho:fD 20 s n j2 with⟨q,p⟩|y
  .obtain rfl:=d _ _ ho;exact⟨rfl,Out.dG (r.o.trans (nW qo (by simp[rZ,B.o,ho]))) R⟩
  obtain⟨E,j3⟩:=y;obtain⟨u,rfl,hv,ag⟩:=c _ _ ho;obtain rfl:u=qJ E:=hv;have aE:=(fA ho).1;have F:=qH ho;clear c d ho P;go_wp2_with fail
  refine(zZ E ag qo).mono ?_;rintro e w4⟨S,c,d⟩;have T:=R.trans S;have U:=qH (Row.call af.o S (λk X=>by have:=h.lt;omega));clear S R af;rcases ho:jL E s n j3 with⟨q,p⟩|⟨t,V⟩
  .obtain rfl:=d _ _ ho;exact⟨rfl,Out.dG (r.o.trans (nW qo (by simp[rZ,B.o,F.o,ho]))) T⟩
  obtain⟨u,rfl,hv,ah⟩:=c _ _ ho;obtain rfl:u=.string t:=hv;have aF:t.size<=E:=Ji ho;have W:=qH ho;clear c d ho ag;go_wp2_with fail
  refine(Hf t U.o qo).mono ?_;rintro e w5⟨⟨zi,rfl⟩,G⟩;have H:=T.trans (G.mono (λ_ _ hc=>hc.elim));have ap:=ah.kept G (λhc=>hc);have C:isRow 199 2 lK (λg=>w.heap.size<=g) ks w5 (qX pl ks cl):=Row.kept U.o G (λ_ _ _ hc=>hc);clear G T U ah;cases Y:mK ks t with
  | true=>
   have Z:=qH Y;go_wp2_with fail
   refine(fZ _ _).mono ?_;rintro e I⟨rfl,rfl⟩;exact⟨rfl,Out.dG (r.o.trans (nW qo (by simp[rZ,B.o,F.o,W.o,Z.o]))) H⟩
  | false=>
   have Z:=qH Y;clear Y;have aq:=qH C;clear C;go_wp2_with fail
   refine(EL t _ qo).mono ?_;rintro e I⟨rfl,ar⟩;obtain rfl:=ar.symm;cases J:jF t with
   | false=>
    have aa:=qH J;clear J;go_wp2_with fail
    refine(fZ _ _).mono ?_;rintro e I⟨rfl,rfl⟩;exact⟨rfl,Out.dG (r.o.trans (nW qo (by simp[rZ,B.o,F.o,W.o,aa.o]))) H⟩
   | true=>
    have aa:=qH J;clear J;have C:=aq.o;have HH:qh (iT a s n i=jP a s n (f - (ks.length+1)) (l+1) (ks++[(l,t)]) V):=r.o.trans (JK qo (show rZ ks m a s n j=.ok ((l,t),V) by simp[rZ,B.o,F.o,W.o,aa.o,Z.o]));have ai:=(C.nK (λg hg=>hg)).alloc (.cells #[qJ l,.string t] 199);have K:=qH ai;have aG:=H.size;clear ai C;go_wp2_with (at_builtin;refine qbv _ rfl _ _ 73 rfl w.heap.size 199 i0 (.agg #[qJ 0,.string {data:= #[]}]) 2 24 underlying73 al am an ao rfl qx _ _ _ rfl K.o ⟨w5.heap.size,0,none⟩ 1 1 [qJ l,.string t] rfl rfl ?c1 ?c2 ?c3 ?c4 ?c5 ?_)
    case c1=>exact cells_at rfl rfl
    case c2=>intro u hu;simp at hu;obtain rfl | rfl:=hu<;>rfl
    case c3=>unfold maxLen;omega
    case c4=>omega
    case c5=>simp;omega
    intro v' I aj ab _;have au:=iD (H.alloc _) K.o qR ab;have aw:=jk (ap.alloc _) K.o h.lt ab;have ak:isRow 199 2 lK (λg=>w.heap.size<=g) (ks++[(l,t)]) I v':=by
     have:=Row.mI (ok:=λg=>w.heap.size<=g) aj (λg hg _=>hg);simpa [isRow,lK] using this
    have HR:=qH ak;clear aj ab ak K;go_wp2;go_roundw
    case rel=>exact⟨ks.length+1,V,l+1,ks++[(l,t)],qo,qs,qo,by go_num,by go_num,aw,au,HR.o,HH.o⟩
    simp[intOf];omega
 have HH:qh (iT a s n i=.ok (ks,j)):=by show _=_;rw[r.o,show f - ks.length=0 by omega];rfl
 go_wp2;go_ret;exact Out.dN HH.o M D A
def lF(m:dX)(s:ByteArray)(n i:Nat):Except Err (dX×Nat):=
 match uM s n i with
 | .error e=>.error e
 | .ok ((v,a),j)=>
  if v=(m.funcs.length:Int) then
   match eT pR s n m.funcs.length [] j with
   | .error e=>.error e
   | .ok (cs,j2)=>.ok ({m with dF:=cs},j2)
  else .error (2,a)
theorem TN{w:qW}{b:Nat}{s:ByteArray}{i n:Nat}{x:O4}{j:Nat}(h:Rd w b s i n)(f:pR s n i=.ok (x,j)):
  qC 230 #[.pointer (some ⟨b,0,none⟩)] w λe w'=>(∃p c fb,e=.returned (.agg #[.slice p x.1.length c,.func (.func 316) #[] #[.pointer (some ⟨fb,0,none⟩)]])/\dH (λg=>w.heap.size<=g) x.1 w' (.slice p x.1.length c)/\kP (λg=>w.heap.size<=g) s x.2.1 x.2.2 w' (.func (.func 316) #[] #[.pointer (some ⟨fb,0,none⟩)]))/\Rd w' b s j n/\Kept (only b) w w':=by
 refine(wU h).mono ?_;rintro e o⟨X,k,q⟩;obtain⟨u,rfl,⟨r,fv,rfl,a,d⟩,l⟩:=k _ _ f;obtain⟨p,c,rfl⟩:=Row.shape a;have m:=d;obtain⟨fb,rfl,-,-⟩:=d;exact⟨⟨p,c,fb,rfl,a,m⟩,l,X⟩
theorem RJ{w:qW}{b:Nat}{s:ByteArray}{i n:Nat}{q p:Nat}(h:Rd w b s i n)(hu:pR s n i=.error (q,p)):
  qC 230 #[.pointer (some ⟨b,0,none⟩)] w λe w'=>e=fo q p/\Kept (only b) w w':=by
 refine(wU h).mono ?_;exact RZ
theorem Tryz.Tu:(prog.info? 131).map (λi=>(i.zero,i.size,i.bytes))=some (some (.agg #[.slice none 0 0,.nilFunc]),2,32):=qk
def nG(s:ByteArray)(B b Y:Nat)(m:dX)(w:World)(v:Value):Prop:=v=.tuple #[]/\iF s (λg=>B<=g) w b Y m
theorem kC.mono{s:ByteArray}{ok ok':qD}{w:qW}{x:O4}{cs:qV}(h:kC s ok x w cs)(hm:∀g,g<w.heap.size->ok g->ok' g):kC s ok' x w cs:=by
 obtain⟨b,fv,e,a,c⟩:=h;exact⟨b,fv,e,Row.mono a hm,c.mono hm⟩
theorem CG{w:qW}{b d B:Nat}{s:ByteArray}{i n:Nat}{m:dX}(h:Rd w b s i n)(hm:iF s (λg=>B<=g) w b d m)(hb:b<B)(a1:d<B)(hB:B<=w.heap.size)(a2:m.funcs.length<=20)(aC:m.dF=[]):
  qC 181 #[.pointer (some ⟨d,0,none⟩),.pointer (some ⟨b,0,none⟩)] w (eP (both b d) w b s n (nG s B b d) (lF m s n i)):=by
 obtain⟨i0,aD,aE,aF,aG⟩:=qap Tryz.Tu;go_enter func181,ntmps181;go_wp2_with fail
 refine(nD h).mono ?_;rintro e w1⟨R,ag,ah⟩;have ad:Kept (both b d) w w1:=R.fB;rcases ho:uM s n i with⟨q,p⟩|xj
 .obtain rfl:=ah _ _ ho;exact⟨rfl,eP.dG (by simp[lF,ho]) ad⟩
 obtain⟨⟨v,a⟩,T⟩:=xj;obtain⟨u,rfl,hv,J⟩:=ag _ _ ho;obtain rfl:u=.agg #[qI v,.int .i64 a]:=hv;obtain⟨v0,v1,-,-,-⟩:=iY ho;obtain⟨f,ai,V⟩:=hm;have W:=ai.call R;have HH:=qH V;have aH:=qH W;have aI:f.v8=.slice none 0 0:=V.wB aC;obtain⟨p1,c1,aJ⟩:=Row.shape V.U;obtain⟨⟨F0,G0⟩,⟨F1,G1⟩,-⟩:=W.blk.twelve.1;rw[aJ]at F1;have a3:=W.lt;have a4:=R.size;have HO:=qH ho;clear ag ah ho R F0 G0 V W ai;by_cases H:v=(m.funcs.length:Int)
 .subst H;have t1:(((m.funcs.length:Int)) !=(m.funcs.length:Int))=false:=qs;go_wp2;go_quiet (fail)
  go_wp2;go_loopw [25] (λq wr=>∃(k j:Nat)(cs:List O4)(Y:qv),k<=m.funcs.length/\cs.length=k/\q=.int .i64 k/\Rd wr b s j n/\Kept (both b d) w wr/\OB wr b d ({f with v8:=Y}:Fields).cells/\
    gI 131 2 (kC s) (λg=>w.heap.size<=g) cs wr Y/\(cs=[]->Y=.slice none 0 0)/\eT pR s n m.funcs.length [] T=eT pR s n (m.funcs.length - k) cs j) (λq _=>m.funcs.length - (intOf q).toNat)
  case atStart=>refine⟨0,T,[],.slice none 0 0,qZ,rfl,rfl,(J.alloc _).drewN _,(ad.alloc _).drewN _,?_,⟨[],Row.nil _ _ _ _,trivial⟩,λ_=>rfl,rfl⟩;have:=((aH.o).alloc (.cells #[qI m.funcs.length,.int .i64 a] 93)).drewN nq;rw[<-aI];exact this
  obtain⟨k,j,ks,Y,X,hl,rfl,J,N,O,aK,aj,ak⟩:=hrel;subst hl;have HE:=qH ak;clear ak;obtain⟨css,Z,al⟩:=aK;obtain⟨pl,cl,rfl⟩:=Row.shape Z;obtain⟨I8,J8⟩:=O.blk.twelve.2.2.2.1;have ae:=qH al;clear al;have aL:=qH aj;clear aj;by_cases a5:ks.length<m.funcs.length
  .have hlt':(ks.length:Int)<(m.funcs.length:Int):=qo;rcases hu:pR s n j with⟨q,p⟩|⟨x,j2⟩
   .have P:=qH hu;clear hu;go_wp2_with fail
    refine(RJ J P.o).mono ?_;rintro e K⟨rfl,G⟩;exact⟨rfl,eP.dG (by simp[lF,HO.o,HE.o,wE (tM:=pR) (show 0<m.funcs.length - ks.length by omega) P.o]) (N.trans G.fB)⟩
   have P:=qH hu;clear hu;go_wp2_with fail
   refine(TN J P.o).mono ?_;rintro e K⟨⟨C,D,E,rfl,am,an⟩,ao,G⟩;have a6:=J.lt;have a7:d<w.heap.size:=qo;have H:d≠b:=O.ne;have ap:d<wr.heap.size:=O.lt;have a8:=G.size;obtain⟨l,F⟩:=qE (K.alloc (.cells #[.slice C x.1.length D,.func (.func 316) #[] #[.pointer (some ⟨E,0,none⟩)]] 131));have aa:qK K l:=by rw[F];exact qr.alloc _
   have aM:OB l b d ({f with v8:=.slice pl ks.length cl}:Fields).cells:=by rw[F];exact(O.call G).alloc _
   have aN:Rd l b s j2 n:=by rw[F];exact ao.alloc _
   have aq:Kept (both b d) w l:=by rw[F];exact(N.trans G.fB).alloc _
   have ar:Row (λg=>w.heap.size<=g) l 131 2 (.slice pl ks.length cl) ks.length css.flatten:=Row.kept (Row.kept Z G (λg _ r (e:g=b)=>by have:=h.lt;omega)) aa (λ_ _ _ c=>c);have aO:l.heap.size=K.heap.size+1:=by rw[F];simp
   have a9:K.heap.size<l.heap.size:=qo;have ba:l.cell? ⟨K.heap.size,0,none⟩=some (.slice C x.1.length D):=by rw[F,qco];rfl
   have bb:l.cell? ⟨K.heap.size,1,none⟩=some (.func (.func 316) #[] #[.pointer (some ⟨E,0,none⟩)]):=by rw[F,qco];rfl
   have aP:d<l.heap.size:=qo;have q8:l.cell? ⟨d,8,none⟩=some (.slice pl ks.length cl):=by
    rw[F,qat _ _ _ (by simp only;omega)];exact(G.other ap H).trans I8
   have f8:l.frozen? ⟨d,8,none⟩=false:=by
    rw[F,qch _ _ _ (by simp only;omega)];exact(G.jN ap H).trans J8
   have aQ:qh (Each (λy cs=>kC s (λg=>w.heap.size<=g) y l cs/\cs.length=2) ks css):=ae.o.to (λy cs hh=>⟨(hh.1.kept G (λg _ r (e:g=b)=>by have:=h.lt;omega)).kept aa (λ_ _ _ c=>c),hh.2⟩);have aR:qh (kC s (λg=>w.heap.size<=g) x l [.slice C x.1.length D,.func (.func 316) #[] #[.pointer (some ⟨E,0,none⟩)]]):=kC.kept ⟨_,_,rfl,Row.mono am (λg _ r=>qam N.size r),an.mono (λg _ r=>qam N.size r)⟩ aa (λ_ _ _ c=>c);have ab:qh ((l.alloc (.cells #[.slice C x.1.length D,.func (.func 316) #[] #[.pointer (some ⟨E,0,none⟩)]] 131)).drew.ownsRow w.heap.size 131 2 (.slice pl ks.length cl) ks.length css.flatten):=(Row.kept ar (S:=λ_=>False) (w':=(l.alloc (.cells #[.slice C x.1.length D,.func (.func 316) #[] #[.pointer (some ⟨E,0,none⟩)]] 131)).drew) ((qr.alloc _).drew) (λ_ _ _ c=>c)).nK (λg r=>r);have au:(l.alloc (.cells #[.slice C x.1.length D,.func (.func 316) #[] #[.pointer (some ⟨E,0,none⟩)]] 131)).cell? ⟨d,8,none⟩=some (.slice pl ks.length cl):=(qat _ _ _ aP).trans q8;have aw:(l.alloc (.cells #[.slice C x.1.length D,.func (.func 316) #[] #[.pointer (some ⟨E,0,none⟩)]] 131)).frozen? ⟨d,8,none⟩=false:=(qch _ _ _ (by simp only;omega)).trans f8;clear am an ae Z G J I8 J8 ar aa aO;go_wp2_with fail
   rw[<-F];clear F;go_region_law (refine step_append_lies _ (by rfl) _ _ _ (by rfl) w.heap.size 131 i0 _ 2 32 underlying71 aD aE aF aG rfl qo (.slice pl ks.length cl) ks.length css.flatten (by rfl) ab.o ⟨l.heap.size,0,none⟩ 1 1 [.slice C x.1.length D,.func (.func 316) #[] #[.pointer (some ⟨E,0,none⟩)]] (by rfl) (by rfl) (World.news_of_block (cs:= #[.slice C x.1.length D,.func (.func 316) #[] #[.pointer (some ⟨E,0,none⟩)]]) (t:=131) (fr:=(0,0)) (heap_alloc_new l _)) (by simp[Value.oneCell']) qo (by unfold maxLen;omega) qo (by have:=aq.size;simp at*;omega) (l.heap.size+1) qs ?_;intro I A Q ax M aS aT;have af:some d≠(Value.slice pl ks.length cl).ownBlock:=λe=>absurd (ab.o.lt d e.symm).1 qo;have aU:Q.cell? ⟨d,8,none⟩=some (.slice pl ks.length cl):=(M.cell_far ⟨d,8,none⟩ qt af).trans au;have aV:Q.frozen? ⟨d,8,none⟩=false:=(M.frozen_far ⟨d,8,none⟩ qt af).trans aw)
   all_goals
    have ac:=ab.o;have aW:=(jk (aN.alloc _).drew ac h.lt M).dD (o:=8) H (.slice (some ⟨I,0,none⟩) (ks.length+1) A);have aX:=(iD (aq.alloc _).drew ac qR M).mH (o:=8) (.slice (some ⟨I,0,none⟩) (ks.length+1) A);have ay:=((aM.alloc (.cells #[.slice C x.1.length D,.func (.func 316) #[] #[.pointer (some ⟨E,0,none⟩)]] 131)).drew.kept (Kept.gH M) (λe=>af e.symm)).set 8 (.slice (some ⟨I,0,none⟩) (ks.length+1) A);have aA:gI 131 2 (kC s) (λg=>w.heap.size<=g) (ks++[x]) (Q.setCell ⟨d,8,none⟩ (.slice (some ⟨I,0,none⟩) (ks.length+1) A)) (.slice (some ⟨I,0,none⟩) (ks.length+1) A):=by
     have aB:∀y cs,kC s (λg=>w.heap.size<=g) y l cs->kC s (λg=>w.heap.size<=g) y (Q.setCell ⟨d,8,none⟩ (.slice (some ⟨I,0,none⟩) (ks.length+1) A)) cs:=λy cs hy=>
      ((hy.kept (((Kept.refl (λ_=>False) l).alloc _).drew) (λ_ _ _ c=>c)).Br ac qx qx M).kept (S:=only d) (qr.own _) (λg _ r (e:g=d)=>qo)
     refine⟨css++[[.slice C x.1.length D,.func (.func 316) #[] #[.pointer (some ⟨E,0,none⟩)]]],?_,?_⟩
     .have q:=Row.other (Row.mI (ok:=λg=>w.heap.size<=g) ax (λg r _=>r)) (g:=d) (o:=8) (λk X=>qo) (.slice (some ⟨I,0,none⟩) (ks.length+1) A);simpa using q
     exact Each.snoc (aQ.o.to (λy cs hh=>⟨aB y cs hh.1,hh.2⟩)) ⟨aB _ _ aR.o,rfl⟩
    have aY:qh (eT pR s n m.funcs.length [] T=eT pR s n (m.funcs.length - (ks.length+1)) (ks++[x]) j2):=HE.o.trans (jZ qo P.o);have HR:=qH aA;have aZ:=qH ay;clear aA ax M aS aT aU aV q8 f8 au aw ac ay ao ab;go_wp2;go_roundw
    case rel=>exact⟨ks.length+1,j2,ks++[x],.slice (some ⟨I,0,none⟩) (ks.length+1) A,qo,qs,by go_num,aW,aX,aZ.o,HR.o,λe=>by simp at e,aY.o⟩
    simp[intOf];omega
  have a0:qh (eT pR s n m.funcs.length [] T=.ok (ks,j)):=by show _=_;rw[HE.o,show m.funcs.length - ks.length=0 by omega];rfl
  go_wp2;go_end0;have z:=HH.o.kept N (λg _ r hh=>hh.elim (λe=>qo) (λe=>qo));refine eP.dN (x:={m with dF:=ks}) (j:=j) (by simp[lF,HO.o,a0.o]) N ⟨rfl,{f with v8:=.slice pl ks.length cl},O,?_⟩ J;exact⟨z.h0,z.U,z.L,z.h3,z.h4,z.h5,z.h6,z.h7,⟨css,Row.mono Z (λg _ r=>qo),ae.o.to (λy cs hh=>⟨hh.1.mono (λg _ r=>qo),hh.2⟩)⟩,z.h9,z.h10,z.h11,z.wC,aL.o,z.o6⟩
 have t1:(v !=(m.funcs.length:Int))=true:=by simpa using H
 have HN:=qH H;clear H;go_wp2;go_quiet (fail)
 go_wp2_with fail
 refine(fZ _ _).mono ?_;rintro e Q⟨rfl,rfl⟩;exact⟨rfl,eP.dG (by simp[lF,HO.o,HN.o]) ((ad.alloc _).drewN _)⟩
def dX.params(m:dX)(f:Nat):List Nat:=
 match m.funcs[f]? with
 | none=>[]
 | some x=>match m.dx[x.1.toNat]? with
  | none=>[]
  | some t=>t.ins
theorem Each.flat{a:Type}{P:a->qV->Prop}{m:Nat}:∀{xs:List a}{css:List (qV)} {k o:Nat} {cs:qV},Each (λx c=>P x c/\c.length=m) xs css->css[k]?=some cs->o<m->css.flatten[k*m+o]?=cs[o]?
 | [],[],k,o,cs,_,h,_=>by simp at h
 | _::_,y::ys,0,o,cs,he,h,ho=>by
  simp at h;subst h;simp only[qdy];rw[qbe (by rw[he.1.2];omega)];simp
 | _::_,y::ys,k+1,o,cs,he,h,ho=>by
  simp at h;simp only[qdy];rw[qdf (by rw[he.1.2,Nat.add_mul];omega),he.1.2,show(k+1)*m+o - m=k*m+o by rw[Nat.add_mul];omega];exact Each.flat he.2 h ho
 | [],_::_,_,_,_,h,_,_=>h.elim
 | _::_,[],_,_,_,h,_,_=>h.elim
theorem JD{w:qW}{b l:Nat}{s:qS}{ok:qD}{m:dX}(f:Nat)(hm:iF s ok w b l m)(hf:f<m.funcs.length)(i:∀x∈m.funcs,0<=x.1/\x.1<=4294967295)(J:m.dx.length<=20)(K:m.funcs.length<=20):
  qC 291 #[qP l,qJ f] w λe w'=>∃v,e=.returned v/\dH ok (m.params f) w v/\w'=w:=by
 obtain⟨F,n,d⟩:=hm;obtain⟨D,c1,p,-,L,M,q⟩:=Row.cells d.U qo;obtain⟨⟨F0,N⟩,⟨E,O⟩,-⟩:=n.blk.twelve.1;have hx:m.funcs[f]?=some m.funcs[f]:=qab hf;have P:w.cell? ⟨D,f*2,none⟩=some (qI m.funcs[f].1):=(q (f*2) qo).trans (flat_get (m:=2) (o:=0) (λ_=>rfl) hx qo);have Q:(f:Int)<(m.funcs.length:Int):=qo;obtain⟨R,S⟩:=i m.funcs[f] (qaw hf);have r:m.params f=(match m.dx[m.funcs[f].1.toNat]? with | none=>[] | some t=>t.ins):=by simp[dX.params,hx]
 have g:=qH r;rw[p]at E;generalize m.funcs[f].1=u at*;have y:=qH d.h0;obtain⟨css,c,z⟩:=d.h0;obtain⟨T,c0,G⟩:=Row.shape c;rw[G]at F0 c;clear q d r hx n p;have h:=qH z;clear z;obtain⟨a,rfl⟩:∃a:Nat,u=(a:Int):=⟨u.toNat,qo⟩;by_cases V:(a:Int)<(m.dx.length:Int)
 .obtain⟨g0,c0',hv,-,hg0,hc0,hcell0⟩:=Row.cells c qo;cases hv;have X:a<m.dx.length:=qo;have hy:m.dx[a]?=some m.dx[a]:=qab X;obtain⟨cs,A,⟨⟨W,Y,H,j,I⟩,Z⟩⟩:=h.o.get hy;subst H;obtain⟨B,C,rfl⟩:=Row.shape j;have e0:w.cell? ⟨g0,a*2,none⟩=some (.slice B m.dx[a].ins.length C):=(hcell0 (a*2) qo).trans (Each.flat (o:=0) h.o A qo);have k:qh (dH ok (m.params f) w (.slice B m.dx[a].ins.length C)):=by show dH _ _ _ _;rw[g.o];simp[hy];exact j
  clear hcell0 j I c h g A hy y i;generalize m.dx[a].ins.length=nn at*;go_enter func291,ntmps291;go_wp2;go_ret;exact⟨_,rfl,k.o,rfl⟩
 have k:qh (dH ok (m.params f) w (qN)):=by
  show dH _ _ _ _;rw[g.o,List.getElem?_eq_none qt];exact Row.nil _ _ _ _
 clear h g y i c;go_enter func291,ntmps291;go_wp2;go_ret;exact⟨_,rfl,k.o,rfl⟩
def o7(m:dX)(f:Nat):Nat:=(m.params f).length+((m.dF[f]?).map (λc=>c.1.length)).getD 0
def zx(m:dX)(least:Nat)(s:qS)(n i:Nat):Except Err ((Nat×List yc)×Nat):=
 match kQ least m.funcs.length s n i with
 | .error e=>.error e
 | .ok (f,j)=>
  match iT (o7 m f) s n j with
  | .error e=>.error e
  | .ok (ns,j2)=>.ok ((f,ns),j2)
def nX(m:dX)(s:qS)(n:Nat):Nat->Nat->List (Nat×List yc)->Nat->Except Err (List (Nat×List yc)×Nat)
 | 0,_,M,j=>.ok (M,j)
 | k+1,least,M,j=>match zx m least s n j with
  | .error e=>.error e
  | .ok (x,j')=>nX m s n k (x.1+1) (M++[x]) j'
def fC(m:dX)(s:qS)(n i:Nat):Except Err (dX×Nat):=
 match fD m.funcs.length s n i with
 | .error e=>.error e
 | .ok (k,j)=>
  match nX m s n k 0 [] j with
  | .error e=>.error e
  | .ok (xs,j2)=>.ok ({m with kD:=xs},j2)
theorem DT{m:dX}{s:qS}{n k a j:Nat}{M:List (Nat×List yc)}{e:Err}(X:0<k)(h:zx m a s n j=.error e):nX m s n k a M j=.error e:=by
 obtain⟨m,rfl⟩:∃m,k=m+1:=⟨k - 1,qo⟩;simp[nX,h]
theorem QW{m:dX}{s:qS}{n k a j b:Nat}{M:List (Nat×List yc)}{x:Nat×List yc}(X:0<k)(h:zx m a s n j=.ok (x,b)):nX m s n k a M j=nX m s n (k - 1) (x.1+1) (M++[x]) b:=by
 obtain⟨m,rfl⟩:∃m,k=m+1:=⟨k - 1,qo⟩;simp[nX,h]
theorem AY{w:qW}{b:Nat}{s:qS}{i n:Nat}{z:Int}{x:List yc}{j:Nat}(a:Nat)(f:z=(a:Int))(h:Rd w b s i n)(hm:a<=1000)(k:iT a s n i=.ok (x,j)):
  qC 233 #[qP b,qJ z] w λe w'=>(∃p c,e=.returned (qX p x c)/\isRow 199 2 lK (λg=>w.heap.size<=g) x w' (qX p x c))/\Rd w' b s j n/\Kept (only b) w w':=by
 subst f;refine(tJ a h hm).mono ?_;rintro e o⟨X,l,q⟩;obtain⟨u,rfl,d,m⟩:=l _ _ k;obtain⟨p,c,rfl⟩:=Row.shape d;exact⟨⟨p,c,rfl,d⟩,m,X⟩
theorem yZ{w:qW}{b:Nat}{s:qS}{i n:Nat}{z:Int}{q p:Nat}(a:Nat)(c:z=(a:Int))(h:Rd w b s i n)(hm:a<=1000)(hu:iT a s n i=.error (q,p)):
  qC 233 #[qP b,qJ z] w λe w'=>e=fo q p/\Kept (only b) w w':=by
 subst c;refine(tJ a h hm).mono ?_;exact RZ
theorem Tryz.Tn:(prog.info? 203).map (λi=>(i.zero,i.size,i.bytes))=some (some (.agg #[qJ 0,qN]),2,32):=qk
end Go.Proofs.YtfkcodlceoghpaaGreatDoor
