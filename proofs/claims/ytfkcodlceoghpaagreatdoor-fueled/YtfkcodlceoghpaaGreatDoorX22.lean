import Derived.Deep.CutRange
import Derived.Deep.DrawnRows
import Derived.Test.YtfkcodlceoghpaaGreatDoorX16
namespace Go.Proofs.YtfkcodlceoghpaaGreatDoor
set_option maxHeartbeats 3200000
set_option maxRecDepth 100000
set_option linter.unusedSimpArgs false
set_option linter.unusedVariables false
open Go.RowKit Go.Proofs.Tryz
section
attribute [local go_sem ↓] Go.wp_at_zero Go.wp_at_succ
theorem Tryz.Tf:(prog.info? 282).map (λi=>(i.zero,i.size,i.bytes))=some (some (.agg #[qB 0,qN,qN,qJ 0,.bool false]),5,72):=qk
theorem Ou{K j:qD}{w:qW}{a:Nat}{H I sv bv vi vo:qv}{Z:Bd}{t:Ty}(l:Nat)(h:gB K j w a H I sv bv Z)(hi:dH K t.ins w vi)(ho:dH K t.outs w vo)(hb:t.ins≠[]->Z.dn≠[])(hl:Z.dn.length<=59)(hf:Z.dJ.dK<=Z.dB.length)(hs:Z.dB.length<=900000)(N:t.ins.length<=50):
  qC 132 #[qP a,qB l,.agg #[vi,vo]] w (Says j w (iV l t Z) (EX K j w a H I)):=by
 obtain⟨i0,ar,au,aw,ax⟩:=qap Tryz.Tf;obtain⟨ps,cs,rfl⟩:=Row.shape h.stk;obtain⟨m,n,rfl⟩:=Row.shape hi;obtain⟨r,s,rfl⟩:=Row.shape ho;have O:¬K a:=h.pY a h.own;have ab:qh (∀k,bv.ownBlock=some k->k<w.heap.size):=by
  obtain⟨css,P,-⟩:=h.tY;exact λk X=>(P.own.lt k X).2
 have aM:=h.lt;go_enter func132,ntmps132;go_wp2_with fail
 refine(take_any (h.alloc _) (Row.alloc hi _) O hb qo hf qo N).mono ?_;rintro e i⟨C,ac,ad⟩;have Q:Kept j w i:=(qr.alloc _).trans (C.mono (λk _ (e:k=a)=>e▸h.own));rcases hm:dQ Z t.ins with⟨q,pp⟩|st1
 .obtain rfl:=ad _ _ hm;exact⟨rfl,Says.dG (by simp[iV,hm]) Q⟩
 obtain⟨v,rfl,rfl,D⟩:=ac _ hm;have R:=eO hf hm;have HM:qh (iV l t Z=.ok {st1 with dn:=⟨l,t.ins,t.outs,st1.dB.length,false⟩::st1.dn,dB:=st1.dB++t.ins}):=by show _=_;simp[iV,hm]
 have hT:jf i w.heap.size [qX m t.ins n,qX r t.outs s]:=(jf.new w #[qX m t.ins n,qX r t.outs s] 100).kept C qs (λ(e:w.heap.size=a)=>qo);obtain⟨⟨T0,-⟩,⟨T1,-⟩⟩:=hT.two;obtain⟨-,-,⟨I2,J2⟩,⟨I3,J3⟩,⟨I4,J4⟩⟩:=D.blk.five;obtain⟨css,E,ae⟩:=D.tY;rw[List.length_reverse]at E;obtain⟨pb,cb,rfl⟩:=Row.shape E;have ay:qh (∀k o,((i.drewN k).alloc o).ownsRow 0 282 5 (qX pb st1.dn cb) st1.dn.length css.flatten):=λk o=>(Row.alloc (Row.kept E (S:=λ_=>False) (w':=i.drewN k) (qr.drewN k) (λ_ _ _ c=>c)) o).own;have aN:st1.dn.length<=59:=by rw[R.1];exact hl
 have aO:st1.dB.length<=900000:=qo;have F:=qH D;have HF:=qH R;have af:=qH ae;have y:=qH E;have aA:=C.size;have ag:a<i.heap.size:=D.lt;have aB:w.heap.size<i.heap.size:=by simp at aA;omega
 have aP:a≠w.heap.size:=qo;have ah:qh (some w.heap.size≠(Value.slice pb st1.dn.length cb).ownBlock):=by
  intro e;have:=ab.o _ e.symm;omega
 clear ac ad hm hT ae R D E;go_wp2_with fail
 go_cut [27] from 10 to 29 (λv W=>∃(f A:Nat)(d:qW),v=qL f (st1.dn.length+1) A/\W=d.setCell (qA a 3) (qL f (st1.dn.length+1) A)/\d.ownsRow 0 282 5 (qL f (st1.dn.length+1) A) (st1.dn.length+1) (css.flatten++[qB l,qX m t.ins n,qX r t.outs s,qJ st1.dB.length,.bool false])/\
   ((i.drewN 1).alloc (.cells #[qB l,qX m t.ins n,qX r t.outs s,qJ st1.dB.length,.bool false] 282)).grownBy d (Value.slice pb st1.dn.length cb).ownBlock/\((Value.slice pb st1.dn.length cb).ownBlock=some f\/f=i.heap.size+1))
 case first=>
  clear ab ah Q C hi ho h HM F HF af O I4 J4 J2 hb hl hf hs N;go_region_law (refine step_append_lies _ (by rfl) _ _ _ (by rfl) 0 282 i0 _ 5 72 underlying223 ar au aw ax rfl qo (qX pb st1.dn cb) st1.dn.length css.flatten (by rfl) (ay.o 1 _) ⟨i.heap.size,0,none⟩ 1 1 [qB l,qX m t.ins n,qX r t.outs s,qJ st1.dB.length,.bool false] (by rfl) (by rfl) (World.news_of_block (cs:= #[qB l,qX m t.ins n,qX r t.outs s,qJ st1.dB.length,.bool false]) (t:=282) (fr:=(0,0)) (heap_alloc_new (i.drewN 1) _)) (by simp[Value.oneCell']) qo (by unfold maxLen;omega) qo qZ (i.heap.size+1) qs ?_;intro f A d G u z aQ;have J:some a≠(Value.slice pb st1.dn.length cb).ownBlock:=(λe=>(y.o.at_ a e.symm).2 rfl);have q3:d.cell? (qA a 3)=some (qX pb st1.dn cb):=(u.cell_far ⟨a,3,none⟩ qt J).trans ((qat _ _ _ ag).trans I3);have f3:d.frozen? (qA a 3)=false:=(u.frozen_far ⟨a,3,none⟩ qt J).trans ((qch _ _ _ qt).trans J3))
  all_goals
   have T:=qH G;have ai:=qH u;have aj:=qH z;clear G u z;go_wp2;go_meet;exact⟨f,A,d,rfl,rfl,T.o,ai.o,aj.o⟩
 obtain⟨f,A,d,rfl,rfl,G,u,z⟩:=hcut;have T:=qH G;have ai:=qH u;have aj:=qH z;have ak:∀k,w.heap.size<=k->¬K k:=λk aR c=>by have:=h.kb k c;omega
 have J:some a≠(Value.slice pb st1.dn.length cb).ownBlock:=λe=>(y.o.at_ a e.symm).2 rfl;have B:Kept (λk=>(Value.slice pb st1.dn.length cb).ownBlock=some k) i d:=((qr.drewN _).alloc _).trans (Kept.gH u);have aC:More j w f/\f≠a:=by
  obtain hh | hh:=z
  .exact⟨.inl (y.o.at_ f hh).1,(y.o.at_ f hh).2⟩
  exact⟨.inr qo,qo⟩
 have al:∀k,(Value.slice pb st1.dn.length cb).ownBlock=some k->j k:=λk X=>(y.o.at_ k X).1;have L:Kept j w d:=Q.trans (B.mono (λk _ e=>al k e));have am:jf d a [H,I,qX ps st1.dB cs,qX pb st1.dn cb,qJ st1.at_]:=F.o.blk.kept B ag (λe=>J e.symm);have V:Kept (only a) d (d.setCell (qA a 3) (qL f (st1.dn.length+1) A)):=qr.own _;have an:∀g,K g->¬(Value.slice pb st1.dn.length cb).ownBlock=some g:=λg b e=>h.pY g (al g e) b;have Y:∀g,K g->¬only a g:=λg b (e:g=a)=>O (e▸b);have aa:Kept (λk=>k=a\/(Value.slice pb st1.dn.length cb).ownBlock=some k) i (d.setCell (qA a 3) (qL f (st1.dn.length+1) A)):=(B.mono (λ_ _ e=>.inr e)).setCell (λ_=>.inl rfl) _;have M:∀{ks:qM}{v:qv},dH K ks w v->dH K ks (d.setCell (qA a 3) (qL f (st1.dn.length+1) A)) v:=λhh=>
  Row.kept (Row.kept (Row.alloc hh _) C (λg _ b=>Y g b)) aa (λg _ b c=>c.elim (λe=>Y g b e) (λe=>an g b e))
 have ao:gB K (More j w) (d.setCell (qA a 3) (qL f (st1.dn.length+1) A)) a H I (qX ps st1.dB cs) (qL f (st1.dn.length+1) A) {st1 with dn:=⟨l,t.ins,t.outs,st1.dB.length,false⟩::st1.dn}:=by
  refine⟨am.set 3 _,.inl h.own,?_,?_,λk X=>X.elim (h.pY k) (ak k),λk X=>?_⟩
  .have hst:dH (λg=>j g/\g≠a) st1.dB d (qX ps st1.dB cs):=Row.kept (Row.only F.o.stk (ok':=λg=>(j g/\g≠a)/\(Value.slice pb st1.dn.length cb).ownBlock≠some g) (λg b=>⟨F.o.stk.at_ g b,λc=>Row.apart F.o.stk y.o qx b c⟩)) B (λg _ b=>b.2) |>.mono (λg _ b=>b.1);exact Row.mono (Row.kept hst V (λg _ b (c:g=a)=>b.2 c)) (λg _ b=>⟨.inl b.1,b.2⟩)
  .simp only[qcu];refine⟨css++[[qB l,qX m t.ins n,qX r t.outs s,qJ st1.dB.length,.bool false]],?_,?_⟩
   .have P:Row (λg=>More j w g/\g≠a) d 282 5 (qL f (st1.dn.length+1) A) (st1.dn.length+1) (css.flatten++[qB l,qX m t.ins n,qX r t.outs s,qJ st1.dB.length,.bool false]):=⟨T.o,λg b=>by simp[Value.ownBlock]at b;subst b;exact aC⟩;have aD:=Row.kept P V (λg _ b (c:g=a)=>b.2 c);simpa using aD
   refine Each.snoc (af.o.to (λx cs hh=>⟨hh.1.kept aa (λg _ b c=>c.elim (λe=>Y g b e) (λe=>an g b e)),hh.2⟩)) ⟨⟨_,_,rfl,M hi,M ho⟩,rfl⟩
  have U:=h.kb k X;have aS:=L.size;simp;omega
 have aT:d.cell? (qA w.heap.size 0)=some (qX m t.ins n):=(B.cell (p:=(qA w.heap.size 0)) aB (λe=>ah.o e.symm)).trans T0;have aE:=qH ao;have aF:=qH (M hi);have aG:=qH L;have aH:st1.dB.length<=1000000:=qo;have aU:w.heap.size<=d.heap.size:=L.size;clear ao G u z M aa V am B L I2 J2 I3 J3 I4 J4 T0 T1;have aV:w.heap.size≠a:=qo;go_wp2_with fail
 refine(put_any aE.o aF.o aH N).mono ?_;rintro e w5⟨aI,ap,-⟩;obtain⟨v,rfl,rfl,aJ,aK,aq⟩:=ap _ rfl;have aL:=qH aq;clear ap aq;go_wp2;go_end0;refine Says.dN HM.o (((aG.o.setCell (p:=(qA a 3)) (λ_=>h.own) _).fresh aI (λk X hh=>hh.elim id (λc=>qo)))) ⟨rfl,aJ,aK,?_⟩;exact aL.o.more (λk X=>X.elim id (λc=>.inr (by simp at c;omega))) (λk X=>X.elim (h.pY k) (ak k))
end
end Go.Proofs.YtfkcodlceoghpaaGreatDoor
