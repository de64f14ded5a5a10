import Derived.Deep.LoopGhost
import Derived.Laws.BytesArg
import Derived.Shelf.Pu.Clone
import Derived.Test.YtfkcodlceoghpaaGreatDoorX29
namespace Go.Proofs.YtfkcodlceoghpaaGreatDoor
set_option maxHeartbeats 3200000
set_option maxRecDepth 100000
set_option linter.unusedSimpArgs false
set_option linter.unusedVariables false
open Go.RowKit Go.Proofs.Tryz Go.Shelf
section
variable {Xq X':List It}{G:Gm}{E:Ev}{Q:Nat->Gf}{fv tv bv:qv}{Ti To:Nat->qv}
theorem jg.mono(h:jg Xq G E Q fv)(b:∀p∈Xq,p∈X'):jg X' G E Q fv:=by
 obtain⟨A,U,c⟩:=h.row;exact⟨⟨A,U,c.mono b⟩,λf F a=>(h.bl f F a).mono b,λf F a=>⟨(h.Z f F a).1.mono b,(h.Z f F a).2⟩,λf F a k p X=>(h.lb f F a k p X).mono b,λf F a=>⟨(h.ki f F a).1.mono b,(h.ki f F a).2.mono b⟩⟩
theorem Cf.mono(h:Cf Xq E tv bv Ti To)(a:∀p∈Xq,p∈X'):Cf X' E tv bv Ti To:=
 ⟨h.tb.mono a,h.ty.mono a,λt T b=>⟨(h.ki t T b).1.mono a,(h.ki t T b).2.mono a⟩,h.lo,h.f50⟩
end
abbrev MI(Y:Nat)(tv fv ev bv:Value)(most:Nat)(vm vg:Value)(mem:List Nat)(dW:List Int)(Xq:List It):List It:=
 .b Y [tv,fv,ev,bv,vm,qJ most,vg]::.r 5 1 vm mem.length (jr mem)::.r 2 1 vg dW.length (eD dW)::Xq
theorem L8{w:qW}{k:Nat}{n:Int}:qC 81 #[qJ n,qB k] w λe w'=>e=.returned (qJ (IQ k n))/\w'=w:=by
 obtain⟨r,a⟩:=qE (IQ k n);rw[<-a];unfold IQ at a;by_cases h:k=127
 .subst h;rw[qac rfl]at a;have HR:=qH a;clear a;go_enter func81,ntmps81;exact OQ
 rw[qaa h]at a;subst a;have b:((k:Int)==127)=false:=by simp;omega
 clear h;go_enter func81,ntmps81;go_wp2;go_ret;exact⟨rfl,rfl⟩
def pX(w0:World)(az:List Int)(av:Value):Prop:=∃pa ca,av=.slice pa az.length ca/\(0<az.length->∃xb xo,pa=some (qA xb xo)/\xb<w0.heap.size/\az.length<=ca/\∀j (hj:j<az.length),w0.cell? ⟨xb,xo+j,none⟩=some (qJ az[j]))
structure OX(w0:World)(m:dX)(G:Gm)(E:Ev)(Q:Nat->Gf)(Ti To:Nat->Value)(Y:Nat)(tv fv ev bv:Value)(most:Nat)(Xq:List It):Prop where
 fF:jg Xq G E Q fv
 tT:Cf Xq E tv bv Ti To
 eE:sI m E
 bB:EvB E
 mM:∀rb X',(∀p∈Xq,p∈X')->VO 197 w0 G E rb Y tv fv ev bv most X' 36 (lD E)
 nN:∀rb X',(∀p∈Xq,p∈X')->VO 198 w0 G E rb Y tv fv ev bv most X' 64 (ou E)
 mo:E.most<=10000
theorem RI{w:qW}{ok:qD}{n:Nat}{v:qv}{xs:List Int}(ty:TypeId)(h:Row ok w 2 1 v n (eD xs))(y:n<=300000):
  ∃p c w',(Builtin.append_ #[29,29] ty #[qN,v]).run prog w=.ok (.slice p n c) w'/\w'.ownsRow w.heap.size 2 1 (.slice p n c) n (eD xs)/\qK w w':=by
 obtain⟨f,b,i,l,o⟩:=qap Tryz.Lu;have d:prog.underlying 29=some (.slice 2):=qk;by_cases h0:n=0
 .subst h0;obtain⟨p,c,rfl⟩:=Row.shape h;have hx:eD xs=[]:=qao (by have:=h.1.1;simpa using this);refine⟨none,0,w,?_,by rw[hx];exact qdg _ _ _ _,Kept.refl _ _⟩;cases p<;>simp[Builtin.append_,qcq d,sizeOf,typeInfo,b,Builtin.lenOf,Builtin.firstCells,loadCells,loadCellsFrom]
 obtain⟨g,A,hv,-,z,-,r⟩:=Row.cells h qo;subst hv;have t:(eD xs).length=n:=by have:=h.1.1;simpa using this
 obtain⟨B,C,w',U,e,x,D,F⟩:=run_append_lies (P:=prog) w 29 ty w.heap.size 2 f (qJ 0) 1 8 d b i l o rfl qx (qN) 0 [] (qdg _ _ _ _) ⟨g,0,none⟩ n A (eD xs) (by simpa using t) (λj u a=>by
  rw[qdm];simp only[qcf];rw[r j (by have:=(qae.1 a).1;omega),a]) (λu a=>by
  unfold eD at a;obtain⟨q,-,rfl⟩:=List.mem_map.1 a;rfl) qo (by unfold maxLen;omega) qo qR _ rfl
 rw[qcf,qay]at e;rw[qcf]at U;exact⟨_,_,w',U,e,(Kept.gH x).mono (λk _ c=>by simp[Value.ownBlock]at c)⟩
theorem Mc{b:Array Oper}{o:Oper}{a:Act}{w:qW}{K:Act->qW->Prop}{Q:Exit->Act->qW->Prop}{d:Prop}{ok:qD}{n:Nat}{v:qv}{xs:List Int}(e:o.guard=none)(s x:Operand)
  (ho:o.op=.call {callee:=.builtin .append,args:= #[s,x],argTypes:= #[29,29]}) (f:a.eval s=qN) (hx:a.eval x=v) (g:Row ok w 2 1 v n (eD xs)) (i:n<=300000)
  (h:∀p c w',w'.ownsRow w.heap.size 2 1 (.slice p n c) n (eD xs)->qK w w'->K (a.put o.dst (.slice p n c)) w'):
  if Region.wanted o (yielded b a.tmps)=true then Oper.wp prog o a w K Q else d:=by
 rw[qac (by simp[Region.wanted,e])];obtain⟨p,c,w',j,k,l⟩:=RI o.type g i;unfold Oper.wp execOp;simp only[ho,resolve,invoke,builtin,Sem.run_bind,Sem.run_pure,Result.andThen_ok,List.map_toArray,List.map_cons,List.map_nil,f,hx,j];exact h p c w' k l
theorem P8{Lq:List It}{a b:It}:(Lq++[a]++[b]).Perm (b::a::Lq):=by
 have:=qbi (l₁:=Lq++[a]) (l₂:=[b]);exact this.trans (List.Perm.cons _ qs)
theorem ownsRow_le{w:qW}{B a:Nat}{E:TypeId}{sz n:Nat}{v:qv}{xs:qV}(h:w.ownsRow B E sz v n xs)(b:a<=B):w.ownsRow a E sz v n xs:=
 ⟨h.1,h.2.imp id (λ⟨g,A,c,d,e,f⟩=>⟨g,A,c,d,qam b e,f⟩)⟩
theorem VW{Lq:List It}{a b c d:It}:(Lq++[a]++[b]++[c]++[d]).Perm (a::b::c::d::Lq):=by
 have:=qbi (l₁:=Lq) (l₂:=[a,b,c,d]);simpa [qaj] using this
theorem O5{ks:qM}{az:List Int}{i:Nat}(U:i<ks.length)(a:i<az.length):List.zipWith IQ (ks.take (i+1)) (az.take (i+1))=List.zipWith IQ (ks.take i) (az.take i)++[IQ ks[i] az[i]]:=by
 rw[qbg U,qbg a,List.zipWith_append qt];rfl
section
variable {w0 w:qW}{G:Gm}{E:Ev}{Q:Nat->Gf}{Y most:Nat}{tv fv ev bv vm vg:qv}{Xq:List It}{s s':Rn}{Ti To:Nat->qv}{m:dX}{mem:qM}{dW:List Int}
theorem GI{f fuel n why left:Nat}{az:List Int}{F:PF}{av:qv}(h:Sx w0 w (MI Y tv fv ev bv most vm vg mem dW Xq))(hC:OX w0 m G E Q Ti To Y tv fv ev bv most Xq)(J:E.fs[f]?=some F)(C:az.length=F.ty.ins.length)(aG:F.ty.ins.length<=8)(ah:dW.length=m.dI.length)(aj:mem.length%64=0/\mem.length<=64*E.most)(aH:fuel<=4000)(Z:pX w0 az av)
  (hr:lI E n fuel (zS F f az mem dW)=some (s',why,left)):
  qC 33 #[qP Y,qJ f,av,qJ fuel] w λe w'=>∃rv ax ay rs,e=.returned (.agg #[qJ why,rv,qJ left])/\rs=(if why=0 then s'.stk else[])/\Sx w0 w' (MI Y tv fv ev bv most ax ay s'.mem s'.dW (Xq++[.r 2 1 rv rs.length (eD rs)])):=by
 obtain⟨pa,ca,rfl,Z⟩:=Z;have L:=h.lt 0 rfl;obtain⟨a1,b1⟩:=h.c 0 1 rfl rfl;have aI:(f:Int)<(E.fs.length:Int):=by have:=(qae.1 J).1;omega
 obtain⟨A,ak,-⟩:=hC.fF.row;obtain⟨c0,aA⟩:=hC.fF.fn h (λp hp=>by simp[MI,hp]) J (o:=0) qo;obtain⟨pi,ci,ac⟩:=Row.shape ((hC.fF.ki f F J).1.row h (λp hp=>by simp[MI,hp]));replace c0:w.cell? ⟨G.fg,f*5,none⟩=some (.slice pi F.ty.ins.length ci):=c0.trans (by rw[<-ac];rfl)
 rw[ak]at a1;clear ak;have U:=h.new #[qJ 0,qN,qJ 0] 33;have M:=(((U.new #[qP Y,qJ fuel,qN,qN,qN] 171).nil 2 1).nil 245 2).nil 242 3;have z:RA w0 G (w.heap.size+1) Y fuel tv fv ev bv most (Xq++[.b w.heap.size [qJ 0,qN,qJ 0]]) ⟨List.zipWith IQ (F.ty.ins.take 0) (az.take 0),[],[],mem,dW⟩ _:=⟨⟨qN,qN,qN,vm,vg⟩,by
  have:=M.perm VW;simpa [LM,eD] using this⟩
 have HS:=qH z;have j:=qH hC;have HR:qh (lI E n fuel (zS F f az mem dW)=some (s',why,left)/\(mem.length%64=0/\mem.length<=64*E.most)/\dW.length=m.dI.length):=⟨hr,aj,ah⟩;have aB:=qH ac;have HA:=qH Z;have N:=qH J;clear h U M z hC hr ac Z J aj ah;go_enter func33,ntmps33;go_wp2_with fail
 obtain⟨t,al⟩:=qE w.heap.size;rw[<-al]at HS ⊢;have aC:=qH C;clear al C;go_loopg [10,11,28] F.ty.ins.length (λgk aJ aK aD wr=>∃(i:Nat),gk=F.ty.ins.length - i/\i<=F.ty.ins.length/\aD=qJ i/\RA w0 G (t+1) Y fuel tv fv ev bv most (Xq++[.b t [qJ 0,qN,qJ 0]]) ⟨List.zipWith IQ (F.ty.ins.take i) (az.take i),[],[],mem,dW⟩ wr)
 case atStart=>exact⟨0,rfl,qZ,rfl,HS.o⟩
 clear HS L a1 b1 c0 aA;have C:=aC.o;obtain⟨i,aL,hi,rfl,q⟩:=hrel;by_cases L:i<F.ty.ins.length
 .have t1:(i:Int)<(F.ty.ins.length:Int):=qo;obtain⟨xb,xo,rfl,am,aM,an⟩:=HA.o qo;obtain⟨v,q⟩:=q;obtain⟨gi,aN,hv,-,aO,-,ao⟩:=Row.cells ((j.o.fF.ki f F N.o).1.row q (λp hp=>by simp[LM,hp])) qo;rw[aB.o]at hv;cases hv;obtain⟨O,ad⟩:=qE (F.ty.ins[i]);obtain⟨R,ae⟩:=qE (az[i]' qo);have ck:wr.cell? (qA gi i)=some (qB ((O:Nat):Int)):=(ao i qo).trans (by unfold kindCells;rw[qbk,qab L,ad];rfl);have aE:wr.cell? ⟨xb,xo+i,none⟩=some (qJ R):=(q.kept.cell (p:=⟨xb,xo+i,none⟩) am (λc=>c)).trans (by rw[ae];exact an i qo);have aP:xb<wr.heap.size:=qad am q.kept.size;have t2:(i:Int)<(az.length:Int):=qo;have HT:=qH (L8 (w:=wr) (k:=O) (n:=R));have HP:=qH (iw (s:=⟨List.zipWith IQ (F.ty.ins.take i) (az.take i),[],[],mem,dW⟩) ⟨v,q⟩ qt (IQ O R));have HZ:qh (List.zipWith IQ (F.ty.ins.take (i+1)) (az.take (i+1))=List.zipWith IQ (F.ty.ins.take i) (az.take i)++[IQ O R]):=by
   rw[ad,ae];exact O5 L qo
  have HI:=qH L;clear q ao ad ae an C;generalize IQ O R=y at*;go_wp2_with fail
  refine HT.o.mono ?_;rintro e w2⟨rfl,rfl⟩;go_wp2_with fail
  refine HP.o.mono ?_;rintro e D⟨rfl,z⟩;have H3:=qH z;clear z HP HT ck aE;go_wp2;go_roundg (F.ty.ins.length - (i+1))
  case measure=>have:=HI.o;omega
  refine⟨i+1,rfl,HI.o,by push_cast;rfl,?_⟩;rw[HZ.o];exact H3.o
 have t1:¬(i:Int)<(F.ty.ins.length:Int):=qo;have e1:F.ty.ins.take i=F.ty.ins:=qbo qo;have e2:az.take i=az:=qbo qo;rw[e1,e2]at q;obtain⟨v,q⟩:=q;have H:∀p∈Xq,p∈Xq++[It.b t [qJ 0,qN,qJ 0]]:=λp hp=>by simp[hp]
 have ap:=qH (wo q (j.o.fF.mono H) (λF hF=>⟨(j.o.bB.loc f F hF).2.1,by have:=(j.o.bB.loc f F hF).1;omega⟩) qt qs qs (F6 N.o C));have aq:=qH (λw (h:RA w0 G (t+1) Y fuel tv fv ev bv most (Xq++[.b t [qJ 0,qN,qJ 0]]) (zS F f az mem dW) w)=>Jp (j.o.fF.mono H) (j.o.tT.mono H) j.o.eE j.o.bB (j.o.mM _ _ H) (j.o.nN _ _ H) j.o.mo h (F5 j.o.eE N.o C HR.o.2.2) HR.o.2.1 (by have:=(j.o.bB.loc f F N.o).1;simp[zS];omega) (by simp[zS];omega) HR.o.1);clear q e1 e2 H HA C;go_wp2_with fail
 refine ap.o.mono ?_;rintro e w2⟨rfl,M⟩;have H2:=qH (aq.o _ M);clear ap aq M;go_wp2_with fail
 refine H2.o.mono ?_;rintro e D⟨rfl,vv,z⟩;clear H2;obtain⟨a1,b1⟩:=z.c 0 1 rfl rfl;have aQ:=z.lt 0 rfl;have h4:=z.new #[qJ why,qN,qJ left] 33;have ar:s'.stk.length<=300000:=by
  have:=xe j.o.bB HR.o.1;have e1:(zS F f az mem dW).stk.length<=58:=by have:=(j.o.bB.loc f F N.o).1;simp[zS];omega
  omega
 have B:Sx w0 (D.alloc (.cells #[qJ why,qN,qJ left] 33)) (.b D.heap.size [qJ why,qN,qJ left]::.b t [qJ 0,qN,qJ 0]::LM G (t+1) Y left tv fv ev bv most vv s' Xq):=h4.perm (P8 (Lq:=LM G (t+1) Y left tv fv ev bv most vv s' Xq));obtain⟨vs,vl,vf,XE,XF⟩:=vv;obtain⟨ps,cs,au⟩:=Row.shape (B.isRow 3 rfl);simp only at au;subst au;have aF:=qH ar;obtain⟨aa,ab⟩:=qE D.heap.size;have T:=qH B;clear z h4 B ar;by_cases hw:why=0
 .subst hw;go_wp2_with fail
  rw[<-ab]at T ⊢;clear ab;have B:=T.o;generalize D.alloc (.cells #[qJ ((0:Nat):Int),qN,qJ left] 33)=w4 at*;have aw:(λV:qW=>V.cell? (qA aa 1)=some (qN)/\V.cell? ⟨t+1,2,none⟩=some (.slice ps s'.stk.length cs)) w4.drew:=⟨(B.drew.c 0 1 rfl rfl).1,(B.drew.c 2 2 rfl rfl).1⟩;refine jU (λV:qW=>V.cell? (qA aa 1)=some (qN)/\V.cell? ⟨t+1,2,none⟩=some (.slice ps s'.stk.length cs)) 8 ?_;iterate 6 refine nE aw ?_ (hy:=qQ)
  refine jO (λK W=>?_);refine Mc (by rfl) (.tmp 56) (.tmp 60) (by rfl) (by go_simp) (by go_simp) (B.drew.isRow 3 rfl) aF.o ?_;intro p c w5 af X;have I:=B.drew.add X (p:=.r 2 1 (.slice p s'.stk.length c) s'.stk.length (eD s'.stk)) (ownsRow_le af B.drew.kept.size) (λg e=>(af.lt g e).1);have ag:(λV:qW=>V.cell? (qA aa 1)=some (qN)/\V.cell? ⟨t+1,2,none⟩=some (.slice ps s'.stk.length cs)) w5:=⟨(I.c 0 1 rfl rfl).1,(I.c 2 2 rfl rfl).1⟩;refine W _ _ (.inr ag) ?_;clear W K aw;simp only[Act.put,qy,qz,qw];refine nE ag ?_;obtain⟨x3,y3⟩:=I.c 0 1 rfl rfl;have mm:=I.lt 0 rfl;have d:=I.set 0 1 (.slice p s'.stk.length c) rfl;have H7:=qH d;clear B I d af X;refine iU (λK W=>?_);go_simp;refine W _ _ ?_;clear W K ag x3 y3 mm;have d:=H7.o;generalize w5.setCell (qA aa 1) (.slice p s'.stk.length c)=w6 at*;obtain⟨z0,-⟩:=d.c 0 0 rfl rfl;obtain⟨z1,-⟩:=d.c 0 1 rfl rfl;obtain⟨z2,-⟩:=d.c 0 2 rfl rfl;obtain⟨y0,x0⟩:=d.c 1 0 rfl rfl;obtain⟨y1,x1⟩:=d.c 1 1 rfl rfl;obtain⟨y2,x2⟩:=d.c 1 2 rfl rfl;have m0:=d.lt 0 rfl;have m1:=d.lt 1 rfl;have u:=((d.set 1 0 (qJ 0) rfl).set 1 1 (Value.slice p s'.stk.length c) rfl).set 1 2 (qJ left) rfl;obtain⟨r0,-⟩:=u.c 1 0 rfl rfl;obtain⟨r1,-⟩:=u.c 1 1 rfl rfl;obtain⟨r2,-⟩:=u.c 1 2 rfl rfl;have H8:=qH u;clear d u H7;go_wp2;refine qal (v:=.agg #[qJ 0,Value.slice p s'.stk.length c,qJ left]) ?_ rfl ?_
  .simp[results,results33,go_sem,r0,r1,r2]
  exact WX
 have t7:((why:Int)==0)=false:=by simp;omega
 have HW:=qH hw;clear hw;go_upto_region 12 with fail
 rw[<-ab]at T ⊢;clear ab;have d:=T.o;generalize D.alloc (.cells #[qJ why,qN,qJ left] 33)=w6 at*;obtain⟨z0,-⟩:=d.c 0 0 rfl rfl;obtain⟨z1,-⟩:=d.c 0 1 rfl rfl;obtain⟨z2,-⟩:=d.c 0 2 rfl rfl;obtain⟨y0,x0⟩:=d.c 1 0 rfl rfl;obtain⟨y1,x1⟩:=d.c 1 1 rfl rfl;obtain⟨y2,x2⟩:=d.c 1 2 rfl rfl;have m0:=d.lt 0 rfl;have m1:=d.lt 1 rfl;have u:=(((d.set 1 0 (qJ why) rfl).set 1 1 (qN) rfl).set 1 2 (qJ left) rfl);obtain⟨r0,-⟩:=u.c 1 0 rfl rfl;obtain⟨r1,-⟩:=u.c 1 1 rfl rfl;obtain⟨r2,-⟩:=u.c 1 2 rfl rfl;have H8:=qH (u.nil 2 1);clear d u T;go_wp2;refine qal (v:=.agg #[qJ why,qN,qJ left]) ?_ rfl ?_
 .simp[results,results33,go_sem,r0,r1,r2]
 exact WX
end
theorem Tryz.TA:(prog.info? 104).map (λi=>(i.zero,i.size,i.bytes))=some (some (.agg #[qN,qN,qJ 0,qN,qN]),5,104):=qk
structure VG(K:Nat->Prop)(w:World)(Lq:List It)(G:Gm)(fs:List PF)(Q:Nat->Gf):Prop where
 bl:∀f F,fs[f]?=some F->jl Lq 230 5 (.slice (some ⟨G.bg f,0,none⟩) F.bs.length (Q f).bc) F.bs.length (F.bs.flatMap uu)
 Z:∀f F,fs[f]?=some F->jl Lq 234 5 (Q f).sv F.ss.length (tK F.ss (Q f).lv)/\(0<F.ss.length->∃A,(Q f).sv=.slice (some ⟨G.sg f,0,none⟩) F.ss.length A)
 lb:∀f F,fs[f]?=some F->vI Lq F.ss (Q f).lv
 ki:∀f F,fs[f]?=some F->dH K F.ty.ins w (Q f).iv/\dH K F.ty.outs w (Q f).ov
def tO(G:Gm)(fs:List PF)(Q:Nat->Gf):List Value:=(List.range fs.length).flatMap λf=>VM G f (fs.getD f PF.none) (Q f)
def up{α:Type}(f:Nat->α)(n:Nat)(a:α):Nat->α:=λk=>if k=n then a else f k
def LV(G:Gm)(n b s:Nat):Gm:=⟨0,up G.bg n b,up G.sg n s⟩
theorem vI.mono{Zq a:List It}{b:List PS}{c:Nat->qv}(h:vI Zq b c)(d:∀q∈Zq,q∈a):vI a b c:=λk p X=>(h k p X).mono d
theorem SG{b:Type}{fs:List b}{F a:b}{f:Nat}(h:(fs++[F])[f]?=some a):(f=fs.length/\a=F)\/(f<fs.length/\fs[f]?=some a):=by
 by_cases hf:f<fs.length
 .rw[qbe hf]at h;exact .inr ⟨hf,h⟩
 have hl:=(qae.1 h).1;simp at hl;obtain rfl:f=fs.length:=qo;simp at h;exact .inl ⟨rfl,h.symm⟩
section
variable {K:qD}{w:qW}{Lq L':List It}{G:Gm}{fs:List PF}{Q:Nat->Gf}{F:PF}{q:Gf}{gb gs:Nat}
theorem VG.snoc(h:VG K w Lq G fs Q)(d:∀p∈Lq,p∈L')(U:jl L' 230 5 (qL gb F.bs.length q.bc) F.bs.length (F.bs.flatMap uu))(e:jl L' 234 5 q.sv F.ss.length (tK F.ss q.lv))(g:0<F.ss.length->∃A,q.sv=qL gs F.ss.length A)(i:vI L' F.ss q.lv)(j:dH K F.ty.ins w q.iv/\dH K F.ty.outs w q.ov):
  VG K w L' (LV G fs.length gb gs) (fs++[F]) (up Q fs.length q):=by
 refine⟨λf b a=>?_,λf b a=>?_,λf b a=>?_,λf b a=>?_⟩;all_goals
  obtain⟨rfl,rfl⟩ | ⟨hl,a⟩:=SG a
 .simpa [LV,up] using U
 .have c:¬f=fs.length:=qo;simpa [LV,up,c] using (h.bl f b a).mono d
 .simpa [LV,up] using And.intro e g
 .have c:¬f=fs.length:=qo;have:=h.Z f b a;simpa [LV,up,c] using And.intro (this.1.mono d) this.2
 .simpa [LV,up] using i
 .have c:¬f=fs.length:=qo;simpa [LV,up,c] using (h.lb f b a).mono d
 .simpa [LV,up] using j
 have c:¬f=fs.length:=qo;simpa [LV,up,c] using h.ki f b a
theorem Rk(G:Gm)(fs:List PF)(Q:Nat->Gf)(F:PF)(q:Gf)(gb gs:Nat):tO (LV G fs.length gb gs) (fs++[F]) (up Q fs.length q)=tO G fs Q++[q.iv,q.ov,qJ F.loc,qL gb F.bs.length q.bc,q.sv]:=by
 unfold tO;rw[qaq,qdd,List.range_succ,List.flatMap_append];congr 1
 .rw[List.flatMap_def,List.flatMap_def];refine congrArg List.flatten (List.map_congr_left (λk X=>?_));have X:=List.mem_range.1 X;have a:¬k=fs.length:=qo;rw[qag,qbe X,<-qag];simp[VM,LV,up,a]
 simp[VM,LV,up]
end
def ru(s:qS)(m:dX)(i:Nat):List PF:=(List.range i).map (wz s m)
theorem TF(s:qS)(m:dX)(i:Nat):(ru s m i).length=i:=by simp[ru]
theorem Ri(s:qS)(m:dX)(i:Nat):ru s m (i+1)=ru s m i++[wz s m i]:=by simp[ru,List.range_succ]
theorem vI.strip{Zq:List It}{a:List PS}{c:Nat->qv}{b:Nat}{cs:qV}{E:TypeId}{sz n:Nat}{v:qv}{xs:qV}(e:¬E=85)(h:vI (.b b cs::.r E sz v n xs::Zq) a c):vI Zq a c:=by
 intro k p X;obtain h | h | ⟨g,o,U,d,f⟩:=h k p X
 .exact .inl h
 .rw[qav,qav]at h;obtain h | h | h:=h
  .cases h
  .cases h;exact absurd rfl e
  exact .inr (.inl h)
 rw[qav,qav]at d;obtain h | h | h:=d
 .cases h
 .cases h
 exact .inr (.inr ⟨g,o,U,h,f⟩)
section
variable {wm w:qW}{s:qS}{m:dX}{K:qD}{Y:Nat}
theorem CW(hM:MV s K wm Y m)(aa:qK wm w)(ho:iX s.size m)(hF:IP s m)(hs:s.size<=5000)(C:je s m)(hc:m.dF.length=m.funcs.length):
  qC 25 #[qP Y] w λe w'=>∃fv G Q Lq,e=.returned fv/\Sx w w' (.r 104 5 fv m.dF.length (tO G (ru s m m.dF.length) Q)::Lq)/\VG K wm Lq G (ru s m m.dF.length) Q:=by
 obtain⟨i0,aZ,a0,a1,a2⟩:=qap Tryz.TA;have ay:=hM.lt;have ab:Y<w.heap.size:=qad ay aa.size;obtain⟨-,f,aA,an⟩:=hM;have hB:=aA.kept aa ay (λc=>c);have O:=an.kept aa (λ_ _ _ c=>c);obtain⟨⟨⟨M0,-⟩,⟨M1,-⟩,-⟩,-,-,⟨M8,-⟩,-⟩:=jf.twelve hB;obtain⟨p8,k8,e8⟩:∃p c,f.v8=qX p m.dF c:=by obtain⟨css,U,-⟩:=O.h8;exact Row.shape U
 obtain⟨p0,k0,e0⟩:∃p c,f.v0=qX p m.dx c:=by obtain⟨css,U,-⟩:=O.h0;exact Row.shape U
 obtain⟨p1,k1,e1⟩:∃p c,f.v1=qX p m.funcs c:=Row.shape O.U;have h0:=O.h0;have ao:=an.h0;have U:=O.U;have D:=O.h8;rw[e0]at M0 h0 ao;rw[e1]at M1 U;rw[e8]at M8 D;have bq:=ho.dF.1;have HO:=qH ho;have HF:=qH hF;have a3:=qH C;have HC:=qH hc;have H0:=qH h0;have a4:=qH ao;have H1:=qH U;have H8:=qH D;have ap:=qH M0;have aB:=qH M1;have HS:=qH hs;clear hB O aA an ao e0 e1 e8 ho hF C hc h0 U D M0 M1 hs;go_enter func25,ntmps25;go_wp2_with fail
 go_loopg [3,4,5,6,12] m.dF.length (λgk u3 u4 u5 u6 a5 wr=>∃(i:Nat)(G:Gm)(Q:Nat->Gf)(Lq:List It),gk=m.dF.length - i/\i<=m.dF.length/\a5=qJ i/\Sx w wr (.r 104 5 u3 i (tO G (ru s m i) Q)::Lq)/\VG K wm Lq G (ru s m i) Q)
 case atStart=>exact⟨0,⟨0,λ_=>0,λ_=>0⟩,λ_=>⟨.nilFunc,.nilFunc,0,.nilFunc,λ_=>.nilFunc⟩,[],rfl,qZ,rfl,(Sx.start w).nil 104 5,⟨λf F h=>by simp[ru]at h,λf F h=>by simp[ru]at h,λf F h=>by simp[ru]at h,λf F h=>by simp[ru]at h⟩⟩
 clear M8;obtain⟨i,G,Q,Lq,br,hi,rfl,hS,hP⟩:=hrel;by_cases y:i<m.dF.length
 .have t1:(i:Int)<(m.dF.length:Int):=qo;have W:=hS.kept;obtain⟨g8,c8,lv,fi,e8,aq,bs,ah,ar,C0,C1⟩:=BJ H8.o y;cases e8;obtain⟨pl,cl,rfl⟩:=Row.shape ah;have ai:m.dF.getD i ([],0,0)=m.dF[i]:=by rw[qag,qab y];rfl
  have J:=FC HO.o y;have C:=a3.o m.dF[i] (qaw y);have L:=RN HO.o y (HF.o.dF i y);have ae:=(La HO.o i).2;unfold ry at L;rw[ai]at J L;have Z:iI m.dx (ry s m i) [0] [⟨false,0,(dM m i).outs.length,0,0⟩] []=iI m.dx (insL s m.dF[i].2.2 (m.dF[i].2.2 - m.dF[i].2.1) [] m.dF[i].2.1) [0] [⟨false,0,(dM m i).outs.length,0,0⟩] []:=by unfold ry;rw[ai]
  have M:qh (wz s m i=⟨dM m i,m.dF[i].1.length,(iI m.dx (ry s m i) [0] [⟨false,0,(dM m i).outs.length,0,0⟩] []).1,(iI m.dx (ry s m i) [0] [⟨false,0,(dM m i).outs.length,0,0⟩] []).2⟩):=by show _=_;unfold wz;rw[ai]
  generalize iI m.dx (ry s m i) [0] [⟨false,0,(dM m i).outs.length,0,0⟩] []=R at Z M;clear ai;generalize m.dF[i]=cd at*;obtain⟨j,ci,cn⟩:=cd;simp only at ah ar J C L Z M;have af:=ar;obtain⟨ib,rfl,-,-⟩:=ar;have aC:i<m.funcs.length:=by rw[<-HC.o];exact y
  obtain⟨B,c1,e1,-,au,bu,aD⟩:=Row.cells H1.o qo;cases e1;obtain⟨z,hz⟩:∃z,m.funcs[i]?=some z:=⟨_,qab aC⟩;have D0:w.cell? ⟨B,i*2,none⟩=some (qI z.1):=(aD (i*2) qo).trans (flat_get (m:=2) (o:=0) (λ_=>rfl) hz qo);have aE:=HF.o.funcs z (qai hz);have aF:=(HO.o.funcs.2 z (qai hz)).1;obtain⟨zn,za⟩:=z;simp only at D0 aE aF;obtain⟨k,rfl⟩:∃k:Nat,zn=k:=⟨zn.toNat,qo⟩;have aw:k<m.dx.length:=qo;obtain⟨d,c0,vi,vo,e0,ax,bv,aj,ak,aG,aH⟩:=sJ a4.o aw;cases e0;have T0:=(aa.cell (p:=⟨d,k*2,none⟩) ax (λc=>c)).trans aG;have T1:=(aa.cell (p:=⟨d,k*2+1,none⟩) ax (λc=>c)).trans aH;have ag:d<w.heap.size:=qad ax aa.size;have aI:dM m i=m.dx[k]:=by
   unfold dM;rw[qag (l:=m.funcs),hz];simp[aw]
  rw[<-aI]at aj ak;obtain⟨E,qi,rfl⟩:=Row.shape aj;obtain⟨H,I,rfl⟩:=Row.shape ak;have a6:=qH (And.intro aj ak);have bw:=qH ah;generalize dM m i=T at*;obtain⟨t,ac⟩:=qE wr.heap.size;have al:=hS.new #[qX pl j cl,.func (.func 316) #[] #[qP ib]] 131;rw[<-ac]at al;have h3:=(al.new #[qN,qN,qJ 0,qN,qN] 104).perm P8;simp only[qbn]at h3;rw[<-ac]at h3;have aJ:∀V,Sx w V ((.r 104 5 u3 i (tO G (ru s m i) Q)::Lq)++[.b t [qX pl j cl,.func (.func 316) #[] #[qP ib]]])->(λV:qW=>V.cell? (qA Y 0)=some (qL d m.dx.length k0)/\V.cell? (qA Y 1)=some (qL B m.funcs.length k1)/\V.cell? ⟨B,i*2,none⟩=some (qI k)/\V.cell? ⟨d,k*2,none⟩=some (qX E T.ins qi)/\V.cell? ⟨d,k*2+1,none⟩=some (qX H T.outs I)/\V.cell? (qA t 0)=some (qX pl j cl)) V:=λV hV=>by
   have X:=hV.kept;obtain⟨n,hn⟩:=qbx.1 (show It.b t [qX pl j cl,.func (.func 316) #[] #[qP ib]]∈((.r 104 5 u3 i (tO G (ru s m i) Q)::Lq)++[.b t [qX pl j cl,.func (.func 316) #[] #[qP ib]]]) by simp);exact⟨(X.cell (p:=(qA Y 0)) ab (λc=>c)).trans ap.o,(X.cell (p:=(qA Y 1)) ab (λc=>c)).trans aB.o,(X.cell (p:=⟨B,i*2,none⟩) au (λc=>c)).trans D0,(X.cell (p:=⟨d,k*2,none⟩) ag (λc=>c)).trans T0,(X.cell (p:=⟨d,k*2+1,none⟩) ag (λc=>c)).trans T1,(hV.c n 0 hn rfl).1⟩
  have aK:∀V x,Sx w V (x::.b t [qX pl j cl,.func (.func 316) #[] #[qP ib]]::.r 104 5 u3 i (tO G (ru s m i) Q)::Lq)->(λV:qW=>V.cell? (qA Y 0)=some (qL d m.dx.length k0)/\V.cell? (qA Y 1)=some (qL B m.funcs.length k1)/\V.cell? ⟨B,i*2,none⟩=some (qI k)/\V.cell? ⟨d,k*2,none⟩=some (qX E T.ins qi)/\V.cell? ⟨d,k*2+1,none⟩=some (qX H T.outs I)/\V.cell? (qA t 0)=some (qX pl j cl)) V:=λV x hV=>by
   have X:=hV.kept;exact⟨(X.cell (p:=(qA Y 0)) ab (λc=>c)).trans ap.o,(X.cell (p:=(qA Y 1)) ab (λc=>c)).trans aB.o,(X.cell (p:=⟨B,i*2,none⟩) au (λc=>c)).trans D0,(X.cell (p:=⟨d,k*2,none⟩) ag (λc=>c)).trans T0,(X.cell (p:=⟨d,k*2+1,none⟩) ag (λc=>c)).trans T1,(hV.c 1 0 rfl rfl).1⟩
  have a7:=(W.cell (p:=⟨g8,i*2,none⟩) aq (λc=>c)).trans C0;have a8:=(W.cell (p:=⟨g8,i*2+1,none⟩) aq (λc=>c)).trans C1;have a9:g8<wr.heap.size:=qad aq W.size;have bz:(i:Int)<(m.funcs.length:Int):=qo;have bA:(k:Int)<(m.dx.length:Int):=qo;have ba:Y<wr.heap.size:=qad ab W.size;have bb:B<wr.heap.size:=qad au W.size;have bc:d<wr.heap.size:=qad ag W.size;have aL:=qH aJ;have aM:=qH aK;have H2:=qH al;have H3:=qH h3;have HI:=qH y;have HK:=qH (And.intro J (And.intro C (And.intro L (And.intro Z (And.intro ae af)))));have bd:=qH hP;clear hS al h3 aJ aK C0 C1 D0 T0 T1 aG aH aD ah aj ak J C L Z ae af hP aI hz aE aF y aw aC;subst ac;go_wp2_with fail
  have aN:=aL.o _ H2.o.drew;refine jU (λV:qW=>V.cell? (qA Y 0)=some (qL d m.dx.length k0)/\V.cell? (qA Y 1)=some (qL B m.funcs.length k1)/\V.cell? ⟨B,i*2,none⟩=some (qI k)/\V.cell? ⟨d,k*2,none⟩=some (qX E T.ins qi)/\V.cell? ⟨d,k*2+1,none⟩=some (qX H T.outs I)/\V.cell? (qA wr.heap.size 0)=some (qX pl j cl)) 19 ?_;iterate 18 refine nE aN ?_ (hy:=by(refine Or.inl ⟨by rfl,?_⟩;intro _ d;obtain⟨_,_,_,_,_,_⟩:=d;go_simp;try with_reducible rfl))
  have h5:=H3.o.drew;have aO:=aM.o _ _ h5;refine jO (λK N=>?_);go_simp;refine N _ _ (.inr aO) ?_;clear N K aN;have h6:=((H2.o.new #[qX E T.ins qi,qX H T.outs I,qJ j.length,qN,qN] 104).perm P8).drew;simp only[qbn]at h6;have H6:=qH h6;clear h5 h6 H2 H3;refine iU (λK N=>?_);go_simp;refine N _ _ ?_;clear N K aO;have h7:=H6.o;obtain⟨t,ac⟩:=qE wr.heap.size;rw[<-ac]at h7 ⊢;generalize ((wr.alloc (.cells #[qX pl j cl,.func (.func 316) #[] #[qP ib]] 131)).alloc (.cells #[qX E T.ins qi,qX H T.outs I,qJ j.length,qN,qN] 104)).drew=W6 at*;have H7:=qH h7;clear H6 h7 ac aL aM a9 bb bc ba a7 a8 W;go_wp2_with fail
  have D:=H7.o.drew;have aP:(λV:qW=>V.cell? (qA Y 0)=some (qL d m.dx.length k0)/\V.cell? (qA t 0)=some (qX pl j cl)/\V.cell? (qA t 1)=some (.func (.func 316) #[] #[qP ib])) W6.drew:=⟨(D.kept.cell (p:=(qA Y 0)) ab (λc=>c)).trans ap.o,(D.c 1 0 rfl rfl).1,(D.c 1 1 rfl rfl).1⟩;refine jU (λV:qW=>V.cell? (qA Y 0)=some (qL d m.dx.length k0)/\V.cell? (qA t 0)=some (qX pl j cl)/\V.cell? (qA t 1)=some (.func (.func 316) #[] #[qP ib])) 5 ?_;iterate 5 refine nE aP ?_ (hy:=qY)
  obtain⟨J,C,L,Z,ae,af⟩:=HK.o;refine iU (λK N=>?_);refine dP (f:=75) (args:= #[.pointer (some ⟨t+1,0,none⟩),qL d m.dx.length k0,.agg #[qX pl j cl,.func (.func 316) #[] #[qP ib]]]) (by rfl) (by go_simp) (Gw (R:=R) D H0.o af ⟨_,_,_,rfl⟩ J.2.1 J.2.2 HS.o C ae Z L) ?_;rintro e W7⟨rfl,bB,be,ad,Xn,v,aQ,bf⟩;refine⟨_,rfl,N _ _ ?_⟩;clear N K aP D H7 J C L Z ae af;simp only[Act.put,qy,qz,qw];obtain⟨gb,cb,bg,-⟩:=Row.cells (v.isRow 1 rfl) bf;subst bg;obtain⟨ps,cs,bi⟩:=Row.shape (v.isRow 2 rfl);obtain⟨gs,aR⟩:∃gs,0<R.2.length->∃A,be=qL gs R.2.length A:=by
   by_cases h0:0<R.2.length
   .obtain⟨g,c,hv,-⟩:=Row.cells (v.isRow 2 rfl) h0;exact⟨g,λ_=>⟨c,hv⟩⟩
   exact⟨0,λh=>absurd h h0⟩
  subst bi;obtain⟨pf,cf,bj⟩:=Row.shape (v.isRow 4 rfl);subst bj;obtain⟨q0,-⟩:=v.c 0 0 rfl rfl;obtain⟨q1,-⟩:=v.c 0 1 rfl rfl;obtain⟨q2,-⟩:=v.c 0 2 rfl rfl;obtain⟨q3,-⟩:=v.c 0 3 rfl rfl;obtain⟨q4,-⟩:=v.c 0 4 rfl rfl;have m0:=v.lt 0 rfl;have am:=qH (v.alloc (.cells #[qX E T.ins qi,qX H T.outs I,qJ j.length,qL gb R.1.length cb,qX ps R.2 cs] 104));have bk:=qH aQ;have bm:=qH aR;clear v aQ aR;go_wp2_with (at_builtin;refine wpList_append_lies _ rfl _ _ 47 rfl w.heap.size 104 i0 (.agg #[qN,qN,qJ 0,qN,qN]) 5 104 qk aZ a0 a1 a2 rfl qx _ _ _ rfl (am.o.row 4 rfl) ⟨_,0,none⟩ 1 1 [_,_,_,_,_] rfl rfl (cells_at qs rfl) ?c2 qo ?c3 ?c4 ?c5 (W7.heap.size+1) qs ?_)
  case c2=>intro u hu;simp at hu;obtain rfl | rfl | rfl | rfl | rfl:=hu<;>rfl
  case c3=>unfold maxLen;omega
  case c4=>omega
  case c5=>exact am.o.kept.size
  intro gg A W8 aS aT aU bC;have aV:=am.o.app 4 aS aT (by obtain c | c:=aU;exact .inl c;exact .inr qt) rfl;have bn:=qH aV;clear aS aT aU aV am q0 q1 q2 q3 q4 m0;go_wp2;go_roundg (m.dF.length - (i+1))
  case measure=>have:=HI.o;omega
  have aW:=TF s m i;have aX:=Ri s m i;refine⟨i+1,LV G i gb gs,up Q i ⟨qX E T.ins qi,qX H T.outs I,cb,qX ps R.2 cs,ad⟩,.r 230 5 (qL gb R.1.length cb) R.1.length (R.1.flatMap uu)::.r 234 5 (qX ps R.2 cs) R.2.length (tK R.2 ad)::(Lq++Xn),rfl,HI.o,by push_cast;rfl,?_,?_⟩
  .have e:=Rk G (ru s m i) Q (wz s m i) ⟨qX E T.ins qi,qX H T.outs I,cb,qX ps R.2 cs,ad⟩ gb gs;rw[aW,<-aX,M.o]at e;simp only at e;rw[e];have aY:=bn.o;simp only[qax,qz,qw]at aY;have bo:=aY.sub (.cons _ (.cons_cons _ (.cons_cons _ (.cons _ (qbf _)))));exact bo.perm ((qbi (l₁:=[It.r 230 5 (qL gb R.1.length cb) R.1.length (R.1.flatMap uu),It.r 234 5 (qX ps R.2 cs) R.2.length (tK R.2 ad)]) (l₂:=[It.r 104 5 _ _ _])).append_right (Lq++Xn))
  have:=bd.o.snoc (L':=.r 230 5 (qL gb R.1.length cb) R.1.length (R.1.flatMap uu)::.r 234 5 (qX ps R.2 cs) R.2.length (tK R.2 ad)::(Lq++Xn)) (F:=wz s m i) (q:=⟨qX E T.ins qi,qX H T.outs I,cb,qX ps R.2 cs,ad⟩) (gb:=gb) (gs:=gs) (λp hp=>by simp[hp]) (by rw[M.o];exact .inr (.inl qs)) (by rw[M.o];exact .inr (.inl qs)) (by rw[M.o];exact bm.o) (by rw[M.o];exact(vI.strip qx bk.o).mono (λp hp=>by simp[qar.1 hp])) (by rw[M.o];exact a6.o);rw[aW,<-aX]at this;exact this
 have t1:¬(i:Int)<(m.dF.length:Int):=qo;obtain rfl:i=m.dF.length:=qo;have bp:=qH hS;have HP:=qH hP;obtain⟨pf,cf,rfl⟩:=Row.shape (hS.isRow 0 rfl);clear hS hP y;go_wp2;go_ret;exact⟨_,rfl,G,Q,Lq,bp.o,HP.o⟩
end
abbrev Xp:=qS×Nat×Nat
def uV(x:Xp):List Value:=[.string x.1,qB x.2.1,qJ x.2.2]
def mV(nm:qS)(f:Nat):List Xp->Option Nat
 | []=>none
 | x::r=>if x.1.toList=nm.toList/\x.2.1=f then some x.2.2 else mV nm f r
section
variable {w0 w:qW}{Y most:Nat}{tv fv ev bv vm vg:qv}{Xq:List It}{mem:qM}{dW:List Int}{xs:List Xp}
theorem xK{nm:qS}{f:Nat}{q:qv}(h:Sx w0 w (MI Y tv fv ev bv most vm vg mem dW Xq))(j:jl Xq 161 3 ev xs.length (xs.flatMap uV))(hl:xs.length<=1000)(r:q=(match mV nm f xs with | some i=>.tuple #[qJ i,.bool true] | none=>.tuple #[qJ 0,.bool false])):
  qC 32 #[qP Y,.string nm,qB f] w λe w'=>e=.returned q/\Sx w0 w' (MI Y tv fv ev bv most vm vg mem dW Xq):=by
 have a:=h.lt 0 rfl;obtain⟨y,z,rfl⟩:=Row.shape (j.row h (λp hp=>by simp[MI,hp]));obtain⟨A,B⟩:=h.c 0 2 rfl rfl;have H:=qH h;have s:=qH r;have C:=qH j;clear h r j;go_enter func32,ntmps32;go_wp2_with fail
 go_loopg [9,15] xs.length (λD J E wr=>∃(i:Nat),D=xs.length - i/\i<=xs.length/\E=qJ i/\mV nm f xs=mV nm f (xs.drop i)/\Sx w0 wr (MI Y tv fv (qX y xs z) bv most vm vg mem dW Xq))
 case atStart=>exact⟨0,rfl,qZ,rfl,rfl,H.o⟩
 clear H a A B;obtain⟨i,K,hi,rfl,hf,d⟩:=hrel;by_cases a:i<xs.length
 .have F:(i:Int)<(xs.length:Int):=qo;obtain⟨k,L,hv,-,M,-,g⟩:=Row.cells (C.o.row d (λp hp=>by simp[MI,hp])) qo;cases hv;obtain⟨x,hx⟩:∃x,xs[i]?=some x:=⟨_,qab a⟩;have b:mV nm f (xs.drop i)=if x.1.toList=nm.toList/\x.2.1=f then some x.2.2 else mV nm f (xs.drop (i+1)):=by
   rw[qan a,mV];rw[qab a]at hx;cases hx;rfl
  have c0:wr.cell? ⟨k,i*3,none⟩=some (.string x.1):=(g (i*3) qo).trans (flat_get (m:=3) (o:=0) (λ_=>rfl) hx qo);have c1:wr.cell? ⟨k,i*3+1,none⟩=some (qB x.2.1):=(g (i*3+1) qo).trans (flat_get (m:=3) (o:=1) (λ_=>rfl) hx qo);have c2:wr.cell? ⟨k,i*3+2,none⟩=some (qJ x.2.2):=(g (i*3+2) qo).trans (flat_get (m:=3) (o:=2) (λ_=>rfl) hx qo);obtain⟨G,l,t⟩:=x;simp only at c0 c1 c2 b;have HS:=qH (λo=>d.alloc o);have HI:=qH a;clear d g hx;by_cases u:G.toList=nm.toList
  .by_cases hB:l=f
   .have n:qh (q=.tuple #[qJ t,.bool true]):=by
     show _=_;rw[s.o,hf,b,qac ⟨u,hB⟩]
    have I:((l:Int)==(f:Int))=true:=by simp[hB]
    clear hf b a hB;go_wp2;refine qal (v:=.tuple #[qJ t,.bool true]) ?_ rfl ?_
    .simp[results,results32]
    exact⟨by rw[n.o],HS.o _⟩
   have HF:qh (mV nm f xs=mV nm f (xs.drop (i+1))):=by show _=_;rw[hf,b,qaa (λc=>hB c.2)]
   have I:((l:Int)==(f:Int))=false:=by simp;omega
   clear hf b a hB;exact Wu
  have HF:qh (mV nm f xs=mV nm f (xs.drop (i+1))):=by show _=_;rw[hf,b,qaa (λc=>u c.1)]
  clear hf b a;exact Wu
 have F:¬(i:Int)<(xs.length:Int):=qo;have n:qh (q=.tuple #[qJ 0,.bool false]):=by
  show _=_;rw[s.o,hf,qbq qo];rfl
 have HS:=qH d;clear d hf a;go_wp2;refine qal (v:=.tuple #[qJ 0,.bool false]) ?_ rfl ?_
 .simp[results,results32]
 exact⟨by rw[n.o],HS.o⟩
end
def XI:Go.Shelf.Ren:=⟨λ| 25=>137 | n=>n,λ| 3=>3 | 9=>9 | 4=>4 | 5=>5 | 37=>50 | 0=>0 | 47=>284 | n=>n,λn=>n⟩
theorem laysC:Go.Proofs.LaysPu.n25 Tryz.prog XI:={
 mixed:=qk
 f25:=Tryz.func137.trans (congrArg some qk)
 t0:=Tryz.underlying0
 a0:=Tryz.isAgg0
 z0:=Tryz.sizeOf0
 v0:=Tryz.zeroValue0
 i0:=qk
 t3:=Tryz.underlying3
 a3:=Tryz.isAgg3
 z3:=Tryz.sizeOf3
 v3:=Tryz.zeroValue3
 i3:=qk
 t4:=Tryz.underlying4
 a4:=Tryz.isAgg4
 z4:=Tryz.sizeOf4
 v4:=Tryz.zeroValue4
 i4:=qk
 t5:=Tryz.underlying5
 a5:=Tryz.isAgg5
 z5:=Tryz.sizeOf5
 v5:=Tryz.zeroValue5
 i5:=qk
 t9:=Tryz.underlying9
 a9:=Tryz.isAgg9
 z9:=Tryz.sizeOf9
 v9:=Tryz.zeroValue9
 i9:=qk
 t37:=Tryz.underlying50
 a37:=Tryz.isAgg50
 z37:=Tryz.sizeOf50
 v37:=Tryz.zeroValue50
 i37:=qk
 t47:=Tryz.underlying284
 a47:=Tryz.isAgg284
 z47:=Tryz.sizeOf284
 v47:=Tryz.zeroValue284
 i47:=by kernel_rfl}
theorem JU{w w':qW}(h:Below w.heap.size w w'):qK w w':=⟨h.os,h.tape,h.output,h.size,λk X _=>h.block k X⟩
theorem clone_any(s:qS)(w:qW)(b:s.size<=100000):qC 76 #[.string s] w λe w'=>e=.returned (.string s)/\qK w w':=by
 have a:qh (qC 137 #[.string s] w λe w'=>e=.returned (.string s)/\Below w.heap.size w w'):=AnyPu.stringslite_Clone laysC s w qo;go_enter Tryz.func76,Tryz.ntmps76;go_wp2_with fail
 refine a.o.mono ?_;rintro e c⟨rfl,U⟩;go_wp2;go_ret;exact⟨rfl,JU U⟩
def gU(l:List CB):List Xp:=l.filterMap λe=>if e.AX=0\/e.AX=3 then some (e.name,e.AX,e.idx.1.toNat) else none
theorem O6{l:List CB}{i:Nat}(h:i<l.length):gU (l.take (i+1))=gU (l.take i)++(if l[i].AX=0\/l[i].AX=3 then[(l[i].name,l[i].AX,l[i].idx.1.toNat)] else[]):=by
 unfold gU;rw[qbg h,List.filterMap_append];congr 1
 split<;>simp_all
theorem KY(l:List CB):(gU l).length<=l.length:=List.length_filterMap_le _ _
theorem Tryz.Tq:(Tryz.prog.info? 161).map (λi=>(i.zero,i.size,i.bytes))=some (some (.agg #[.string ⟨#[]⟩,qB 0,qJ 0]),3,32):=qk
section
variable {w:qW}{s:qS}{m:dX}{K:qD}{Y:Nat}
theorem zb(hM:MV s K w Y m)(ho:iX s.size m)(hn:∀e∈m.dw,e.name.size<=100000):
  qC 26 #[qP Y] w λe w'=>∃v,e=.returned v/\Sx w w' [.r 161 3 v (gU m.dw).length ((gU m.dw).flatMap uV)]:=by
 obtain⟨i0,am,an,ao,ap⟩:=qap Tryz.Tq;have aB:=hM.lt;obtain⟨-,f,hB,H⟩:=hM;obtain⟨⟨-,-,-,-,-,M5,-⟩,-⟩:=jf.twelve hB;obtain⟨p5,k5,D⟩:∃p c,f.v5=.slice p m.dw.length c:=Row.shape H.h5;have n:=H.h5;rw[D]at M5 n;have aC:=ho.dw.1;have HO:=qH ho.dw.2;have HN:=qH hn;have I:=qH n;clear hB H D ho hn n;go_enter Tryz.func26,Tryz.ntmps26;go_wp2_with fail
 go_loopg [3,5,11] m.dw.length (λgk u3 u5 aq wr=>∃(i:Nat)(v:qv),gk=m.dw.length - i/\i<=m.dw.length/\aq=qJ i/\u3=v/\Sx w wr [.r 161 3 v (gU (m.dw.take i)).length ((gU (m.dw.take i)).flatMap uV)])
 case atStart=>exact⟨0,_,rfl,qZ,rfl,rfl,(Sx.start w).nil 161 3⟩
 clear M5;obtain⟨i,v,aD,hi,rfl,rfl,q⟩:=hrel;by_cases z:i<m.dw.length
 .have t1:(i:Int)<(m.dw.length:Int):=qo;have aa:=q.kept;obtain⟨J,c5,D,-,ab,aE,ac⟩:=Row.cells I.o qo;cases D;have hx:m.dw[i]?=some m.dw[i]:=qab z;have y:∀o,o<5->wr.cell? ⟨J,i*5+o,none⟩=(CB.cells m.dw[i])[o]?:=λo ho=>((aa.cell (p:=⟨J,i*5+o,none⟩) ab (λc=>c)).trans (ac (i*5+o) qo)).trans (flat_get (m:=5) (o:=o) (λ_=>rfl) hx ho);have ad:=HO.o _ (qai hx);have ae:=HN.o _ (qai hx);have A:=qH (O6 z);have ar:=KY (m.dw.take i);simp only[qca]at ar;generalize m.dw[i]=x at*;obtain⟨na,nm,of,⟨ix,ia⟩⟩:=x;unfold Ro mJ at ad;simp only at ad ae A;obtain⟨k,rfl⟩:∃k:Nat,ix=k:=⟨ix.toNat,qo⟩;have C0:=y 0 qo;have C1:=y 1 qo;have C2:=y 2 qo;have C3:=y 3 qo;have C4:=y 4 qo;simp only[CB.cells,qas,qbh,qdz]at C0 C1 C2 C3 C4;have aF:J<wr.heap.size:=qad ab aa.size;obtain⟨pe,ce,rfl⟩:=Row.shape (q.isRow 0 rfl);have af:=q.new #[qJ na,.string nm,qB of,qI k,qJ ia] 120;have H2:=qH af;have E:=qH z;have au:=qH (λW=>clone_any nm W ae);clear q y ac hx af z;by_cases B:of=0\/of=3
  .have L:qh ((gU (m.dw.take (i+1)))=gU (m.dw.take i)++[(nm,of,k)]):=by show _=_;rw[A.o,qac B];rfl
   obtain⟨F,M,hq⟩:∃F M:Bool,((of:Int)==0)=F/\((of:Int)==3)=M:=⟨_,_,rfl,rfl⟩;have aw:F=true\/(F=false/\M=true):=by
    obtain⟨a,b⟩:=hq;obtain rfl | rfl:=B
    .exact .inl (by rw[<-a];rfl)
    exact .inr ⟨by rw[<-a];rfl,by rw[<-b];rfl⟩
   obtain⟨t0,t3⟩:=hq;clear B A;have wk:IntKind.i64.wrap (k:Int)=(k:Int):=qaf _ ⟨qo,qo⟩;have ag:∀V,Sx w V ([.r 161 3 (.slice pe (gU (m.dw.take i)).length ce) (gU (m.dw.take i)).length ((gU (m.dw.take i)).flatMap uV)]++[.b wr.heap.size [qJ na,.string nm,qB of,qI k,qJ ia]])->(λV:qW=>V.cell? (qA wr.heap.size 1)=some (.string nm)/\V.cell? (qA wr.heap.size 2)=some (qB of)/\V.cell? (qA wr.heap.size 3)=some (qI k)) V:=λV N=>⟨(N.c 1 1 rfl rfl).1,(N.c 1 2 rfl rfl).1,(N.c 1 3 rfl rfl).1⟩;have O:=qH ag;clear ag;generalize ax:gU (m.dw.take i)=R at*;clear ax;obtain rfl | ⟨rfl,rfl⟩:=aw;all_goals
    go_wp2_with fail
    have T:=H2.o.drew;have g:=O.o _ T;refine jU (λV:qW=>V.cell? (qA wr.heap.size 1)=some (.string nm)/\V.cell? (qA wr.heap.size 2)=some (qB of)/\V.cell? (qA wr.heap.size 3)=some (qI k)) 13 ?_;unfold jh;refine jb 0 g ?_;refine jb 1 g ?_;refine jb 2 g ?_ (hy:=qY);refine jb 4 g ?_;refine jb 5 g ?_ (hy:=qY);refine jb 6 g ?_;refine jb 7 g ?_;refine jb 8 g ?_ (hy:=qY);refine jb 9 g ?_;refine oJ 3 (λK d=>?_);refine dP (f:=76) (args:= #[.string nm]) (by rfl) (by go_simp) (au.o _) ?_;rintro e U⟨rfl,ah⟩;have X:=T.to ah;have Z:=O.o _ X;refine⟨_,rfl,d _ _ (.inr Z) ?_⟩;clear d K g ah;simp only[Act.put,qy,qz,qw];refine jb 10 Z ?_;have C:=X.alloc (.cells #[.string nm,qB of,qJ k] 161);have ai:=O.o _ C;refine oJ 11 (λK d=>?_);go_simp;refine d _ _ (.inr ai) ?_;clear d K;refine oJ 12 (λK d=>?_);refine step_append_lies _ (by rfl) (.tmp 23) (.tmp 34) 48 (by rfl) w.heap.size 161 i0 (.agg #[.string ⟨#[]⟩,qB 0,qJ 0]) 3 32 qk am an ao ap rfl qx (.slice pe R.length ce) R.length (R.flatMap uV) (by rfl) (C.row 0 rfl) ⟨U.heap.size,0,none⟩ 1 1 [.string nm,qB of,qJ k] (by rfl) rfl (λj u G=>?c1) ?c2 qo ?c3 ?c4 ?c5 (U.heap.size+1) qs ?_
    case c1=>exact cells_at (w:=U) (c:= #[.string nm,qB of,qJ k]) (t:=161) rfl rfl j u G
    case c2=>intro u G;simp at G;obtain rfl | rfl | rfl:=G<;>rfl
    case c3=>unfold maxLen;omega
    case c4=>omega
    case c5=>exact C.kept.size
    intro gg cp V2 aj ak al aG;have n:=C.app 0 aj ak (by obtain c | c:=al;exact .inl c;exact .inr qt) rfl;refine d _ _ (.inr ⟨(n.c 1 1 rfl rfl).1,(n.c 1 2 rfl rfl).1,(n.c 1 3 rfl rfl).1⟩) ?_;have I:=qH n;clear d K Z ai T X C n aj ak al;simp only[Act.put,qy,qz,qw];refine xE (λK d=>?_);go_simp;refine d _ _ ?_;clear d K;go_wp2;go_roundg (m.dw.length - (i+1))
    case measure=>have:=E.o;omega
    refine⟨i+1,_,rfl,E.o,by push_cast;rfl,rfl,?_⟩;rw[L.o];simpa [uV] using I.o.left
  have L:qh ((gU (m.dw.take (i+1)))=gU (m.dw.take i)):=by show _=_;rw[A.o,qaa B,qbt]
  have t0:((of:Int)==0)=false:=by simp;omega
  have t3:((of:Int)==3)=false:=by simp;omega
  clear B A;go_wp2;go_roundg (m.dw.length - (i+1))
  case measure=>have:=E.o;omega
  refine⟨i+1,_,rfl,E.o,by push_cast;rfl,rfl,?_⟩;rw[L.o];exact H2.o.left
 have t1:¬(i:Int)<(m.dw.length:Int):=qo;have ay:i=m.dw.length:=qo;rw[ay,List.take_length]at q;have aA:=qH q;obtain⟨pf,cf,rfl⟩:=Row.shape (q.isRow 0 rfl);clear q z;go_wp2;go_ret;exact⟨_,rfl,aA.o⟩
end
structure VN where
 er:Nat
 wy:Nat
 rs:List Int
 lf:Nat
 mem:List Nat
 dW:List Int
def oH(E:Ev)(xs:List Xp)(nm:qS)(az:List Int)(fuel:Nat)(mem:List Nat)(dW:List Int)(r:VN):Prop:=match mV nm 0 xs with
 | none=>r=⟨9,0,[],0,mem,dW⟩
 | some f=>match E.fs[f]? with
  | none=>False
  | some F=>if az.length≠F.ty.ins.length then r=⟨12,0,[],0,mem,dW⟩ else ∃s' why left,lI E (51*fuel+2) fuel (zS F f az mem dW)=some (s',why,left)/\r=⟨0,why,if why=0 then s'.stk else[],left,s'.mem,s'.dW⟩
section
variable {w0 w:qW}{G:Gm}{E:Ev}{Q:Nat->Gf}{Y most:Nat}{tv fv ev bv vm vg:qv}{Xq:List It}{Ti To:Nat->qv}{m:dX}{mem:qM}{dW:List Int}{xs:List Xp}
theorem Sx.back{l:List It}{a b:It}(h:Sx w0 w (l++[a]++[b])):Sx w0 w (l++[b]):=h.sub (by
 rw[qaj];exact qdk (.cons _ (qbf _)) l)
theorem NR{nm:qS}{az:List Int}{av:qv}{fuel:Nat}{r:VN}(h:Sx w0 w (MI Y tv fv ev bv most vm vg mem dW Xq))(hC:E.fs≠[]->OX w0 m G E Q Ti To Y tv fv ev bv most Xq)(K:jl Xq 161 3 ev xs.length (xs.flatMap uV))(hl:xs.length<=1000)(a:∀(f:Nat)(F:PF),E.fs[f]?=some F->F.ty.ins.length<=8)(T:dW.length=m.dI.length)(V:mem.length%64=0/\mem.length<=64*E.most)(W:fuel<=4000)(L:pX w0 az av)(d:oH E xs nm az fuel mem dW r):
  qC 15 #[qP Y,.string nm,av,qJ fuel] w λe w'=>∃s vB vC,e=.returned (.tuple #[.agg #[qJ r.wy,s,qJ r.lf],qJ r.er])/\Sx w0 w' (MI Y tv fv ev bv most vB vC r.mem r.dW (Xq++[.r 2 1 s r.rs.length (eD r.rs)])):=by
 have U:=h.new #[qJ 0,qN,qJ 0] 33;have x:∀p∈Xq,p∈Xq++[It.b w.heap.size [qJ 0,qN,qJ 0]]:=λp hp=>by simp[hp]
 unfold oH at d;cases hf:mV nm 0 xs with
 | none=>
  rw[hf]at d;simp only at d;subst d;have y:=qH (xK (f:=0) (nm:=nm) (Xq:=Xq++[It.b w.heap.size [qJ 0,qN,qJ 0]]) (q:=.tuple #[qJ 0,.bool false]) U (K.mono x) hl (by rw[hf]));clear h U hf;obtain⟨pa,ca,rfl,-⟩:=L;obtain⟨g,z⟩:=qE w.heap.size;go_enter func15,ntmps15;go_wp2_with fail
  refine y.o.mono ?_;rintro e J⟨rfl,U⟩;rw[<-z]at U ⊢;clear y z x;have i:Sx w0 J (It.b g [qJ 0,qN,qJ 0]::MI Y tv fv ev bv most vm vg mem dW Xq):=U.perm (qbc (l:=MI Y tv fv ev bv most vm vg mem dW Xq) _);obtain⟨X,Z⟩:=i.c 0 0 rfl rfl;obtain⟨y1,x1⟩:=i.c 0 1 rfl rfl;obtain⟨y2,x2⟩:=i.c 0 2 rfl rfl;have m1:=i.lt 0 rfl;have a:=((i.set 0 0 (qJ 0) rfl).set 0 1 (qN) rfl).set 0 2 (qJ 0) rfl;obtain⟨B,-⟩:=a.c 0 0 rfl rfl;obtain⟨C,-⟩:=a.c 0 1 rfl rfl;obtain⟨D,-⟩:=a.c 0 2 rfl rfl;have H8:=qH (a.nil 2 1);clear U i a;go_wp2;refine qal (v:=.tuple #[.agg #[qJ 0,qN,qJ 0],qJ 9]) ?_ rfl ?_
  .simp[results,results15,go_sem,B,C,D]
  exact Wt
 | some f=>
  rw[hf]at d;simp only at d;cases t:E.fs[f]? with
  | none=>rw[t]at d;exact d.elim
  | some F=>
   rw[t]at d;simp only at d;have af:E.fs≠[]:=λc=>by rw[c]at t;simp at t
   have hC:=hC af;have y:=qH (xK (f:=0) (nm:=nm) (Xq:=Xq++[It.b w.heap.size [qJ 0,qN,qJ 0]]) (q:=.tuple #[qJ f,.bool true]) U (K.mono x) hl (by rw[hf]));have ag:=a f F t;have am:(f:Int)<(E.fs.length:Int):=by have:=(qae.1 t).1;omega
   obtain⟨A,aa,-⟩:=hC.fF.row;have k:=qH hC;have M:=qH t;have HA:=qH L;obtain⟨pa,ca,rfl,-⟩:=L;clear h U hf K hC t;obtain⟨g,z⟩:=qE w.heap.size;rw[<-z]at y x;have H:=qH x;have ah:=qH aa;go_enter func15,ntmps15;go_wp2_with fail
   rw[<-z];clear z aa x;refine y.o.mono ?_;rintro e J⟨rfl,U⟩;clear y;have ai:=U.lt 0 rfl;obtain⟨a1,-⟩:=U.c 0 1 rfl rfl;rw[ah.o]at a1;obtain⟨c0,aj⟩:=(k.o.fF.mono H.o).fn U (λp hp=>by simp only[MI,qav];exact .inr (.inr (.inr hp))) M.o (o:=0) qo;obtain⟨pi,ci,ab⟩:=Row.shape ((k.o.fF.ki f F M.o).1.row U (λp hp=>by simp[MI,hp]));replace c0:J.cell? ⟨G.fg,f*5,none⟩=some (.slice pi F.ty.ins.length ci):=c0.trans (by rw[<-ab];rfl)
   clear ab;by_cases I:az.length=F.ty.ins.length
   .rw[qaa (by simp[I])]at d;obtain⟨s',why,left,d,ac⟩:=d;have N:=qH ac;have ad:=qH (λ(an:Unit)=>GI (Xq:=Xq++[It.b g [qJ 0,qN,qJ 0]]) U ⟨k.o.fF.mono H.o,k.o.tT.mono H.o,k.o.eE,k.o.bB,λO R S=>k.o.mM O R (λp hp=>S p (H.o p hp)),λO R S=>k.o.nN O R (λp hp=>S p (H.o p hp)),k.o.mo⟩ M.o I ag T V W HA.o d);have t1:(az.length:Int)=(F.ty.ins.length:Int):=qo;have t2:¬((fuel:Int)<0):=qo;have t3:¬(100000<(fuel:Int)):=qo;clear U I d ac T V W;go_wp2_with fail
    refine(ad.o ()).mono ?_;rintro e w2⟨s,vB,vC,j,rfl,ae,i⟩;have ak:=qH ae;clear ae;clear ad a1 c0 aj ai;have u:Sx w0 w2 (It.b g [qJ 0,qN,qJ 0]::MI Y tv fv ev bv most vB vC s'.mem s'.dW (Xq++[.r 2 1 s j.length (eD j)])):=i.perm (by
     simp only[MI,qaj];have:([It.b Y [tv,fv,ev,bv,vB,qJ most,vC],It.r 5 1 vB s'.mem.length (jr s'.mem),It.r 2 1 vC s'.dW.length (eD s'.dW)]++Xq++([It.b g [qJ 0,qN,qJ 0]]++[It.r 2 1 s j.length (eD j)])).Perm (It.b g [qJ 0,qN,qJ 0]::([It.b Y [tv,fv,ev,bv,vB,qJ most,vC],It.r 5 1 vB s'.mem.length (jr s'.mem),It.r 2 1 vC s'.dW.length (eD s'.dW)]++Xq++[It.r 2 1 s j.length (eD j)])):=qdn;exact this)
    obtain⟨pr,cr,al⟩:=Row.shape (jl.row (tl:=[It.r 2 1 s j.length (eD j)]) (E:=2) (sz:=1) (v:=s) (n:=j.length) (xs:=eD j) (.inr (.inl qs)) u (λp hp=>by simp at hp;subst hp;simp[MI]));subst al;obtain⟨X,Z⟩:=u.c 0 0 rfl rfl;obtain⟨y1,x1⟩:=u.c 0 1 rfl rfl;obtain⟨y2,x2⟩:=u.c 0 2 rfl rfl;have m1:=u.lt 0 rfl;have a:=((u.set 0 0 (qJ why) rfl).set 0 1 (.slice pr j.length cr) rfl).set 0 2 (qJ left) rfl;obtain⟨B,-⟩:=a.c 0 0 rfl rfl;obtain⟨C,-⟩:=a.c 0 1 rfl rfl;obtain⟨D,-⟩:=a.c 0 2 rfl rfl;have H8:=qH a;clear i u a;go_wp2;refine qal (v:=.tuple #[.agg #[qJ why,.slice pr j.length cr,qJ left],qJ 0]) ?_ rfl ?_
    .simp[results,results15,go_sem,B,C,D]
    rw[N.o,<-ak.o];exact UM
   rw[qac I]at d;have N:=qH d;have t1:¬(az.length:Int)=(F.ty.ins.length:Int):=qo;clear d I;have i:Sx w0 J (It.b g [qJ 0,qN,qJ 0]::MI Y tv fv ev bv most vm vg mem dW Xq):=U.perm (qbc (l:=MI Y tv fv ev bv most vm vg mem dW Xq) _);obtain⟨X,Z⟩:=i.c 0 0 rfl rfl;obtain⟨y1,x1⟩:=i.c 0 1 rfl rfl;obtain⟨y2,x2⟩:=i.c 0 2 rfl rfl;have m1:=i.lt 0 rfl;have a:=((i.set 0 0 (qJ 0) rfl).set 0 1 (qN) rfl).set 0 2 (qJ 0) rfl;obtain⟨B,-⟩:=a.c 0 0 rfl rfl;obtain⟨C,-⟩:=a.c 0 1 rfl rfl;obtain⟨D,-⟩:=a.c 0 2 rfl rfl;have H8:=qH (a.nil 2 1);clear U i a;go_wp2;refine qal (v:=.tuple #[.agg #[qJ 0,qN,qJ 0],qJ 12]) ?_ rfl ?_
   .simp[results,results15,go_sem,B,C,D]
   rw[N.o];exact Wt
end
def QT(mem:List Nat):qS:=strOfNums (mem.map λ(n:Nat)=>(n:Int))
section
variable {w0 w:qW}{G:Gm}{E:Ev}{Q:Nat->Gf}{Y most:Nat}{tv fv ev bv vm vg:qv}{Xq:List It}{Ti To:Nat->qv}{m:dX}{mem:qM}{dW:List Int}{xs:List Xp}
theorem JN(h:Sx w0 w (MI Y tv fv ev bv most vm vg mem dW Xq))(hm:mem.length<=700000):
  qC 35 #[qP Y,qJ 0,qJ mem.length] w λe w'=>e=.returned (.tuple #[.string (QT mem),qJ 0])/\w'=w:=by
 have r:=h.lt 0 rfl;obtain⟨s,t⟩:=h.c 0 4 rfl rfl;obtain⟨a,b,j⟩:=Row.shape (h.isRow 1 rfl);subst j;have k:mem.length<=b:=by
  by_cases h0:0<mem.length
  .obtain⟨g,c,hv,-,-,hc,-⟩:=Row.cells (h.isRow 1 rfl) h0;cases hv;exact hc
  omega
 have d:a=none->mem.length=0:=λe=>by
  by_cases h0:0<mem.length
  .obtain⟨g,c,hv,-⟩:=Row.cells (h.isRow 1 rfl) h0;rw[e]at hv;cases hv
  omega
 have f:∀c,(convert 50 9 (.slice a mem.length c)).run prog w=.ok (.string (QT mem)) w:=by
  intro c;cases a with
  | none=>rw[run_convert_bytes_nil w 50 5 underlying50 underlying5 _ _ 9 underlying9];have:mem=[]:=qao (d rfl);subst this;rfl
  | some l=>
   by_cases h0:0<mem.length
   .obtain⟨g,p,hv,-,-,hc,hcell⟩:=Row.cells (h.isRow 1 rfl) h0;cases hv;refine run_convert_bytes_arg w 50 5 underlying50 underlying5 g 0 mem.length c (mem.map λ(n:Nat)=>(n:Int)) qs (λi hi=>?_) 9 underlying9;rw[qcf,hcell i qo];unfold jr;rw[qbk,qab hi,qag,qbk,qab hi];rfl
   obtain rfl:mem=[]:=qao qo;obtain⟨g,o,q⟩:=l;have:q=none:=by
    rcases(h.row 1 rfl).2 with⟨hv,-⟩ | ⟨u,p,x,hv,-⟩
    .cases hv
    cases hv;rfl
   subst this;exact run_convert_bytes_arg w 50 5 underlying50 underlying5 g o 0 c [] rfl (λi hi=>qo) 9 underlying9
 have y:(mem.length:Int)<=(b:Int):=qo;have z:¬((mem.length:Int)<0):=qo;have A:=f b;clear h k f d;go_enter func35,ntmps35;go_wp2;refine qal (v:=.tuple #[.string (QT mem),qJ 0]) ?_ rfl ⟨rfl,rfl⟩;simp[results,results35]
theorem Bo(h:Sx w0 w (MI Y tv fv ev bv most vm vg mem dW Xq))(hm:mem.length<=700000):
  qC 17 #[qP Y,qJ 0,qJ mem.length] w λe w'=>e=.returned (.tuple #[.string (QT mem),qJ 0])/\w'=w:=by
 have H:=qH (JN h hm);clear h;go_enter func17,ntmps17;go_wp2_with fail
 refine H.o.mono ?_;rintro e a⟨rfl,rfl⟩;go_wp2;refine qal (v:=.tuple #[.string (QT mem),qJ 0]) ?_ rfl ⟨rfl,rfl⟩;simp[results,results17]
theorem Bh(h:Sx w0 w (MI Y tv fv ev bv most vm vg mem dW Xq))(hm:mem.length<=700000):
  qC 16 #[qP Y] w λe w'=>e=.returned (qJ ((mem.length / 64:Nat):Int))/\w'=w:=by
 have f:=h.lt 0 rfl;obtain⟨g,i⟩:=h.c 0 4 rfl rfl;obtain⟨j,k,a⟩:=Row.shape (h.isRow 1 rfl);subst a;have b:(mem.length:Int).tdiv 64=((mem.length / 64:Nat):Int):=by rfl
 have hw:IntKind.i64.wrap ((mem.length / 64:Nat):Int)=((mem.length / 64:Nat):Int):=qaf _ ⟨qo,qo⟩;have d:qh (qC 34 #[qP Y] w λe w'=>e=.returned (qJ ((mem.length / 64:Nat):Int))/\w'=w):=by
  clear h;go_enter func34,ntmps34;go_wp2;go_ret;exact⟨rfl,rfl⟩
 clear h b hw;go_enter func16,ntmps16;go_wp2_with fail
 refine d.o.mono ?_;exact TW
theorem D5{nm:qS}{az:List Int}{av:qv}{fuel:Nat}{r:VN}(h:Sx w0 w (MI Y tv fv ev bv most vm vg mem dW Xq))(hC:E.fs≠[]->OX w0 m G E Q Ti To Y tv fv ev bv most Xq)(x:jl Xq 161 3 ev xs.length (xs.flatMap uV))(hl:xs.length<=1000)(d:∀(f:Nat)(F:PF),E.fs[f]?=some F->F.ty.ins.length<=8)(y:dW.length=m.dI.length)(z:mem.length%64=0/\mem.length<=64*E.most)(I:fuel<=4000)(l:pX w0 az av)(A:oH E xs nm az fuel mem dW r):
  qC 7 #[qP Y,.string nm,av,qJ fuel] w λe w'=>∃a vB vC,e=.returned (.tuple #[.agg #[qJ r.wy,a,qJ r.lf],qJ r.er])/\Sx w0 w' (MI Y tv fv ev bv most vB vC r.mem r.dW (Xq++[.r 2 1 a r.rs.length (eD r.rs)])):=by
 have U:=h.new #[qJ 0,qN,qJ 0] 33;obtain⟨pa,ca,J,-⟩:∃pa ca,av=.slice pa az.length ca/\True:=by obtain⟨pa,ca,h,-⟩:=l;exact⟨pa,ca,h,trivial⟩
 have k:∀p∈Xq,p∈Xq++[It.b w.heap.size [qJ 0,qN,qJ 0]]:=λp hp=>by simp[hp]
 have B:=qH (NR (Xq:=Xq++[It.b w.heap.size [qJ 0,qN,qJ 0]]) U (λi=>⟨(hC i).fF.mono k,(hC i).tT.mono k,(hC i).eE,(hC i).bB,λq s t=>(hC i).mM q s (λp hp=>t p (k p hp)),λq s t=>(hC i).nN q s (λp hp=>t p (k p hp)),(hC i).mo⟩) (x.mono k) hl d y z I l A);subst J;have K:=U.lt 0 rfl;clear h U k hC x A y z l;obtain⟨g,C⟩:=qE w.heap.size;go_enter func7,ntmps7;go_wp2_with fail
 refine B.o.mono ?_;rintro e L⟨a,vB,vC,rfl,u⟩;rw[<-C]at u ⊢;clear B C K;have j:Sx w0 L (It.b g [qJ 0,qN,qJ 0]::MI Y tv fv ev bv most vB vC r.mem r.dW (Xq++[.r 2 1 a r.rs.length (eD r.rs)])):=u.perm (by
  simp only[MI,qaj];have:([It.b Y [tv,fv,ev,bv,vB,qJ most,vC],It.r 5 1 vB r.mem.length (jr r.mem),It.r 2 1 vC r.dW.length (eD r.dW)]++Xq++([It.b g [qJ 0,qN,qJ 0]]++[It.r 2 1 a r.rs.length (eD r.rs)])).Perm (It.b g [qJ 0,qN,qJ 0]::([It.b Y [tv,fv,ev,bv,vB,qJ most,vC],It.r 5 1 vB r.mem.length (jr r.mem),It.r 2 1 vC r.dW.length (eD r.dW)]++Xq++[It.r 2 1 a r.rs.length (eD r.rs)])):=qdn;exact this)
 obtain⟨D,H,M⟩:=Row.shape (jl.row (tl:=[It.r 2 1 a r.rs.length (eD r.rs)]) (E:=2) (sz:=1) (v:=a) (n:=r.rs.length) (xs:=eD r.rs) (.inr (.inl qs)) j (λp hp=>by simp at hp;subst hp;simp[MI]));subst M;obtain⟨S,T⟩:=j.c 0 0 rfl rfl;obtain⟨V,W⟩:=j.c 0 1 rfl rfl;obtain⟨X,Z⟩:=j.c 0 2 rfl rfl;have m1:=j.lt 0 rfl;have d:=((j.set 0 0 (qJ r.wy) rfl).set 0 1 (.slice D r.rs.length H) rfl).set 0 2 (qJ r.lf) rfl;obtain⟨N,-⟩:=d.c 0 0 rfl rfl;obtain⟨O,-⟩:=d.c 0 1 rfl rfl;obtain⟨R,-⟩:=d.c 0 2 rfl rfl;have H8:=qH d;clear u j d;go_wp2;refine qal (v:=.tuple #[.agg #[qJ r.wy,.slice D r.rs.length H,qJ r.lf],qJ r.er]) ?_ rfl ?_
 .simp[results,results7,go_sem,N,O,R]
 exact UM
end
theorem Hw{nm:qS}{f i:Nat}:∀{xs:List Xp},mV nm f xs=some i->∃x∈xs,x.2.1=f/\x.2.2=i
 | [],h=>by cases h
 | x::r,h=>by
  unfold mV at h;split at h
  .rename_i hc;cases h;exact⟨x,qbz,hc.2,rfl⟩
  obtain⟨y,U,a⟩:=Hw h;exact⟨y,qcc _ U,a⟩
section
variable {m:dX}{E:Ev}{xs:List Xp}{nm:qS}{az:List Int}{fuel:Nat}{mem:qM}{dW:List Int}{r r':VN}
theorem IB(b:E.fs≠[]->sI m E)(hx:∀x∈xs,x.2.1=0->x.2.2<E.fs.length)(d:dW.length=m.dI.length):∃r,oH E xs nm az fuel mem dW r:=by
 unfold oH;cases hf:mV nm 0 xs with
 | none=>exact⟨_,rfl⟩
 | some f=>
  obtain⟨x,U,e,g⟩:=Hw hf;have hl:=hx x U e;rw[g]at hl;simp only;rw[qab hl];simp only;by_cases a:az.length≠(E.fs[f]).ty.ins.length
  .simp only[qac a];exact⟨_,rfl⟩
  simp only[qaa a];have h:E.fs≠[]:=λc=>by rw[c]at hl;simp at hl
  obtain⟨⟨s',why,left⟩,i⟩:=Aw (fuel:=fuel) (mem:=mem) (b h) (qab hl) (az:=az) qo d;exact⟨_,s',why,left,i,rfl⟩
theorem KL(p:Nat)(h:oH E xs nm az fuel mem dW r)(hw:r.er=0->r.wy≠8):oH E xs nm az (fuel+p) mem dW (if r.er=0 then {r with lf:=r.lf+p} else r):=by
 unfold oH at h ⊢;cases hf:mV nm 0 xs with
 | none=>rw[hf]at h;simp only at h ⊢;subst h;rfl
 | some f=>
  rw[hf]at h;simp only at h ⊢;cases a:E.fs[f]? with
  | none=>rw[a]at h;exact h.elim
  | some F=>
   rw[a]at h;simp only at h ⊢;by_cases b:az.length≠F.ty.ins.length
   .rw[qac b]at h ⊢;subst h;rfl
   rw[qaa b]at h ⊢;obtain⟨s',why,left,c,rfl⟩:=h;have hw:=hw rfl;simp only at hw;have U:=Jo (51*p) c;rw[show 51*fuel+2+51*p=51*(fuel+p)+2 by omega]at U;exact⟨s',why,left+p,yA p U hw,rfl⟩
theorem RQ{c:Nat}(h:oH E xs nm az fuel mem dW r)(h':oH E xs nm az c mem dW r'):r'.er=r.er:=by
 unfold oH at h h';cases hf:mV nm 0 xs with
 | none=>rw[hf]at h h';simp only at h h';rw[h,h']
 | some f=>
  rw[hf]at h h';simp only at h h';cases a:E.fs[f]? with
  | none=>rw[a]at h;exact h.elim
  | some F=>
   rw[a]at h h';simp only at h h';by_cases b:az.length≠F.ty.ins.length
   .rw[qac b]at h h';rw[h,h']
   rw[qaa b]at h h';obtain⟨_,_,_,_,rfl⟩:=h;obtain⟨_,_,_,_,rfl⟩:=h';rfl
theorem BV(g:E.fs≠[]->EvB E)(i:∀(f:Nat)(F:PF),E.fs[f]?=some F->F.ty.ins.length<=8)(h:oH E xs nm az fuel mem dW r)(b:mem.length%64=0/\mem.length<=64*E.most):r.dW.length=dW.length/\(r.mem.length%64=0/\r.mem.length<=64*E.most)/\r.wy<=8/\r.lf<=fuel/\(r.wy=8->r.lf=0)/\(r.er≠0->r.wy=0/\r.lf=0/\r.rs=[]/\r.mem=mem/\r.dW=dW)/\r.er<=12/\r.rs.length<=58+51*fuel:=by
 unfold oH at h;cases hf:mV nm 0 xs with
 | none=>rw[hf]at h;simp only at h;subst h;exact⟨rfl,b,qs,qs,qs,λ_=>⟨rfl,rfl,rfl,rfl,rfl⟩,qs,qs⟩
 | some f=>
  rw[hf]at h;simp only at h;cases a:E.fs[f]? with
  | none=>rw[a]at h;exact h.elim
  | some F=>
   rw[a]at h;simp only at h;by_cases e:az.length≠F.ty.ins.length
   .rw[qac e]at h;subst h;exact⟨rfl,b,qs,qs,qs,λ_=>⟨rfl,rfl,rfl,rfl,rfl⟩,qs,qs⟩
   rw[qaa e]at h;obtain⟨s',why,left,d,rfl⟩:=h;have j:E.fs≠[]:=λc=>by rw[c]at a;cases a
   have hb:=g j;obtain⟨k,l⟩:=rV hb d;obtain⟨n,o,p⟩:=AJ hb d;have hl:=xe hb d;have q:=(hb.loc f F a).1;have s:(zS F f az mem dW).stk.length<=58:=by
    have:=i f F a;simp only[zS,qaq,List.length_zipWith,qba];omega
   refine⟨l,k b,n,o,p,λc=>absurd rfl c,qs,?_⟩;simp only;split
   .omega
   simp
end
end Go.Proofs.YtfkcodlceoghpaaGreatDoor
