import Derived.Lib.BufferWrite
import Derived.Test.YtfkcodlceoghpaaGreatDoorX29
namespace Go.Proofs.YtfkcodlceoghpaaGreatDoor
set_option maxHeartbeats 6400000
set_option maxRecDepth 100000
set_option linter.unusedSimpArgs false
set_option linter.unusedVariables false
open Go.RowKit Go.Proofs.Tryz
theorem Au{P:Program}{b:Array Oper}{o:Oper}{a:Act}{w:qW}{K:Act->qW->Prop}{Q:Exit->Act->qW->Prop}{E:Prop}{f:FuncId}{args:Array qv}{R:Ending->qW->Prop}(d:o.guard=none)
  (g:(execOp a.eval o).run P w=.ok (.enter f args) w) (hc:Calls P f args w R) (h:∀e w',R e w'->(∃v,e=.returned v/\K (a.put o.dst v) w')\/(∃c,e=.panicked c/\Q (.panic c) a w')):
  if Region.wanted o (yielded b a.tmps)=true then Oper.wp P o a w K Q else E:=by
 have hw:Region.wanted o (yielded b a.tmps)=true:=by simp[Region.wanted,d]
 rw[qac hw];unfold Oper.wp;rw[g];refine hc.mono ?_;intro e w' i;obtain⟨v,rfl,X⟩ | ⟨c,rfl,X⟩:=h e w' i
 .exact X
 exact X
def Old(w0 w1:World)(Xq:List It):Prop:=∀W Lq,Sx w0 W Lq->(∀p∈Xq,p∈Lq)->qK w1 W
theorem Old.mk{w0 w1:qW}{Xq:List It}(h:qK w0 w1)(d:∀g o,w0.heap.size<=g->w1.heap[g]?=some o->It.o g o∈Xq):Old w0 w1 Xq:=λW Lq b f=>by
 have hb:∀k,w0.heap.size<=k->k<w1.heap.size->W.heap[k]?=w1.heap[k]?:=λk U i=>by
  have e:w1.heap[k]?=some w1.heap[k]:=qcr i;rw[e];exact(b.it _ (f _ (d k _ U e))).2
 refine⟨b.kept.os.trans h.os.symm,b.kept.tape.trans h.tape.symm,b.kept.output.trans h.output.symm,?_,λk X _=>?_⟩
 .by_cases hl:w0.heap.size<w1.heap.size
  .have:=hb (w1.heap.size - 1) qo qo;rw[qcr (show w1.heap.size - 1<w1.heap.size by omega)]at this;have:=(qah.1 this).1;omega
  have:=b.kept.size;have:=h.size;omega
 by_cases hl:w0.heap.size<=k
 .exact hb k hl X
 exact(b.kept.block k qo (λc=>c)).trans (h.block k qo (λc=>c)).symm
theorem Old.mono{w0 w1:qW}{Xq b:List It}(h:Old w0 w1 Xq)(c:∀p∈Xq,p∈b):Old w0 w1 b:=λW Lq d e=>h W Lq d (λp hp=>e p (c p hp))
def KX(w0:World)(Xq:List It)(w:World):Prop:=∃Lq,Sx w0 w Lq/\∀p∈Xq,p∈Lq
theorem KX.sub{w0 w:qW}{Xq b:List It}(h:KX w0 Xq w)(c:∀p∈b,p∈Xq):KX w0 b w:=let⟨Lq,U,L⟩:=h;⟨Lq,U,λp hp=>L p (c p hp)⟩
theorem FZ(n:Int):IntKind.u32.wrap n=((u32 n:Nat):Int):=by
 rw[IntKind.wrap_u32];unfold u32;omega
def uU(n:Int):Nat:=u32 n
theorem Um(n:Int):uU n<4294967296:=rF n
section
variable {w:qW}{a kd many room num:Nat}{val:Int}
theorem AR(h:uU val+many<=room)(hm:room<=100000):qC 78 #[.agg #[qJ a,qB kd,qJ val],qJ many,qJ room,qJ num] w λe w'=>e=.returned (qJ ((uU val:Nat):Int))/\qK w w':=by
 unfold uU at*;have b:=FZ val;have c:=rF val;generalize u32 val=u at*;have w1:IntKind.i64.wrap (u:Int)=(u:Int):=qaf _ ⟨qo,qo⟩;have d:IntKind.i64.wrap ((u:Int)+(many:Int))=(u:Int)+(many:Int):=qaf _ ⟨qo,qo⟩;have f:IntKind.i64.wrap (many:Int)=(many:Int):=qaf _ ⟨qo,qo⟩;have g:IntKind.i64.wrap (room:Int)=(room:Int):=qaf _ ⟨qo,qo⟩;have i:¬((room:Int)<(u:Int)+(many:Int)):=qo;clear h;go_enter func78,ntmps78;go_wp2;go_ret;exact⟨rfl,qr.alloc _⟩
theorem yY(h:¬uU val+many<=room)(hm:room<=100000)(c:many<=100000):qC 78 #[.agg #[qJ a,qB kd,qJ val],qJ many,qJ room,qJ num] w λe w'=>e=fo 10 (num:Nat)/\qK w w':=by
 unfold uU at*;have d:=FZ val;have f:=rF val;generalize u32 val=u at*;have w1:IntKind.i64.wrap (u:Int)=(u:Int):=qaf _ ⟨qo,qo⟩;have g:IntKind.i64.wrap ((u:Int)+(many:Int))=(u:Int)+(many:Int):=qaf _ ⟨qo,qo⟩;have b:IntKind.i64.wrap (many:Int)=(many:Int):=qaf _ ⟨qo,qo⟩;have i:IntKind.i64.wrap (room:Int)=(room:Int):=qaf _ ⟨qo,qo⟩;have j:((room:Int)<(u:Int)+(many:Int)):=qo;clear h;go_enter func78,ntmps78;go_wp2_with fail
 refine(iK _ _ _).mono ?_;rintro e b⟨rfl,rfl⟩;exact⟨rfl,rfl,qr.alloc _⟩
end
theorem Mj{b:Type}{t xs:List b}{p j:Nat}(h:p+xs.length<=t.length)(c:j<xs.length):(kW t p (xs.take j)).set (p+j) xs[j]=kW t p (xs.take (j+1)):=by
 unfold kW;have l1:(t.take p++xs.take j).length=p+j:=by simp;omega
 have l2:(xs.take j).length=j:=by simp;omega
 have d:(xs.take (j+1)).length=j+1:=by simp;omega
 rw[l2,d,qcp _ _ (by rw[l1];exact qR),l1,Nat.sub_self,qbg c,qan (show p+j<t.length by omega),qz];simp only[qaj,qax,qay,Nat.add_assoc]
theorem Mo{b:Type}{t xs:List b}{p j:Nat}(h:xs.length<=j):kW t p (xs.take j)=kW t p xs:=by rw[qbo h]
theorem Me{b:Type}{t xs:List b}{p:Nat}:kW t p (xs.take 0)=t:=by unfold kW;simp
theorem Ov{es:List Cm}{i:Nat}{t:List Int}(b:i<es.length):sZ i (es.drop i) t=if uU es[i].place.val+es[i].funcs.length<=t.length then sZ (i+1) (es.drop (i+1)) (kW t (uU es[i].place.val) (es[i].funcs.map (·.1))) else .error (10,i):=by
 rw[qan b,sZ];rfl
abbrev TE(Y:Nat)(tv fv ev bv vm:Value)(most:Nat)(vg:Value)(n:Nat)(iL:List Int)(Xq:List It):List It:=
 .b Y [tv,fv,ev,bv,vm,qJ most,vg]::.r 3 1 bv n (nY iL)::Xq
theorem Ij{K:qD}{w:qW}{ts:List Cm}{v:qv}(h:gI 125 5 kS K ts w v){k:Nat}(X:k<ts.length):
  ∃g A b,v=qL g ts.length A/\g<w.heap.size/\ts.length<=A/\isRow 93 2 numCells K ts[k].funcs w b/\∀o,o<5->w.cell? ⟨g,k*5+o,none⟩=[Value.int .i64 (ts[k].at_:Nat),qJ (ts[k].place.at_:Nat),qB (ts[k].place.kind:Nat),qJ ts[k].place.val,b][o]?:=by
 obtain⟨css,d,c⟩:=h;obtain⟨g,A,hv,-,e,hc,f⟩:=Row.cells d qo;have hy:ts[k]?=some ts[k]:=qab X;obtain⟨cs,i,⟨⟨b,rfl,U⟩,-⟩⟩:=c.get hy;exact⟨g,A,b,hv,e,hc,U,λo ho=>(f (k*5+o) qo).trans (Each.flat (o:=o) c i ho)⟩
section
variable {w0 w1 w:qW}{K:qD}{Y most:Nat}{tv fv ev vm vg:qv}{pb pe:qO}{cb ce:Nat}{Xq:List It}{iL:List Int}{es:List Cm}
theorem JA(h:Sx w0 w (TE Y tv fv ev (.slice pb iL.length cb) vm most vg iL.length iL Xq))(hX:Old w0 w1 Xq)(hE:gI 125 5 kS K es w1 (.slice pe es.length ce))(hl:es.length<=5)(hf:∀e∈es,e.funcs.length<=20/\∀y∈e.funcs,0<=y.1/\y.1<=4294967295)(ht:iL.length<=20):
  qC 29 #[qP Y,.slice pe es.length ce] w λe w'=>KX w0 Xq w'/\(∀t,sZ 0 es iL=.ok t->qU e/\Sx w0 w' (TE Y tv fv ev (.slice pb iL.length cb) vm most vg iL.length t Xq))/\∀q p:Nat,sZ 0 es iL=.error (q,p)->e=fo (q:Nat) (p:Nat):=by
 have H:=qH h;have HX:=qH hX;have HE:=qH hE;have HF:=qH hf;clear h hX hE hf;go_enter func29,ntmps29;go_wp2_with fail
 go_loopg [4,5,6,7,8,11] es.length (λgk u4 u5 u6 u7 u8 ao wr=>∃(i:Nat)(t:List Int),gk=es.length - i/\i<=es.length/\ao=qJ i/\sZ 0 es iL=sZ i (es.drop i) t/\t.length=iL.length/\Sx w0 wr (TE Y tv fv ev (.slice pb iL.length cb) vm most vg iL.length t Xq))
 case atStart=>exact⟨0,iL,rfl,qZ,rfl,rfl,rfl,H.o⟩
 clear H;obtain⟨i,t,ay,hi,rfl,hel,af,hS⟩:=hrel;by_cases hlt:i<es.length
 .have t1:(i:Int)<(es.length:Int):=qo;have s:=HX.o wr _ hS (λp hp=>by simp[hp]);obtain⟨T,c7,vl,e7,ag,aA,U,ah⟩:=Ij HE.o hlt;cases e7;have u:∀o,o<5->wr.cell? ⟨T,i*5+o,none⟩=_:=λo ho=>(s.cell (p:=⟨T,i*5+o,none⟩) ag (λc=>c)).trans (ah o ho);have M:=HF.o _ (qaw hlt);have ai:=Ov (t:=t) hlt;rw[ai]at hel;have LU:=qH hel;obtain⟨pl,cl,rfl⟩:=Row.shape U;have aj:=qH U;have ak:=qH M;generalize es[i]=x at*;obtain⟨xa,⟨A,B,g⟩,d⟩:=x;simp only at u LU aj ak M;have C0:=u 0 qo;have C1:=u 1 qo;have C2:=u 2 qo;have C3:=u 3 qo;have C4:=u 4 qo;simp only[qas,qbh,qdz]at C0 C1 C2 C3 C4;have ap:T<wr.heap.size:=qad ag s.size;obtain⟨I,J⟩:=qE wr.heap.size;have W:=(hS.new #[qJ xa,qJ A,qB B,qJ g,.slice pl d.length cl] 125).perm (qbc _ _);rw[<-J]at W;have hq:∀V,Sx w0 V (.b I [qJ xa,qJ A,qB B,qJ g,.slice pl d.length cl]::TE Y tv fv ev (.slice pb iL.length cb) vm most vg iL.length t Xq)->(λV:qW=>V.cell? (qA I 1)=some (qJ A)/\V.cell? (qA I 2)=some (qB B)/\V.cell? (qA I 3)=some (qJ g)/\V.cell? (qA I 4)=some (.slice pl d.length cl)/\V.cell? (qA Y 3)=some (.slice pb iL.length cb)) V:=λV L=>⟨(L.c 0 1 rfl rfl).1,(L.c 0 2 rfl rfl).1,(L.c 0 3 rfl rfl).1,(L.c 0 4 rfl rfl).1,(L.c 1 3 rfl rfl).1⟩;have aq:Y<wr.heap.size:=hS.lt 0 rfl;have H2:=qH W;have X:=qH hq;have HI:=qH hlt;have aB:=M.1;clear hS W u ah ai hel U M hq hlt;go_wp2_with fail
  have C:=X.o _ H2.o.drew;rw[J]at C;refine jU (λV:qW=>V.cell? (qA wr.heap.size 1)=some (qJ A)/\V.cell? (qA wr.heap.size 2)=some (qB B)/\V.cell? (qA wr.heap.size 3)=some (qJ g)/\V.cell? (qA wr.heap.size 4)=some (.slice pl d.length cl)/\V.cell? (qA Y 3)=some (.slice pb iL.length cb)) 12 ?_;iterate 11 refine nE C ?_ (hy:=by(refine Or.inl ⟨by rfl,?_⟩;intro _ d;obtain⟨_,_,_,_,_⟩:=d;go_simp;try with_reducible rfl))
  have aC:=Um g;by_cases N:uU g+d.length<=t.length
  .have Z:uU g+d.length<=iL.length:=qo;refine jO (λK n=>?_);refine dP (f:=78) (args:= #[.agg #[qJ A,qB B,qJ g],qJ d.length,qJ iL.length,qJ i]) (by rfl) (by go_simp) (AR Z qo) ?_;rintro e V1⟨rfl,hk1⟩;have h3:=H2.o.drew.to hk1;have aa:=X.o _ h3;rw[J]at aa;have al:=qH h3;refine⟨_,rfl,n _ _ (.inr aa) ?_⟩;clear n K C hk1;simp only[Act.put,qy,qz,qw];refine iU (λK n=>?_);go_simp;refine n _ _ ?_;clear n K aa;rw[qac (show uU g+d.length<=t.length from N)]at LU;have O:=al.o;generalize uU g=p at*;obtain⟨y4,-⟩:=O.c 0 4 rfl rfl;have m0:=O.lt 0 rfl;have H4:qh (Sx w0 V1 (TE Y tv fv ev (.slice pb iL.length cb) vm most vg iL.length t Xq)):=O.sub (.cons _ (qbf _));rw[<-J];clear O al h3 H2 X J ap C0 C1 C2 C3 C4 aq s;go_wp2_with fail
   clear y4 m0;go_loopg [7,8,31] d.length (λar u7 u8 au wr=>∃(j:Nat),ar=d.length - j/\j<=d.length/\au=qJ j/\Sx w0 wr (TE Y tv fv ev (.slice pb iL.length cb) vm most vg iL.length (kW t p ((d.map (·.1)).take j)) Xq))
   case atStart=>exact⟨0,rfl,qZ,rfl,by rw[Me];exact H4.o⟩
   clear H4;obtain⟨j,aD,hj,rfl,D⟩:=hrel;by_cases v:j<d.length
   .have t2:(j:Int)<(d.length:Int):=qo;have s:=HX.o wr _ D (λp hp=>by simp[hp]);obtain⟨gf,cf,ef,-,ab,aE,ac⟩:=Row.cells aj.o qo;cases ef;obtain⟨z,E⟩:∃z,d[j]?=some z:=⟨_,qab v⟩;have D0:wr.cell? ⟨gf,j*2,none⟩=some (qI z.1):=((s.cell (p:=⟨gf,j*2,none⟩) ab (λc=>c)).trans (ac (j*2) qo)).trans (flat_get (m:=2) (o:=0) (λ_=>rfl) E qo);have D1:wr.cell? ⟨gf,j*2+1,none⟩=some (qJ z.2):=((s.cell (p:=⟨gf,j*2+1,none⟩) ab (λc=>c)).trans (ac (j*2+1) qo)).trans (flat_get (m:=2) (o:=1) (λ_=>rfl) E qo);have aF:gf<wr.heap.size:=qad ab s.size;have aw:=ak.o.2 z (qai E);have ad:(d.map (·.1))[j]'(by simpa using v)=z.1:=by
     rw[qab v]at E;simp[Option.some.inj E]
    obtain⟨zn,R⟩:=z;simp only at D0 D1 aw ad;obtain⟨k,rfl⟩:∃k:Nat,zn=k:=⟨zn.toNat,qo⟩;have am:(kW t p ((d.map (·.1)).take j)).length=iL.length:=by rw[rR qt,af]
    have ae:=Mj (t:=t) (xs:=d.map (·.1)) (p:=p) (j:=j) (by simpa using N) (by simpa using v);rw[ad]at ae;have F:=(D.new #[qI k,qJ R] 93).perm (qbc _ _);obtain⟨G,ct,hv,-,ax,aG,an⟩:=Row.cells (F.isRow 2 rfl) qo;simp only[Value.slice.injEq]at hv;obtain⟨rfl,-,rfl⟩:=hv;have E0:∃v0,(wr.alloc (.cells #[qI k,qJ R] 93)).cell? ⟨G,p+j,none⟩=some (qJ v0):=by
     rw[an (p+j) qo];unfold nY;rw[qbk,qab (by rw[am];omega)];exact⟨_,rfl⟩
    obtain⟨v0,E0⟩:=E0;have E1:=F.vM 2 (p+j) rfl;have E2:G<wr.heap.size+1:=by simpa using ax
    have H6:qh (Sx w0 ((wr.alloc (.cells #[qI k,qJ R] 93)).setCell ⟨G,p+j,none⟩ (qJ k)).drew (TE Y tv fv ev (qL G iL.length cb) vm most vg iL.length (kW t p ((d.map (·.1)).take (j+1))) Xq)):=by
     have h6:=((F.EG 2 (p+j) (qJ k) rfl).sub (.cons _ (qbf _))).drew;rw[<-ae];show Sx w0 _ (It.b Y _::It.r 3 1 _ _ (nY _)::Xq);have e:nY ((kW t p ((d.map (·.1)).take j)).set (p+j) (k:Int))=(nY (kW t p ((d.map (·.1)).take j))).set (p+j) (qJ k):=by unfold nY;rw[List.map_set]
     rw[e];exact h6
    have C:(λV:qW=>V.cell? (qA Y 3)=some (qL G iL.length cb)/\V.cell? (qA wr.heap.size 0)=some (qI k)) (wr.alloc (.cells #[qI k,qJ R] 93)).drew:=⟨(F.drew.c 1 3 rfl rfl).1,(F.drew.c 0 0 rfl rfl).1⟩;have wq:IntKind.i64.wrap ((p:Int)+(j:Int))=(p:Int)+(j:Int):=qaf _ ⟨qo,qo⟩;have wk:IntKind.i64.wrap (k:Int)=(k:Int):=qaf _ ⟨qo,qo⟩;have tq:(p:Int)+(j:Int)<(iL.length:Int):=qo;have aH:0<=(p:Int)+(j:Int):=qo;have aI:((p:Int)+(j:Int)).toNat=p+j:=qo;have HJ:=qH v;clear F D an ac E ae ad am v;go_wp2_with fail
    refine jU (λV:qW=>V.cell? (qA Y 3)=some (qL G iL.length cb)/\V.cell? (qA wr.heap.size 0)=some (qI k)) 11 ?_;iterate 11 refine nE C ?_ (hy:=qQ)
    refine iU (λK n=>?_);go_simp;refine n _ _ ?_;clear n K C;go_wp2;go_roundg (d.length - (j+1))
    case measure=>have:=HJ.o;omega
    exact⟨j+1,rfl,HJ.o,by push_cast;rfl,H6.o⟩
   have t2:¬(j:Int)<(d.length:Int):=qo;rw[Mo qt]at D;have HT:=qH D;have HL:qh ((kW t p (d.map (·.1))).length=iL.length):=by show _=_;rw[rR (by simpa using N),af]
   clear D v;go_wp2;go_roundg (es.length - (i+1))
   case measure=>have:=HI.o;omega
   exact⟨i+1,_,rfl,HI.o,by push_cast;rfl,LU.o,HL.o,HT.o⟩
  have Z:¬uU g+d.length<=iL.length:=qo;rw[qaa (show ¬uU g+d.length<=t.length from N)]at LU;refine jO (λK n=>?_);refine Au (f:=78) (args:= #[.agg #[qJ A,qB B,qJ g],qJ d.length,qJ iL.length,qJ i]) (by rfl) (by go_simp) (yY Z qo qo) ?_;exact WY
 have t1:¬(i:Int)<(es.length:Int):=qo;have Vm:sZ 0 es iL=.ok t:=by rw[hel,qbq qo];rfl
 exact Xc
end
theorem OD{es:List Dat}{i:Nat}{t:qM}(a:i<es.length):uO i (es.drop i) t=if uU es[i].place.val+es[i].bytes.size<=t.length then uO (i+1) (es.drop (i+1)) (kW t (uU es[i].place.val) (FH es[i].bytes)) else .error (10,i):=by
 rw[qan a,uO];rfl
theorem NQ(t xs:qM)(p:Nat):jr (kW t p xs)=kW (jr t) p (jr xs):=by
 unfold kW jr;simp[List.map_take,List.map_drop]
theorem pU(b:qS):Lib.byteCells b.data.toList=jr (FH b):=by
 unfold Lib.byteCells jr FH;simp
abbrev TM(Y:Nat)(tv fv ev bv vm:Value)(most:Nat)(vg:Value)(n:Nat)(mem:List Nat)(Xq:List It):List It:=
 .b Y [tv,fv,ev,bv,vm,qJ most,vg]::.r 5 1 vm n (jr mem)::Xq
section
variable {w0 w1 w:qW}{K:qD}{Y most gm:Nat}{tv fv ev bv vg:qv}{pe:qO}{cm ce:Nat}{Xq:List It}{mem:qM}{es:List Dat}
theorem RH{p:Nat}{b:qS}{t:qM}{a:qO}(h:Sx w0 w (TM Y tv fv ev bv (qL gm mem.length cm) most vg mem.length t Xq))(hp:p+b.size<=mem.length)(hc:mem.length<=cm)(c:a=if cm=p then some (qA gm 0) else some (qA gm p)):
  ∃d r,(Builtin.copy_ #[50,9] 3 #[.slice a (mem.length - p) (cm - p),.string b]).run prog w=.ok r d/\Sx w0 d (TM Y tv fv ev bv (qL gm mem.length cm) most vg mem.length (kW t p (FH b)) Xq):=by
 by_cases h0:b.size=0
 .refine⟨w,_,Lib.run_copy_empty_string w 50 9 3 5 _ _ _ b qk qk h0,?_⟩;have e:FH b=[]:=qao (by rw[uQ,h0]);rw[e];have f:kW t p []=t:=by unfold kW;simp
  rw[f];exact h
 rw[qaa qo]at c;subst c;obtain⟨i,j,f,o,l⟩:=uw (h.row 1 rfl);refine⟨_,_,Lib.run_copy_row_string w 50 9 3 5 gm p _ _ b i 5 qk qk j qo qo,?_⟩;have g:=l p (Lib.byteCells b.data.toList) (by rw[pU];unfold jr;rw[qdu,uQ];omega);have m:(Lib.byteCells b.data.toList).length=b.size:=by rw[pU];unfold jr;rw[qdu,uQ]
 rw[m]at g;have n:=h.upd (k:=1) (S:=λk=>k=gm) rfl (Kept.setRow _ _ _) (λk X=>by rw[X];rfl) (p2:=.r 5 1 (qL gm mem.length cm) mem.length (kW (jr t) p (Lib.byteCells b.data.toList))) g (λk X=>.inl X);show Sx w0 _ (It.b Y _::It.r 5 1 _ _ (jr _)::Xq);rw[NQ,<-pU];exact n
theorem JC(h:Sx w0 w (TM Y tv fv ev bv (qL gm mem.length cm) most vg mem.length mem Xq))(L:Old w0 w1 Xq)(M:isRow 135 5 Dat.cells K es w1 (.slice pe es.length ce))(hl:es.length<=10)(hf:∀e∈es,e.bytes.size<=100)(ht:mem.length<=10000)(ae:mem.length<=cm):
  qC 30 #[qP Y,.slice pe es.length ce] w λe w'=>KX w0 Xq w'/\(∀t,uO 0 es mem=.ok t->qU e/\Sx w0 w' (TM Y tv fv ev bv (qL gm mem.length cm) most vg mem.length t Xq))/\∀q p:Nat,uO 0 es mem=.error (q,p)->e=fo (q:Nat) (p:Nat):=by
 have H:=qH h;have HX:=qH L;have HE:=qH M;have HF:=qH hf;clear h L M hf;go_enter func30,ntmps30;go_wp2_with fail
 go_loopg [4,5,6,9] es.length (λgk u4 u5 u6 u9 wr=>∃(i:Nat)(t:qM),gk=es.length - i/\i<=es.length/\u9=qJ i/\uO 0 es mem=uO i (es.drop i) t/\t.length=mem.length/\Sx w0 wr (TM Y tv fv ev bv (qL gm mem.length cm) most vg mem.length t Xq))
 case atStart=>exact⟨0,mem,rfl,qZ,rfl,rfl,rfl,H.o⟩
 clear H;obtain⟨i,t,ak,hi,rfl,hel,af,hS⟩:=hrel;by_cases hlt:i<es.length
 .have t1:(i:Int)<(es.length:Int):=qo;have B:=HX.o wr _ hS (λp hp=>by simp[hp]);obtain⟨C,c7,e7,-,N,al,O⟩:=Row.cells HE.o qo;cases e7;have hx:es[i]?=some es[i]:=qab hlt;have n:∀o,o<5->wr.cell? ⟨C,i*5+o,none⟩=(Dat.cells es[i])[o]?:=λo ho=>((B.cell (p:=⟨C,i*5+o,none⟩) N (λc=>c)).trans (O (i*5+o) qo)).trans (flat_get (m:=5) (o:=o) (λ_=>rfl) hx ho);have ag:=HF.o _ (qaw hlt);have R:=OD (t:=t) hlt;rw[R]at hel;have LU:=qH hel;generalize es[i]=x at*;obtain⟨T,⟨r,s,d⟩,g⟩:=x;simp only at n LU ag;have U:=n 0 qo;have W:=n 1 qo;have X:=n 2 qo;have Z:=n 3 qo;have C4:=n 4 qo;simp only[Dat.cells,qas,qbh,qdz]at U W X Z C4;have ah:C<wr.heap.size:=qad N B.size;obtain⟨j,u⟩:=qE wr.heap.size;have D:=(hS.new #[qJ T,qJ r,qB s,qJ d,.string g] 135).perm (qbc _ _);rw[<-u]at D;have hq:∀V,Sx w0 V (.b j [qJ T,qJ r,qB s,qJ d,.string g]::TM Y tv fv ev bv (qL gm mem.length cm) most vg mem.length t Xq)->(λV:qW=>V.cell? (qA j 1)=some (qJ r)/\V.cell? (qA j 2)=some (qB s)/\V.cell? (qA j 3)=some (qJ d)/\V.cell? (qA j 4)=some (.string g)/\V.cell? (qA Y 4)=some (qL gm mem.length cm)) V:=λV v=>⟨(v.c 0 1 rfl rfl).1,(v.c 0 2 rfl rfl).1,(v.c 0 3 rfl rfl).1,(v.c 0 4 rfl rfl).1,(v.c 1 4 rfl rfl).1⟩;have ai:Y<wr.heap.size:=hS.lt 0 rfl;have H2:=qH D;have z:=qH hq;have HI:=qH hlt;clear hS D n O R hel hq hlt hx;go_wp2_with fail
  have E:=z.o _ H2.o.drew;rw[u]at E;refine jU (λV:qW=>V.cell? (qA wr.heap.size 1)=some (qJ r)/\V.cell? (qA wr.heap.size 2)=some (qB s)/\V.cell? (qA wr.heap.size 3)=some (qJ d)/\V.cell? (qA wr.heap.size 4)=some (.string g)/\V.cell? (qA Y 4)=some (qL gm mem.length cm)) 12 ?_;iterate 11 refine nE E ?_ (hy:=by(refine Or.inl ⟨by rfl,?_⟩;intro _ d;obtain⟨_,_,_,_,_⟩:=d;go_simp;try with_reducible rfl))
  have am:=Um d;by_cases F:uU d+g.size<=t.length
  .have A:uU d+g.size<=mem.length:=qo;refine jO (λK k=>?_);refine dP (f:=78) (args:= #[.agg #[qJ r,qB s,qJ d],qJ g.size,qJ mem.length,qJ i]) (by rfl) (by go_simp) (AR A qo) ?_;rintro e V1⟨rfl,hk1⟩;have G:=H2.o.drew.to hk1;have I:=z.o _ G;rw[u]at I;have aa:=qH G;refine⟨_,rfl,k _ _ (.inr I) ?_⟩;clear k K E hk1;simp only[Act.put,qy,qz,qw];refine iU (λK k=>?_);go_simp;refine k _ _ ?_;clear k K I;rw[qac (show uU d+g.size<=t.length from F)]at LU;have y:=aa.o;generalize uU d=p at*;rw[<-u];have h5:Sx w0 V1.drew (TM Y tv fv ev bv (qL gm mem.length cm) most vg mem.length t Xq):=(y.sub (.cons _ (qbf _))).drew;obtain⟨pm,J⟩:∃pm:qO,pm=if cm=p then some (qA gm 0) else some (qA gm p):=⟨_,rfl⟩;obtain⟨w2,r2,ab,h6⟩:=RH (p:=p) (b:=g) h5 A ae J;have ac:=qH ab;have H6:=qH h6;have aj:qh ((kW t p (FH g)).length=mem.length):=by show _=_;rw[rR (by rw[uQ];exact F),af]
   have ad:=z.o _ y.drew;have m0:=y.lt 0 rfl;have m1:=y.lt 1 rfl;have tp:(p:Int)<=(mem.length:Int):=qo;have tc:(mem.length:Int)<=(cm:Int):=qo;clear y aa G H2 z u ah U W X Z C4 ai B h5 ab h6;go_wp2_with fail
   refine jU (λV:qW=>V.cell? (qA j 1)=some (qJ r)/\V.cell? (qA j 2)=some (qB s)/\V.cell? (qA j 3)=some (qJ d)/\V.cell? (qA j 4)=some (.string g)/\V.cell? (qA Y 4)=some (qL gm mem.length cm)) 8 ?_;iterate 8 refine nE ad ?_ (hy:=by(refine Or.inl ⟨by rfl,?_⟩;intro _ d;obtain⟨_,_,_,_,_⟩:=d;go_simp;try with_reducible rfl))
   refine iU (λK k=>?_);go_simp;rw[<-J,ac.o];simp only[Result.andThen];rw[Oper.upon_value];refine k _ _ ?_;clear k K ad ac J;go_wp2;go_roundg (es.length - (i+1))
   case measure=>have:=HI.o;omega
   exact⟨i+1,_,rfl,HI.o,by push_cast;rfl,LU.o,aj.o,H6.o⟩
  have A:¬uU d+g.size<=mem.length:=qo;rw[qaa (show ¬uU d+g.size<=t.length from F)]at LU;refine jO (λK k=>?_);refine Au (f:=78) (args:= #[.agg #[qJ r,qB s,qJ d],qJ g.size,qJ mem.length,qJ i]) (by rfl) (by go_simp) (yY A qo qo) ?_;exact WY
 have t1:¬(i:Int)<(es.length:Int):=qo;have Vm:uO 0 es mem=.ok t:=by rw[hel,qbq qo];rfl
 exact Xc
end
end Go.Proofs.YtfkcodlceoghpaaGreatDoor
