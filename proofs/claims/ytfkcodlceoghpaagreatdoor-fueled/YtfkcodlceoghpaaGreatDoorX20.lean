import Derived.Lib.AppendZerosOnto
import Derived.Test.YtfkcodlceoghpaaGreatDoorX17
namespace Go.Proofs.YtfkcodlceoghpaaGreatDoor
set_option maxHeartbeats 1600000
set_option maxRecDepth 100000
set_option linter.unusedSimpArgs false
set_option linter.unusedVariables false
open Go.RowKit Go.Proofs.Tryz
theorem Ei(K:IntKind)(n:Nat):(Builtin.zeroCells #[Value.int K 0] n).toList=List.replicate n (.int K 0):=by
 apply List.ext_getElem
 .simp[Builtin.zeroCells]
 intro i U a;simp[Builtin.zeroCells,Nat.mod_one]
theorem Dp{tS a:TypeId}{K:IntKind}{b:Nat}(l:prog.underlying tS=some (.slice a))(N:(prog.info? a).map (λi=>(i.zero,i.size,i.bytes))=some (some (.int K 0),1,b))(E:b<=8){w:qW}{B m n:Nat}{v:qv}{xs:qV}(ty:TypeId)(h:w.ownsRow B a 1 v m xs)(F:B<=w.heap.size)(hm:m+n<=2000000):
  ∃p c w',(Builtin.append_ #[tS,3] ty #[v,qJ n]).run prog w=.ok (.slice p (m+n) c) w'/\w'.ownsRow B a 1 (.slice p (m+n) c) (m+n) (xs++List.replicate n (.int K 0))/\w.grownBy w' v.ownBlock/\∀g,(Value.slice p (m+n) c).ownBlock=some g->v.ownBlock=some g\/g=w.heap.size:=by
 obtain⟨s,o,q,t,d⟩:=qap N;have r:prog.underlying 3=some (.int .i64):=qk;have hw:IntKind.i64.wrap (n:Int)=n:=by rw[IntKind.wrap_i64];omega
 have O:¬((n:Int)<0):=qo;have G:IntKind.i64.wrap 0=0:=qx;have H:n*b<=n*8:=Nat.mul_le_mul_left n E;have Z:(m+n)*b<=(m+n)*8:=Nat.mul_le_mul_left (m+n) E;have I:(n:Int)*(b:Int)=((n*b:Nat):Int):=by push_cast;rfl
 have Q:¬(281474976710656<(n:Int)*(b:Int)):=by rw[I];omega
 clear I;have J:=h.1;obtain⟨rfl,rfl⟩ | ⟨g,A,f,rfl,R,y,S,T,H,z⟩:=h.2
 .obtain rfl:xs=[]:=qao (by simpa using J);by_cases h0:n=0
  .subst h0;refine⟨none,0,w,?_,by simpa using qdg w B a 1,⟨rfl,rfl,rfl,qR,λ_ _ _=>rfl⟩,λg e=>by simp[Value.ownBlock]at e⟩;simp[Builtin.append_,qcq l,qcq r,sizeOf,typeInfo,zeroValue,o,q,t,d,asInt,asIntOf,G]
  have U:=Lib.run_append_nil_zeros (P:=prog) w tS 3 ty a s (.int K 0) .i64 .i64 l r o q n qo qo qo (by rw[d];omega);rw[qcf];refine⟨_,_,_,U,?_,⟨rfl,rfl,rfl,by show w.heap.size<=(w.heap.push _).size;simp,λk X _=>by show(w.heap.push _)[k]?=_;rw[Array.getElem?_push,qaa (Nat.ne_of_lt X)]⟩,λg e=>.inr (by simp[Value.ownBlock]at e;exact e.symm)⟩;have C:=grownCap_ge w n 0 a;have D:=grownCap_le_maxLen w n 0 a (by unfold maxLen;omega);refine⟨qs,.inr ⟨w.heap.size,_,_,rfl,F,by show(w.heap.push _)[w.heap.size]?=_;rw[Array.getElem?_push_size],C,D,?_,?_⟩⟩
  .simp[size_zeroCells,show(Value.int K 0).cells= #[Value.int K 0] from rfl];omega
  simp only[Array.toList_append,qck,qay];rw[show(Value.int K 0).cells= #[Value.int K 0] from rfl,Ei K,List.take_left' qs]
 simp only[qck]at H z J;by_cases L:m+n<=A
 .by_cases h0:n=0
  .subst h0;refine⟨some (qA g 0),A,w,?_,by simpa using h,⟨rfl,rfl,rfl,qR,λ_ _ _=>rfl⟩,λk e=>.inl e⟩;simp[Builtin.append_,qcq l,qcq r,sizeOf,typeInfo,zeroValue,o,q,t,d,asInt,asIntOf,G,S,storeCells]
  have M:=run_storeCells_at (P:=prog) g m a (List.replicate n (Value.int K 0)) 0 f w y qt (λv hv=>by have:=List.eq_of_mem_replicate hv;rw[this];rfl);refine⟨some (qA g 0),A,w.setRow g (f.toList.take m++List.replicate n (Value.int K 0)++f.toList.drop (m+n)).toArray,?_,⟨qt,.inr ⟨g,A,_,rfl,R,setRow_heap w g f _ a (0,0) y,L,T,?_,?_⟩⟩,⟨rfl,rfl,rfl,qs,λk X V=>setRow_other w g k _ (λe=>V (by rw[e];rfl))⟩,λk e=>.inl e⟩
  .simp only[qdz,qba]at M;simp[Builtin.append_,qcq l,qcq r,sizeOf,typeInfo,zeroValue,o,q,t,d,asInt,asIntOf,hw,O,Q,L,h0,qdm];rw[show(Value.int K 0).cells= #[Value.int K 0] from rfl,Ei K,M,qaj];rfl
  .simp;omega
  simp only[qck];have hl:(f.toList.take m++List.replicate n (Value.int K 0)).length=m+n:=by simp;omega
  rw[<-z,<-hl,List.take_left]
 have W:(Builtin.firstCells s.size m (qL g m A)).run prog w.drew=.ok xs.toArray w.drew:=by
  refine run_firstCells_some w.drew s.size m ⟨g,0,none⟩ m A xs (by rw[t];omega) (λj u x=>?_);rw[qdm];simp only[qcf];unfold World.cell?;have Y:w.drew.heap[g]?=some (.cells f a (0,0)):=y;simp only[Y];rw[<-z,List.getElem?_take]at x;split at x
  .simpa using x
  cases x
 refine⟨_,_,_,Lib.run_append_grow_zeros (P:=prog) w tS 3 ty a s (.int K 0) .i64 .i64 l r o q (some (qA g 0)) m A xs W n qo qo qo qo (by rw[d];omega) (by rw[d];exact growslice_fits qo qo),?_,⟨rfl,rfl,rfl,by show w.heap.size<=(w.heap.push _).size;simp,λk X _=>by show(w.heap.push _)[k]?=_;rw[Array.getElem?_push,qaa (Nat.ne_of_lt X)]⟩,λk e=>.inr (by simp[Value.ownBlock]at e;exact e.symm)⟩;have C:=grownCap_ge w (m+n) A a;have D:=grownCap_le_maxLen w (m+n) A a (by unfold maxLen;omega);refine⟨qt,.inr ⟨w.heap.size,_,_,rfl,F,by show(w.heap.push _)[w.heap.size]?=_;rw[Array.getElem?_push_size],C,D,?_,?_⟩⟩
 .simp[size_zeroCells,show(Value.int K 0).cells= #[Value.int K 0] from rfl];omega
 simp only[Array.toList_append,qck];rw[show(Value.int K 0).cells= #[Value.int K 0] from rfl,Ei K,List.take_left' qt]
theorem Jn{tS b:TypeId}{d:IntKind}{e:Nat}(f:prog.underlying tS=some (.slice b))(j:(prog.info? b).map (λi=>(i.zero,i.size,i.bytes))=some (some (.int d 0),1,e))(k:e<=8){l:Array Oper}{o:Oper}{a:Act}{w:qW}{K:Act->qW->Prop}{Q:Exit->Act->qW->Prop}{E:Prop}{B m n:Nat}{v:qv}{xs:qV}(q:o.guard=none)(s x:Operand)
  (ho:o.op=.call {callee:=.builtin .append,args:= #[s,x],argTypes:= #[tS,3]}) (r:a.eval s=v) (hx:a.eval x=qJ n)
  (t:w.ownsRow B b 1 v m xs) (u:B<=w.heap.size) (hm:m+n<=2000000)
  (h:∀p c w',w'.ownsRow B b 1 (.slice p (m+n) c) (m+n) (xs++List.replicate n (.int d 0))->w.grownBy w' v.ownBlock->(∀g,(Value.slice p (m+n) c).ownBlock=some g->v.ownBlock=some g\/g=w.heap.size)->K (a.put o.dst (.slice p (m+n) c)) w'):
  if Region.wanted o (yielded l a.tmps)=true then Oper.wp prog o a w K Q else E:=by
 rw[qac (by simp[Region.wanted,q])];obtain⟨p,c,w',y,z,A,C⟩:=Dp f j k o.type t u hm;unfold Oper.wp execOp;simp only[ho,resolve,invoke,builtin,Sem.run_bind,Sem.run_pure,Result.andThen_ok,List.map_toArray,List.map_cons,List.map_nil,r,hx,y];exact h p c w' z A C
theorem Tryz.Tj:(prog.info? 242).map (λi=>(i.zero,i.size,i.bytes))=some (some (.agg #[.pointer none,qJ 0,qJ 0]),3,24):=qk
section
variable {w0 w:qW}{G:Gm}{E:Ev}{Q:Nat->Gf}{rb Y fu most:Nat}{tv fv ev bv:qv}{Xq:List It}{s s':Rn}
theorem wo{v:Rv}{f why:Nat}(h:Sx w0 w (LM G rb Y fu tv fv ev bv most v s Xq))(W:jg Xq G E Q fv)(al:∀F,E.fs[f]?=some F->0<F.bs.length/\F.loc<=100000)(hl:s.stk.length<=300000)(aD:s.lab.length<=100000)(aE:s.eY.length<=50)(hc:nS E f s=some (s',why)):qC 82 #[qP rb,qJ f] w λe w'=>e=.returned (qJ why)/\RA w0 G rb Y fu tv fv ev bv most Xq s' w':=by
 obtain⟨i0,am,an,ao,ap⟩:=qap Tryz.EY;obtain⟨i1,aq,ar,au,aw⟩:=qap Tryz.Tj;unfold nS at hc;obtain⟨a0,b0⟩:=h.c 0 0 rfl rfl;obtain⟨a1,b1⟩:=h.c 4 1 rfl rfl;obtain⟨a4,b4⟩:=h.c 0 4 rfl rfl;have ax:=h.lt 0 rfl;have ay:=h.lt 4 rfl;obtain⟨pl,cl,af⟩:=Row.shape (h.isRow 2 rfl);obtain⟨ps,cs,ag⟩:=Row.shape (h.isRow 1 rfl);obtain⟨U,cf,ah⟩:=Row.shape (h.isRow 3 rfl);obtain⟨vs,vl,vf,R,T⟩:=v;simp only at ah af ag;subst ah af ag;by_cases ad:s.eY.length=50
 .rw[qac ad]at hc;cases hc;have t1:((s.eY.length:Int)==50)=true:=by simp;omega
  have H:=qH h;clear h ad;go_enter func82,ntmps82;go_wp2;go_ret;exact⟨rfl,_,H.o⟩
 rw[qaa ad]at hc;have t1:((s.eY.length:Int)==50)=false:=by simp;omega
 cases I:E.fs[f]? with
 | none=>rw[I]at hc;cases hc
 | some F=>
  rw[I]at hc;simp only at hc;split at hc
  .cases hc
  rename_i aF;obtain⟨aG,aH⟩:=al F I;cases hc;obtain⟨A,rfl,aI⟩:=W.row;have aJ:(f:Int)<(E.fs.length:Int):=by have:=(qae.1 I).1;omega
  obtain⟨pi,ci,aA⟩:=Row.shape ((W.ki f F I).1.row h fG);obtain⟨c0,aK⟩:=W.fn h fG I (o:=0) qo;replace c0:w.cell? ⟨G.fg,f*5,none⟩=some (.slice pi F.ty.ins.length ci):=c0.trans (by rw[<-aA];rfl)
  obtain⟨a2,b2⟩:=h.c 0 2 rfl rfl;have aB:IntKind.i64.wrap ((s.stk.length:Int) - (F.ty.ins.length:Int))=((s.stk.length - F.ty.ins.length:Nat):Int):=by rw[show(s.stk.length:Int) - (F.ty.ins.length:Int)=((s.stk.length - F.ty.ins.length:Nat):Int) by omega];exact qaf _ ⟨qo,qo⟩
  have H:=qH h;clear h;go_enter func82,ntmps82;go_wp2_with fail
  go_quiet (fail)
  go_upto_region 5 with fail
  have X:=(H.o.drewN nq).drew;clear H a0 a1 a2 a4 b0 b1 b2 b4 c0 ax ay;generalize w.drewN nq=w1 at*;obtain⟨fl,ae⟩:=qE (s.stk.length - F.ty.ins.length);have aC:=qH ae;rw[<-ae];clear aB ae;have g:∀(V:qW)(m:It),Sx w0 V (.b rb [qP Y,qJ fu,.slice ps s.stk.length cs,.slice pl s.lab.length cl,.slice U s.eY.length cf]::m::.r 245 2 (.slice pl s.lab.length cl) s.lab.length (s.lab.flatMap (yD G))::.r 242 3 (.slice U s.eY.length cf) s.eY.length (s.eY.flatMap (Rj G))::.b Y [tv,qL G.fg E.fs.length A,ev,bv,R,qJ most,T]::.r 5 1 R s.mem.length (jr s.mem)::.r 2 1 T s.dW.length (eD s.dW)::Xq)->
    V.cell? (qA rb 2)=some (.slice ps s.stk.length cs)/\V.cell? ⟨G.fg,f*5+2,none⟩=some (qJ F.loc):=λV m J=>
   ⟨(J.c 0 2 rfl rfl).1,(W.fn J (λp hp=>by simp[hp]) I (o:=2) qo).1⟩
  have L:=g _ _ X;refine jU (λV:qW=>V.cell? (qA rb 2)=some (.slice ps s.stk.length cs)/\V.cell? ⟨G.fg,f*5+2,none⟩=some (qJ F.loc)) 12 ?_;iterate 9 refine nE L ?_ (hy:=qQ)
  refine jO (λK d=>?_);refine Jn (tS:=29) qk Tryz.Lu qo (by rfl) (.tmp 38) (.tmp 42) (by rfl) (v:=.slice ps s.stk.length cs) (n:=F.loc) (by go_simp) (by go_simp) (X.row 1 rfl) X.kept.size qo ?_;intro m c1 w2 M N O;have Z:=X.upd (k:=1) (S:=λi=>(Value.slice ps s.stk.length cs).ownBlock=some i) rfl (Kept.gH N) (λi e=>e) (p2:=.r 2 1 (.slice m (s.stk.length+F.loc) c1) (s.stk.length+F.loc) (eD s.stk++List.replicate F.loc (Value.int .i64 0))) M (λi e=>(O i e).imp id (λe=>qo));have q:=g _ _ Z;refine d _ _ (.inr q) ?_;clear d K L;simp only[Act.put,qy,qz,qw];iterate 2 refine nE q ?_
  obtain⟨x3,y3⟩:=Z.c 0 2 rfl rfl;have mm:=Z.lt 0 rfl;have B:=Z.set 0 2 (.slice m (s.stk.length+F.loc) c1) rfl;clear X Z M N O g;have C:=qH B;clear B;refine iU (λK d=>?_);go_simp;refine d _ _ ?_;clear d K q;have B:=C.o;generalize w2.setCell (qA rb 2) (.slice m (s.stk.length+F.loc) c1)=w3 at*;clear C x3 y3 mm;simp only[qz,qw]at B;have C:=qH B;clear B;go_upto_region 6 with fail
  have g:∀(V:qW)(p3:It),Sx w0 V (.b rb [qP Y,qJ fu,.slice m (s.stk.length+F.loc) c1,.slice pl s.lab.length cl,.slice U s.eY.length cf]::.r 2 1 (.slice m (s.stk.length+F.loc) c1) (s.stk.length+F.loc) (eD s.stk++List.replicate F.loc (Value.int .i64 0))::.r 245 2 (.slice pl s.lab.length cl) s.lab.length (s.lab.flatMap (yD G))::p3::.b Y [tv,qL G.fg E.fs.length A,ev,bv,R,qJ most,T]::.r 5 1 R s.mem.length (jr s.mem)::.r 2 1 T s.dW.length (eD s.dW)::Xq)->
    V.cell? (qA rb 4)=some (.slice U s.eY.length cf)/\V.cell? (qA rb 3)=some (.slice pl s.lab.length cl):=λV p3 J=>
   ⟨(J.c 0 4 rfl rfl).1,(J.c 0 3 rfl rfl).1⟩
  have L:=g _ _ C.o.drew;refine jU (λV:qW=>V.cell? (qA rb 4)=some (.slice U s.eY.length cf)/\V.cell? (qA rb 3)=some (.slice pl s.lab.length cl)) 16 ?_;iterate 12 refine nE L ?_ (hy:=qQ)
  have y:=(C.o.alloc (.cells #[.pointer (some ⟨G.fg,f*5,none⟩),qJ 0,qJ s.lab.length] 242)).drew;refine jO (λK d=>?_);go_simp;refine d _ _ (.inr (g _ _ y)) ?_;clear d K;have aa:=y.row 3 rfl;refine jO (λK d=>?_);refine step_append_lies _ (by rfl) (.tmp 50) (.tmp 58) 169 (by rfl) w0.heap.size 242 i1 (.agg #[.pointer none,qJ 0,qJ 0]) 3 24 qk aq ar au aw rfl qx (.slice U s.eY.length cf) s.eY.length (s.eY.flatMap (Rj G)) (by go_simp) aa ⟨w3.heap.size,0,none⟩ 1 1 [.pointer (some ⟨G.fg,f*5,none⟩),qJ 0,qJ s.lab.length] (by go_simp) rfl (λj u D=>?c1) ?c2 qo ?c3 ?c4 ?c5 (w3.heap.size+1) qs ?_
  case c1=>exact cells_at (w:=w3) (c:= #[.pointer (some ⟨G.fg,f*5,none⟩),qJ 0,qJ s.lab.length]) (t:=242) rfl rfl j u D
  case c2=>intro u D;simp at D;obtain rfl | rfl | rfl:=D<;>rfl
  case c3=>unfold maxLen;omega
  case c4=>omega
  case c5=>exact y.kept.size
  intro gg cp w4 M N O ai;have z:=y.app 3 M N (by obtain c | c:=O;exact .inl c;exact .inr qt) rfl;have q:=g _ _ z;refine d _ _ (.inr q) ?_;clear d K L;simp only[Act.put,qy,qz,qw];iterate 2 refine nE q ?_
  obtain⟨x3,y3⟩:=z.c 0 4 rfl rfl;have mm:=z.lt 0 rfl;have ab:=z.set 0 4 (qL gg (s.eY.length+1) cp) rfl;have ac:=qH ab;clear y z ab aa M N O C g;refine iU (λK d=>?_);go_simp;refine d _ _ ?_;clear d K q;have B:=ac.o;generalize w4.setCell (qA rb 4) (qL gg (s.eY.length+1) cp)=w5 at*;clear ac x3 y3 mm ai;simp only[qz,qw]at B;have C:=qH B;clear B;go_upto_region 7 with fail
  have aL:(0:Int)<(F.bs.length:Int):=qo;have g:∀(V:qW)(p2:It),Sx w0 V (.b rb [qP Y,qJ fu,.slice m (s.stk.length+F.loc) c1,.slice pl s.lab.length cl,qL gg (s.eY.length+1) cp]::.r 2 1 (.slice m (s.stk.length+F.loc) c1) (s.stk.length+F.loc) (eD s.stk++List.replicate F.loc (Value.int .i64 0))::p2::.r 242 3 (qL gg (s.eY.length+1) cp) (s.eY.length+1) (s.eY.flatMap (Rj G)++[.pointer (some ⟨G.fg,f*5,none⟩),qJ 0,qJ s.lab.length])::.b Y [tv,qL G.fg E.fs.length A,ev,bv,R,qJ most,T]::.r 5 1 R s.mem.length (jr s.mem)::.r 2 1 T s.dW.length (eD s.dW)::Xq)->
    V.cell? (qA rb 3)=some (.slice pl s.lab.length cl)/\V.cell? ⟨G.fg,f*5+3,none⟩=some (.slice (some ⟨G.bg f,0,none⟩) F.bs.length (Q f).bc):=λV p2 J=>
   ⟨(J.c 0 3 rfl rfl).1,(W.fn J (λp hp=>by simp[hp]) I (o:=3) qo).1⟩
  have L:=g _ _ C.o.drew;refine jU (λV:qW=>V.cell? (qA rb 3)=some (.slice pl s.lab.length cl)/\V.cell? ⟨G.fg,f*5+3,none⟩=some (.slice (some ⟨G.bg f,0,none⟩) F.bs.length (Q f).bc)) 16 ?_;iterate 12 refine nE L ?_ (hy:=qQ)
  have y:=(C.o.alloc (.cells #[.pointer (some ⟨G.bg f,0,none⟩),qJ fl] 245)).drew;refine jO (λK d=>?_);go_simp;refine d _ _ (.inr (g _ _ y)) ?_;clear d K;have aa:=y.row 2 rfl;refine jO (λK d=>?_);refine step_append_lies _ (by rfl) (.tmp 66) (.tmp 74) 168 (by rfl) w0.heap.size 245 i0 (.agg #[.pointer none,qJ 0]) 2 16 qk am an ao ap rfl qx (.slice pl s.lab.length cl) s.lab.length (s.lab.flatMap (yD G)) (by go_simp) aa ⟨w5.heap.size,0,none⟩ 1 1 [.pointer (some ⟨G.bg f,0,none⟩),qJ fl] (by go_simp) rfl (λj u D=>?c1) ?c2 qo ?c3 ?c4 ?c5 (w5.heap.size+1) qs ?_
  case c1=>exact cells_at (w:=w5) (c:= #[.pointer (some ⟨G.bg f,0,none⟩),qJ fl]) (t:=245) rfl rfl j u D
  case c2=>intro u D;simp at D;obtain rfl | rfl:=D<;>rfl
  case c3=>unfold maxLen;omega
  case c4=>omega
  case c5=>exact y.kept.size
  intro aj ak w6 M N O ai;have z:=y.app 2 M N (by obtain c | c:=O;exact .inl c;exact .inr qt) rfl;have q:=g _ _ z;refine d _ _ (.inr q) ?_;clear d K L;simp only[Act.put,qy,qz,qw];iterate 2 refine nE q ?_
  obtain⟨x3,y3⟩:=z.c 0 3 rfl rfl;have mm:=z.lt 0 rfl;have ab:=z.set 0 3 (qL aj (s.lab.length+1) ak) rfl;have ac:=qH ab;clear y z ab aa M N O C g;refine iU (λK d=>?_);go_simp;refine d _ _ ?_;clear d K q;go_wp2;go_ret;refine⟨rfl,⟨.slice m (s.stk.length+F.loc) c1,qL aj (s.lab.length+1) ak,qL gg (s.eY.length+1) cp,R,T⟩,?_⟩;have:=ac.o;rw[<-aC.o];simp only[LM,qz,qw]at this ⊢;simpa [yD,Rj,eD] using this
end
end Go.Proofs.YtfkcodlceoghpaaGreatDoor
