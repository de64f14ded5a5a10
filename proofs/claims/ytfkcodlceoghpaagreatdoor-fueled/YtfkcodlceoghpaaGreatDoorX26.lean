import Derived.Deep.LoopGhost
import Derived.Test.YtfkcodlceoghpaaGreatDoorX25
namespace Go.Proofs.YtfkcodlceoghpaaGreatDoor
set_option maxHeartbeats 3200000
set_option maxRecDepth 100000
set_option linter.unusedSimpArgs false
set_option linter.unusedVariables false
open Go.RowKit Go.Proofs.Tryz
theorem Tryz.Vk:(prog.info? 85).map (λi=>(i.zero,i.size,i.bytes))=some (some (qI 0),1,4):=qk
def lC(l:List (Int×Nat)):List Nat:=l.map (·.1.toNat)
section
variable {w:qW}{ok:qD}{x j e b:Nat}{y:fO}{pg pq:qO}{cg cq:Nat}
theorem sN(s:isRow 93 2 numCells ok y.dA w (qX pq y.dA cq))(hl:y.dA.length<=50)(h0:0<=y.num.1)(U:∀z∈y.dA,0<=z.1):
  qC 136 #[.agg (yC j e x y (qX pg y.dL cg) (qX pq y.dA cq)).toArray,qJ b] w λe w'=>∃d,e=.returned (.agg (Gv (stepOf (j,x,y) b) d).toArray)/\Sx w w' [.r 85 1 d y.dA.length (jC (lC y.dA))]:=by
 obtain⟨V,W,X,Y,Z⟩:=qap Tryz.Vk;obtain⟨num,t⟩:∃n:Nat,y.num.1=n:=⟨y.num.1.toNat,qo⟩;have G:∀d,Gv (stepOf (j,x,y) b) d=[qB x,qJ b,qI num,d,qJ y.val]:=λd=>by unfold Gv stepOf;simp[t]
 have aa:=qH G;obtain⟨typed,dL,align,⟨nu,H⟩,dA,val⟩:=y;simp only at t s hl U h0 ⊢;subst t;have B:=((((Sx.start w).new (yC j e x ⟨typed,dL,align,((num:Int),H),dA,val⟩ (qX pg dL cg) (qX pq dA cq)).toArray 195).new #[qB 0,qJ 0,qI 0,qN,qJ 0] 234).new #[qB x,qJ b,qI num,qN,qJ val] 234).nil 85 1;simp only[qay,qax,qbn]at B;have HL:=qH s;have C:=qH B;have H1:=qH U;clear B s G U;go_enter func136,ntmps136;go_wp2_with fail
 obtain⟨l,I⟩:=qE w.heap.size;rw[<-I]at C ⊢;have ab:qh (l+1+1<w.heap.size+1+1+1):=by show _<_;omega
 clear I;go_loopg [7,20] dA.length (λgk u7 ac wr=>∃(i:Nat)(d:qv),gk=dA.length - i/\i<=dA.length/\ac=qJ i/\Sx w wr [.b l (yC j e x ⟨typed,dL,align,((num:Int),H),dA,val⟩ (qX pg dL cg) (qX pq dA cq)),.b (l+1) [qB 0,qJ 0,qI 0,qN,qJ 0],.b (l+1+1) [qB x,qJ b,qI num,d,qJ val],.r 85 1 d i (jC (lC (dA.take i)))])
 case atStart=>exact⟨0,_,rfl,qZ,rfl,C.o⟩
 clear C ab;obtain⟨i,d,ad,hi,rfl,a⟩:=hrel;by_cases h:i<dA.length
 .have t1:(i:Int)<(dA.length:Int):=qo;obtain⟨J,ae,hv,-,af,-,D⟩:=Row.cells (Row.kept HL.o a.kept (λ_ _ _ c=>c)) qo;cases hv;obtain⟨z,g⟩:∃z,dA[i]?=some z:=⟨_,qab h⟩;have K:=H1.o z (qai g);have c0:wr.cell? ⟨J,i*2,none⟩=some (qI z.1):=(D (i*2) qo).trans (flat_get (m:=2) (o:=0) (λ_=>rfl) g qo);have c1:wr.cell? ⟨J,i*2+1,none⟩=some (qJ z.2):=(D (i*2+1) qo).trans (flat_get (m:=2) (o:=1) (λ_=>rfl) g qo);obtain⟨L,za⟩:=z;simp only at c0 c1 K;obtain⟨E,rfl⟩:∃k:Nat,L=k:=⟨L.toNat,qo⟩;have HZ:qh (jC (lC (dA.take (i+1)))=jC (lC (dA.take i))++[qI E]):=by
   show _=_;rw[qab h]at g;rw[qbg h,Option.some.inj g];simp[jC,lC]
  obtain⟨pl,cl,F⟩:=Row.shape (a.isRow 3 rfl);subst F;obtain⟨a3,d3⟩:=a.c 2 3 rfl rfl;have ag:=a.lt 2 rfl;have p:=qH ((a.alloc (.cells #[qI E,qJ za] 93)).alloc (.cells #[qI E] 85));have M:=qH h;clear a D g K;go_wp2_with (at_builtin;refine wpList_append_lies _ rfl _ _ 232 rfl w.heap.size 85 V (qI 0) 1 4 qk W X Y Z rfl qx _ _ _ rfl (p.o.row 3 rfl) ⟨_,0,none⟩ 1 1 [_] rfl rfl (cells_at qs rfl) ?c2 qo ?c3 ?c4 ?c5 (wr.heap.size+1+1) qs ?_)
  case c2=>first | rfl | (intro u N;simp at N;subst N;rfl)
  case c3=>unfold maxLen;omega
  case c4=>omega
  case c5=>exact p.o.kept.size
  intro O A w3 P Q R ah;have q:=p.o.app 3 P Q (by obtain c | c:=R;exact .inl c;exact .inr qt) rfl;obtain⟨d2,f2⟩:=q.c 2 3 rfl rfl;have ai:=q.lt 2 rfl;have S:=q.set 2 3 (qL O (i+1) A) rfl;have H4:=qH S;clear P Q R q S p;go_wp2;go_roundg (dA.length - (i+1))
  case measure=>have:=M.o;omega
  refine⟨i+1,qL O (i+1) A,rfl,M.o,by push_cast;rfl,?_⟩;rw[HZ.o];exact H4.o
 have t1:¬(i:Int)<(dA.length:Int):=qo;have T:i=dA.length:=qo;rw[T,List.take_length]at a;obtain⟨pl,cl,F⟩:=Row.shape (a.isRow 3 rfl);subst F;obtain⟨z0,-⟩:=a.c 2 0 rfl rfl;obtain⟨z1,-⟩:=a.c 2 1 rfl rfl;obtain⟨z2,-⟩:=a.c 2 2 rfl rfl;obtain⟨z3,-⟩:=a.c 2 3 rfl rfl;obtain⟨z4,-⟩:=a.c 2 4 rfl rfl;obtain⟨y0,x0⟩:=a.c 1 0 rfl rfl;obtain⟨y1,x1⟩:=a.c 1 1 rfl rfl;obtain⟨y2,x2⟩:=a.c 1 2 rfl rfl;obtain⟨y3,x3⟩:=a.c 1 3 rfl rfl;obtain⟨y4,x4⟩:=a.c 1 4 rfl rfl;have m1:=a.lt 1 rfl;have m2:=a.lt 2 rfl;have f:=((((a.set 1 0 (qB x) rfl).set 1 1 (qJ b) rfl).set 1 2 (qI num) rfl).set 1 3 (qX pl dA cl) rfl).set 1 4 (qJ val) rfl;obtain⟨r0,-⟩:=f.c 1 0 rfl rfl;obtain⟨r1,-⟩:=f.c 1 1 rfl rfl;obtain⟨r2,-⟩:=f.c 1 2 rfl rfl;obtain⟨r3,-⟩:=f.c 1 3 rfl rfl;obtain⟨r4,-⟩:=f.c 1 4 rfl rfl;have H8:=qH f;clear a f T h;go_wp2;refine qal (v:=.agg #[qB x,qJ b,qI num,qX pl dA cl,qJ val]) ?_ rfl ?_
 .simp[results,results136,go_sem,r0,r1,r2,r3,r4]
 exact⟨_,by rw[aa.o],H8.o.sub (.cons _ (.cons _ (.cons _ (qbf _))))⟩
end
theorem Hr{b:Type}{f:b->qV}{m:Nat}(hf:∀x,(f x).length=m){o:Nat}(ho:o<m){v:qv}:∀{l:List b}{k:Nat}{x x':b},l[k]?=some x->f x'=(f x).set o v->(l.flatMap f).set (k*m+o) v=(l.set k x').flatMap f
 | [],k,x,x',h,_=>by simp at h
 | a::l,0,x,x',h,L=>by
  simp at h;subst h;simp only[qci,qz,Nat.zero_mul,qcf];rw[List.set_append_left _ _ (by rw[hf];exact ho),L]
 | a::l,k+1,x,x',h,L=>by
  have:=Hr hf ho (l:=l) (k:=k) (x':=x') (by simpa using h) L;simp only[qci,qw];rw[qcp _ _ (by rw[hf,Nat.succ_mul];omega),hf,<-this];congr 2
  rw[Nat.succ_mul];omega
def tK(ss:List PS)(IU:Nat->Value):List Value:=(List.range ss.length).flatMap λk=>Gv (ss.getD k ⟨0,0,0,[],0⟩) (IU k)
abbrev PL(fb:Nat)(iv ov lc Sr OY:Value)(bs:List PB)(ss:List PS)(IU:Nat->Value)(Yq:List It):List It:=
 .b fb [iv,ov,lc,Sr,OY]::.r 230 5 Sr bs.length (bs.flatMap uu)::.r 234 5 OY ss.length (tK ss IU)::Yq
section
variable {w0 w:qW}{fb:Nat}{iv ov lc Sr OY:qv}{bs:List PB}{ss:List PS}{IU:Nat->qv}{Yq:List It}
theorem PL.set{k o g c:Nat}{b b':PB}{v:qv}(h:Sx w0 w (PL fb iv ov lc (qL g bs.length c) OY bs ss IU Yq))(X:bs[k]?=some b)(ho:o<5)(hb:uu b'=(uu b).set o v):Sx w0 (w.setCell ⟨g,k*5+o,none⟩ v) (PL fb iv ov lc (qL g bs.length c) OY (bs.set k b') ss IU Yq):=by
 have U:=h.EG 1 (k*5+o) v rfl;rw[Hr (m:=5) (λ_=>rfl) ho X hb]at U;simp only[PL,List.length_set,qz,qw]at U ⊢;exact U
theorem Ga{f:PB->PB}{k:Nat}{b:PB}(X:bs[k]?=some b):setB bs k f=bs.set k (f b):=by
 unfold setB;rw[sW X]
theorem Fe{k:Nat}(h:Sx w0 w (PL fb iv ov lc Sr OY bs ss IU Yq))(X:k<bs.length)(u:ss.length<=100000):
  qC 135 #[qP fb,qJ k] w λe w'=>qU e/\Sx w0 w' (PL fb iv ov lc Sr OY (setB bs k λb=>if b.lp then b else {b with tg:=ss.length+1}) ss IU Yq):=by
 obtain⟨g,c,hv,-,y,hc,f⟩:=Row.cells (h.isRow 1 rfl) qo;subst hv;obtain⟨b,hb⟩:∃b,bs[k]?=some b:=⟨_,qab X⟩;obtain⟨ps,cs,q⟩:=Row.shape (h.isRow 2 rfl);subst q;obtain⟨r,z⟩:=h.c 0 3 rfl rfl;obtain⟨s,A⟩:=h.c 0 4 rfl rfl;have B:=h.lt 0 rfl;have c0:w.cell? ⟨g,k*5,none⟩=some (.bool b.lp):=(f (k*5) qo).trans (flat_get (m:=5) (o:=0) (λ_=>rfl) hb qo);have c3:w.cell? ⟨g,k*5+3,none⟩=some (qJ b.tg):=(f (k*5+3) qo).trans (flat_get (m:=5) (o:=3) (λ_=>rfl) hb qo);have C:=h.vM 1 (k*5+3) rfl;have D:(k:Int)<(bs.length:Int):=qo;rw[Ga hb];cases d:b.lp with
 | true=>
  rw[d]at c0;have i:qh (bs.set k (if b.lp=true then b else {b with tg:=ss.length+1})=bs):=by
   show _=_;rw[d,qac rfl];obtain⟨U,rfl⟩:=qae.1 hb;exact List.set_getElem_self U
  rw[qac d]at i;have H:=qH h;clear h f hb;go_enter func135,ntmps135;go_wp2;go_end0;simp only[qda];rw[i.o];exact⟨trivial,H.o⟩
 | false=>
  rw[d]at c0;have j:=(PL.set (o:=3) (v:=qJ ((ss.length:Int)+1)) (b':=⟨false,b.tk,b.ca,ss.length+1,b.el⟩) h hb qo (by unfold uu;simp[d])).drew;have hw:IntKind.i64.wrap ((ss.length:Int)+1)=(ss.length:Int)+1:=qaf _ ⟨qo,qo⟩;have t:=qH j;have n:(λV:qW=>V.cell? (qA fb 3)=some (qL g bs.length c)/\V.cell? (qA fb 4)=some (qX ps ss cs)) w.drew:=⟨r,s⟩;clear h f hb j;go_enter func135,ntmps135;go_wp2_with fail
  refine jU (λV:qW=>V.cell? (qA fb 3)=some (qL g bs.length c)/\V.cell? (qA fb 4)=some (qX ps ss cs)) 13 ?_;iterate 13 refine nE n ?_ (hy:=qQ)
  refine iU (λK p=>?_);go_simp;refine p _ _ ?_;clear p K n;go_wp2;go_end0;simp only[qbu,qct];exact⟨trivial,t.o⟩
end
section
variable {w0 w:qW}{G:Gm}{E:Ev}{Q:Nat->Gf}{rb Y fu most:Nat}{tv fv ev bv:qv}{Xq:List It}{s s1:Rn}{f k:Nat}{F:PF}{p:PS}
theorem sQ{v:Rv}{a:Int}{r:qv}(h:Sx w0 w (LM G rb Y fu tv fv ev bv most v s Xq))(N:jg Xq G E Q fv)(O:E.fs[f]?=some F)(X:F.ss[k]?=some p)(aj:p.num<4294967296)(hl:s.stk.length<=300000)(hm:s.mem.length<=700000)(hp:s.pop=some (a,s1))
  (j:s.mem.length<u32 a+p.num+oI p.wd->r=.tuple #[qN,.bool false])
  (n:u32 a+p.num+oI p.wd<=s.mem.length->∃z q,v.m=qL z s.mem.length q/\r=.tuple #[.slice (some ⟨z,u32 a+p.num,none⟩) (oI p.wd) (q - (u32 a+p.num)),.bool true]):
  qC 296 #[qP rb,.pointer (some ⟨G.sg f,k*5,none⟩)] w λe w'=>e=.returned r/\∃vs,Sx w0 w' (LM G rb Y fu tv fv ev bv most ⟨vs,v.l,v.f,v.m,v.g⟩ s1 Xq):=by
 have R:qh (∀V l,Sx w0 V l->(∀p∈Xq,p∈l)->V.cell? ⟨G.sg f,k*5+2,none⟩=some (qI p.num)/\G.sg f<V.heap.size):=λV l hV hl=>N.Jm hV hl O X (o:=2) qo;obtain⟨c0,ak⟩:=N.Jm h fG O X (o:=0) qo;replace c0:w.cell? ⟨G.sg f,k*5,none⟩=some (qB p.wd):=c0
 have B:=qH (yl p.wd w);have ac:qh (s1.mem=s.mem):=(eZ hp).2.2.1;have H:=qH h;have T:=qH (um h.drew hl hp);obtain⟨sz,C⟩:=qE (oI p.wd);have D:(mG p.wd=0/\sz=1)\/(mG p.wd=3/\sz=8)\/(mG p.wd=2/\sz=4):=by
  rw[C];unfold mG oI;by_cases I:p.wd=44\/p.wd=45\/p.wd=58
  .simp[I]
  by_cases U:p.wd=41\/p.wd=55
  .simp[I,U]
  simp[I,U]
 rw[<-C]at j n;obtain⟨us,W⟩:=qE (mG p.wd);rw[<-W]at D B;clear h hp W C;go_enter func296,ntmps296;go_wp2_with fail
 refine B.o.mono ?_;rintro e w1⟨rfl,rfl⟩;clear B;have ad:us.toNat<64:=qo;go_upto_region 2 with fail
 have Z:wrap64 (2 ^ us.toNat)=(sz:Int):=by obtain⟨rfl,rfl⟩ | ⟨rfl,rfl⟩ | ⟨rfl,rfl⟩:=D<;>first | omega | (rw[<-IntKind.wrap_i64];decide) | (simp;omega) | kernel_rfl
 have al:sz<=8/\1<=sz:=qo;rw[Z];clear Z D ad c0;have am:=wrap_u32 a;have an:=rF a;generalize u32 a=u at*;have ao:IntKind.i64.wrap (u:Int)=(u:Int):=qaf _ ⟨qo,qo⟩;have ap:IntKind.i64.wrap (p.num:Int)=(p.num:Int):=qaf _ ⟨qo,qo⟩;obtain⟨fr,aa⟩:=qE (u+p.num);rw[<-aa]at j n;have aq:IntKind.i64.wrap ((u:Int)+(p.num:Int))=(fr:Int):=by rw[show(u:Int)+(p.num:Int)=(fr:Int) by omega];exact qaf _ ⟨qo,qo⟩
 have ar:fr<8589934592:=qo;have ae:IntKind.i64.wrap ((fr:Int)+(sz:Int))=((fr+sz:Nat):Int):=by rw[show(fr:Int)+(sz:Int)=((fr+sz:Nat):Int) by omega];exact qaf _ ⟨qo,qo⟩
 clear aa;have i:w1.drew.cell? ⟨G.sg f,k*5+2,none⟩=some (qI p.num):=(R.o _ _ H.o.drew fG).1;refine jU (λV:qW=>V.cell? ⟨G.sg f,k*5+2,none⟩=some (qI p.num)) 10 ?_;refine nE i ?_;unfold jh;refine jb 4 i ?_;refine jb 5 i ?_;refine jb 6 i ?_;refine jb 7 i ?_ (hy:=qu);refine jb 8 i ?_;refine oJ 1 (λK t=>?_);refine dP (f:=256) (args:= #[qP rb]) (by rfl) (by go_simp) T.o ?_;rintro e w2⟨rfl,vs,b⟩;have y:w2.cell? ⟨G.sg f,k*5+2,none⟩=some (qI p.num):=(R.o _ _ b fG).1;refine⟨_,rfl,t _ _ (.inr y) ?_⟩;clear t K i T;simp only[Act.put,qy,qz,qw];refine jb 2 y ?_;refine jb 3 y ?_;refine jb 9 y ?_;obtain⟨a0,b0⟩:=b.c 0 0 rfl rfl;obtain⟨a4,b4⟩:=b.c 4 4 rfl rfl;have au:=b.lt 0 rfl;have aw:=b.lt 4 rfl;have A:s1.mem=s.mem:=ac.o;obtain⟨pm,q,d⟩:=Row.shape (b.isRow 5 rfl);refine xE (λK t=>?_);go_simp;refine t _ _ ?_;clear t K y;simp only at d a4;rw[A]at d;rw[d]at a4;by_cases hb:s.mem.length<fr+sz
 .have J:=qH (j hb);have ax:(s.mem.length:Int)<((fr+sz:Nat):Int):=qo;have L:=qH b;generalize fr+sz=fz at*;clear b j n hb d;go_wp2;refine qal (v:=.tuple #[qN,.bool false]) ?_ rfl ?_
  .simp[results,results296]
  exact⟨by rw[J.o],_,L.o⟩
 obtain⟨z,ay,M,e2⟩:=n qo;rw[M]at d;cases d;have af:¬(s.mem.length:Int)<((fr+sz:Nat):Int):=qo;obtain⟨aA,aB,d,-,aC,ag,-⟩:=Row.cells (b.isRow 5 rfl) (show 0<s1.mem.length by rw[A];omega);simp only at d;rw[M,A]at d;cases d;rw[A]at ag;have J:=qH e2;have L:=qH b;have ah:((fr+sz:Nat):Int)<=(q:Int):=qo;have ai:(fr:Int)<=((fr+sz:Nat):Int):=qo;have hd:fr+sz - fr=sz:=qo;obtain⟨fz,ab⟩:=qE (fr+sz);rw[<-ab]at af ah ai hd ae;clear b j n hb M e2 ab;go_wp2;refine qal (v:=.tuple #[.slice (some (qA z fr)) sz (q - fr),.bool true]) ?_ rfl ?_
 .simp[results,results296,hd]
 exact⟨by rw[J.o],_,L.o⟩
end
section
variable {w0 w:qW}{G:Gm}{E:Ev}{Q:Nat->Gf}{rb Y fu most:Nat}{tv fv ev bv:qv}{Xq:List It}{s s':Rn}{f k:Nat}{F:PF}{p:PS}
theorem PG{why:Nat}(h:RA w0 G rb Y fu tv fv ev bv most Xq s w)(hF:jg Xq G E Q fv)(aa:E.fs[f]?=some F)(X:F.ss[k]?=some p)(hl:s.stk.length<=300000)(hm:s.mem.length<=700000)(ab:most<=10000)(ac:E.most=most)(hc:lD E p s=some (s',why))
  (i:(p.wd=54\/p.wd=55\/p.wd=58)->qC 261 #[qP rb,.pointer (some ⟨G.sg f,k*5,none⟩)] w λe w'=>e=.returned (qJ why)/\RA w0 G rb Y fu tv fv ev bv most Xq s' w')
  (j:¬p.wd=63->¬p.wd=64->¬(p.wd=54\/p.wd=55\/p.wd=58)->qC 262 #[qP rb,.pointer (some ⟨G.sg f,k*5,none⟩)] w λe w'=>e=.returned (qJ why)/\RA w0 G rb Y fu tv fv ev bv most Xq s' w'):
  qC 197 #[qP rb,.pointer (some ⟨G.sg f,k*5,none⟩)] w λe w'=>e=.returned (qJ why)/\RA w0 G rb Y fu tv fv ev bv most Xq s' w':=by
 obtain⟨v,h⟩:=h;obtain⟨c0,ad⟩:=hF.Jm h fG aa X (o:=0) qo;replace c0:w.cell? ⟨G.sg f,k*5,none⟩=some (qB p.wd):=c0
 obtain⟨a0,b0⟩:=h.c 0 0 rfl rfl;have ae:=h.lt 0 rfl;unfold lD at hc;by_cases d:p.wd=63
 .rw[qac d]at hc;cases hc;rw[d]at c0;replace c0:w.cell? ⟨G.sg f,k*5,none⟩=some (qB 63):=c0
  have z:=qH (vY h qo);obtain⟨pg,H⟩:=qE (s.mem.length / 64);rw[<-H]at z ⊢;have I:=qH (iw ⟨v,h⟩ hl (pg:Int));clear h H i j d;go_enter func197,ntmps197;go_wp2_with fail
  refine z.o.mono ?_;rintro e J⟨rfl,rfl⟩;clear z;go_wp2_with fail
  refine I.o.mono ?_;rintro e w2⟨rfl,L⟩;have H2:=qH L;clear L I;go_wp2;go_ret;exact⟨rfl,H2.o⟩
 rw[qaa d]at hc;have r:((p.wd:Int)==63)=false:=by simp;omega
 by_cases g:p.wd=64
 .rw[qac g]at hc;cases hp:s.pop with
  | none=>rw[hp]at hc;cases hc
  | some ns=>
   obtain⟨n,t⟩:=ns;rw[hp]at hc;simp only at hc;rw[g]at c0;replace c0:w.cell? ⟨G.sg f,k*5,none⟩=some (qB 64):=c0
   obtain⟨p1,p2,M,-,p5⟩:=eZ hp;have N:t.mem.length<=700000:=by rw[M];exact hm
   have O:t.stk.length<=300000:=qo;have R:=qH (um h.drew hl hp);have af:=wrap_u32 n;have T:=rF n;generalize u32 n=u at*;have W:w.drew.cell? (qA rb 0)=some (qP Y):=a0;have A:=qH hc;rw[ac]at A;clear h hp i j g d p1 p2 M p5 hc r;go_enter func197,ntmps197;go_upto_region 6 with fail
   refine jU (λV:qW=>V.cell? (qA rb 0)=some (qP Y)) 9 ?_;iterate 6 refine nE W ?_ (hy:=qu)
   refine jO (λK b=>?_);refine dP (f:=256) (args:= #[qP rb]) (by rfl) (by go_simp) R.o ?_;rintro e J⟨rfl,vs,U⟩;have m:J.cell? (qA rb 0)=some (qP Y):=(U.c 0 0 rfl rfl).1;refine⟨_,rfl,b _ _ (.inr m) ?_⟩;clear b K W R;simp only[Act.put,qy,qz,qw];refine nE m ?_;have hc:=A.o;clear A;by_cases B:t.mem.length / 64+u<=most
   .rw[qac B]at hc;cases hc;refine jO (λK b=>?_);refine dP (f:=260) (args:= #[qP Y,qI u]) (by rfl) (by go_simp) (MK U N T ab B) ?_;rintro e w2⟨rfl,L⟩;have Z:w2.cell? (qA rb 0)=some (qP Y):=by obtain⟨v2,L⟩:=L;exact(L.c 0 0 rfl rfl).1
    refine⟨_,rfl,b _ _ (.inr Z) ?_⟩;clear b K m U;simp only[Act.put,qy,qz,qw];refine iU (λK b=>?_);refine dP (f:=80) (args:= #[qP rb,qJ ((t.mem.length / 64:Nat):Int)]) (by rfl) (by go_simp) (iw L O _) ?_;rintro e w3⟨rfl,q⟩;refine⟨_,rfl,b _ _ ?_⟩;have C:=qH q;clear b K Z q L;go_wp2;go_ret;exact⟨rfl,C.o⟩
   rw[qaa B]at hc;cases hc;refine jO (λK b=>?_);refine dP (f:=260) (args:= #[qP Y,qI u]) (by rfl) (by go_simp) (PK U N T qo) ?_;rintro e w2⟨rfl,rfl⟩;refine⟨_,rfl,b _ _ (.inr m) ?_⟩;clear b K;simp only[Act.put,qy,qz,qw];refine iU (λK b=>?_);refine dP (f:=80) (args:= #[qP rb,qJ (-1)]) (by rfl) (by go_simp) (iw ⟨_,U⟩ O _) ?_;rintro e w3⟨rfl,q⟩;refine⟨_,rfl,b _ _ ?_⟩;have C:=qH q;clear b K m q U;go_wp2;go_ret;exact⟨rfl,C.o⟩
 rw[qaa g]at hc;have D:((p.wd:Int)==64)=false:=by simp;omega
 by_cases y:p.wd=54\/p.wd=55\/p.wd=58
 .have HO:=qH (i y);clear h hc i j d g;obtain e | e | e:=y
  .rw[e]at c0;replace c0:w.cell? ⟨G.sg f,k*5,none⟩=some (qB 54):=c0
   clear r D;go_enter func197,ntmps197;exact Dn
  .rw[e]at c0;replace c0:w.cell? ⟨G.sg f,k*5,none⟩=some (qB 55):=c0
   clear r D;go_enter func197,ntmps197;exact Dn
  rw[e]at c0;replace c0:w.cell? ⟨G.sg f,k*5,none⟩=some (qB 58):=c0
  clear r D;go_enter func197,ntmps197;exact Dn
 have ag:((p.wd:Int)==54)=false:=by simp;omega
 have ah:((p.wd:Int)==55)=false:=by simp;omega
 have ai:((p.wd:Int)==58)=false:=by simp;omega
 have HO:=qH (j d g y);clear h hc i j d g y;go_enter func197,ntmps197;exact Dn
end
def u64(n:Int):Int:=IntKind.u64.wrap n
def OZ(n:Int):Int:=wrap64 (wrap32 n)
def Un(n:Int):Int:=IntKind.i64.wrap n
theorem u64_in(n:Int):0<=u64 n/\u64 n<18446744073709551616:=by unfold u64;rw[qcy];omega
section
variable {w0 w:qW}{G:Gm}{E:Ev}{Q:Nat->Gf}{rb Y fu most:Nat}{tv fv ev bv:qv}{Xq:List It}{s s1 s2 s':Rn}{f k:Nat}{F:PF}{p:PS}{T:Nat->Int}
theorem RA.gz(h:RA w0 G rb Y fu tv fv ev bv most Xq s w)(a:Gz T w0):Gz T w:=by obtain⟨v,h⟩:=h;exact a.kept h.kept
theorem PX{a b:Int}{r:Bool}(h:RA w0 G rb Y fu tv fv ev bv most Xq s w)(hl:s.stk.length<=300000)(hb:s.pop=some (b,s1))(c:s1.pop=some (a,s2))(X:¬(k:Int)=0)(d:∀w:qW,qC 298 #[qB k,qI (u32 a:Nat),qI (u32 b:Nat)] w λe w'=>e=.returned (.bool r)/\w'=w):
  qC 263 #[qP rb,qB k] w λe w'=>qU e/\RA w0 G rb Y fu tv fv ev bv most Xq (s2.put (if r then 1 else 0)) w':=by
 obtain⟨-,-,-,-,j⟩:=eZ hb;obtain⟨-,-,-,-,l⟩:=eZ c;have n:=wrap_u32 a;have q:=wrap_u32 b;have t:((k:Int)==0)=false:=by simpa using X
 have g:=qH (fI h hl hb);have i:=qH (λw (h:RA w0 G rb Y fu tv fv ev bv most Xq s1 w)=>fI h qo c);have HP:=qH (λw (h:RA w0 G rb Y fu tv fv ev bv most Xq s2 w)=>iw h qo (if r then 1 else 0));have HR:=qH d;clear h hb c j l hl d;go_enter func263,ntmps263;go_wp2_with fail
 refine g.o.mono ?_;rintro e u⟨rfl,U⟩;have m:=qH (i.o _ U);clear U g i;go_wp2_with fail
 refine m.o.mono ?_;exact Uj
theorem PY{a:Int}{r:Bool}(h:RA w0 G rb Y fu tv fv ev bv most Xq s w)(hl:s.stk.length<=300000)(b:s.pop=some (a,s2))(c:∀w:qW,qC 298 #[qB 0,qI (u32 a:Nat),qI 0] w λe w'=>e=.returned (.bool r)/\w'=w):
  qC 263 #[qP rb,qB 0] w λe w'=>qU e/\RA w0 G rb Y fu tv fv ev bv most Xq (s2.put (if r then 1 else 0)) w':=by
 obtain⟨-,-,-,-,d⟩:=eZ b;have i:=wrap_u32 a;have g:=qH (fI h hl b);have HP:=qH (λw (h:RA w0 G rb Y fu tv fv ev bv most Xq s2 w)=>iw h qo (if r then 1 else 0));have HR:=qH c;clear h b d hl c;go_enter func263,ntmps263;go_wp2_with fail
 refine g.o.mono ?_;exact Uj
theorem PT{a b:Int}{r:Int}{y:Nat}(h:RA w0 G rb Y fu tv fv ev bv most Xq s w)(d:Gz T w0)(hl:s.stk.length<=300000)(hb:s.pop=some (b,s1))(c:s1.pop=some (a,s2))(X:2<(k:Int))(g:∀w:qW,Gz T w->qC 300 #[qB k,qI (u32 a:Nat),qI (u32 b:Nat)] w λe w'=>e=.returned (.tuple #[qI r,qJ y])/\∃q,w'=w.drewN q):
  qC 265 #[qP rb,qB k] w λe w'=>e=.returned (qJ y)/\RA w0 G rb Y fu tv fv ev bv most Xq (s2.put (OZ r)) w':=by
 obtain⟨-,-,-,-,l⟩:=eZ hb;obtain⟨-,-,-,-,m⟩:=eZ c;have t:=wrap_u32 a;have u:=wrap_u32 b;have i:=qH (fI h hl hb);have j:=qH (λw (h:RA w0 G rb Y fu tv fv ev bv most Xq s1 w)=>fI h qo c);have HP:=qH (λw (h:RA w0 G rb Y fu tv fv ev bv most Xq s2 w)=>iw h qo (OZ r));have HR:=qH (λw (h:RA w0 G rb Y fu tv fv ev bv most Xq s2 w)=>g w (h.gz d));have x:wrap64 (wrap32 r)=OZ r:=rfl;clear h c m hl g d hb l;go_enter func265,ntmps265;go_wp2_with fail
 refine i.o.mono ?_;rintro e z⟨rfl,U⟩;have n:=qH (j.o _ U);clear U i j;go_wp2_with fail
 refine n.o.mono ?_;exact XB
theorem PU{a:Int}{r:Int}{y:Nat}(h:RA w0 G rb Y fu tv fv ev bv most Xq s w)(c:Gz T w0)(hl:s.stk.length<=300000)(b:s.pop=some (a,s2))(X:¬2<(k:Int))(d:∀w:qW,Gz T w->qC 300 #[qB k,qI (u32 a:Nat),qI 0] w λe w'=>e=.returned (.tuple #[qI r,qJ y])/\∃q,w'=w.drewN q):
  qC 265 #[qP rb,qB k] w λe w'=>e=.returned (qJ y)/\RA w0 G rb Y fu tv fv ev bv most Xq (s2.put (OZ r)) w':=by
 obtain⟨-,-,-,-,g⟩:=eZ b;have j:=wrap_u32 a;have i:=qH (fI h hl b);have HP:=qH (λw (h:RA w0 G rb Y fu tv fv ev bv most Xq s2 w)=>iw h qo (OZ r));have HR:=qH (λw (h:RA w0 G rb Y fu tv fv ev bv most Xq s2 w)=>d w (h.gz c));have l:wrap64 (wrap32 r)=OZ r:=rfl;clear h b g hl d c;go_enter func265,ntmps265;go_wp2_with fail
 refine i.o.mono ?_;exact XB
theorem PV{a b:Int}{r:Bool}(h:RA w0 G rb Y fu tv fv ev bv most Xq s w)(hl:s.stk.length<=300000)(hb:s.pop=some (b,s1))(c:s1.pop=some (a,s2))(X:¬(k:Int)=0)(d:∀w:qW,qC 299 #[qB k,.int .u64 (u64 a),.int .u64 (u64 b)] w λe w'=>e=.returned (.bool r)/\w'=w):
  qC 264 #[qP rb,qB k] w λe w'=>qU e/\RA w0 G rb Y fu tv fv ev bv most Xq (s2.put (if r then 1 else 0)) w':=by
 obtain⟨-,-,-,-,j⟩:=eZ hb;obtain⟨-,-,-,-,l⟩:=eZ c;have n:IntKind.u64.wrap a=u64 a:=rfl;have q:IntKind.u64.wrap b=u64 b:=rfl;have t:((k:Int)==0)=false:=by simpa using X
 have g:=qH (fI h hl hb);have i:=qH (λw (h:RA w0 G rb Y fu tv fv ev bv most Xq s1 w)=>fI h qo c);have HP:=qH (λw (h:RA w0 G rb Y fu tv fv ev bv most Xq s2 w)=>iw h qo (if r then 1 else 0));have HR:=qH d;clear h hb c j l hl d;go_enter func264,ntmps264;go_wp2_with fail
 refine g.o.mono ?_;rintro e u⟨rfl,U⟩;have m:=qH (i.o _ U);clear U g i;go_wp2_with fail
 refine m.o.mono ?_;exact Uj
theorem PW{a:Int}{r:Bool}(h:RA w0 G rb Y fu tv fv ev bv most Xq s w)(hl:s.stk.length<=300000)(b:s.pop=some (a,s2))(c:∀w:qW,qC 299 #[qB 0,.int .u64 (u64 a),.int .u64 0] w λe w'=>e=.returned (.bool r)/\w'=w):
  qC 264 #[qP rb,qB 0] w λe w'=>qU e/\RA w0 G rb Y fu tv fv ev bv most Xq (s2.put (if r then 1 else 0)) w':=by
 obtain⟨-,-,-,-,d⟩:=eZ b;have i:IntKind.u64.wrap a=u64 a:=rfl;have g:=qH (fI h hl b);have HP:=qH (λw (h:RA w0 G rb Y fu tv fv ev bv most Xq s2 w)=>iw h qo (if r then 1 else 0));have HR:=qH c;clear h b d hl c;go_enter func264,ntmps264;go_wp2_with fail
 refine g.o.mono ?_;exact Uj
theorem PO{a b:Int}{r:Int}{y:Nat}(h:RA w0 G rb Y fu tv fv ev bv most Xq s w)(d:Gz T w0)(hl:s.stk.length<=300000)(hb:s.pop=some (b,s1))(c:s1.pop=some (a,s2))(X:2<(k:Int))(g:∀w:qW,Gz T w->qC 301 #[qB k,.int .u64 (u64 a),.int .u64 (u64 b)] w λe w'=>e=.returned (.tuple #[.int .u64 r,qJ y])/\∃q,w'=w.drewN q):
  qC 266 #[qP rb,qB k] w λe w'=>e=.returned (qJ y)/\RA w0 G rb Y fu tv fv ev bv most Xq (s2.put (Un r)) w':=by
 obtain⟨-,-,-,-,l⟩:=eZ hb;obtain⟨-,-,-,-,m⟩:=eZ c;have t:IntKind.u64.wrap a=u64 a:=rfl;have u:IntKind.u64.wrap b=u64 b:=rfl;have i:=qH (fI h hl hb);have j:=qH (λw (h:RA w0 G rb Y fu tv fv ev bv most Xq s1 w)=>fI h qo c);have HP:=qH (λw (h:RA w0 G rb Y fu tv fv ev bv most Xq s2 w)=>iw h qo (Un r));have HR:=qH (λw (h:RA w0 G rb Y fu tv fv ev bv most Xq s2 w)=>g w (h.gz d));have x:IntKind.i64.wrap r=Un r:=rfl;clear h c m hl g d hb l;go_enter func266,ntmps266;go_wp2_with fail
 refine i.o.mono ?_;rintro e z⟨rfl,U⟩;have n:=qH (j.o _ U);clear U i j;go_wp2_with fail
 refine n.o.mono ?_;exact XB
theorem PR{a:Int}{r:Int}{y:Nat}(h:RA w0 G rb Y fu tv fv ev bv most Xq s w)(c:Gz T w0)(hl:s.stk.length<=300000)(b:s.pop=some (a,s2))(X:¬2<(k:Int))(d:∀w:qW,Gz T w->qC 301 #[qB k,.int .u64 (u64 a),.int .u64 0] w λe w'=>e=.returned (.tuple #[.int .u64 r,qJ y])/\∃q,w'=w.drewN q):
  qC 266 #[qP rb,qB k] w λe w'=>e=.returned (qJ y)/\RA w0 G rb Y fu tv fv ev bv most Xq (s2.put (Un r)) w':=by
 obtain⟨-,-,-,-,g⟩:=eZ b;have j:IntKind.u64.wrap a=u64 a:=rfl;have i:=qH (fI h hl b);have HP:=qH (λw (h:RA w0 G rb Y fu tv fv ev bv most Xq s2 w)=>iw h qo (Un r));have HR:=qH (λw (h:RA w0 G rb Y fu tv fv ev bv most Xq s2 w)=>d w (h.gz c));have l:IntKind.i64.wrap r=Un r:=rfl;clear h b g hl d c;go_enter func266,ntmps266;go_wp2_with fail
 refine i.o.mono ?_;exact XB
end
def FQ(T:Nat->Int)(x:Nat)(a b:Int)(v:Int×Nat):Prop:=
 (69<=x->x<=79->∃r:Bool,v=(if r then 1 else 0,0)/\∀w:World,qC 298 #[qB ((x - 69:Nat):Int),qI (u32 a:Nat),qI (u32 b:Nat)] w λe w'=>e=.returned (.bool r)/\w'=w)/\
 (80<=x->x<=90->∃r:Bool,v=(if r then 1 else 0,0)/\∀w:World,qC 299 #[qB ((x - 80:Nat):Int),.int .u64 (u64 a),.int .u64 (u64 b)] w λe w'=>e=.returned (.bool r)/\w'=w)/\
 (103<=x->x<=120->∃r,v.1=OZ r/\∀w:World,Gz T w->qC 300 #[qB ((x - 103:Nat):Int),qI (u32 a:Nat),qI (u32 b:Nat)] w λe w'=>e=.returned (.tuple #[qI r,qJ v.2])/\∃q,w'=w.drewN q)/\
 (121<=x->x<=138->∃r,v.1=Un r/\∀w:World,Gz T w->qC 301 #[qB ((x - 121:Nat):Int),.int .u64 (u64 a),.int .u64 (u64 b)] w λe w'=>e=.returned (.tuple #[.int .u64 r,qJ v.2])/\∃q,w'=w.drewN q)/\
 (x=167->v=(OZ a,0))/\(x=173->v=(((u32 a:Nat):Int),0))
theorem Va(T:Nat->Int):∃nf:Nat->Int->Int->Int×Nat,∀x a b,FQ T x a b (nf x a b)/\(nf x a b).2<=7:=by
 suffices h:∀x a b,∃v,FQ T x a b v/\v.2<=7 from⟨λx a b=>Classical.choose (h x a b),λx a b=>Classical.choose_spec (h x a b)⟩
 intro x a b;have d:=rF a;have hb:=rF b;have c:=u64_in a;have gb:=u64_in b;by_cases U:69<=x/\x<=79
 .obtain⟨r,hr⟩:=JG (x - 69) (u32 a:Nat) (u32 b:Nat);exact⟨_,⟨λ_ _=>⟨r,rfl,hr⟩,λ_ _=>qo,λ_ _=>qo,λ_ _=>qo,λ_=>qo,λ_=>qo⟩,qs⟩
 by_cases e:80<=x/\x<=90
 .obtain⟨r,hr⟩:=JF (x - 80) (u64 a) (u64 b);exact⟨_,⟨λ_ _=>qo,λ_ _=>⟨r,rfl,hr⟩,λ_ _=>qo,λ_ _=>qo,λ_=>qo,λ_=>qo⟩,qs⟩
 by_cases g:103<=x/\x<=120
 .obtain⟨r,y,hy,hr⟩:=NJ T (x - 103) (u32 a:Nat) (u32 b:Nat) qo qo qo qo;exact⟨(OZ r,y),⟨λ_ _=>qo,λ_ _=>qo,λ_ _=>⟨r,rfl,hr⟩,λ_ _=>qo,λ_=>qo,λ_=>qo⟩,hy⟩
 by_cases i:121<=x/\x<=138
 .obtain⟨r,y,hy,hr⟩:=NI T (x - 121) (u64 a) (u64 b) c.1 c.2 gb.1 gb.2;exact⟨(Un r,y),⟨λ_ _=>qo,λ_ _=>qo,λ_ _=>qo,λ_ _=>⟨r,rfl,hr⟩,λ_=>qo,λ_=>qo⟩,hy⟩
 by_cases j:x=167
 .exact⟨(OZ a,0),⟨λ_ _=>qo,λ_ _=>qo,λ_ _=>qo,λ_ _=>qo,λ_=>rfl,λ_=>qo⟩,qs⟩
 exact⟨(((u32 a:Nat):Int),0),⟨λ_ _=>qo,λ_ _=>qo,λ_ _=>qo,λ_ _=>qo,λ_=>qo,λ_=>rfl⟩,qs⟩
section
variable {w0 w:qW}{G:Gm}{E:Ev}{Qf:Nat->Gf}{rb Y fu most:Nat}{tv fv ev bv:qv}{Xq:List It}{s s':Rn}{f k:Nat}{F:PF}{p:PS}{T:Nat->Int}
theorem Lh{x:Nat}(c0:w.cell? ⟨G.sg f,k*5,none⟩=some (qB x))(b:G.sg f<w.heap.size)(c:((x:Int)==65)=false)(d:((x:Int)==66)=false)(g:69<=x)(l1:(x:Int)<=79)(a:qC 263 #[qP rb,qB ((x - 69:Nat):Int)] w λe w'=>qU e/\RA w0 G rb Y fu tv fv ev bv most Xq s' w'):qC 198 #[qP rb,.pointer (some ⟨G.sg f,k*5,none⟩)] w λe w'=>e=.returned (qJ 0)/\RA w0 G rb Y fu tv fv ev bv most Xq s' w':=by
 have i:IntKind.u8.wrap ((x:Int) - 69)=((x - 69:Nat):Int):=by rw[show(x:Int) - 69=((x - 69:Nat):Int) by omega,IntKind.wrap_u8];omega
 have j:((x:Int) - 69)%256=((x - 69:Nat):Int):=qo;have HO:=qH a;clear a;go_enter func198,ntmps198;exact Dn
theorem Le{x:Nat}(c0:w.cell? ⟨G.sg f,k*5,none⟩=some (qB x))(b:G.sg f<w.heap.size)(c:((x:Int)==65)=false)(d:((x:Int)==66)=false)(g:¬(x:Int)<=79)(i:80<=x)(l1:(x:Int)<=90)(a:qC 264 #[qP rb,qB ((x - 80:Nat):Int)] w λe w'=>qU e/\RA w0 G rb Y fu tv fv ev bv most Xq s' w'):qC 198 #[qP rb,.pointer (some ⟨G.sg f,k*5,none⟩)] w λe w'=>e=.returned (qJ 0)/\RA w0 G rb Y fu tv fv ev bv most Xq s' w':=by
 have j:IntKind.u8.wrap ((x:Int) - 80)=((x - 80:Nat):Int):=by rw[show(x:Int) - 80=((x - 80:Nat):Int) by omega,IntKind.wrap_u8];omega
 have l:((x:Int) - 80)%256=((x - 80:Nat):Int):=qo;have HO:=qH a;clear a;go_enter func198,ntmps198;exact Dn
theorem Gl{x:Nat}{y:Nat}(c0:w.cell? ⟨G.sg f,k*5,none⟩=some (qB x))(b:G.sg f<w.heap.size)(c:((x:Int)==65)=false)(d:((x:Int)==66)=false)(g:¬(x:Int)<=79)(i:¬(x:Int)<=90)(j:103<=x)(l1:(x:Int)<=120)(a:qC 265 #[qP rb,qB ((x - 103:Nat):Int)] w λe w'=>e=.returned (qJ y)/\RA w0 G rb Y fu tv fv ev bv most Xq s' w'):qC 198 #[qP rb,.pointer (some ⟨G.sg f,k*5,none⟩)] w λe w'=>e=.returned (qJ y)/\RA w0 G rb Y fu tv fv ev bv most Xq s' w':=by
 have l:IntKind.u8.wrap ((x:Int) - 103)=((x - 103:Nat):Int):=by rw[show(x:Int) - 103=((x - 103:Nat):Int) by omega,IntKind.wrap_u8];omega
 have m:((x:Int) - 103)%256=((x - 103:Nat):Int):=qo;have HO:=qH a;clear a;go_enter func198,ntmps198;exact Dn
theorem Gj{x:Nat}{y:Nat}(c0:w.cell? ⟨G.sg f,k*5,none⟩=some (qB x))(b:G.sg f<w.heap.size)(c:((x:Int)==65)=false)(d:((x:Int)==66)=false)(g:¬(x:Int)<=79)(i:¬(x:Int)<=90)(j:¬(x:Int)<=120)(l:121<=x)(l1:(x:Int)<=138)(a:qC 266 #[qP rb,qB ((x - 121:Nat):Int)] w λe w'=>e=.returned (qJ y)/\RA w0 G rb Y fu tv fv ev bv most Xq s' w'):qC 198 #[qP rb,.pointer (some ⟨G.sg f,k*5,none⟩)] w λe w'=>e=.returned (qJ y)/\RA w0 G rb Y fu tv fv ev bv most Xq s' w':=by
 have m:IntKind.u8.wrap ((x:Int) - 121)=((x - 121:Nat):Int):=by rw[show(x:Int) - 121=((x - 121:Nat):Int) by omega,IntKind.wrap_u8];omega
 have n:((x:Int) - 121)%256=((x - 121:Nat):Int):=qo;have HO:=qH a;clear a;go_enter func198,ntmps198;exact Dn
theorem PD{why:Nat}(h:RA w0 G rb Y fu tv fv ev bv most Xq s w)(u:Gz T w0)(A:jg Xq G E Qf fv)(B:E.fs[f]?=some F)(X:F.ss[k]?=some p)(hl:s.stk.length<=300000)(y:∀x a b,FQ T x a b (E.nf x a b))(q:IV p.wd=true)(J:64<p.wd)(hc:ou E p s=some (s',why)):
  qC 198 #[qP rb,.pointer (some ⟨G.sg f,k*5,none⟩)] w λe w'=>e=.returned (qJ why)/\RA w0 G rb Y fu tv fv ev bv most Xq s' w':=by
 obtain⟨c0,i⟩:w.cell? ⟨G.sg f,k*5,none⟩=some (qB p.wd)/\G.sg f<w.heap.size:=by
  obtain⟨v,h⟩:=h;exact A.Jm h fG B X (o:=0) qo
 obtain⟨c4,-⟩:w.cell? ⟨G.sg f,k*5+4,none⟩=some (qJ p.val)/\G.sg f<w.heap.size:=by
  obtain⟨v,h⟩:=h;exact A.Jm h fG B X (o:=4) qo
 unfold ou at hc;by_cases j:p.wd=65\/p.wd=66
 .rw[qac j]at hc;cases hc;have C:=qH (iw h hl p.val);clear h;obtain e | e:=j;all_goals
   rw[e]at c0;first
    | replace c0:w.cell? ⟨G.sg f,k*5,none⟩=some (qB 65):=c0
    | replace c0:w.cell? ⟨G.sg f,k*5,none⟩=some (qB 66):=c0
   clear e;go_enter func198,ntmps198;go_wp2_with fail
   refine C.o.mono ?_;rintro e w2⟨rfl,L⟩;have H2:=qH L;clear L C;go_wp2;go_ret;exact⟨rfl,H2.o⟩
 rw[qaa j]at hc;have d:((p.wd:Int)==65)=false:=by simp;omega
 have g:((p.wd:Int)==66)=false:=by simp;omega
 unfold IV at q;simp only[qby,qaz,qcd,qcn]at q;by_cases l:p.wd=172
 .rw[qac l]at hc;cases hc;have H:=qH h;rw[l]at c0;replace c0:w.cell? ⟨G.sg f,k*5,none⟩=some (qB 172):=c0
  clear h j l d g q;go_enter func198,ntmps198;go_wp2;go_ret;exact⟨rfl,H.o⟩
 rw[qaa l]at hc;by_cases m:zQ p.wd=1
 .rw[qac m]at hc;cases hp:s.pop with
  | none=>rw[hp]at hc;cases hc
  | some t=>
   obtain⟨a,z⟩:=t;rw[hp]at hc;cases hc;have Q:=qH (y p.wd a 0);unfold zQ at m;split at m
   .rename_i hx;obtain e | e | e | e | e | e:=hx
    .obtain⟨r,hv,c⟩:=Q.o.1 qo qo;rw[hv];rw[e]at c;exact Lh c0 i d g qo qo (by rw[e];exact PY h hl hp c)
    .obtain⟨r,hv,c⟩:=Q.o.2.1 qo qo;rw[hv];rw[e]at c;exact Le c0 i d g qo qo qo (by rw[e];exact PW h hl hp c)
    .obtain⟨r,hv,c⟩:=Q.o.2.2.1 qo qo;rw[hv];exact Gl c0 i d g qo qo qo qo (PU h u hl hp qo c)
    .obtain⟨r,hv,c⟩:=Q.o.2.2.2.1 qo qo;rw[hv];exact Gj c0 i d g qo qo qo qo qo (PR h u hl hp qo c)
    .rw[Q.o.2.2.2.2.1 e];obtain⟨-,-,-,-,D⟩:=eZ hp;have HT:=qH (fI h hl hp);have HP:=qH (λw (h:RA w0 G rb Y fu tv fv ev bv most Xq z w)=>iw h qo (OZ a));rw[e]at c0;replace c0:w.cell? ⟨G.sg f,k*5,none⟩=some (qB 167):=c0
     have K:wrap64 (wrap32 a)=OZ a:=rfl;clear h hp j l d g q e y Q;exact Xf
    rw[Q.o.2.2.2.2.2 e];obtain⟨-,-,-,-,D⟩:=eZ hp;have HT:=qH (fI h hl hp);have HP:=qH (λw (h:RA w0 G rb Y fu tv fv ev bv most Xq z w)=>iw h qo ((u32 a:Nat):Int));rw[e]at c0;replace c0:w.cell? ⟨G.sg f,k*5,none⟩=some (qB 173):=c0
    have M:=wrap_u32 a;have I:=rF a;have N:IntKind.i64.wrap ((u32 a:Nat):Int)=((u32 a:Nat):Int):=qaf _ ⟨qo,qo⟩;clear h hp j l d g q e y Q I;exact Xf
   omega
 rw[qaa m]at hc;cases hp:s.pop with
 | none=>rw[hp]at hc;cases hc
 | some t=>
  obtain⟨b,z⟩:=t;rw[hp]at hc;simp only at hc;cases n:z.pop with
  | none=>rw[n]at hc;cases hc
  | some t=>
   obtain⟨a,O⟩:=t;rw[n]at hc;cases hc;have Q:=qH (y p.wd a b);unfold zQ at m;split at m
   .omega
   rename_i hx;by_cases R:p.wd<=79
   .obtain⟨r,hv,c⟩:=Q.o.1 qo qo;rw[hv];exact Lh c0 i d g qo qo (PX h hl hp n qo c)
   by_cases S:p.wd<=90
   .obtain⟨r,hv,c⟩:=Q.o.2.1 qo qo;rw[hv];exact Le c0 i d g qo qo qo (PV h hl hp n qo c)
   by_cases V:p.wd<=120
   .obtain⟨r,hv,c⟩:=Q.o.2.2.1 qo qo;rw[hv];exact Gl c0 i d g qo qo qo qo (PT h u hl hp n qo c)
   obtain⟨r,hv,c⟩:=Q.o.2.2.2.1 qo qo;rw[hv];exact Gj c0 i d g qo qo qo qo qo (PO h u hl hp n qo c)
end
def SS:List Nat->Nat->Int->Int
 | [],_,n=>n
 | b::r,i,n=>SS r (i+1) (bits BinOp.or IntKind.u64 n (IntKind.u64.wrap (IntKind.u64.wrap (b:Int)*2 ^ (8*i))))
def VK(x:Nat)(l:List Nat):Int:=VL x (SS l 0 0)
section
variable {w0 w:qW}{G:Gm}{E:Ev}{Q:Nat->Gf}{rb Y fu most:Nat}{tv fv ev bv:qv}{Xq:List It}{s s':Rn}{f k:Nat}{F:PF}{p:PS}
theorem GK{v:Rv}{a c i:Nat}(h:Sx w0 w (LM G rb Y fu tv fv ev bv most v s Xq))(hv:v.m=qL a s.mem.length c)(hi:i<s.mem.length):w.cell? (qA a i)=some (qB ((s.mem[i]:Nat):Int))/\a<w.heap.size:=by
 obtain⟨g,j,b,-,d,-,e⟩:=Row.cells (h.isRow 5 rfl) (show 0<s.mem.length by omega);rw[hv]at b;cases b;refine⟨(e i qo).trans ?_,d⟩;unfold jr;rw[qbk,qab hi];rfl
theorem MH{why:Nat}(h:RA w0 G rb Y fu tv fv ev bv most Xq s w)(B:jg Xq G E Q fv)(C:E.fs[f]?=some F)(X:F.ss[k]?=some p)(R:p.num<4294967296)(hl:s.stk.length<=300000)(hm:s.mem.length<=700000)(ac:E.lf=VK)(hc:lD E p s=some (s',why))(D:¬p.wd=63)(H:¬p.wd=64)(I:¬(p.wd=54\/p.wd=55\/p.wd=58)):
  qC 262 #[qP rb,.pointer (some ⟨G.sg f,k*5,none⟩)] w λe w'=>e=.returned (qJ why)/\RA w0 G rb Y fu tv fv ev bv most Xq s' w':=by
 obtain⟨v,h⟩:=h;unfold lD at hc;rw[qaa D,qaa H,qaa I,ac]at hc;cases hp:s.pop with
 | none=>rw[hp]at hc;cases hc
 | some ns=>
  obtain⟨a,J⟩:=ns;rw[hp]at hc;simp only at hc;obtain⟨S,p2,t,-,T⟩:=eZ hp;have ad:qh (∀V l,Sx w0 V l->(∀p∈Xq,p∈l)->V.cell? ⟨G.sg f,k*5,none⟩=some (qB p.wd)/\G.sg f<V.heap.size):=λV l hV hl=>B.Jm hV hl C X (o:=0) qo;have ae:oI p.wd<=8/\1<=oI p.wd:=by unfold oI;split;omega;split<;>omega
  rw[t]at hc;by_cases hb:u32 a+p.num+oI p.wd<=s.mem.length
  .rw[qac hb]at hc;cases hc;obtain⟨K,L,M,-,W,-,-⟩:=Row.cells (h.isRow 5 rfl) (show 0<s.mem.length by omega);have d:=qH (sQ (r:=.tuple #[.slice (some ⟨K,u32 a+p.num,none⟩) (oI p.wd) (L - (u32 a+p.num)),.bool true]) h B C X R hl hm hp (λc=>qo) (λ_=>⟨K,L,M,rfl⟩));obtain⟨fr,Z⟩:=qE (u32 a+p.num);rw[<-Z]at d hb ⊢;obtain⟨sz,aa⟩:=qE (oI p.wd);rw[<-aa]at d hb ae ⊢;obtain⟨b,u⟩:=qE ((s.mem.drop fr).take sz);have ag:b.length=sz:=by rw[u];simp;omega
   rw[<-u];have N:qh (∀(i:Nat)(hi:i<b.length),∃z:fr+i<s.mem.length,s.mem[fr+i]=b[i]):=by
    intro i hi;subst u;refine⟨qo,?_⟩;simp
   have q:qh (J.mem=s.mem/\v.m=qL K s.mem.length L/\J.stk.length<=300000):=⟨t,M,qo⟩;clear h hp u Z aa W M S p2 t T I D H hb;go_enter func262,ntmps262;go_wp2_with fail
   refine d.o.mono ?_;rintro e w1⟨rfl,vs,U⟩;have g:=qH U;clear d U;go_wp2_with fail
   go_loopg [7,8,9,20] sz (λgk u7 u8 u9 af wr=>∃(i:Nat)(n:Int),gk=sz - i/\i<=sz/\af=qJ i/\u7=.int .u64 n/\SS b 0 0=SS (b.drop i) i n/\wr=w1)
   case atStart=>exact⟨0,0,rfl,qZ,rfl,rfl,rfl,rfl⟩
   obtain⟨i,n,ah,hi,rfl,rfl,A,rfl⟩:=hrel;by_cases O:i<sz
   .have t1:(i:Int)<(sz:Int):=qo;obtain⟨z,ab⟩:=N.o i qo;obtain⟨cc,W⟩:=GK (i:=fr+i) g.o (by have:=q.o;rw[this.1];exact this.2.1) (by rw[q.o.1];exact z);have hy:J.mem[fr+i]'(by rw[q.o.1];exact z)=b[i]:=by rw[<-ab];congr 1;exact q.o.1
    rw[hy]at cc;have j:SS b 0 0=SS (b.drop (i+1)) (i+1) (bits BinOp.or IntKind.u64 n (IntKind.u64.wrap (IntKind.u64.wrap ((b[i]:Nat):Int)*2 ^ (8*i)))):=by rw[A,qan qo,SS]
    generalize b[i]=y at cc j;have P:=qH j;have HI:=qH O;clear A j hy ab O z N;go_wp2;go_roundg (sz - (i+1))
    case measure=>have:=HI.o;omega
    exact⟨i+1,_,rfl,HI.o,by push_cast;rfl,rfl,P.o,rfl⟩
   have t1:¬(i:Int)<(sz:Int):=qo;have j:SS b 0 0=n:=by rw[A,qbq qo,SS]
   have P:qh (VK p.wd b=VL p.wd n):=by show _=_;unfold VK;rw[j]
   obtain⟨c0,ai⟩:=ad.o _ _ g.o fG;have HL:=qH (Gn (w:=wr) (x:=p.wd) (n:=n));have HP:=qH (iw ⟨_,g.o⟩ q.o.2.2 (VL p.wd n));clear A j g N O;go_wp2_with fail
   refine HL.o.mono ?_;rintro e w2⟨rfl,rfl⟩;go_wp2_with fail
   refine HP.o.mono ?_;rintro e w3⟨rfl,h3⟩;have H3:=qH h3;clear h3 HP HL;go_wp2;go_ret;exact⟨rfl,by rw[P.o];exact H3.o⟩
  rw[qaa hb]at hc;cases hc;have d:=qH (sQ (r:=.tuple #[qN,.bool false]) h B C X R hl hm hp (λ_=>rfl) (λc=>absurd c hb));clear h hp hb S p2 t T I D H;go_enter func262,ntmps262;go_wp2_with fail
  refine d.o.mono ?_;rintro e w1⟨rfl,vs,U⟩;have g:=qH U;clear d U;go_wp2;go_ret;exact⟨rfl,_,g.o⟩
end
def Ye(n:Int)(i:Nat):Nat:=(u64 n / 2 ^ (8*i)%256).toNat
def Pj(x:Nat)(n:Int):List Nat:=(List.range (oI x)).map (Ye n)
def wW(mem:List Nat)(fr i:Nat)(bs:List Nat):List Nat:=mem.take fr++bs.take i++mem.drop (fr+i)
theorem Pk{mem a:qM}{fr i:Nat}(hm:fr+a.length<=mem.length)(hi:i<a.length):(wW mem fr i a).set (fr+i) a[i]=wW mem fr (i+1) a:=by
 unfold wW;have b:(mem.take fr++a.take i).length=fr+i:=by simp;omega
 have c:mem.drop (fr+i)=mem[fr+i]' qo::mem.drop (fr+i+1):=qan qo;rw[qcp _ _ qo,b,Nat.sub_self,c,qz,qbg hi,show fr+(i+1)=fr+i+1 by omega];simp only[qaj,qax,qay]
theorem QU(l:qM)(j y:Nat):(jr l).set j (qB (y:Int))=jr (l.set j y):=by unfold jr;rw[List.map_set]
theorem Az{mem a:qM}{fr i:Nat}(hm:fr+a.length<=mem.length)(hi:i<=a.length):(wW mem fr i a).length=mem.length:=by unfold wW;simp;omega
section
variable {w0 w:qW}{G:Gm}{E:Ev}{Q:Nat->Gf}{rb Y fu most:Nat}{tv fv ev bv:qv}{Xq:List It}{s s':Rn}{f k:Nat}{F:PF}{p:PS}
theorem L9{vs c d e:qv}{b g fr i:Nat}{a:qM}{t:Rn}(h:Sx w0 w (LM G rb Y fu tv fv ev bv most ⟨vs,c,d,qL b t.mem.length g,e⟩ {t with mem:=wW t.mem fr i a} Xq))(hm:fr+a.length<=t.mem.length)(hi:i<a.length):
  Sx w0 (w.setCell ⟨b,fr+i,none⟩ (qB ((a[i]:Nat):Int))) (LM G rb Y fu tv fv ev bv most ⟨vs,c,d,qL b t.mem.length g,e⟩ {t with mem:=wW t.mem fr (i+1) a} Xq):=by
 have j:=Az hm (Nat.le_of_lt hi);have l:=Az hm (show i+1<=a.length by omega);simp only[LM,j,l]at h ⊢;have U:=h.EG 5 (fr+i) (qB ((a[i]:Nat):Int)) rfl;rw[QU,Pk hm hi]at U;exact U
theorem Jr{why:Nat}(h:RA w0 G rb Y fu tv fv ev bv most Xq s w)(P:jg Xq G E Q fv)(R:E.fs[f]?=some F)(X:F.ss[k]?=some p)(S:p.num<4294967296)(hl:s.stk.length<=300000)(hm:s.mem.length<=700000)(ak:E.sf=Pj)(hc:lD E p s=some (s',why))(I:p.wd=54\/p.wd=55\/p.wd=58):
  qC 261 #[qP rb,.pointer (some ⟨G.sg f,k*5,none⟩)] w λe w'=>e=.returned (qJ why)/\RA w0 G rb Y fu tv fv ev bv most Xq s' w':=by
 obtain⟨v,h⟩:=h;unfold lD at hc;rw[qaa qo,qaa qo,qac I,ak]at hc;cases hp:s.pop with
 | none=>rw[hp]at hc;cases hc
 | some J=>
  obtain⟨n,K⟩:=J;rw[hp]at hc;simp only at hc;cases q:K.pop with
  | none=>rw[q]at hc;cases hc
  | some J=>
   obtain⟨a,b⟩:=J;rw[q]at hc;simp only at hc;obtain⟨T,p2,d,-,W⟩:=eZ hp;obtain⟨Z,q2,y,-,q5⟩:=eZ q;have al:oI p.wd<=8/\1<=oI p.wd:=by unfold oI;split;omega;split<;>omega
   have ap:IntKind.u64.wrap n=u64 n:=rfl;have aa:(Pj p.wd n).length=oI p.wd:=by unfold Pj;simp
   have ab:qh (∀(i:Nat)(hi:i<(Pj p.wd n).length),(((Pj p.wd n)[i]:Nat):Int)=u64 n / 2 ^ (8*i)%256):=by
    intro i hi;have:=u64_in n;have u:0<=u64 n / 2 ^ (8*i)%256:=qdt _ qx;simp[Pj,Ye];omega
   have A:=qH (um h hl hp);rw[y,d]at hc;by_cases hb:u32 a+p.num+oI p.wd<=s.mem.length
   .rw[qac hb]at hc;cases hc;obtain⟨B,C,L,-,ac,-,-⟩:=Row.cells (h.isRow 5 rfl) (show 0<s.mem.length by omega);have t:=qH (λV vs (M:Sx w0 V (LM G rb Y fu tv fv ev bv most ⟨vs,v.l,v.f,v.m,v.g⟩ K Xq))=>sQ (r:=.tuple #[.slice (some ⟨B,u32 a+p.num,none⟩) (oI p.wd) (C - (u32 a+p.num)),.bool true]) M P R X S qo (by rw[d];exact hm) q (λc=>by rw[d]at c;omega) (λ_=>⟨B,C,by rw[d];exact L,rfl⟩));obtain⟨fr,ad⟩:=qE (u32 a+p.num);rw[<-ad]at t hb ⊢;obtain⟨j,ae⟩:=qE (Pj p.wd n);rw[<-ae]at aa ab ⊢;obtain⟨sz,af⟩:=qE (oI p.wd);rw[<-af]at t hb al aa ⊢;have N:qh (b.mem=s.mem/\v.m=qL B s.mem.length C/\fr+sz<=s.mem.length):=⟨y.trans d,L,hb⟩;have ag:qh (s.mem.take fr++j++s.mem.drop (fr+sz)=wW b.mem fr sz j):=by
     show _=_;unfold wW;rw[y,d,qbo (show j.length<=sz by omega)]
    have am:qh (wW b.mem fr 0 j=b.mem):=by show _=_;unfold wW;simp
    rw[ag.o];clear h hp q ae ad af ac L T p2 d W Z q2 y q5 I hb ag;go_enter func261,ntmps261;go_wp2_with fail
    refine A.o.mono ?_;rintro e w1⟨rfl,vs,U⟩;have z:=qH (t.o _ _ U);clear U t A;go_wp2_with fail
    refine z.o.mono ?_;rintro e w2⟨rfl,ah,u⟩;have D:=qH u;clear u z;go_wp2_with fail
    go_loopg [8,22] sz (λgk u8 an wr=>∃(i:Nat),gk=sz - i/\i<=sz/\an=qJ i/\Sx w0 wr (LM G rb Y fu tv fv ev bv most ⟨ah,v.l,v.f,qL B b.mem.length C,v.g⟩ {b with mem:=wW b.mem fr i j} Xq))
    case atStart=>
     refine⟨0,rfl,qZ,rfl,?_⟩;have:=D.o;rw[N.o.2.1,<-N.o.1]at this;have e:({b with mem:=wW b.mem fr 0 j}:Rn)=b:=by rw[am.o]
     rw[e];exact this
    clear D;obtain⟨i,aq,hi,rfl,x⟩:=hrel;by_cases ai:i<sz
    .have t1:(i:Int)<(sz:Int):=qo;have aj:fr+j.length<=b.mem.length:=by have:=N.o;rw[this.1];omega
     have O:=Az aj (show i<=j.length by omega);obtain⟨cc,ac⟩:=GK (i:=fr+i) x (by rw[O]) (by show fr+i<(wW b.mem fr i j).length;rw[O];omega);have ar:=x.vM 5 (fr+i) (by simp only[LM,O];rfl);have HN:=qH (L9 x aj (show i<j.length by omega));have ao:=ab.o i qo;have HI:=qH ai;clear x;rw[ao]at HN;go_wp2;go_roundg (sz - (i+1))
     case measure=>have:=HI.o;omega
     exact⟨i+1,rfl,HI.o,by push_cast;rfl,HN.o⟩
    have t1:¬(i:Int)<(sz:Int):=qo;have H:=qH x;have HE:qh (i=sz):=by show _=_;omega
    clear x ai;go_wp2;go_ret;have h9:=H.o;rw[HE.o]at h9;exact⟨rfl,_,h9⟩
   rw[qaa hb]at hc;cases hc;have t:=qH (λV vs (M:Sx w0 V (LM G rb Y fu tv fv ev bv most ⟨vs,v.l,v.f,v.m,v.g⟩ K Xq))=>sQ (r:=.tuple #[qN,.bool false]) M P R X S qo (by rw[d];exact hm) q (λ_=>rfl) (λc=>by rw[d]at c;exact absurd c hb));clear h hp q T p2 d W Z q2 y q5 I hb;go_enter func261,ntmps261;go_wp2_with fail
   refine A.o.mono ?_;rintro e w1⟨rfl,vs,U⟩;have z:=qH (t.o _ _ U);clear U t A;go_wp2_with fail
   refine z.o.mono ?_;rintro e w2⟨rfl,ah,u⟩;have D:=qH u;clear u z;go_wp2;go_ret;exact⟨rfl,_,D.o⟩
end
def kW{α:Type}(t:List α)(p:Nat)(xs:List α):List α:=t.take p++xs++t.drop (p+xs.length)
theorem rR{a:Type}{t:List a}{p:Nat}{xs:List a}(h:p+xs.length<=t.length):(kW t p xs).length=t.length:=by
 unfold kW;simp;omega
theorem Pm{a:Type}{t:List a}{p:Nat}{xs:List a}{v:a}(h:v∈kW t p xs):v∈t\/v∈xs:=by
 unfold kW at h;rw[qar,qar]at h;obtain (h | h) | h:=h
 .exact .inl (List.mem_of_mem_take h)
 .exact .inr h
 exact .inl (List.mem_of_mem_drop h)
def AZ(l:tZ):Nat:=if l.has then l.most.toNat else 16
def iM(m:dX):List Int:=match m.tables with
 | []=>[]
 | l::_=>List.replicate l.least.toNat (-1)
def jW(m:dX):List Nat:=match m.fP with
 | []=>[]
 | l::_=>List.replicate (l.least.toNat*64) 0
def eH(m:dX):Nat:=match m.fP with
 | []=>0
 | l::_=>AZ l
def FH(b:qS):List Nat:=b.data.toList.map UInt8.toNat
def sZ:Nat->List Cm->List Int->Except Err (List Int)
 | _,[],t=>.ok t
 | k,e::r,t=>if u32 e.place.val+e.funcs.length<=t.length then sZ (k+1) r (kW t (u32 e.place.val) (e.funcs.map (·.1))) else .error (10,k)
def uO:Nat->List Dat->List Nat->Except Err (List Nat)
 | _,[],t=>.ok t
 | k,d::r,t=>if u32 d.place.val+d.bytes.size<=t.length then uO (k+1) r (kW t (u32 d.place.val) (FH d.bytes)) else .error (10,k)
def kE(nf:Nat->Int->Int->Int×Nat)(s:qS)(m:dX)(iL:List Int):Ev:=⟨(List.range m.dF.length).map (wz s m),iL,m.dx,eH m,nf,VK,Pj⟩
def vF(E:Ev):List (Int×Nat)->List Nat->List Int->Except Err (List Nat×List Int)
 | [],mem,dW=>.ok (mem,dW)
 | x::r,mem,dW=>match E.fs[x.1.toNat]? with
  | none=>.error (11,0)
  | some F=>match lI E (51*1000+2) 1000 (zS F x.1.toNat [] mem dW) with
   | none=>.error (11,0)
   | some (s',why,_)=>if why=0 then vF E r s'.mem s'.dW else .error (11,why)
def jK(m:dX):List Int:=m.dI.map (·.first.val)
def rq(nf:Nat->Int->Int->Int×Nat)(s:qS)(m:dX):Except Err (Ev×List Nat×List Int):=match sZ 0 m.elems (iM m) with
 | .error e=>.error e
 | .ok t=>match uO 0 m.data (jW m) with
  | .error e=>.error e
  | .ok mem=>match vF (kE nf s m t) m.starts mem (jK m) with
   | .error e=>.error e
   | .ok x=>.ok (kE nf s m t,x)
theorem uQ(b:qS):(FH b).length=b.size:=by
 unfold FH;rw[qdu,qcw];rfl
theorem Ig:∀{b:List Cm}{k:Nat}{t a:List Int},sZ k b t=.ok a->a.length=t.length
 | [],k,t,a,h=>by cases h;rfl
 | e::r,k,t,a,h=>by
  unfold sZ at h;split at h
  .rename_i hl;rw[Ig h,rR (by simpa using hl)]
  cases h
theorem LD{P:Int->Prop}:∀{b:List Cm}{k:Nat}{t a:List Int},sZ k b t=.ok a->(∀v∈t,P v)->(∀e∈b,∀y∈e.funcs,P y.1)->∀v∈a,P v
 | [],k,t,a,h,ht,he=>by cases h;exact ht
 | e::r,k,t,a,h,ht,he=>by
  unfold sZ at h;split at h
  .refine LD h (λv hv=>?_) (λc h'=>he c (qcc _ h'));obtain hv | hv:=Pm hv
   .exact ht v hv
   obtain⟨y,hy,rfl⟩:=List.mem_map.1 hv;exact he e qbz y hy
  cases h
theorem BI:∀{b:List Dat}{k:Nat}{t a:qM},uO k b t=.ok a->a.length=t.length
 | [],k,t,a,h=>by cases h;rfl
 | e::r,k,t,a,h=>by
  unfold uO at h;split at h
  .rename_i hl;rw[BI h,rR (by rw[uQ];exact hl)]
  cases h
section
variable {nf:Nat->Int->Int->Int×Nat}{s:qS}{m:dX}{N:Nat}{iL:List Int}
theorem xL{f:Nat}{F:PF}(h:(kE nf s m iL).fs[f]?=some F):f<m.dF.length/\F=wz s m f:=by
 simp only[kE,qbk,qbd]at h;obtain⟨a,c,rfl⟩:=h;obtain⟨U,b⟩:=qae.1 c;simp at U b;subst b;exact⟨U,rfl⟩
theorem Rq{f:Nat}(h:f<m.dF.length):(kE nf s m iL).fs[f]?=some (wz s m f):=by simp[kE,h]
theorem FC(hm:iX N m){f:Nat}(hf:f<m.dF.length):Ed N (m.dF.getD f ([],0,0)):=hm.dF.2 _ (by rw[qag,qab hf];exact qaw hf)
theorem La(hm:iX N m)(f:Nat):(dM m f).ins.length<=8/\(dM m f).outs.length<=8:=by
 unfold dM;rw[qag];cases a:m.dx[(m.funcs.getD f (0,0)).1.toNat]? with
 | none=>exact⟨qZ,qZ⟩
 | some t=>have:=hm.dx.2 t (qai a);simp only[qdl];exact⟨by have:=this.1;omega,by have:=this.2;omega⟩
theorem RN(hm:iX N m){f:Nat}(hf:f<m.dF.length)(h:gJ s m f=.ok ()):∀z∈ry s m f,dS z.2.1=true->z.2.2.typed=true->z.2.2.num.1<(m.dx.length:Int):=by
 have a:=FC hm hf;have c:=(La hm f).2;unfold gJ at h;exact Hu (E9 hm a.2.2 h a.2.1 ⟨⟨Nat.le_refl 0,trivial⟩,λb hb=>by simp at hb;subst hb;exact⟨qZ,c⟩⟩ ⟨rfl,rfl⟩)
theorem Rt(hm:iX N m)(a:IP s m)(hc:m.dF.length=m.funcs.length)(b:∀v∈iL,v= -1\/(0<=v/\v<(m.funcs.length:Int))):sI m (kE nf s m iL):=by
 refine⟨rfl,by simp[kE,hc],λf F h=>?_,λv hv=>?_⟩
 .obtain⟨U,rfl⟩:=xL h;exact⟨rfl,Wl hm U (a.dF f U)⟩
 obtain h | ⟨U,c⟩:=b v hv
 .exact .inl h
 refine .inr ⟨U,?_⟩;simp[kE,hc];omega
theorem Wn(hm:iX N m)(k:N<=5000)(d:∀x a b,(nf x a b).2<=7):EvB (kE nf s m iL):=by
 refine⟨λf F h=>?_,λf F h=>?_,λx n hx=>by simp[kE,Pj],λx a b=>d x a b⟩
 .obtain⟨U,rfl⟩:=xL h;have c:=FC hm U;refine⟨c.1,?_,λp hp=>?_⟩
  .have:=(rY m.dx (ry s m f) [0] [⟨false,0,(dM m f).outs.length,0,0⟩] []).1;show 0<(iI m.dx (ry s m f) [0] [⟨false,0,(dM m f).outs.length,0,0⟩] []).1.length;simp at this;omega
  refine uq (P:=λp=>p.num<4294967296/\IV p.wd=true) m.dx (ry s m f) [0] [⟨false,0,(dM m f).outs.length,0,0⟩] [] (λi hi b=>?_) qs p hp;obtain⟨e,g⟩:=Lt c.2.1 i hi;refine⟨?_,g⟩;have:=e.1;unfold mJ at this;show i.2.2.num.1.toNat<4294967296;omega
 obtain⟨U,rfl⟩:=xL h;have c:=FC hm U;have j:=(rY m.dx (ry s m f) [0] [⟨false,0,(dM m f).outs.length,0,0⟩] []).2.2;have l:(ry s m f).length<=_:=Bi;show(iI m.dx (ry s m f) [0] [⟨false,0,(dM m f).outs.length,0,0⟩] []).2.length<=10000;have:=c.2.2;simp only[qbs]at j;omega
theorem SE:∀v∈iM m,v= -1:=by
 intro v hv;unfold iM at hv;split at hv
 .simp at hv
 exact List.eq_of_mem_replicate hv
theorem Ru(hm:iX N m)(b:IP s m)(h:sZ 0 m.elems (iM m)=.ok iL):∀v∈iL,v= -1\/(0<=v/\v<(m.funcs.length:Int)):=
 LD h (λv hv=>.inl (SE v hv)) (λe a y hy=>.inr ⟨by
  have:=(hm.elems.2 e a);unfold Ii at this;exact(this.2.2.2 y hy).1,(b.elems e a).2 y hy⟩)
theorem EM(hm:iX N m)(b:IP s m)(c:x9 m):(jW m).length%64=0/\(jW m).length<=64*eH m/\eH m<=16:=by
 unfold jW eH;cases a:m.fP with
 | nil=>simp
 | cons l r=>
  have U:=b.fP l (by rw[a];exact qbz);have d:=c.fP l (by rw[a];exact qbz);simp only[qba];unfold AZ;refine⟨qo,?_,?_⟩
  .split
   .rename_i hh;have:=U.2 hh;omega
   omega
  split
  .rename_i hh;have:=U.2 hh;omega
  omega
theorem uI:(jK m).length=m.dI.length:=by simp[jK]
end
theorem Qc{w0 w:qW}{G:Gm}{rb Y fu most:Nat}{tv fv ev bv:qv}{Xq:List It}{s:Rn}{vs a b c:qv}{gf cf k q:Nat}{f:Fr}(h:Sx w0 w (LM G rb Y fu tv fv ev bv most ⟨vs,a,qL gf s.eY.length cf,b,c⟩ s Xq))(hf:s.eY.getLast?=some f)(X:k=s.eY.length - 1):
  Sx w0 (w.setCell ⟨gf,k*3+1,none⟩ (qJ q)) (LM G rb Y fu tv fv ev bv most ⟨vs,a,qL gf s.eY.length cf,b,c⟩ (mE s q) Xq):=by
 have U:=h.EG 3 (k*3+1) (qJ q) rfl;obtain⟨d,e⟩:=xJ (G:=G) (q:=q) hf X;rw[d]at U;simp only[LM,qz,qw]at U ⊢;rw[e];exact U
section
variable {w0 w:qW}{G:Gm}{E:Ev}{Q:Nat->Gf}{rb Y fu most:Nat}{tv fv ev bv:qv}{Xq:List It}{s s':Rn}{Ti To:Nat->qv}{m:dX}
def VO(fn:FuncId)(w0:World)(G:Gm)(E:Ev)(rb Y:Nat)(tv fv ev bv:Value)(most:Nat)(Xq:List It)(lo:Nat)(D:PS->Rn->Option (Rn×Nat)):Prop:=
 ∀(fu f k why:Nat)(F:PF)(p:PS)(s s':Rn)(w:World),RA w0 G rb Y fu tv fv ev bv most Xq s w->E.fs[f]?=some F->F.ss[k]?=some p->lo<p.wd->s.stk.length<=300000->s.mem.length<=700000->D p s=some (s',why)->
  qC fn #[qP rb,.pointer (some ⟨G.sg f,k*5,none⟩)] w λe w'=>e=.returned (qJ why)/\RA w0 G rb Y fu tv fv ev bv most Xq s' w'
theorem Jp{n why left:Nat}(D:jg Xq G E Q fv)(hT:Cf Xq E tv bv Ti To)(hE:sI m E)(I:EvB E)(hM:VO 197 w0 G E rb Y tv fv ev bv most Xq 36 (lD E))(hN:VO 198 w0 G E rb Y tv fv ev bv most Xq 64 (ou E))(aD:E.most<=10000)
  (h:RA w0 G rb Y fu tv fv ev bv most Xq s w) (z:nT m E s) (K:wO E s) (hl:s.stk.length+51*fu<=299000) (X:s.lab.length+fu<=90000) (L:lI E n fu s=some (s',why,left)):
  qC 83 #[qP rb] w λe w'=>e=.returned (qJ why)/\RA w0 G rb Y left tv fv ev bv most Xq s' w':=by
 have H:qh (RA w0 G rb Y fu tv fv ev bv most Xq s w/\nT m E s/\wO E s/\s.stk.length+51*fu<=299000/\s.lab.length+fu<=90000/\lI E n fu s=some (s',why,left)):=⟨h,z,K,hl,X,L⟩;clear h z K hl X L;go_enter func83,ntmps83;go_wp2_with fail
 go_loopg [3,4,5] n (λk u3 u4 u5 wr=>∃(i:Nat)(d:Rn),RA w0 G rb Y i tv fv ev bv most Xq d wr/\nT m E d/\wO E d/\d.stk.length+51*i<=299000/\d.lab.length+i<=90000/\lI E k i d=some (s',why,left))
 case atStart=>exact⟨fu,s,H.o⟩
 clear H;obtain⟨i,d,⟨v,h⟩,z,K,hl,X,L⟩:=hrel;obtain⟨k,ap,aq⟩:=MG hE z L;subst ap;have aa:=z.fl;obtain⟨vs,vl,vf,vm,vg⟩:=v;obtain⟨pf,cf,B⟩:=Row.shape (h.isRow 3 rfl);simp only at B;subst B;obtain⟨a4,b4⟩:=h.c 0 4 rfl rfl;have ab:=h.lt 0 rfl;obtain⟨h0,hx⟩ | ⟨h0,fr,F,ac,t,J⟩:=aq
 .cases hx;have t0:(s'.eY.length:Int)=0:=by rw[h0];rfl
  have t1:¬(0<(s'.eY.length:Int)):=qo;have H:=qH h;clear h z K L h0 t0;go_wp2;go_ret;exact⟨rfl,_,H.o⟩
 have M:0<d.eY.length:=by
  cases hq:d.eY with
  | nil=>exact absurd hq h0
  | cons a b=>simp
 have t1:(0:Int)<(d.eY.length:Int):=qo;obtain⟨gf,ag,B,-,N,aE,x⟩:=Row.cells (h.isRow 3 rfl) M;cases B;obtain⟨j,u⟩:=qE (d.eY.length - 1);have ah:d.eY[j]?=some fr:=by rw[u,<-qbm];exact ac
 have HC:=qH (rX h rfl aa M);rw[<-u]at HC;have l:qh (d.eY[j]?=some fr/\j=d.eY.length - 1/\d.eY.getLast?=some fr/\nT m E d/\wO E d):=⟨ah,u,ac,z,K⟩;have S:=qH J;clear h x N ah ac u z K L J h0;go_wp2_with fail
 refine HC.o.mono ?_;rintro e T⟨rfl,U⟩;clear HC a4 b4 ab;obtain⟨ar,ag,B,-,N,au,x⟩:=Row.cells (U.isRow 3 rfl) M;cases B;have c1:T.cell? ⟨gf,j*3+1,none⟩=some (qJ fr.nx):=(x (j*3+1) (by have:=l.o.2.1;omega)).trans (flat_get (m:=3) (o:=1) (λ_=>rfl) l.o.1 qo);have c0:T.cell? ⟨gf,j*3,none⟩=some (.pointer (some ⟨G.fg,fr.f*5,none⟩)):=(x (j*3) (by have:=l.o.2.1;omega)).trans (flat_get (m:=3) (o:=0) (λ_=>rfl) l.o.1 qo);obtain⟨c4,ad⟩:=D.fn U fG t (o:=4) qo;obtain⟨aw,ai,V⟩:=Row.shape ((D.Z fr.f F t).1.row U fG);replace c4:T.cell? ⟨G.fg,fr.f*5+4,none⟩=some (.slice aw F.ss.length ai):=c4.trans (by rw[<-V];rfl)
 clear x;obtain⟨ax,r,ae,O,P⟩ | ⟨p,hp,J⟩:=S.o
 .have t2:((fr.nx:Int)==(F.ss.length:Int))=true:=by simp;omega
  have HL:=qH (λ(q:Nat)=>wh (U.drewN q) D l.o.2.2.2.1.V9 qo qo aa ae);have W:qh (nT m E r/\wO E r/\r.stk.length+51*i<=299000/\r.lab.length+i<=90000/\lI E k i r=some (s',why,left)):=by
   obtain⟨g1,g2,g3⟩:=xD ae;refine⟨O,?_,qo,qo,P⟩;have:=l.o.2.2.2.2;unfold wO at this ⊢;rw[g3];exact this
  clear U ae O P ax S l V M t1;go_wp2_with fail
  go_quiet (fail)
  go_wp2_with fail
  refine(HL.o _).mono ?_;rintro e w2⟨rfl,y⟩;have H2:=qH y;clear y HL;go_wp2;go_roundg k
  case measure=>omega
  exact⟨i,r,H2.o,W.o⟩
 have aF:=(qae.1 hp).1;have t2:((fr.nx:Int)==(F.ss.length:Int))=false:=by simp;omega
 have t3:(fr.nx:Int)<(F.ss.length:Int):=qo;obtain⟨A,aj⟩:=(D.Z fr.f F t).2 qo;rw[V]at aj;cases aj;have H1:=qH U;clear U;go_wp2_with fail
 go_quiet (fail)
 have y:=H1.o.drewN nq;clear H1 c0 c1 c4 ad N;generalize T.drewN nq=w2 at*;obtain⟨a1,b1⟩:=y.c 0 1 rfl rfl;have ab:=y.lt 0 rfl;obtain⟨h0,hx⟩ | ⟨h0,r,wy,ak,J⟩:=J
 .cases hx;subst h0;have H2:=qH y;clear y S l;go_wp2;go_ret;exact⟨rfl,_,H2.o⟩
 have t4:((i:Int)==0)=false:=by simp;omega
 have t5:IntKind.i64.wrap ((i:Int) - 1)=((i - 1:Nat):Int):=by rw[show(i:Int) - 1=((i - 1:Nat):Int) by omega];exact qaf _ ⟨qo,qo⟩
 have C:=y.set 0 1 (qJ ((i - 1:Nat):Int)) rfl;have al:qh (Sx w0 (w2.setCell (qA rb 1) (qJ ((i - 1:Nat):Int))) (LM G rb Y (i - 1) tv fv ev bv most ⟨vs,vl,qL gf d.eY.length cf,vm,vg⟩ d Xq)):=C;have HD:=qH ak;have ay:=qH J;have H0:=qH h0;clear C ak J h0 S;go_upto_region 8 with fail
 have C:=al.o;generalize w2.setCell (qA rb 1) (qJ ((i - 1:Nat):Int))=w3 at*;clear al y a1 b1 ab t5;obtain⟨ar,ag,B,-,N,au,x⟩:=Row.cells (C.isRow 3 rfl) M;cases B;have c1:w3.cell? ⟨gf,j*3+1,none⟩=some (qJ fr.nx):=(x (j*3+1) (by have:=l.o.2.1;omega)).trans (flat_get (m:=3) (o:=1) (λ_=>rfl) l.o.1 qo);have c0:w3.cell? ⟨gf,j*3,none⟩=some (.pointer (some ⟨G.fg,fr.f*5,none⟩)):=(x (j*3) (by have:=l.o.2.1;omega)).trans (flat_get (m:=3) (o:=0) (λ_=>rfl) l.o.1 qo);obtain⟨c4,ad⟩:=D.fn C fG t (o:=4) qo;replace c4:w3.cell? ⟨G.fg,fr.f*5+4,none⟩=some (.slice (some ⟨G.sg fr.f,0,none⟩) F.ss.length ai):=c4.trans (by rw[<-V];rfl)
 have b1:=C.vM 3 (j*3+1) rfl;have aG:=I.Yo fr.f F t;have t6:IntKind.i64.wrap ((fr.nx:Int)+1)=((fr.nx+1:Nat):Int):=by rw[show(fr.nx:Int)+1=((fr.nx+1:Nat):Int) by omega];exact qaf _ ⟨qo,qo⟩
 have W:=qH (λ(q:Nat)=>Qc (q:=fr.nx+1) (C.drewN q) l.o.2.2.1 l.o.2.1);clear x C;go_quiet (fail)
 go_wp2_with fail
 have R:=W.o nq;obtain⟨aH,aI,af⟩:=I.loc fr.f F t;obtain⟨af,aJ⟩:=af p (qai hp);have am:(mE d (fr.nx+1)).eY.length<=50:=by rw[(xJ (G:=G) l.o.2.2.1 l.o.2.1).2];exact aa
 have an:d.mem.length<=700000:=by have:=l.o.2.2.2.2;unfold wO at this;omega
 have ao:ny E (mE d (fr.nx+1)):=l.o.2.2.2.1.V9;refine(SQ ⟨_,R⟩ D t hp (λj F u=>⟨(I.loc j F u).2.1,by have:=(I.loc j F u).1;omega⟩) af ao (show d.stk.length<=300000 by omega) (show d.lab.length<100000 by omega) am HD.o
  (λhi=>PI ⟨_,R⟩ D hT t hp (λj F u=>⟨(I.loc j F u).2.1,by have:=(I.loc j F u).1;omega⟩) (show d.stk.length<=300000 by omega) (show d.lab.length<=100000 by omega) am hi)
  (λaA hi=>hM _ _ _ _ _ _ _ _ _ ⟨_,R⟩ t hp aA (show d.stk.length<=300000 by omega) an hi)
  (λaB hi=>hN _ _ _ _ _ _ _ _ _ ⟨_,R⟩ t hp aB (show d.stk.length<=300000 by omega) an hi)).mono ?_
 rintro e w5⟨rfl,h5⟩;have H5:=qH h5;clear R h5 W c0 c1 c4 N ad b1 ao;obtain⟨hw,hx⟩ | ⟨hw,O,P⟩:=ay.o
 .cases hx;have t7:((why:Int)==0)=false:=by simp;omega
  clear hw;go_wp2;go_ret;exact⟨rfl,H5.o⟩
 subst hw;have aC:qh (nT m E r/\wO E r/\r.stk.length+51*(i - 1)<=299000/\r.lab.length+(i - 1)<=90000/\lI E k (i - 1) r=some (s',why,left)):=by
  obtain⟨g,-⟩:=UF I HD.o;have g1:=g.stk;have g2:=g.lab;have h0:=H0.o;have e1:(mE d (fr.nx+1)).stk.length=d.stk.length:=rfl;have e2:(mE d (fr.nx+1)).lab.length=d.lab.length:=rfl;exact⟨O,g.mem l.o.2.2.2.2,qo,qo,P⟩
 clear O P;go_wp2;go_roundg k
 case measure=>omega
 exact⟨i - 1,r,H5.o,aC.o⟩
end
end Go.Proofs.YtfkcodlceoghpaaGreatDoor
