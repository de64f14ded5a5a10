import Derived.Test.YtdaafkmhfedkiaaGreatX30
import Derived.Test.YtdaafkmhfedkiaaGreatX31
import Derived.Test.YtdaafkmhfedkiaaGreatX32
import Derived.Test.YtdaafkmhfedkiaaGreatX33
import Derived.Test.YtdaafkmhfedkiaaGreatX34
namespace Go.Proofs.YtdaafkmhfedkiaaGreat
set_option maxHeartbeats 6400000
set_option maxRecDepth 100000
open Go.RowKit Go.Proofs.Tryz
section
variable {S ok Gy:qD} {w w':qW} {x A:Nat} {c:FC} {p:qO} {Z:Bk} {lv:qv} {i:fA} {W:qS} {xx fb:Nat} {ms cs:qV} {pm:qO} {qb nx:Nat} {m:RM}
theorem RD(h:dZ w x c p A Z)(k:Z.opn≠[])(l:0<=i.xn)(D:∃p n c,lv=.slice p n c)(E:Z.di.size<=900000)(Q:(W.toList==[99,97,108,108])=false)(R:(W.toList==[99,97,108,108,95,105,110,100,105,114,101,99,116])=false)(T:(W.toList==[100,114,111,112])=false)(U:(W.toList==[115,101,108,101,99,116])=false)(V:(W.toList==[108,111,99,97,108,46,103,101,116])=false)(X:(W.toList==[108,111,99,97,108,46,115,101,116])=false)(Y:(W.toList==[108,111,99,97,108,46,116,101,101])=false)(aa:(W.toList==[103,108,111,98,97,108,46,103,101,116])=false)(ab:(W.toList==[103,108,111,98,97,108,46,115,101,116])=false)(F:3<W.size)(q:((W.extract 0 3).toList==[105,54,52])=aac i.op)(r:(W.toList==[109,101,109,111,114,121,46,115,105,122,101])=decide (i.op=63))(s:(W.toList==[105,51,50,46,99,111,110,115,116])=decide (i.op=65))(u:(W.toList==[105,54,52,46,99,111,110,115,116])=decide (i.op=66))(v:(W.toList==[109,101,109,111,114,121,46,103,114,111,119])=decide (i.op=64))(y:(W.toList==[105,51,50,46,119,114,97,112,95,105,54,52])=decide (i.op=167))(z:(W.toList==[105,54,52,46,101,120,116,101,110,100,95,105,51,50,95,115])=decide (i.op=172))(B:(W.toList==[105,54,52,46,101,120,116,101,110,100,95,105,51,50,95,117])=decide (i.op=173))(G:i.op<100000000000):
  qC 110 #[qP x,.agg (i.cells lv).toArray,.string W] w fun e w'=>qU e/\dZ w' x c p A (yf i (sumT (kS (aac i.op)) i.op (decide (i.op=63)) (decide (i.op=65)) (decide (i.op=66)) (decide (i.op=64)) (decide (i.op=167)) (decide (i.op=172)) (decide (i.op=173))) Z)/\Kept (only x) w w':=by
 obtain⟨pl,nl,cl,rfl⟩:=D;obtain⟨a,f⟩:∃a:Nat,i.xn=(a:Int):=⟨i.xn.toNat,qo⟩;have H:i.xn.toNat=a:=qo;have hx:=h.lt;have C:=hide h;have I:=hide k;have J:=hide f;have K:=hide l;unfold fA.cells;rw[f];clear h k l f H;go_enter func110,ntmps110;have b:OB (w.alloc (.cells (iC i a (.slice pl nl cl)).toArray 79)) x w.heap.size (iC i a (.slice pl nl cl)):=OB.new (c:=(iC i a (.slice pl nl cl)).toArray) (t:=79) hx rfl;have g:=C.o.alloc (.cells (iC i a (.slice pl nl cl)).toArray 79);have L:Kept (only x) w (w.alloc (.cells (iC i a (.slice pl nl cl)).toArray 79)):=qr.alloc _;obtain⟨⟨M,-⟩,-⟩:=g.blk.gI;have ac:=g.lt;clear C;obtain⟨ib,j⟩:=qE w.heap.size;rw[<-j] at b;clear hx;go_upto_block 0 with fail
 rw[<-j];clear j M;generalize (w.alloc (.cells (iC i a (.slice pl nl cl)).toArray 79))=W1 at*;obtain⟨-,-,⟨A2,-⟩,-⟩:=b.blk.nine;have lI:=b.lt;have d:=Yc (lv:=.slice pl nl cl) g I.o K.o ⟨pl,nl,cl,rfl⟩ F q r s u v y z B E G;unfold fA.cells at d;rw[J.o] at d;have N:=hide d;obtain⟨⟨A0,-⟩,⟨A1,-⟩,-,⟨A3,-⟩,⟨A4,-⟩,⟨A5,-⟩,⟨A6,-⟩,⟨A7,-⟩,⟨A8,-⟩⟩:=b.blk.nine;clear d q r s u v y z B;go_wp2_with fail
 refine N.o.mono ?_;rintro e w2 ⟨rfl,O,P⟩;go_wp2;go_end0;exact⟨rfl,O,L.trans P⟩
theorem UL(h:dZ w x c p A Z)(a:Z.opn≠[])(s:∀V,Kept (only x) w V->oU V xx c.Y fb ms cs pm qb m nx)(b:0<=i.xn)(d:∃p n c,lv=.slice p n c)(l:Z.di.size<=900000)(z:∀k,(gy m.dm k).1.size<=8/\(gy m.dm k).2.size<=8)(u:c.kinds.size<=1000)(f:(W.toList==[99,97,108,108])=decide (i.op=16))(g:(W.toList==[99,97,108,108,95,105,110,100,105,114,101,99,116])=decide (i.op=17))(j:(W.toList==[100,114,111,112])=decide (i.op=26))(o:(W.toList==[115,101,108,101,99,116])=decide (i.op=27))(q:(W.toList==[108,111,99,97,108,46,103,101,116])=decide (i.op=32))(r:(W.toList==[108,111,99,97,108,46,115,101,116])=decide (i.op=33))(t:(W.toList==[108,111,99,97,108,46,116,101,101])=decide (i.op=34))(v:(W.toList==[103,108,111,98,97,108,46,103,101,116])=decide (i.op=35))(B:(W.toList==[103,108,111,98,97,108,46,115,101,116])=decide (i.op=36))(D:37<=i.op->3<W.size)(E:((W.extract 0 3).toList==[105,54,52])=aac i.op)(F:(W.toList==[109,101,109,111,114,121,46,115,105,122,101])=decide (i.op=63))(G:(W.toList==[105,51,50,46,99,111,110,115,116])=decide (i.op=65))(H:(W.toList==[105,54,52,46,99,111,110,115,116])=decide (i.op=66))(I:(W.toList==[109,101,109,111,114,121,46,103,114,111,119])=decide (i.op=64))(J:(W.toList==[105,51,50,46,119,114,97,112,95,105,54,52])=decide (i.op=167))(K:(W.toList==[105,54,52,46,101,120,116,101,110,100,95,105,51,50,95,115])=decide (i.op=172))(L:(W.toList==[105,54,52,46,101,120,116,101,110,100,95,105,51,50,95,117])=decide (i.op=173))(ac:i.op<256)(ad:i.op=16\/i.op=17\/i.op=26\/i.op=27\/(32<=i.op/\i.op<=36)\/37<=i.op)
  (M:i.op=16->i.xn.toNat<m.tys.length) (N:i.op=17->i.xn.toNat<m.dm.length) (y:32<=i.op/\i.op<=34->i.xn.toNat<c.kinds.size) (C:35<=i.op/\i.op<=36->i.xn.toNat<m.dB.length):
  qC 110 #[qP x,.agg (i.cells lv).toArray,.string W] w fun e w'=>qU e/\dZ w' x c p A (kD m c i Z)/\Kept (only x) w w':=by
 unfold kD;by_cases e:i.op=16
 .rw[if_pos e];exact RG h a s b d l (by rw[f];exact decide_eq_true e) (M e) z
 rw[if_neg e];have O:=e;clear e;by_cases e:i.op=17
 .rw[if_pos e];exact JV h a s b d l (by rw[f];exact qd) (by rw[g];exact decide_eq_true e) (N e) z
 rw[if_neg e];have P:=e;clear e;by_cases e:i.op=26
 .rw[if_pos e];exact RF h a b d (by rw[f];exact qd) (by rw[g];exact qd) (by rw[j];exact decide_eq_true e)
 rw[if_neg e];have Q:=e;clear e;by_cases e:i.op=27
 .rw[if_pos e];exact LH h a b d l (by rw[f];exact qd) (by rw[g];exact qd) (by rw[j];exact qd) (by rw[o];exact decide_eq_true e)
 rw[if_neg e];have R:=e;clear e;by_cases e:i.op=32
 .rw[if_pos e];exact GM h a b d l (by rw[f];exact qd) (by rw[g];exact qd) (by rw[j];exact qd) (by rw[o];exact qd) (by rw[q];exact decide_eq_true e) (y qo) u
 rw[if_neg e];have T:=e;clear e;by_cases e:i.op=33
 .rw[if_pos e];exact GL h a b d (by rw[f];exact qd) (by rw[g];exact qd) (by rw[j];exact qd) (by rw[o];exact qd) (by rw[q];exact qd) (by rw[r];exact decide_eq_true e) (y qo) u
 rw[if_neg e];have U:=e;clear e;by_cases e:i.op=34
 .rw[if_pos e];exact GK h a b d l (by rw[f];exact qd) (by rw[g];exact qd) (by rw[j];exact qd) (by rw[o];exact qd) (by rw[q];exact qd) (by rw[r];exact qd) (by rw[t];exact decide_eq_true e) (y qo) u
 rw[if_neg e];have X:=e;clear e;by_cases e:i.op=35
 .rw[if_pos e];exact Fp h a s b d l (by rw[f];exact qd) (by rw[g];exact qd) (by rw[j];exact qd) (by rw[o];exact qd) (by rw[q];exact qd) (by rw[r];exact qd) (by rw[t];exact qd) (by rw[v];exact decide_eq_true e) (C qo)
 rw[if_neg e];have aa:=e;clear e;by_cases e:i.op=36
 .rw[if_pos e];exact Fj h a s b d (by rw[f];exact qd) (by rw[g];exact qd) (by rw[j];exact qd) (by rw[o];exact qd) (by rw[q];exact qd) (by rw[r];exact qd) (by rw[t];exact qd) (by rw[v];exact qd) (by rw[B];exact decide_eq_true e) (C qo)
 rw[if_neg e];have ab:=e;clear e;exact RD h a b d l (by rw[f];exact decide_eq_false O) (by rw[g];exact decide_eq_false P) (by rw[j];exact decide_eq_false Q) (by rw[o];exact decide_eq_false R) (by rw[q];exact decide_eq_false T) (by rw[r];exact decide_eq_false U) (by rw[t];exact decide_eq_false X) (by rw[v];exact decide_eq_false aa) (by rw[B];exact decide_eq_false ab) (D qo) E F G H I J K L qo
end
structure aba(r:RM):Prop where
 ahw:r.dw.length<=1000/\r.dB.length<=1000
 what:∀e∈r.dw,e.what<=3
 elems:r.elems.length<=1000/\∀p∈r.elems,p.funcs.length<=1000
 data:r.data.length<=1000/\∀p∈r.data,p.funcs.length<=1000
 T8:∀k,(gy r.dm k).1.size<=8/\(gy r.dm k).2.size<=8
section
variable {α β:Type} {s:qS} {m:fE} {r:RM} {N:Nat}
theorem nD.mem{R:α->β->Prop}{xs:List α}{ys:List β}(h:nD R xs ys){y:β}(hy:y∈ys):∃x,x∈xs/\R x y:=by
 obtain⟨k,X,c⟩:=List.getElem_of_mem hy;obtain⟨U,L⟩ | ⟨a,b,U,L,h3⟩:=h.get k
 .rw[List.getElem?_eq_getElem X] at L;cases L
 rw[List.getElem?_eq_getElem X,c] at L;cases L;exact⟨a,List.mem_of_getElem? U,h3⟩
theorem af4(h:uN s m r)(c:mK N m):aba r:=by
 refine⟨⟨?_,?_⟩,fun e f=>?_,⟨?_,fun p hp=>?_⟩,⟨?_,fun p hp=>?_⟩,fun k=>?_⟩
 .rw[<-h.dw.1];have:=c.dw.1;omega
 .rw[<-h.dB.1];have:=c.dB.1;omega
 .obtain⟨x,hx,hr⟩:=h.dw.mem f;rw[<-hr.2.2.1];exact(c.dw.2 x hx).2.2
 .rw[<-h.elems.1];have:=c.elems.1;omega
 .obtain⟨x,hx,hr⟩:=h.elems.mem hp;rw[<-hr.2.2.1];have:=(c.elems.2 x hx).2.2.1;omega
 .rw[<-h.data.1];have:=c.data.1;omega
 .obtain⟨x,hx,hr⟩:=h.data.mem hp;rw[hr.2.2.2];exact qZ
 unfold gy;rw[List.getD_eq_getElem?_getD];obtain⟨U,L⟩ | ⟨a,b,U,L,h3⟩:=h.dm.get k
 .rw[L];exact⟨qZ,qZ⟩
 rw[L];have d:=c.dm.2 a (List.mem_of_getElem? U);show b.1.size<=8/\b.2.size<=8;rw[h3.1.size,h3.2.size];exact⟨d.1,Nat.le_trans d.2 qo⟩
theorem aap(s:qS)(hb:(dR s).2.bad=none):aba (dR s).1:=by
 rcases a:nO s with e|q
 .exact absurd (hb.symm.trans (QB a)) qs
 exact af4 (m:=q.1) (EP a).2.1 (DI a).1
end
end Go.Proofs.YtdaafkmhfedkiaaGreat
