import Derived.Test.YtdaafkmhfedkiaaGreatX26
namespace Go.Proofs.YtdaafkmhfedkiaaGreat
set_option maxHeartbeats 6400000
set_option maxRecDepth 100000
open Go.RowKit Go.Proofs.Tryz
section
variable {S ok Gy:qD} {w w':qW} {x A:Nat} {c:FC} {p:qO} {Z:Bk} {lv:qv} {i:fA} {W:qS} {xx fb:Nat} {ms cs:qV} {pm:qO} {qb nx:Nat} {m:RM}
theorem MZ:(jg Z).2.di.size<=Z.di.size:=by
 unfold jg;split
 .exact qR
 split
 .simp only;split
  .exact qR
  rw[uf];exact qR
 show(Z.di.extract 0 (Z.di.size - 1)).size<=_;rw[ByteArray.size_extract];omega
theorem LH(h:dZ w x c p A Z)(M:Z.opn≠[])(am:0<=i.xn)(an:∃p n c,lv=.slice p n c)(av:Z.di.size<=900000)(aw:(W.toList==[99,97,108,108])=false)(ax:(W.toList==[99,97,108,108,95,105,110,100,105,114,101,99,116])=false)(ay:(W.toList==[100,114,111,112])=false)(az:(W.toList==[115,101,108,101,99,116])=true):
  qC 110 #[qP x,.agg (i.cells lv).toArray,.string W] w fun e w'=>qU e/\dZ w' x c p A (uo Z)/\Kept (only x) w w':=by
 obtain⟨pl,nl,cl,rfl⟩:=an;obtain⟨k,N⟩:∃k:Nat,i.xn=(k:Int):=⟨i.xn.toNat,qo⟩;have ao:i.xn.toNat=k:=qo;have hx:=h.lt;have O:=hide h;have D:=hide M;unfold fA.cells;rw[N];clear h M am N ao;go_enter func110,ntmps110;have y:OB (w.alloc (.cells (iC i k (.slice pl nl cl)).toArray 79)) x w.heap.size (iC i k (.slice pl nl cl)):=OB.new (c:=(iC i k (.slice pl nl cl)).toArray) (t:=79) hx rfl;have z:=O.o.alloc (.cells (iC i k (.slice pl nl cl)).toArray 79);have R:Kept (only x) w (w.alloc (.cells (iC i k (.slice pl nl cl)).toArray 79)):=qr.alloc _;obtain⟨⟨X0,-⟩,-⟩:=z.blk.gI;have ap:=z.lt;clear O;obtain⟨ib,E⟩:=qE w.heap.size;rw[<-E] at y;clear hx;go_upto_block 0 with fail
 rw[<-E];clear E X0;generalize (w.alloc (.cells (iC i k (.slice pl nl cl)).toArray 79))=W1 at*;obtain⟨-,-,⟨A2,-⟩,-⟩:=y.blk.nine;have lI:=y.lt;clear A2 lI;go_wp2_with fail
 refine(iV z D.o ⟨#[105]⟩ qx).mono ?_;rintro e w2 ⟨rfl,B,T⟩;have U:=R.trans T;have V:=l8 (Z:=Z) ⟨#[105]⟩;have hno:(dS ⟨#[105]⟩ Z).2.opn≠[]:=by rw[nM];exact D.o
 have f:(dS ⟨#[105]⟩ Z).2.now=Z.now:=AP _;obtain⟨⟨aq,u⟩,F⟩:=qF (dS ⟨#[105]⟩ Z);rw[F] at B V hno f ⊢;simp only at B V hno f ⊢;have X:=hide F;have G:=hide hno;have Y:=hide f;clear F hno f z R ap y T D;go_wp2_with fail
 refine(D9 B G.o).mono ?_;rintro e w3 ⟨rfl,C,aa⟩;have ac:=U.trans aa;have ad:=MZ (Z:=u);have hno:(jg u).2.opn≠[]:=by rw[zZ];exact G.o
 have f:(jg u).2.now=Z.now:=by rw[yQ];exact Y.o
 obtain⟨⟨b,H⟩,I⟩:=qF (jg u);rw[I] at C ad hno f ⊢;simp only at C ad hno f ⊢;have ae:=hide I;have af:=hide hno;have ag:=hide f;clear I hno f B U aa G Y;go_wp2_with fail
 refine(D9 C af.o).mono ?_;rintro e w4 ⟨rfl,LC,ah⟩;have acA:=ac.trans ah;have ai:=MZ (Z:=H);have f:(jg H).2.now=Z.now:=by rw[yQ];exact ag.o
 obtain⟨⟨a,KU⟩,J⟩:=qF (jg H);rw[J] at LC ai f ⊢;simp only at LC ai f ⊢;have r:qh (uo Z=iF (strOfNums [((if a=63 then b else a:Nat):Int)]) (if a≠b/\a≠63/\b≠63 then fF 4 Z.now KU else KU)):=by show _=_;unfold uo;rw[show dS iS Z=(aq,u) from X.o];simp only;rw[ae.o];simp only;rw[J];rfl
 obtain⟨-,-,-,-,-,-,⟨I6,-⟩,-,-⟩:=LC.blk.gI;rw[f] at I6;have ar:=LC.lt;clear J f C ac ah af ag ae X;by_cases g:a=63
 .have t1:(((a:Nat):Int) !=63)=false:=by rw[g];rfl
  have t2:(((a:Nat):Int)==63)=true:=by rw[g];rfl
  have HR:qh (uo Z=iF (strOfNums [(b:Int)]) KU):=by show _=_;rw[r.o,if_pos g,if_neg (fun d=>d.2.1 g)]
  clear g r;obtain⟨q,hq⟩:=qF ((((a:Nat):Int) !=((b:Nat):Int)));cases q with
  | true=>exact Zz6
  | false=>exact Zz6
 have t1:(((a:Nat):Int) !=63)=true:=by simp only[bne_iff_ne,ne_eq];omega
 have t2:(((a:Nat):Int)==63)=false:=by simp only[beq_eq_false_iff_ne,ne_eq];omega
 by_cases s:a=b
 .have t3:(((a:Nat):Int) !=((b:Nat):Int))=false:=by rw[s];simp
  have HR:qh (uo Z=iF (strOfNums [(a:Int)]) KU):=by show _=_;rw[r.o,if_neg g,if_neg (fun d=>d.1 s)]
  clear g s r;exact Zz7
 have t3:(((a:Nat):Int) !=((b:Nat):Int))=true:=by simp only[bne_iff_ne,ne_eq];omega
 by_cases v:b=63
 .have t4:(((b:Nat):Int) !=63)=false:=by rw[v];rfl
  have HR:qh (uo Z=iF (strOfNums [(a:Int)]) KU):=by show _=_;rw[r.o,if_neg g,if_neg (fun d=>d.2.2 v)]
  clear g s v r;exact Zz7
 have t4:(((b:Nat):Int) !=63)=true:=by simp only[bne_iff_ne,ne_eq];omega
 have HR:qh (uo Z=iF (strOfNums [(a:Int)]) (fF 4 Z.now KU)):=by show _=_;rw[r.o,if_neg g,if_pos ⟨s,g,v⟩]
 clear g s v r;go_wp2_with fail
 refine(nW LC 4 Z.now qx).mono ?_;rintro e j ⟨rfl,L,aj⟩;have au:=acA.trans aj;have aA:(fF 4 Z.now KU).di.size<=KU.di.size:=by rw[uf];exact qR
 clear LC acA aj I6 ar;generalize fF 4 Z.now KU=ak at*;go_wp2_with fail
 obtain⟨-,-,⟨I2,J2⟩,-⟩:=L.blk.gI;have hxv:=L.lt;have hsn:(strOfNums [(a:Int)]).size=1:=by rw[strOfNums_size];rfl
 have acC:¬9223372036854775807<ak.di.size+1:=qo;have nk:=dX hxv I2;have hS0:qK j j.drew:=qr.drew;refine kQ (qK j) 11 ?_;iterate 6 refine pQ hS0 ?_
 refine dx (i:=6) qk (dn rfl (fun K hK=>?_));go_simp;have hS1:qK j (j.drew.alloc (.cells #[qB a] 5)):=hS0.alloc _;refine hK _ _ ⟨.inr hS1,?_⟩;clear hK K;refine dx (i:=7) qk (dn rfl (fun K hK=>?_));have hcv:=jb (j.alloc (.cells #[qB a] 5)).drew j.heap.size (a:Nat) (rD j (a:Nat));have hS2:qK j (j.alloc (.cells #[qB a] 5)).drew:=(qr.alloc _).drew;go_simp;refine hK _ _ ⟨.inr hS2,?_⟩;clear hK K hcv;refine tk 8 [] hS2 ?_;refine tk 9 [10] hS2 ?_;refine tk 10 [] hS2 ?_;refine dx (i:=11) qk (dn rfl (fun K hK=>?_));go_simp;refine hK _ _ ⟨.inl rfl,?_⟩;clear hK K;refine dM qk ?_ _;clear nk;have hI8:=((L.dH (strOfNums [(a:Int)]) qo).alloc (.cells #[qB a] 5)).drew;have V8:=((au.own (o:=2) (.string (ak.di++strOfNums [(a:Int)]))).alloc (.cells #[qB a] 5)).drew;clear hS0 hS1 hS2 I2 J2;go_wp2;go_end0;rw[HR.o];exact⟨rfl,hI8,V8⟩
end
end Go.Proofs.YtdaafkmhfedkiaaGreat
