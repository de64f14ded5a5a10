import Derived.Test.YtdaafkmhfedkiaaGreatX22
namespace Go.Proofs.YtdaafkmhfedkiaaGreat
set_option maxHeartbeats 1600000
set_option maxRecDepth 100000
open Go.RowKit Go.Proofs.Tryz
section
variable {S:qD} {w w':qW} {x A:Nat} {c:FC} {p:qO} {Z:Bk}
theorem Ws:∀(l:List kX) (k o:Nat),o<5->(l.flatMap kX.cells)[k*5+o]?=(l[k]?).bind (fun r=>(kX.cells r)[o]?)
 | [],k,o,_=>qs
 | r::l,0,o,h=>by
  rw[List.flatMap_cons,List.getElem?_append_left (by simp[kX.cells];omega)];simp
 | r::l,k+1,o,h=>by
  rw[List.flatMap_cons,List.getElem?_append_right (by simp[kX.cells];omega)];have:(k+1)*5+o - (kX.cells r).length=k*5+o:=by simp[kX.cells];omega
  rw[this,Ws l k o h];simp
theorem dZ.at_(h:dZ w x c p A Z){k:Nat}{b:kX}(hb:Z.opn[k]?=some b):∃a,p=some (qA a 0)/\a<w.heap.size/\a≠x/\(Z.opn.length<=A/\Z.opn.length<=maxLen)/\
  w.cell? ⟨a,(Z.opn.length - 1 - k)*5,none⟩=some (.string b.word)/\w.cell? ⟨a,(Z.opn.length - 1 - k)*5+1,none⟩=some (.string b.l7)/\w.cell? ⟨a,(Z.opn.length - 1 - k)*5+2,none⟩=some (.string b.fo)/\w.cell? ⟨a,(Z.opn.length - 1 - k)*5+3,none⟩=some (qJ b.high)/\w.cell? ⟨a,(Z.opn.length - 1 - k)*5+4,none⟩=some (.bool b.dead):=by
 have X:=(List.getElem?_eq_some_iff.1 hb).1;have j:Z.opn.reverse[Z.opn.length - 1 - k]?=some b:=by
  rw[List.getElem?_reverse qo,show Z.opn.length - 1 - (Z.opn.length - 1 - k)=k by omega,hb]
 have e:Row (fun g=>g≠x) w 170 5 (.slice p Z.opn.length A) Z.opn.length (Z.opn.reverse.flatMap kX.cells):=by
  have:=h.row;unfold isRow at this;rwa[List.length_reverse] at this
 obtain⟨a,i,d,l,m,n,q⟩:=Row.cells e qo;obtain⟨rfl,rfl⟩:p=some (qA a 0)/\A=i:=by cases d;exact⟨rfl,rfl⟩
 have f:∀o,o<5->w.cell? ⟨a,(Z.opn.length - 1 - k)*5+o,none⟩=(kX.cells b)[o]?:=fun o r=>by
  rw[q _ qo,Ws _ _ _ r,j];rfl
 have s:Z.opn.length<=maxLen:=by
  rcases e.own.2 with⟨d,_⟩ | ⟨g',i,t,d,_,_,U,L,_⟩
  .cases d
  cases d;omega
 exact⟨a,rfl,m,l,⟨n,s⟩,f 0 qo,f 1 qo,f 2 qo,f 3 qo,f 4 qo⟩
theorem D9(h:dZ w x c p A Z)(Y:Z.opn≠[]):qC 142 #[qP x] w fun e w'=>e=.returned (qB ((jg Z).1:Nat))/\dZ w' x c p A (jg Z).2/\Kept (only x) w w':=by
 obtain⟨d,opn,er,now⟩:=Z;cases opn with
 | nil=>exact absurd rfl Y
 | cons b f=>
 obtain⟨-,-,⟨g,m⟩,⟨v,G⟩,-,-,⟨H,I⟩,-,-⟩:=h.blk.gI;obtain⟨og,rfl,y,am,aa,L,M,N,O,R⟩:=h.at_ (k:=0) (b:=b) rfl;simp only[List.length_cons,Nat.add_sub_cancel,Nat.sub_zero] at L M N O R v aa;have hx:=h.lt;have an:b.high<=d.size:=h.hi.1;have ao:d.size<=1000000:=h.big;have HI:=hide h;have ap:IntKind.i64.wrap (f.length:Int)=(f.length:Int):=IntWalk.i64_in _ ⟨qo,by have:=aa.2;unfold maxLen at this;omega⟩;have t1:(0:Int)<=(f.length:Int):=qo;have t2:(f.length:Int)<(f.length:Int)+1:=qo;clear h Y;go_enter func142,ntmps142;go_wp2_with fail
 have T:=dX hx v;have ab:=dX y L;have ac:=dX y M;have ad:=dX y N;have ae:=dX y O;have af:=dX y R;have q:qK w w.drew:=qr.drew;refine kQ (qK w) 13 ?_;iterate 12 refine pQ q ?_
 refine dx (i:=12) qk (dn rfl (fun K j=>?_));go_simp;refine j _ _ ⟨.inr (q.alloc _),?_⟩;clear j K;refine dx (i:=13) qk (dn rfl (fun K j=>?_));go_simp;refine j _ _ ⟨.inl rfl,?_⟩;clear j K;refine dM qk ?_ _;clear T ab ac ad ae af;have U:OB (w.alloc (.cells #[.string b.word,.string b.l7,.string b.fo,qJ b.high,.bool b.dead] 170)).drew x w.heap.size [.string b.word,.string b.l7,.string b.fo,qJ b.high,.bool b.dead]:=(OB.new (c:= #[.string b.word,.string b.l7,.string b.fo,qJ b.high,.bool b.dead]) (t:=170) hx rfl).drew;have r:=(HI.o.alloc (.cells #[.string b.word,.string b.l7,.string b.fo,qJ b.high,.bool b.dead] 170)).drew;have D:Kept (only x) w (w.alloc (.cells #[.string b.word,.string b.l7,.string b.fo,qJ b.high,.bool b.dead] 170)).drew:=(qr.alloc _).drew;clear g m v G H I L M N O R q HI;generalize (w.alloc (.cells #[.string b.word,.string b.l7,.string b.fo,qJ b.high,.bool b.dead] 170)).drew=W1 at*;obtain⟨-,-,⟨g,m⟩,⟨v,G⟩,-,-,⟨H,I⟩,-,-⟩:=r.blk.gI;have z:=r.lt;have lB:=U.lt;obtain⟨-,-,-,⟨B3,C3⟩,⟨V,C4⟩⟩:=U.blk.five;clear hx;by_cases n:d.size=b.high
 .have tb:(((d.size:Nat):Int)==(b.high:Int))=true:=by simp;omega
  have ag:((d.size:Nat):Int)=(b.high:Int):=qo;by_cases B:b.dead=true
  .have C:qh (jg ⟨d,b::f,er,now⟩=(63,⟨d,b::f,er,now⟩)):=by show _=_;simp[jg,n,B]
   rw[B] at V;clear n B;go_wp2_with fail
   go_quiet (fail)
   go_wp2;go_ret;rw[C.o];exact⟨rfl,r.drewN _,D.drewN _⟩
  have W:b.dead=false:=by simpa using B
  have C:qh (jg ⟨d,b::f,er,now⟩=(63,fF 4 now ⟨d,b::f,er,now⟩)):=by show _=_;simp[jg,n,W]
  rw[W] at V;clear n B W;go_wp2_with fail
  go_quiet (fail)
  go_wp2_with fail
  refine(nW (r.drewN _) 4 now qx).mono ?_;rintro e w2 ⟨rfl,s,E⟩;go_wp2;go_ret;rw[C.o];exact⟨rfl,s,(D.drewN _).trans E⟩
 have tb:(((d.size:Nat):Int)==(b.high:Int))=false:=by simp;omega
 have ag:¬((d.size:Nat):Int)=(b.high:Int):=qo;have aq:0<d.size:=qo;have ah:d.size - 1<d.size:=qo;have C:qh (jg ⟨d,b::f,er,now⟩=(d[d.size - 1].toNat,⟨d.extract 0 (d.size - 1),b::f,er,now⟩)):=by
  show _=_;simp only[jg];rw[if_neg n,zH ah]
 have t3:(0:Int)<=(d.size:Int) - 1:=qo;have t4:(d.size:Int) - 1<(d.size:Int):=qo;have t5:(d.size:Int) - 1<=(d.size:Int):=qo;have t7:(1:Int)<=(d.size:Int):=qo;have ar:IntKind.i64.wrap ((d.size:Int) - 1)=(d.size:Int) - 1:=IntWalk.i64_in _ ⟨qo,qo⟩;have ai:=hide n;clear n;go_wp2_with fail
 go_quiet (fail)
 have s:=r.drewN nq;have E:=D.drewN nq;clear g m v G H I U lB B3 C3 V C4 r D z;generalize W1.drewN nq=W2 at*;obtain⟨-,-,⟨g,m⟩,-,-,-,-,-,-⟩:=s.blk.gI;have z:=s.lt;go_wp2_with fail
 go_quiet (fail)
 have u:=s.drewN nq;have aj:=E.drewN nq;clear g m s E z;generalize W2.drewN nq=F at*;obtain⟨-,-,⟨g,m⟩,-,-,-,-,-,-⟩:=u.blk.gI;have z:=u.lt;go_wp2_with fail
 have T:=dX z g;have q:qK F F.drew:=qr.drew;refine kQ (qK F) 14 ?_;iterate 14 refine pQ q ?_
 refine dx (i:=14) qk (dn rfl (fun K j=>?_));go_simp;refine j _ _ ⟨.inl rfl,?_⟩;clear j K;refine dM qk ?_ _;clear T;have X:(d.extract 0 (d.size - 1)).size=d.size - 1:=by rw[ByteArray.size_extract];omega
 have ak:dZ (F.setCell (qA x 2) (.string (d.extract 0 (d.size - 1)))).drew x c (some (qA og 0)) A ⟨d.extract 0 (d.size - 1),b::f,er,now⟩:=by
  refine(u.EX (J:=⟨d.extract 0 (d.size - 1),b::f,er,now⟩) (qr.own _) (u.blk.set 2 (.string (d.extract 0 (d.size - 1)))) rfl ⟨?_,u.hi.2⟩ ?_ u.code).drew
  .have:=ai.o;simp only[X];omega
  simp only[X];omega
 clear q g m X;go_wp2;go_ret;rw[C.o];exact⟨rfl,ak,(aj.own _).drew⟩
theorem zZ:(jg Z).2.opn=Z.opn:=by
 unfold jg;split
 .rfl
 rename_i b a hb;split
 .split
  .exact hb.symm▸hb
  rw[vD]
 exact hb.symm▸hb
theorem yQ:(jg Z).2.now=Z.now:=by
 unfold jg;split
 .rfl
 split
 .split
  .rfl
  rw[Bi]
 rfl
theorem agZ:(jg Z).1<256:=by
 unfold jg;split
 .show(63:Nat)<256;decide
 split
 .show(63:Nat)<256;decide
 exact xg _ _
def jE(ks:qS):Nat->qS->Bk->qS×Bk
 | 0,were,Z=>(were,Z)
 | i+1,were,Z=>jE ks i (strOfNums [((jg Z).1:Int)]++were) (if(jg Z).1≠bt ks i/\(jg Z).1≠63 then fF 4 Z.now (jg Z).2 else(jg Z).2)
def dS(ks:qS)(Z:Bk):qS×Bk:=jE ks ks.size ⟨#[]⟩ Z
theorem iV(h:dZ w x c p A Z)(G:Z.opn≠[])(ks:qS)(af:ks.size<=100000):qC 139 #[qP x,.string ks] w fun e w'=>e=.returned (.string (dS ks Z).1)/\dZ w' x c p A (dS ks Z).2/\Kept (only x) w w':=by
 have ag:=Ar;have hx:=h.lt;have ah:IntKind.i64.wrap ((ks.size:Int) - 1)=(ks.size:Int) - 1:=IntWalk.i64_in _ ⟨qo,qo⟩;have H:qh (dS ks Z=jE ks ks.size ⟨#[]⟩ Z):=rfl;have ai:qh (Z.now=Z.now):=rfl;go_enter func139,ntmps139;go_wp2;go_loopw [5,6] (fun q p' wr=>∃(k:Nat) (b:qS) (J:Bk),k<=ks.size/\q=.string b/\p'=qJ ((k:Int) - 1)/\b.size+k=ks.size/\dZ wr x c p A J/\J.opn≠[]/\Kept (only x) w wr/\dS ks Z=jE ks k b J) (fun _ p' _=>(intOf p'+1).toNat)
 case atStart=>exact⟨ks.size,⟨#[]⟩,Z,qR,rfl,rfl,by show 0+ks.size=_;omega,h,G,Kept.refl _ _,H.o⟩
 obtain⟨k,b,J,aj,rfl,rfl,I,t,K,v,L⟩:=hrel;have m:=hide L;have M:=hide K;have U:=hide I;have ak:b.size<=100000:=qo;clear L H h G K I;cases k with
 | zero=>have n:qh (dS ks Z=(b,J)):=m.o;have V:¬(0:Int)<=((0:Nat):Int) - 1:=qo;clear m;go_wp2;go_ret;rw[n.o];exact⟨rfl,t,v⟩
 | succ i=>
  have V:(0:Int)<=(i:Int):=qo;have t1:(i:Int)<(ks.size:Int):=qo;have X:i<ks.size:=qo;have N:(((i+1:Nat):Int) - 1)=(i:Int):=qo;rw[N];have g:=zH X;have n:qh (dS ks Z=jE ks i (strOfNums [((jg J).1:Int)]++b) (if(jg J).1≠bt ks i/\(jg J).1≠63 then fF 4 J.now (jg J).2 else(jg J).2)):=m.o;have am:IntKind.i64.wrap ((i:Int) - 1)=(i:Int) - 1:=IntWalk.i64_in _ ⟨qo,qo⟩;clear m N;go_wp2_with fail
  refine(D9 t M.o).mono ?_;rintro e Y ⟨rfl,f,O⟩;have r:(jg J).2.opn≠[]:=by rw[zZ];exact M.o
  have s:(jg J).2.now=J.now:=yQ;obtain⟨⟨a,d⟩,y⟩:=qF (jg J);rw[y] at f r s ⊢;have P:qh (dS ks Z=jE ks i (strOfNums [(a:Int)]++b) (if a≠bt ks i/\a≠63 then fF 4 J.now d else d)):=by show _=_;rw[n.o,y]
  simp only at f r s ⊢;have z:=hide r;obtain⟨-,-,-,-,-,-,⟨Q,J6⟩,-,-⟩:=f.blk.gI;rw[s] at Q;have an:=f.lt;have B:=v.trans O;clear y n r s t v O;go_upto_region 6 with fail
  go_cut [25] from 17 to 25 (fun u W=>u=.bool (decide (a≠bt ks i/\a≠63))/\Y=W)
  case first=>
   by_cases c1:a=bt ks i
   .have aa:(((a:Nat):Int) !=((ks[i].toNat:Nat):Int))=false:=by rw[<-g,c1];simp
    have l:qh (decide (a≠bt ks i/\a≠63)=false):=by show _=_;simp[c1]
    clear c1 g;go_wp2;go_meet;exact⟨by rw[l.o],rfl⟩
   have aa:(((a:Nat):Int) !=((ks[i].toNat:Nat):Int))=true:=by rw[<-g];simp only[bne_iff_ne,ne_eq];omega
   by_cases c2:a=63
   .have ab:(((a:Nat):Int) !=63)=false:=by rw[c2];rfl
    have l:qh (decide (a≠bt ks i/\a≠63)=false):=by show _=_;simp[c2]
    clear c1 c2 g;go_wp2;go_meet;exact⟨by rw[l.o],rfl⟩
   have ab:(((a:Nat):Int) !=63)=true:=by simp only[bne_iff_ne,ne_eq];omega
   have l:qh (decide (a≠bt ks i/\a≠63)=true):=by show _=_;simp[c1,c2]
   clear c1 c2 g;go_wp2;go_meet;exact⟨by rw[l.o],rfl⟩
  case rest=>
  obtain⟨rfl,rfl⟩:=hcut;obtain⟨C,D⟩:=qF (decide (a≠bt ks i/\a≠63));rw[D];have R:qh ((if a≠bt ks i/\a≠63 then fF 4 J.now d else d)=if C=true then fF 4 J.now d else d):=by show _=_;rw[<-D];simp
  clear D g;go_upto_if 25 with fail
  go_cut [] from 25 to 31 (fun W=>∃j,(if C=true then fF 4 J.now d else d)=j/\dZ W x c p A j/\j.opn≠[]/\Kept (only x) w W)
  case first=>
   cases C with
   | true=>
    go_wp2_with fail
    refine(nW f 4 J.now qx).mono ?_;rintro e w4 ⟨rfl,E,F⟩;go_wp2;go_meet;exact⟨fF 4 J.now d,rfl,E,by rw[vD];exact z.o,B.trans F⟩
   | false=>go_wp2;go_meet;exact⟨_,rfl,f,z.o,B⟩
  case rest=>
  obtain⟨j,h3,E,T,F⟩:=hcut;have ac:qh (dS ks Z=jE ks i (strOfNums [(a:Int)]++b) j):=by show _=_;rw[P.o,R.o,h3]
  have ad:=hide T;have ao:¬9223372036854775807<(strOfNums [(a:Int)]).size+b.size:=by rw[strOfNums_size];simp;omega
  have ae:qh ((strOfNums [(a:Int)]++b).size+i=ks.size):=by show _=_;have:=U.o;rw[ByteArray.size_append,strOfNums_size];simp;omega
  clear h3 T f B P R z Q J6;go_wp2;go_roundw
  case rel=>exact⟨i,strOfNums [(a:Int)]++b,j,qo,rfl,rfl,ae.o,E.alloc _,ad.o,F.alloc _,ac.o⟩
  simp[intOf]
end
end Go.Proofs.YtdaafkmhfedkiaaGreat
