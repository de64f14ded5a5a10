import Derived.Test.YtdaafkmhfedkiaaGreatX18
namespace Go.Proofs.YtdaafkmhfedkiaaGreat
set_option maxHeartbeats 6400000
set_option maxRecDepth 100000
open Go.RowKit Go.Proofs.Tryz
def xh(r:Nat×Nat):List Value:=[qJ r.1,qJ r.2,.string ⟨#[]⟩,qN,qJ 0,.string ⟨#[]⟩,qN]
theorem Tryz.aeM:(prog.info? 70).map (fun i=>(i.zero,i.size,i.bytes))=some (some (.agg #[qJ 0,qJ 0,.string ⟨#[]⟩,qN,qJ 0,.string ⟨#[]⟩,qN]),7,104):=qk
section
variable {S:qD} {w w':qW} {x Y:Nat} {s:qS} {Z:RS}
theorem Row.form{ok:qD}{E:TypeId}{a:Nat}{v:qv}{n:Nat}{xs:qV}(h:Row ok w E a v n xs):∃p c,v=.slice p n c:=by
 rcases h.own.2 with⟨rfl,rfl⟩ | ⟨g,A,b,rfl,_⟩
 .exact⟨none,0,rfl⟩
 exact⟨_,_,rfl⟩
theorem Row.DN{ok ok':qD}{E:TypeId}{a n:Nat}{v:qv}{xs:qV}(h:Row ok w E a v n xs)(b:∀g,v.ownBlock=some g->ok' g):Row ok' w E a v n xs:=⟨h.own,b⟩
theorem Row.aaJ{ok ok':qD}{E a:TypeId}{c d n e:Nat}{v b:qv}{xs f:qV}(h:Row ok w E c v n xs)(h':Row ok' w a d b e f)(hne:E≠a){g:Nat}(hg:v.ownBlock=some g):b.ownBlock≠some g:=by
 exact agz
theorem Jb:∀(k:Nat) (M:List (Nat×Nat)) (Z:RS),(rM s k M Z).1.length<=M.length+k
 | 0,M,Z=>qR
 | k+1,M,Z=>by
  unfold rM;split
  .exact Nat.le_add_right _ _
  have:=Jb k (M++[((uS s Z).1,Z.at_)]) (uS s Z).2;rw[List.length_append] at this;simp at this;omega
theorem DF(most:Nat):(lQ s most Z).1.length<=most:=by
 have:=Jb (s:=s) (dU s most Z).1 [] (dU s most Z).2;exact adP
theorem JS:∀(l:List (Nat×Nat)) (k o:Nat),o<2->(l.flatMap fU)[k*2+o]?=(l[k]?).bind (fun r=>(fU r)[o]?)
 | [],k,o,_=>qs
 | r::l,0,o,h=>by
  rw[List.flatMap_cons,List.getElem?_append_left (by simp[fU];omega)];simp
 | r::l,k+1,o,h=>by
  rw[List.flatMap_cons,List.getElem?_append_right (by simp[fU];omega)];have:(k+1)*2+o - (fU r).length=k*2+o:=by simp[fU];omega
  rw[this,JS l k o h];simp
theorem ZF{l:List (Nat×Nat)}{k:Nat}{r:Nat×Nat}(h:l[k]?=some r):(l.flatMap fU)[k*2]?=some (qJ r.1):=by
 have:=JS l k 0 qo;rw[h] at this;simpa [fU] using this
theorem VR{l:List (Nat×Nat)}{k:Nat}{r:Nat×Nat}(h:l[k]?=some r):(l.flatMap fU)[k*2+1]?=some (qJ r.2):=by
 have:=JS l k 1 qo;rw[h] at this;simpa [fU] using this
theorem Jj{m:qV}(h:eu w x s Z Y)(B:OB w x Y m)(hl:18<m.length)(c1:m.getD 1 undef=qN):
  qC 61 #[qP x,qJ 3] w fun e w'=>qU e/\eu w' x s (lQ s 20 Z).2 Y/\(∃lv,OB w' x Y (m.set 1 lv)/\isRow 70 7 xh (fun g=>w.heap.size<=g) (lQ s 20 Z).1 w' lv)/\Kept (fun k=>k=x\/k=Y) w w':=by
 obtain⟨i0,ak,am,an,ao⟩:=info_parts Tryz.aeM;have hx:=h.lt;have ap:=B.lt;have aE:¬Y=x:=B.ne;have HM:=hide B;have aa:=DF (s:=s) (Z:=Z) 20;clear B;go_enter func61,ntmps61;go_wp2_with fail
 refine(EU h 20 qo).mono ?_;rintro e w1 ⟨⟨lv,rfl,f⟩,hI,X⟩;obtain⟨pv,J,rfl⟩:=Row.form f;have ab:=hide (HM.o.call X);obtain⟨⟨l,st1⟩,L⟩:=qF (lQ s 20 Z);rw[L] at hI f aa ⊢;simp only at hI f aa ⊢;have aq:=hide L;clear L h;have HL:=hide f;clear f;go_wp2;go_loopw [9] (fun p wr=>∃(k:Nat) (pl:qO) (cl:Nat),k<=l.length/\p=qJ (k:Nat)/\eu wr x s st1 Y/\OB wr x Y (m.set 1 (.slice pl k cl))/\isRow 70 7 xh (fun g=>w.heap.size<=g) (l.take k) wr (.slice pl k cl)/\isRow 37 2 fU (fun g=>w.heap.size<=g) l wr (.slice pv l.length J)/\Kept (fun k=>k=x\/k=Y) w wr) (fun p _=>l.length - (intOf p).toNat)
 case atStart=>exact⟨0,none,0,qZ,rfl,hI,(qG (show 1<m.length by omega) c1).symm▸ab.o,by simpa [isRow] using Row.nil _ _ _ _,HL.o,X.mono (fun k _ (c:k=x)=>.inl c)⟩
 obtain⟨k,pl,cl,aF,rfl,C,D,E,f,F⟩:=hrel;clear ab HL;have aG:=C.lt;have ar:=F.size;have aH:=D.lt;have ac:(l.take k).length=k:=by rw[List.length_take];omega
 by_cases au:k<l.length
 .have av:(k:Int)<(l.length:Int):=qo;obtain⟨r,v⟩:∃r,l[k]?=some r:=⟨_,List.getElem?_eq_getElem au⟩;obtain⟨b,aw,hv,ad,ae,aI,N⟩:=Row.cells f qo;obtain⟨rfl,rfl⟩:pv=some (qA b 0)/\J=aw:=by cases hv;exact⟨rfl,rfl⟩
  have C0:wr.cell? ⟨b,k*2,none⟩=some (qJ r.1):=by rw[N _ qo,ZF v]
  have C1:wr.cell? ⟨b,k*2+1,none⟩=some (qJ r.2):=by rw[N _ qo,VR v]
  have O:¬(Value.slice pl k cl).ownBlock=some b:=fun c=>Row.aaJ E f qx c (by simp[Value.ownBlock]);generalize R:l.take k=M at*;subst ac;have ax:=hide R;have af:l.take (M.length+1)=M++[r]:=by rw[List.take_add_one,R,v];rfl
  have ag:=hide af;have T:=hide C;have U:=hide D;have y:qh (isRow 70 7 xh (fun g=>w.heap.size<=g) M wr (.slice pl M.length cl)):=E;have ah:=hide F;have ai:=hide f;have ay:=hide v;clear R af hv C D E F f N v;go_wp2_with fail
  generalize aJ:wr=d at*;have aK:w.heap.size<=d.heap.size:=ar;have az:∀n,Kept (fun i=>(Value.slice pl M.length cl).ownBlock=some i) d n->n.cell? (qA x 4)=some (qP Y)/\n.cell? (qA Y 1)=some (.slice pl M.length cl)/\n.cell? ⟨b,M.length*2,none⟩=some (qJ r.1)/\n.cell? ⟨b,M.length*2+1,none⟩=some (qJ r.2):=by
   intro n G;exact⟨(T.o.kept G (fun c=>absurd (y.o.at_ x c) qo)).blk.five.2.2.2.2.1,((U.o.kept G (fun c=>absurd (y.o.at_ Y c) qo)).cell (by rw[List.length_set];omega) (fB qo)).1,(G.cell (p:=⟨b,M.length*2,none⟩) ae O).trans C0,(G.cell (p:=⟨b,M.length*2+1,none⟩) ae O).trans C1⟩
  have hS:Kept (fun i=>(Value.slice pl M.length cl).ownBlock=some i) d d.drew:=qr.drew;refine kQ (Kept (fun i=>(Value.slice pl M.length cl).ownBlock=some i) d) 20 ?_;iterate 16 refine pQ hS ?_
  refine dx (i:=16) qk (dn rfl (fun K j=>?_));go_simp;have z:qK d (d.drew.alloc (.cells #[qJ r.1,qJ r.2,.string ⟨#[]⟩,qN,qJ 0,.string ⟨#[]⟩,qN] 70)):=(qr.drew).alloc _;refine j _ _ ⟨.inr (z.mono (fun _ _ c=>c.elim)),?_⟩;clear j K;refine dx (i:=17) qk (dn rfl (fun K j=>?_));refine step_append_lies _ (by rfl) _ _ _ (by rfl) w.heap.size 70 i0 _ 7 104 underlying31 ak am an ao rfl qo (.slice pl M.length cl) M.length (M.flatMap xh) (by rfl) (y.o.Ce z (fun _ c=>c)) ⟨d.heap.size,0,none⟩ 1 1 [qJ r.1,qJ r.2,.string ⟨#[]⟩,qN,qJ 0,.string ⟨#[]⟩,qN] (by rfl) (by rfl) (World.news_of_block (cs:= #[qJ r.1,qJ r.2,.string ⟨#[]⟩,qN,qJ 0,.string ⟨#[]⟩,qN]) (t:=70) (fr:=(0,0)) (heap_alloc_new d.drew _)) (by simp[Value.oneCell']) qo (by unfold maxLen;omega) qo qt (d.heap.size+1) qs ?_;intro u A H aj V aA aL;have I:Kept (fun i=>(Value.slice pl M.length cl).ownBlock=some i) d H:=(z.mono (fun _ _ c=>c.elim)).trans (Kept.iB V);refine j _ _ ⟨.inr I,?_⟩;clear j K;refine tk 18 [19] I ?_;refine tk 19 [] I ?_;have P:=xH T.o U.o (k:=1) (by rw[List.length_set];omega) y.o ah.o hx ap z aj V;have P1:=P.cell;have P2:=P.free;have P3:=P.lt;have HP:=hide P;clear P aj V aA I z hS az;refine dx (i:=20) qk (dn rfl (fun K j=>?_));go_simp;refine j _ _ ⟨.inl rfl,?_⟩;clear j K;refine dM qk ?_ _;clear P1 P2 P3;have aB:qh (isRow 70 7 xh (fun g=>w.heap.size<=g) (l.take (M.length+1)) (H.setCell (qA Y 1) (.slice (some (qA u 0)) (M.length+1) A)) (.slice (some (qA u 0)) (M.length+1) A)):=by
   have q:=HP.o.row;show isRow _ _ _ _ _ _ _;rw[ag.o];simpa [isRow,xh] using q
  have aC:qh (OB (H.setCell (qA Y 1) (.slice (some (qA u 0)) (M.length+1) A)) x Y (m.set 1 (.slice (some (qA u 0)) (M.length+1) A))):=by
   exact YD
  have aD:qh (isRow 37 2 fU (fun g=>w.heap.size<=g) l (H.setCell (qA Y 1) (.slice (some (qA u 0)) (M.length+1) A)) (.slice (some (qA b 0)) l.length J)):=by
   refine Row.DN (Row.kept (ok:=fun g=>g=b) (Row.DN ai.o (fun g W=>by simpa [Value.ownBlock] using W.symm)) HP.o.step (fun g _ (e:g=b) c=>?_)) (fun g W=>?_)
   .subst e;rcases c with c | c
    .have:=ad;omega
    exact O c
   have e:b=g:=by simpa [Value.ownBlock] using W
   subst e;exact ad
  clear T U y ah ai C0 C1 ag ay ax;go_wp2;go_roundw
  case rel=>exact⟨M.length+1,some (qA u 0),A,qo,by go_num,HP.o.inn,aC.o,aB.o,aD.o,HP.o.kept⟩
  simp[intOf];omega
 obtain rfl:k=l.length:=qo;have av:¬(l.length:Int)<(l.length:Int):=qo;clear ac;go_wp2;go_end0;rw[aq.o];exact⟨rfl,C,⟨_,D,by simpa using E⟩,F⟩
end
def wH:List Value->Nat->List Value->List Value
 | cs,_,[]=>cs
 | cs,k,v::vs=>wH (cs.set k v) (k+1) vs
def ZJ(ms:List Value)(k:Nat):Option zA->List Value
 | none=>ms
 | some l=>wH ms k l.cells
def qj(s:qS)(Z:RS):Option zA×RS:=
 if(dU s 1 Z).1=1 then(some (jG s (gY s 112 (dU s 1 Z).2)).1,(jG s (gY s 112 (dU s 1 Z).2)).2) else(none,(dU s 1 Z).2)
def ni(s:qS)(Z:RS):Option zA×RS:=
 if(dU s 1 Z).1=1 then(some (jG s (dU s 1 Z).2).1,(jG s (dU s 1 Z).2).2) else(none,(dU s 1 Z).2)
section
variable {S:qD} {w w':qW} {x Y:Nat} {s:qS} {Z:RS}
theorem Jg{A:qV}(h:eu w x s Z Y)(q:OB w x Y A)(hl:18<A.length):
  qC 61 #[qP x,qJ 4] w fun e w'=>qU e/\eu w' x s (qj s Z).2 Y/\OB w' x Y (ZJ A 2 (qj s Z).1)/\Kept (fun k=>k=x\/k=Y) w w':=by
 have hx:=h.lt;have aa:=q.lt;have d:¬Y=x:=q.ne;have N:=hide q;clear q;go_enter func61,ntmps61;go_wp2_with fail
 refine(mQ h 1).mono ?_;rintro e w1 ⟨rfl,hI,X⟩;have g:qh (qj s Z=if(dU s 1 Z).1=1 then(some (jG s (gY s 112 (dU s 1 Z).2)).1,(jG s (gY s 112 (dU s 1 Z).2)).2) else(none,(dU s 1 Z).2)):=rfl;generalize dU s 1 Z=O at*;obtain⟨n,st1⟩:=O;simp only at hI g ⊢;have B:=N.o.call X;by_cases E:n=1
 .subst E;have r:qh (qj s Z=(some (jG s (gY s 112 st1)).1,(jG s (gY s 112 st1)).2)):=by show _=_;rw[g.o];rfl
  clear g;go_wp2_with fail
  refine(nP hI 112).mono ?_;rintro e R ⟨rfl,F,C⟩;have T:=B.call C;have U:=X.trans C;clear hI X C B;go_wp2_with fail
  have G:R.drew.cell? (qA x 4)=some (qP Y):=F.drew.blk.five.2.2.2.2.1;refine kQ (fun V=>V.cell? (qA x 4)=some (qP Y)) 8 ?_;iterate 5 refine pQ G ?_
  refine dx (i:=5) qk (dn rfl (fun K j=>?_));refine eG (f:=96) (args:= #[qP x]) (by rfl) (by go_simp) (FR F.drew) ?_;rintro e H ⟨rfl,m,I⟩;refine⟨_,rfl,?_⟩;have b:=T.kept (qr.drew.trans I) (fun(c:Y=x)=>d c);have J:=(U.drew).trans I;obtain⟨⟨⟨t,u,v,y⟩,W⟩,D⟩:=qF (jG s (gY s 112 st1));rw[D] at m ⊢;have L:=hide D;simp only[zA.cells] at m ⊢;clear D;have z:H.cell? (qA x 4)=some (qP Y):=m.blk.five.2.2.2.2.1;refine j _ _ ⟨.inr z,?_⟩;clear j K G;refine tk 6 [7] z ?_;refine tk 7 [] z ?_;obtain⟨m2,f2⟩:=b.cell (k:=2) qo rfl;obtain⟨m3,f3⟩:=b.cell (k:=3) qo rfl;obtain⟨m4,f4⟩:=b.cell (k:=4) qo rfl;obtain⟨m5,f5⟩:=b.cell (k:=5) qo rfl;obtain⟨m6,f6⟩:=b.cell (k:=6) qo rfl;have ab:=b.lt;refine dx (i:=8) qk (dn rfl (fun K j=>?_));go_simp;refine j _ _ ⟨.inl rfl,?_⟩;clear j K;refine dM qk ?_ _;have o9:=((((b.set 2 (.bool true)).set 3 (.bool t)).set 4 (qJ u)).set 5 (qJ v)).set 6 (qJ y);have i9:=((((m.other d (.bool true) (o:=2)).other d (.bool t) (o:=3)).other d (qJ u) (o:=4)).other d (qJ v) (o:=5)).other d (qJ y) (o:=6);have M:Kept (fun k=>k=x\/k=Y) w H:=J.mono (fun k _ (c:k=x)=>.inl c);have k9:=((((M.setCell (p:=(qA Y 2)) (fun _=>.inr rfl) (.bool true)).setCell (p:=(qA Y 3)) (fun _=>.inr rfl) (.bool t)).setCell (p:=(qA Y 4)) (fun _=>.inr rfl) (qJ u)).setCell (p:=(qA Y 5)) (fun _=>.inr rfl) (qJ v)).setCell (p:=(qA Y 6)) (fun _=>.inr rfl) (qJ y);have HE:qh (qj s Z=(some ⟨t,u,v,y⟩,W)):=by show _=_;rw[r.o,L.o]
  clear m2 f2 m3 f3 m4 f4 m5 f5 m6 f6 b m M J z r L;go_wp2;go_end0;rw[HE.o];exact⟨rfl,i9,o9,k9⟩
 have ac:¬(n:Int)=1:=qo;have r:qh (qj s Z=(none,st1)):=by show _=_;rw[g.o,if_neg E]
 clear g;go_wp2;go_end0;rw[r.o];exact⟨rfl,hI,B,X.mono (fun k _ (c:k=x)=>.inl c)⟩
theorem Gv{A:qV}(h:eu w x s Z Y)(q:OB w x Y A)(hl:18<A.length):
  qC 61 #[qP x,qJ 5] w fun e w'=>qU e/\eu w' x s (ni s Z).2 Y/\OB w' x Y (ZJ A 7 (ni s Z).1)/\Kept (fun k=>k=x\/k=Y) w w':=by
 have hx:=h.lt;have ae:=q.lt;have d:¬Y=x:=q.ne;have M:=hide q;clear q;go_enter func61,ntmps61;go_wp2_with fail
 refine(mQ h 1).mono ?_;rintro e N ⟨rfl,hI,X⟩;have g:qh (ni s Z=if(dU s 1 Z).1=1 then(some (jG s ((dU s 1 Z).2)).1,(jG s ((dU s 1 Z).2)).2) else(none,(dU s 1 Z).2)):=rfl;generalize dU s 1 Z=O at*;obtain⟨n,st1⟩:=O;simp only at hI g ⊢;have B:=M.o.call X;by_cases D:n=1
 .subst D;have r:qh (ni s Z=(some (jG s (st1)).1,(jG s (st1)).2)):=by show _=_;rw[g.o];rfl
  clear g;go_wp2_with fail
  have E:=hI;have R:=B;have T:=X;clear hI X B;generalize N=U at*;have F:U.drew.cell? (qA x 4)=some (qP Y):=E.drew.blk.five.2.2.2.2.1;refine kQ (fun V=>V.cell? (qA x 4)=some (qP Y)) 8 ?_;iterate 5 refine pQ F ?_
  refine dx (i:=5) qk (dn rfl (fun K j=>?_));refine eG (f:=96) (args:= #[qP x]) (by rfl) (by go_simp) (FR E.drew) ?_;rintro e G ⟨rfl,m,H⟩;refine⟨_,rfl,?_⟩;have b:=R.kept (qr.drew.trans H) (fun(c:Y=x)=>d c);have I:=(T.drew).trans H;obtain⟨⟨⟨t,u,v,y⟩,W⟩,C⟩:=qF (jG s (st1));rw[C] at m ⊢;have J:=hide C;simp only[zA.cells] at m ⊢;clear C;have z:G.cell? (qA x 4)=some (qP Y):=m.blk.five.2.2.2.2.1;refine j _ _ ⟨.inr z,?_⟩;clear j K F;refine tk 6 [7] z ?_;refine tk 7 [] z ?_;obtain⟨m7,f7⟩:=b.cell (k:=7) qo rfl;obtain⟨m8,f8⟩:=b.cell (k:=8) qo rfl;obtain⟨m9,f9⟩:=b.cell (k:=9) qo rfl;obtain⟨aa,ab⟩:=b.cell (k:=10) qo rfl;obtain⟨ac,ad⟩:=b.cell (k:=11) qo rfl;have af:=b.lt;refine dx (i:=8) qk (dn rfl (fun K j=>?_));go_simp;refine j _ _ ⟨.inl rfl,?_⟩;clear j K;refine dM qk ?_ _;have o9:=((((b.set 7 (.bool true)).set 8 (.bool t)).set 9 (qJ u)).set 10 (qJ v)).set 11 (qJ y);have i9:=((((m.other d (.bool true) (o:=7)).other d (.bool t) (o:=8)).other d (qJ u) (o:=9)).other d (qJ v) (o:=10)).other d (qJ y) (o:=11);have L:Kept (fun k=>k=x\/k=Y) w G:=I.mono (fun k _ (c:k=x)=>.inl c);have k9:=((((L.setCell (p:=(qA Y 7)) (fun _=>.inr rfl) (.bool true)).setCell (p:=(qA Y 8)) (fun _=>.inr rfl) (.bool t)).setCell (p:=(qA Y 9)) (fun _=>.inr rfl) (qJ u)).setCell (p:=(qA Y 10)) (fun _=>.inr rfl) (qJ v)).setCell (p:=(qA Y 11)) (fun _=>.inr rfl) (qJ y);have HE:qh (ni s Z=(some ⟨t,u,v,y⟩,W)):=by show _=_;rw[r.o,J.o]
  clear m7 f7 m8 f8 m9 f9 aa ab ac ad b m L I z r J;go_wp2;go_end0;rw[HE.o];exact⟨rfl,i9,o9,k9⟩
 have ag:¬(n:Int)=1:=qo;have r:qh (ni s Z=(none,st1)):=by show _=_;rw[g.o,if_neg D]
 clear g;go_wp2;go_end0;rw[r.o];exact⟨rfl,hI,B,X.mono (fun k _ (c:k=x)=>.inl c)⟩
theorem Jh{v:qV}(h:eu w x s Z Y)(b:OB w x Y v)(hl:18<v.length):
  qC 61 #[qP x,qJ 8] w fun e w'=>qU e/\eu w' x s (uS s Z).2 Y/\OB w' x Y (wH v 14 [.bool true,qJ ((uS s Z).1:Nat),qJ Z.at_])/\Kept (fun k=>k=x\/k=Y) w w':=by
 have hx:=h.lt;have aa:=b.lt;have n:¬Y=x:=b.ne;obtain⟨G,H⟩:=b.cell (k:=14) qo rfl;obtain⟨-,-,-,-,⟨I,J⟩⟩:=h.blk.five;have q:=b.set 14 (.bool true);have d:=h.other n (.bool true) (o:=14);have r:Kept (fun k=>k=x\/k=Y) w (w.setCell (qA Y 14) (.bool true)):=qr.setCell (p:=(qA Y 14)) (fun _=>.inr rfl) (.bool true);have z:=hide q;have A:=hide d;have B:=hide r;clear b h q d r;go_enter func61,ntmps61;go_wp2_with fail
 have q:=z.o;have d:=A.o;have r:=B.o;clear z A B I J G H;generalize w.setCell (qA Y 14) (.bool true)=L at*;have C:L.drew.cell? (qA x 4)=some (qP Y):=d.drew.blk.five.2.2.2.2.1;refine kQ (fun M=>M.cell? (qA x 4)=some (qP Y)) 8 ?_;iterate 5 refine pQ C ?_
 refine dx (i:=5) qk (dn rfl (fun K g=>?_));refine eG (f:=92) (args:= #[qP x]) (by rfl) (by go_simp) (ou d.drew) ?_;rintro e D ⟨rfl,j,E⟩;refine⟨_,rfl,?_⟩;have m:=q.kept (qr.drew.trans E) (fun(c:Y=x)=>n c);have F:Kept (fun k=>k=x\/k=Y) w D:=(r.drew).trans (E.mono (fun k _ (c:k=x)=>.inl c));obtain⟨⟨u,ab⟩,y⟩:=qF (uS s Z);rw[y] at j ⊢;simp only at j ⊢;have N:=hide y;clear y;have t:D.cell? (qA x 4)=some (qP Y):=j.blk.five.2.2.2.2.1;refine g _ _ ⟨.inr t,?_⟩;clear g K C;refine tk 6 [7] t ?_;refine tk 7 [] t ?_;obtain⟨O,R⟩:=m.cell (k:=15) (by rw[List.length_set];omega) rfl;obtain⟨T,U⟩:=m.cell (k:=16) (by rw[List.length_set];omega) rfl;have ac:=m.lt;refine dx (i:=8) qk (dn rfl (fun K g=>?_));go_simp;refine g _ _ ⟨.inl rfl,?_⟩;clear g K;refine dM qk ?_ _;have V:=(m.set 15 (qJ u)).set 16 (qJ Z.at_);have W:=(j.other n (qJ u) (o:=15)).other n (qJ Z.at_) (o:=16);have X:=(F.setCell (p:=(qA Y 15)) (fun _=>.inr rfl) (qJ u)).setCell (p:=(qA Y 16)) (fun _=>.inr rfl) (qJ Z.at_);clear O R T U m j F t;go_wp2;go_end0;try rw[N.o]
 exact⟨rfl,W,V,X⟩
end
structure lJ where
 at_:Nat
 place:MC
 funcs:List (Nat×Nat)
 bytes:qS
def lJ.cells(p:lJ)(lv:Value):List Value:=[qJ p.at_,qB p.place.kind,qJ p.place.val,qJ p.place.at_,lv,.string p.bytes]
def uF(ok:Nat->Prop)(p:lJ)(w:World)(cs:List Value):Prop:=∃lv,cs=p.cells lv/\isRow 37 2 fU ok p.funcs w lv
def Em(s:qS)(Z:RS):lJ×RS:=
 (⟨Z.at_,(jS s (gY s 0 Z)).1,(lQ s 20 (jS s (gY s 0 Z)).2).1,⟨#[]⟩⟩,(lQ s 20 (jS s (gY s 0 Z)).2).2)
def zq(s:qS)(Z:RS):lJ×RS:=
 (⟨Z.at_,(jS s (gY s 0 Z)).1,[],(fH s 0 100 (jS s (gY s 0 Z)).2).1⟩,(fH s 0 100 (jS s (gY s 0 Z)).2).2)
def pF(s:qS):Nat->List lJ->RS->List lJ×RS
 | 0,M,Z=>(M,Z)
 | k+1,M,Z=>if Z.bad≠none then(M,Z) else pF s k (M++[(Em s Z).1]) (Em s Z).2
def xV(s:qS)(Z:RS):List lJ×RS:=pF s (dU s 5 Z).1 [] (dU s 5 Z).2
def sU(s:qS):Nat->List lJ->RS->List lJ×RS
 | 0,M,Z=>(M,Z)
 | k+1,M,Z=>if Z.bad≠none then(M,Z) else sU s k (M++[(zq s Z).1]) (zq s Z).2
def Ap(s:qS)(Z:RS):List lJ×RS:=sU s (dU s 10 Z).1 [] (dU s 10 Z).2
theorem Tryz.aad:(prog.info? 77).map (fun i=>(i.zero,i.size,i.bytes))=some (some (.agg #[qJ 0,qB 0,qJ 0,qJ 0,qN,.string ⟨#[]⟩]),6,72):=qk
section
variable {S:qD} {w w':qW} {x Y:Nat} {s:qS} {Z:RS}
theorem IZ{ok l:qD}{W e:qW}{E b:TypeId}{m f n j:Nat}{v d:qv}{xs k:qV}(h:Row ok W b f d j k)(o:Row l W E m v n xs)(p:E≠b)(X:Kept (fun i=>i=Y\/v.ownBlock=some i) W e)(q:∀g,ok g->g≠Y):Row ok e b f d j k:=by
 refine Row.DN (ok:=fun g=>d.ownBlock=some g) (Row.kept (Row.DN (ok:=ok) h (fun g a=>a)) X (fun g _ a c=>?_)) (fun g a=>h.at_ g a);rcases c with c | c
 .exact q g (h.at_ g a) c
 exact Row.aaJ o h p c a
theorem kY.six{w:qW}{g:Nat}{a b c d e f:qv}(h:kY w g [a,b,c,d,e,f]):(w.cell? (qA g 0)=some a/\w.frozen? (qA g 0)=false)/\(w.cell? (qA g 1)=some b/\w.frozen? (qA g 1)=false)/\(w.cell? (qA g 2)=some c/\w.frozen? (qA g 2)=false)/\(w.cell? (qA g 3)=some d/\w.frozen? (qA g 3)=false)/\(w.cell? (qA g 4)=some e/\w.frozen? (qA g 4)=false)/\(w.cell? (qA g 5)=some f/\w.frozen? (qA g 5)=false):=
 ⟨h 0 qs,h 1 qs,h 2 qs,h 3 qs,h 4 qs,h 5 qs⟩
theorem Jk{r:qV}(h:eu w x s Z Y)(D:OB w x Y r)(hl:18<r.length)(c0:r.getD 17 undef=qN):
  qC 61 #[qP x,qJ 9] w fun e w'=>qU e/\eu w' x s (xV s Z).2 Y/\(∃lv,OB w' x Y (r.set 17 lv)/\gu 77 6 uF (fun g=>w.heap.size<=g) (xV s Z).1 w' lv)/\Kept (fun k=>k=x\/k=Y) w w':=by
 obtain⟨i0,aC,aD,aE,aF⟩:=info_parts Tryz.aad;have hx:=h.lt;have aG:=D.lt;have aH:¬Y=x:=D.ne;have HM:=hide D;clear D;go_enter func61,ntmps61;go_wp2_with fail
 refine(mQ h 5).mono ?_;rintro e w1 ⟨rfl,hI,X⟩;have aI:=qX (s:=s) (Z:=Z) 5;have R:qh (xV s Z=pF s (dU s 5 Z).1 [] (dU s 5 Z).2):=rfl;generalize dU s 5 Z=mn at*;obtain⟨n,st1⟩:=mn;simp only at hI aI R ⊢;have af:=hide (HM.o.call X);go_wp2;go_loopw [13] (fun p wr=>∃(k:Nat) (M:List lJ) (J:RS) (pl:qO) (cl:Nat),k<=n/\p=qJ (k:Nat)/\M.length=k/\eu wr x s J Y/\OB wr x Y (r.set 17 (.slice pl k cl))/\gu 77 6 uF (fun g=>w.heap.size<=g) M wr (.slice pl k cl)/\Kept (fun k=>k=x\/k=Y) w wr/\xV s Z=pF s (n - k) M J) (fun p _=>n - (intOf p).toNat)
 case atStart=>exact⟨0,[],st1,none,0,qZ,rfl,rfl,hI,(qG (show 17<r.length by omega) c0).symm▸af.o,⟨[],Row.nil _ _ _ _,trivial⟩,X.mono (fun k _ (c:k=x)=>.inl c),R.o⟩
 obtain⟨k,M,J,pl,cl,aT,rfl,aJ,hI2,oM,hrow,hkp,ag⟩:=hrel;have v:=hide ag;clear ag R af;have aK:=hI2.lt;have aU:=hkp.size;have aV:=oM.lt;obtain⟨-,⟨I1,J1⟩,-,⟨I3,J3⟩,-⟩:=hI2.blk.five;by_cases aW:k<n
 .have aL:(k:Int)<(n:Int):=qo;by_cases hb:J.bad=none
  .rw[show gX J.bad= -1 by rw[hb];rfl] at I3;have HN:qh (xV s Z=pF s (n - (k+1)) (M++[(Em s J).1]) (Em s J).2):=by
    show _=_;rw[v.o,show n - k=n - (k+1)+1 by omega];simp[pF,hb]
   clear v hb;go_wp2_with fail
   refine(nP (hI2.alloc _) 0).mono ?_;rintro e w3 ⟨rfl,ah,T⟩;have U:OB w3 x wr.heap.size [qJ J.at_,qB 0,qJ 0,qJ 0,qN,.string ⟨#[]⟩]:=(OB.new (c:= #[qJ J.at_,qB 0,qJ 0,qJ 0,qN,.string ⟨#[]⟩]) (t:=77) aK rfl).call T;have E:¬wr.heap.size=x:=U.ne;have K3:Kept (fun k=>k=x\/k=wr.heap.size) wr w3:=(qr.alloc _).trans (T.mono (fun k _ (c:k=x)=>.inl c));clear hI2 I3 J3 I1 J1 T;go_wp2_with fail
   refine(yA ah).mono ?_;rintro e V ⟨rfl,F,W⟩;have G:=U.call W;have K4:=K3.trans (W.mono (fun k _ (c:k=x)=>.inl c));obtain⟨⟨⟨b,d,ca⟩,ai⟩,aa⟩:=qF (jS s (gY s 0 J));rw[aa] at F ⊢;have aj:=hide aa;simp only[MC.cells] at F ⊢;clear aa W ah U K3;obtain⟨-,⟨L1,M1⟩,⟨L2,M2⟩,⟨L3,M3⟩,-,-⟩:=G.blk.six;have aM:=G.lt;have ak:OB _ x wr.heap.size [qJ J.at_,qB b,qJ d,qJ ca,qN,.string ⟨#[]⟩]:=((G.set 1 (qB b)).set 2 (qJ d)).set 3 (qJ ca);have K5:=((K4.setCell (p:=(qA wr.heap.size 1)) (fun _=>.inr rfl) (qB b)).setCell (p:=(qA wr.heap.size 2)) (fun _=>.inr rfl) (qJ d)).setCell (p:=(qA wr.heap.size 3)) (fun _=>.inr rfl) (qJ ca);have am:=((F.other E (qB b) (o:=1)).other E (qJ d) (o:=2)).other E (qJ ca) (o:=3);have an:=hide ak;have ao:=hide K5;have ap:=hide am;clear ak K5 am G K4 F;go_wp2_with fail
   refine(EU ap.o 20 qo).mono ?_;rintro e H ⟨⟨lv,rfl,z⟩,I,L⟩;have aq:=DF (s:=s) (Z:=ai) 20;obtain⟨f,lc,rfl⟩:=Row.form z;obtain⟨⟨l,ar⟩,ab⟩:=qF (lQ s 20 ai);rw[ab] at I z aq ⊢;have au:=hide ab;simp only at I z aq ⊢;clear ab;have N:=an.o.call L;have K6:=ao.o.trans (L.mono (fun k _ (c:k=x)=>.inl c));have aN:=N.lt;obtain⟨-,-,-,-,⟨L4,M4⟩,⟨L5,M5⟩⟩:=N.blk.six;clear ap an ao L1 M1 L2 M2 L3 M3;go_wp2_with fail
   have av:OB _ x wr.heap.size [qJ J.at_,qB b,qJ d,qJ ca,.slice f l.length lc,.string ⟨#[]⟩]:=N.set 4 (.slice f l.length lc);have y:=K6.setCell (p:=(qA wr.heap.size 4)) (fun _=>.inr rfl) (.slice f l.length lc);have aw:=I.other E (.slice f l.length lc) (o:=4);have aX:w.heap.size<=V.heap.size/\V.heap.size<=H.heap.size/\wr.heap.size<V.heap.size:=⟨qo,by simpa using L.size,aM⟩;have ax:qh (isRow 37 2 fU (fun g=>w.heap.size<=g) l (H.setCell (qA wr.heap.size 4) (.slice f l.length lc)) (.slice f l.length lc)):=hide (Row.mono (Row.kept z ((Kept.refl (fun i=>i=wr.heap.size) H).setCell (p:=(qA wr.heap.size 4)) (fun _=>rfl) (.slice f l.length lc)) (fun g _ u (e:g=wr.heap.size)=>by simp at u;omega)) (fun g _ u=>by simp at u;omega));clear z;clear L4 M4 L5 M5 aN N K6 I L;generalize H.setCell (qA wr.heap.size 4) (.slice f l.length lc)=j at*;subst aJ;obtain⟨css,ac,ay⟩:=hrow;have JH:∀i,i=wr.heap.size->¬(Value.slice pl M.length cl).ownBlock=some i:=fun i e c=>by have:=(ac.own.lt i c).2;omega
   have HG9:qh (OB j x wr.heap.size [qJ J.at_,qB b,qJ d,qJ ca,.slice f l.length lc,.string ⟨#[]⟩]):=av;have YP:=hide aw;have YO:=hide (oM.kept y (fun c=>c.elim (fun e=>aH e) (fun e=>qo)));have KX:qh (Row (fun g=>w.heap.size<=g) j 77 6 (.slice pl M.length cl) M.length css.flatten):=Row.kept ac y (fun g u (hB:w.heap.size<=g) c=>by rcases c with c | c<;>omega);have az:qh (Each (fun p cs=>uF (fun g=>w.heap.size<=g) p j cs/\cs.length=6) M css):=ay.to (fun p cs hh=>⟨by obtain⟨lv,e1,a1⟩:=hh.1;exact⟨lv,e1,Row.kept a1 y (fun g u (hB:w.heap.size<=g) c=>by rcases c with c | c<;>omega)⟩,hh.2⟩);have aA:=hide (hkp.fresh y (fun i hi c=>c.elim (fun e=>Or.inl e) (fun e=>qo)));have aY:=y.size;clear av y aw ac ay oM hkp;have aO:∀W',Kept (fun i=>(Value.slice pl M.length cl).ownBlock=some i) j W'->W'.cell? (qA x 4)=some (qP Y)/\W'.cell? (qA Y 17)=some (.slice pl M.length cl)/\W'.cell? (qA wr.heap.size 0)=some (qJ J.at_)/\W'.cell? (qA wr.heap.size 1)=some (qB b)/\W'.cell? (qA wr.heap.size 2)=some (qJ d)/\W'.cell? (qA wr.heap.size 3)=some (qJ ca)/\W'.cell? (qA wr.heap.size 4)=some (.slice f l.length lc)/\W'.cell? (qA wr.heap.size 5)=some (.string ⟨#[]⟩):=by
    exact agH
   have hS:Kept (fun i=>(Value.slice pl M.length cl).ownBlock=some i) j j.drew:=qr.drew;refine kQ (Kept (fun i=>(Value.slice pl M.length cl).ownBlock=some i) j) 16 ?_;iterate 12 refine pQ hS ?_
   refine dx (i:=12) qk (dn rfl (fun K m=>?_));go_simp;have B:qK j (j.drew.alloc (.cells #[qJ J.at_,qB b,qJ d,qJ ca,.slice f l.length lc,.string ⟨#[]⟩] 77)):=(qr.drew).alloc _;refine m _ _ ⟨.inr (B.mono (fun _ _ c=>c.elim)),?_⟩;clear m K;refine dx (i:=13) qk (dn rfl (fun K m=>?_));refine step_append_lies _ (by rfl) _ _ _ (by rfl) w.heap.size 77 i0 _ 6 72 underlying38 aC aD aE aF rfl qo (.slice pl M.length cl) M.length css.flatten (by rfl) (KX.o.Ce B (fun _ c=>c)) ⟨j.heap.size,0,none⟩ 1 1 [qJ J.at_,qB b,qJ d,qJ ca,.slice f l.length lc,.string ⟨#[]⟩] (by rfl) (by rfl) (World.news_of_block (cs:= #[qJ J.at_,qB b,qJ d,qJ ca,.slice f l.length lc,.string ⟨#[]⟩]) (t:=77) (fr:=(0,0)) (heap_alloc_new j.drew _)) (by simp[Value.oneCell']) qo (by unfold maxLen;omega) qo qt (j.heap.size+1) qs ?_;intro C A ad aB ae aP aZ;have O:Kept (fun i=>(Value.slice pl M.length cl).ownBlock=some i) j ad:=(B.mono (fun _ _ c=>c.elim)).trans (Kept.iB ae);refine m _ _ ⟨.inr O,?_⟩;clear m K;refine tk 14 [15] O ?_;refine tk 15 [] O ?_;have P:=xH YP.o YO.o (k:=17) (by rw[List.length_set];omega) KX.o aA.o hx aG B aB ae;have P1:=P.cell;have P2:=P.free;have P3:=P.lt;have HP:=hide P;clear P aB ae aP O B hS aO;refine dx (i:=16) qk (dn rfl (fun K m=>?_));go_simp;refine m _ _ ⟨.inl rfl,?_⟩;clear m K;refine dM qk ?_ _;clear P1 P2 P3;have aQ:qh (xV s Z=pF s (n - (M.length+1)) (M++[⟨J.at_,⟨b,d,ca⟩,l,⟨#[]⟩⟩]) ar):=by
    show _=_;rw[HN.o];simp only[Em,aj.o,au.o]
   have aR:qh (gu 77 6 uF (fun g=>w.heap.size<=g) (M++[⟨J.at_,⟨b,d,ca⟩,l,⟨#[]⟩⟩]) (ad.setCell (qA Y 17) (.slice (some (qA C 0)) (M.length+1) A)) (.slice (some (qA C 0)) (M.length+1) A)):=by
    have q:=HP.o.row;refine⟨css++[[qJ J.at_,qB b,qJ d,qJ ca,.slice f l.length lc,.string ⟨#[]⟩]],by simpa using q,Each.snoc (az.o.to (fun p cs hh=>⟨by obtain⟨lv,e1,a1⟩:=hh.1;exact⟨lv,e1,IZ a1 KX.o qx HP.o.step (fun g (u:w.heap.size<=g) e=>qo)⟩,hh.2⟩)) ⟨⟨_,rfl,?_⟩,rfl⟩⟩;exact IZ ax.o KX.o qx HP.o.step (fun g (u:w.heap.size<=g) e=>qo)
   have aS:qh (OB (ad.setCell (qA Y 17) (.slice (some (qA C 0)) (M.length+1) A)) x Y (r.set 17 (.slice (some (qA C 0)) (M.length+1) A))):=by
    exact YD
   clear HN aj au YP YO KX aA HG9 az ax;go_wp2;go_roundw
   case rel=>exact⟨M.length+1,M++[⟨J.at_,⟨b,d,ca⟩,l,⟨#[]⟩⟩],ar,some (qA C 0),A,qo,by go_num,qs,HP.o.inn,aS.o,aR.o,HP.o.kept,aQ.o⟩
   simp[intOf];omega
  have hz:=fO hb;have HN:qh (xV s Z=(M,J)):=by
   show _=_;rw[v.o,show n - k=n - (k+1)+1 by omega];simp[pF,hb]
  have a0:¬gX J.bad<0:=qo;clear v hb hz;exact MB
 have HN:qh (xV s Z=(M,J)):=by show _=_;rw[v.o,show n - k=0 by omega];rfl
 have aL:¬(k:Int)<(n:Int):=qo;clear v;exact MB
theorem Ll{m:qV}(h:eu w x s Z Y)(z:OB w x Y m)(hl:18<m.length)(c0:m.getD 18 undef=qN):
  qC 61 #[qP x,qJ 11] w fun e w'=>qU e/\eu w' x s (Ap s Z).2 Y/\(∃lv,OB w' x Y (m.set 18 lv)/\gu 77 6 uF (fun g=>w.heap.size<=g) (Ap s Z).1 w' lv)/\Kept (fun k=>k=x\/k=Y) w w':=by
 obtain⟨i0,aw,ax,ay,az⟩:=info_parts Tryz.aad;have hx:=h.lt;have aA:=z.lt;have aB:¬Y=x:=z.ne;have HM:=hide z;clear z;go_enter func61,ntmps61;go_wp2_with fail
 refine(mQ h 10).mono ?_;rintro e w1 ⟨rfl,hI,X⟩;have aC:=qX (s:=s) (Z:=Z) 10;have H:qh (Ap s Z=sU s (dU s 10 Z).1 [] (dU s 10 Z).2):=rfl;generalize dU s 10 Z=mn at*;obtain⟨n,st1⟩:=mn;simp only at hI aC H ⊢;have ac:=hide (HM.o.call X);go_wp2;go_loopw [16] (fun p wr=>∃(k:Nat) (M:List lJ) (J:RS) (pl:qO) (cl:Nat),k<=n/\p=qJ (k:Nat)/\M.length=k/\eu wr x s J Y/\OB wr x Y (m.set 18 (.slice pl k cl))/\gu 77 6 uF (fun g=>w.heap.size<=g) M wr (.slice pl k cl)/\Kept (fun k=>k=x\/k=Y) w wr/\Ap s Z=sU s (n - k) M J) (fun p _=>n - (intOf p).toNat)
 case atStart=>exact⟨0,[],st1,none,0,qZ,rfl,rfl,hI,(qG (show 18<m.length by omega) c0).symm▸ac.o,⟨[],Row.nil _ _ _ _,trivial⟩,X.mono (fun k _ (c:k=x)=>.inl c),H.o⟩
 obtain⟨k,M,J,pl,cl,aN,rfl,aD,hI2,oM,hrow,hkp,ad⟩:=hrel;have r:=hide ad;clear ad H ac;have aE:=hI2.lt;have aO:=hkp.size;have aP:=oM.lt;obtain⟨-,⟨I1,J1⟩,-,⟨I3,J3⟩,-⟩:=hI2.blk.five;by_cases aQ:k<n
 .have aF:(k:Int)<(n:Int):=qo;by_cases hb:J.bad=none
  .rw[show gX J.bad= -1 by rw[hb];rfl] at I3;have HN:qh (Ap s Z=sU s (n - (k+1)) (M++[(zq s J).1]) (zq s J).2):=by
    show _=_;rw[r.o,show n - k=n - (k+1)+1 by omega];simp[sU,hb]
   clear r hb;go_wp2_with fail
   refine(nP (hI2.alloc _) 0).mono ?_;rintro e w3 ⟨rfl,ae,I⟩;have L:OB w3 x wr.heap.size [qJ J.at_,qB 0,qJ 0,qJ 0,qN,.string ⟨#[]⟩]:=(OB.new (c:= #[qJ J.at_,qB 0,qJ 0,qJ 0,qN,.string ⟨#[]⟩]) (t:=77) aE rfl).call I;have B:¬wr.heap.size=x:=L.ne;have K3:Kept (fun k=>k=x\/k=wr.heap.size) wr w3:=(qr.alloc _).trans (I.mono (fun k _ (c:k=x)=>.inl c));clear hI2 I3 J3 I1 J1 I;go_wp2_with fail
   refine(yA ae).mono ?_;rintro e w4 ⟨rfl,C,N⟩;have D:=L.call N;have K4:=K3.trans (N.mono (fun k _ (c:k=x)=>.inl c));obtain⟨⟨⟨b,d,ca⟩,aG⟩,O⟩:=qF (jS s (gY s 0 J));rw[O] at C ⊢;have af:=hide O;simp only[MC.cells] at C ⊢;clear O N ae L K3;obtain⟨-,⟨L1,M1⟩,⟨L2,M2⟩,⟨L3,M3⟩,-,-⟩:=D.blk.six;have aR:=D.lt;have ag:OB _ x wr.heap.size [qJ J.at_,qB b,qJ d,qJ ca,qN,.string ⟨#[]⟩]:=((D.set 1 (qB b)).set 2 (qJ d)).set 3 (qJ ca);have K5:=((K4.setCell (p:=(qA wr.heap.size 1)) (fun _=>.inr rfl) (qB b)).setCell (p:=(qA wr.heap.size 2)) (fun _=>.inr rfl) (qJ d)).setCell (p:=(qA wr.heap.size 3)) (fun _=>.inr rfl) (qJ ca);have ah:=((C.other B (qB b) (o:=1)).other B (qJ d) (o:=2)).other B (qJ ca) (o:=3);have ai:=hide ag;have aj:=hide K5;have ak:=hide ah;clear ag K5 ah D K4 C;go_wp2_with fail
   refine(ER ak.o 0 100 qo).mono ?_;rintro e w6 ⟨rfl,E,R⟩;obtain⟨⟨t,am⟩,T⟩:=qF (fH s 0 100 aG);rw[T] at E ⊢;have an:=hide T;simp only at E ⊢;clear T;have F:=ai.o.call R;have K6:=aj.o.trans (R.mono (fun k _ (c:k=x)=>.inl c));have aH:=F.lt;obtain⟨-,-,-,-,⟨L4,M4⟩,⟨L5,M5⟩⟩:=F.blk.six;clear ak ai aj L1 M1 L2 M2 L3 M3;go_wp2_with fail
   have ao:OB _ x wr.heap.size [qJ J.at_,qB b,qJ d,qJ ca,qN,.string t]:=F.set 5 (.string t);have u:=K6.setCell (p:=(qA wr.heap.size 5)) (fun _=>.inr rfl) (.string t);have ap:=E.other B (.string t) (o:=5);clear L4 M4 L5 M5 aH F K6 E R;generalize w6.setCell (qA wr.heap.size 5) (.string t)=f at*;subst aD;obtain⟨css,U,aq⟩:=hrow;have JH:∀i,i=wr.heap.size->¬(Value.slice pl M.length cl).ownBlock=some i:=fun i e c=>by have:=(U.own.lt i c).2;omega
   have HG9:qh (OB f x wr.heap.size [qJ J.at_,qB b,qJ d,qJ ca,qN,.string t]):=ao;have YP:=hide ap;have YO:=hide (oM.kept u (fun c=>c.elim (fun e=>aB e) (fun e=>qo)));have KX:qh (Row (fun g=>w.heap.size<=g) f 77 6 (.slice pl M.length cl) M.length css.flatten):=Row.kept U u (fun g hg (hB:w.heap.size<=g) c=>by rcases c with c | c<;>omega);have ar:qh (Each (fun p cs=>uF (fun g=>w.heap.size<=g) p f cs/\cs.length=6) M css):=aq.to (fun p cs hh=>⟨by obtain⟨lv,V,W⟩:=hh.1;exact⟨lv,V,Row.kept W u (fun g hg (hB:w.heap.size<=g) c=>by rcases c with c | c<;>omega)⟩,hh.2⟩);have au:=hide (hkp.fresh u (fun i hi c=>c.elim (fun e=>Or.inl e) (fun e=>qo)));have aS:=u.size;clear ao u ap U aq oM hkp;have aI:∀W',Kept (fun i=>(Value.slice pl M.length cl).ownBlock=some i) f W'->W'.cell? (qA x 4)=some (qP Y)/\W'.cell? (qA Y 18)=some (.slice pl M.length cl)/\W'.cell? (qA wr.heap.size 0)=some (qJ J.at_)/\W'.cell? (qA wr.heap.size 1)=some (qB b)/\W'.cell? (qA wr.heap.size 2)=some (qJ d)/\W'.cell? (qA wr.heap.size 3)=some (qJ ca)/\W'.cell? (qA wr.heap.size 4)=some (qN)/\W'.cell? (qA wr.heap.size 5)=some (.string t):=by
    exact agH
   have hS:Kept (fun i=>(Value.slice pl M.length cl).ownBlock=some i) f f.drew:=qr.drew;refine kQ (Kept (fun i=>(Value.slice pl M.length cl).ownBlock=some i) f) 16 ?_;iterate 12 refine pQ hS ?_
   refine dx (i:=12) qk (dn rfl (fun K j=>?_));go_simp;have v:qK f (f.drew.alloc (.cells #[qJ J.at_,qB b,qJ d,qJ ca,qN,.string t] 77)):=(qr.drew).alloc _;refine j _ _ ⟨.inr (v.mono (fun _ _ c=>c.elim)),?_⟩;clear j K;refine dx (i:=13) qk (dn rfl (fun K j=>?_));refine step_append_lies _ (by rfl) _ _ _ (by rfl) w.heap.size 77 i0 _ 6 72 underlying38 aw ax ay az rfl qo (.slice pl M.length cl) M.length css.flatten (by rfl) (KX.o.Ce v (fun _ c=>c)) ⟨f.heap.size,0,none⟩ 1 1 [qJ J.at_,qB b,qJ d,qJ ca,qN,.string t] (by rfl) (by rfl) (World.news_of_block (cs:= #[qJ J.at_,qB b,qJ d,qJ ca,qN,.string t]) (t:=77) (fr:=(0,0)) (heap_alloc_new f.drew _)) (by simp[Value.oneCell']) qo (by unfold maxLen;omega) qo qt (f.heap.size+1) qs ?_;intro y A aa av ab aJ aT;have G:Kept (fun i=>(Value.slice pl M.length cl).ownBlock=some i) f aa:=(v.mono (fun _ _ c=>c.elim)).trans (Kept.iB ab);refine j _ _ ⟨.inr G,?_⟩;clear j K;refine tk 14 [15] G ?_;refine tk 15 [] G ?_;have P:=xH YP.o YO.o (k:=18) (by rw[List.length_set];omega) KX.o au.o hx aA v av ab;have P1:=P.cell;have P2:=P.free;have P3:=P.lt;have HP:=hide P;clear P av ab aJ G v hS aI;refine dx (i:=16) qk (dn rfl (fun K j=>?_));go_simp;refine j _ _ ⟨.inl rfl,?_⟩;clear j K;refine dM qk ?_ _;clear P1 P2 P3;have aK:qh (Ap s Z=sU s (n - (M.length+1)) (M++[⟨J.at_,⟨b,d,ca⟩,[],t⟩]) am):=by
    show _=_;rw[HN.o];simp only[zq,af.o,an.o]
   have aL:qh (gu 77 6 uF (fun g=>w.heap.size<=g) (M++[⟨J.at_,⟨b,d,ca⟩,[],t⟩]) (aa.setCell (qA Y 18) (.slice (some (qA y 0)) (M.length+1) A)) (.slice (some (qA y 0)) (M.length+1) A)):=by
    have q:=HP.o.row;refine⟨css++[[qJ J.at_,qB b,qJ d,qJ ca,qN,.string t]],by simpa using q,Each.snoc (ar.o.to (fun p cs hh=>⟨by obtain⟨lv,V,W⟩:=hh.1;exact⟨lv,V,IZ W KX.o qx HP.o.step (fun g (hg:w.heap.size<=g) e=>qo)⟩,hh.2⟩)) ⟨⟨_,rfl,?_⟩,rfl⟩⟩;exact Row.nil _ _ _ _
   have aM:qh (OB (aa.setCell (qA Y 18) (.slice (some (qA y 0)) (M.length+1) A)) x Y (m.set 18 (.slice (some (qA y 0)) (M.length+1) A))):=by
    exact YD
   clear HN af an YP YO KX au HG9 ar;go_wp2;go_roundw
   case rel=>exact⟨M.length+1,M++[⟨J.at_,⟨b,d,ca⟩,[],t⟩],am,some (qA y 0),A,qo,by go_num,qs,HP.o.inn,aM.o,aL.o,HP.o.kept,aK.o⟩
   simp[intOf];omega
  have hz:=fO hb;have HN:qh (Ap s Z=(M,J)):=by
   show _=_;rw[r.o,show n - k=n - (k+1)+1 by omega];simp[sU,hb]
  have aU:¬gX J.bad<0:=qo;clear r hb hz;exact MB
 have HN:qh (Ap s Z=(M,J)):=by show _=_;rw[r.o,show n - k=0 by omega];rfl
 have aF:¬(k:Int)<(n:Int):=qo;clear r;exact MB
end
def QS(p:Nat×qS):List Value:=[qJ p.1,.string p.2]
def xQ(most:Nat)(M:List (Nat×qS))(v:Nat):Bool:=decide (most<=v)||(decide (0<M.length)&&decide (v<=(M.getD (M.length - 1) (0,⟨#[]⟩)).1))
def DR(M:List (Nat×qS))(t:qS)(m:Nat):Bool:=iE t&&(M.take m).all (fun p=>decide (p.2≠t))
def uz(s:qS)(most:Nat)(M:List (Nat×qS))(Z:RS):(Nat×qS)×RS:=
 let st2:=if xQ most M (uS s Z).1=true then dL (uS s Z).2 Z.at_ else(uS s Z).2
 let KU:=if DR M (fH s 1 20 st2).1 M.length=true then(fH s 1 20 st2).2 else dL (fH s 1 20 st2).2 st2.at_
 (((uS s Z).1,(fH s 1 20 st2).1),KU)
def jl(s:qS)(most:Nat):Nat->List (Nat×qS)->RS->List (Nat×qS)×RS
 | 0,M,Z=>(M,Z)
 | k+1,M,Z=>if Z.bad≠none then(M,Z) else jl s most k (M++[(uz s most M Z).1]) (uz s most M Z).2
def jA(s:qS)(most:Nat)(Z:RS):List (Nat×qS)×RS:=jl s most (dU s most Z).1 [] (dU s most Z).2
theorem Tryz.acs:(prog.info? 108).map (fun i=>(i.zero,i.size,i.bytes))=some (some (.agg #[qJ 0,.string ⟨#[]⟩]),2,24):=qk
section
variable {S:qD} {w w':qW} {x Y:Nat} {s:qS} {Z:RS}
theorem Pv:∀(l:List (Nat×qS)) (k o:Nat),o<2->(l.flatMap QS)[k*2+o]?=(l[k]?).bind (fun r=>(QS r)[o]?)
 | [],k,o,_=>qs
 | r::l,0,o,h=>by
  rw[List.flatMap_cons,List.getElem?_append_left (by simp[QS];omega)];simp
 | r::l,k+1,o,h=>by
  rw[List.flatMap_cons,List.getElem?_append_right (by simp[QS];omega)];have:(k+1)*2+o - (QS r).length=k*2+o:=by simp[QS];omega
  rw[this,Pv l k o h];simp
theorem ads{l:List (Nat×qS)}{k:Nat}{r:Nat×qS}(h:l[k]?=some r):(l.flatMap QS)[k*2]?=some (qJ r.1)/\(l.flatMap QS)[k*2+1]?=some (.string r.2):=by
 have a:=Pv l k 0 qo;have U:=Pv l k 1 qo;rw[h] at a U;exact⟨by simpa [QS] using a,by simpa [QS] using U⟩
theorem vw(a b:qS):(a.toList==b.toList)=decide (a=b):=by
 rw[Bool.eq_iff_iff,beq_iff_eq,decide_eq_true_iff,ByteArray.toList_eq,ByteArray.toList_eq];constructor
 .intro h;cases a;cases b;simpa using h
 rintro rfl;rfl
theorem Ac{ok:qD}{M:List (Nat×qS)}{v:qv}(h:isRow 108 2 QS ok M w v):∃p c,v=.slice p M.length c/\∀k r,M[k]?=some r->∃g,p=some (qA g 0)/\g<w.heap.size/\M.length<=c/\w.cell? ⟨g,k*2,none⟩=some (qJ (r.1:Nat))/\w.cell? ⟨g,k*2+1,none⟩=some (.string r.2):=by
 obtain⟨p,c,rfl⟩:=Row.form h;refine⟨p,c,rfl,fun k r a=>?_⟩;have X:=(List.getElem?_eq_some_iff.1 a).1;obtain⟨b,e,f,l,i,j,d⟩:=Row.cells h qo;obtain⟨rfl,rfl⟩:p=some (qA b 0)/\c=e:=by cases f;exact⟨rfl,rfl⟩
 exact⟨b,rfl,i,j,by rw[d _ qo,(ads a).1],by rw[d _ qo,(ads a).2]⟩
theorem Jn(h:eu w x s Z Y)(most:Nat)(hm:most<=100):qC 135 #[qP x,qJ most] w fun e w'=>(∃v,e=.returned v/\isRow 108 2 QS (fun g=>w.heap.size<=g) (jA s most Z).1 w' v)/\eu w' x s (jA s most Z).2 Y/\Kept (only x) w w':=by
 obtain⟨i0,aQ,aR,aS,aT⟩:=info_parts Tryz.acs;have hx:=h.lt;go_enter func135,ntmps135;go_wp2_with fail
 refine(mQ h most).mono ?_;rintro e w1 ⟨rfl,hI,X⟩;have aU:=qX (s:=s) (Z:=Z) most;have H0:qh (jA s most Z=jl s most (dU s most Z).1 [] (dU s most Z).2):=rfl;generalize dU s most Z=mn at*;obtain⟨n,st1⟩:=mn;simp only at hI aU H0 ⊢;go_wp2;go_loopw [5,7] (fun q p wr=>∃(k:Nat) (M:List (Nat×qS)) (J:RS),k<=n/\p=qJ k/\M.length=k/\eu wr x s J Y/\Kept (only x) w wr/\isRow 108 2 QS (fun g=>w.heap.size<=g) M wr q/\jA s most Z=jl s most (n - k) M J) (fun _ p _=>n - (intOf p).toNat)
 case atStart=>exact⟨0,[],st1,qZ,rfl,rfl,hI,X,Row.nil _ _ _ _,H0.o⟩
 obtain⟨k,M,J,be,rfl,aV,hI2,hkp,aa,ao⟩:=hrel;subst aV;obtain⟨pl,cl,rfl,I⟩:=Ac aa;have y:=hide ao;clear ao H0 I;have bf:=hI2.lt;have bg:=hkp.size;have aW:=fP hI2;obtain⟨-,-,-,⟨I3,J3⟩,-⟩:=hI2.blk.five;have YN:=hide aa;clear aa;by_cases bh:M.length<n
 .have aX:(M.length:Int)<(n:Int):=qo;by_cases hb:J.bad=none
  .rw[show gX J.bad= -1 by rw[hb];rfl] at I3;have HN:qh (jA s most Z=jl s most (n - (M.length+1)) (M++[(uz s most M J).1]) (uz s most M J).2):=by
    show _=_;rw[y.o,show n - M.length=n - (M.length+1)+1 by omega];simp[jl,hb]
   clear y hb;go_wp2_with fail
   refine(ou hI2).mono ?_;rintro e f ⟨rfl,C,ab⟩;have ap:=Row.call YN.o ab (fun k X=>qo);have ac:=hkp.trans ab;obtain⟨⟨v,aq⟩,ad⟩:=qF (uS s J);rw[ad] at C ⊢;have ar:=hide ad;simp only at C ⊢;clear ad YN ab hkp hI2 I3 J3;have au:=C.lt;go_wp2_with fail
   have D:OB (f.alloc (.cells #[qJ v,qJ J.at_] 37)) x f.heap.size [qJ v,qJ J.at_]:=OB.new (c:= #[qJ v,qJ J.at_]) (t:=37) au rfl;have av:=C.alloc (.cells #[qJ v,qJ J.at_] 37);have aw:=ac.alloc (.cells #[qJ v,qJ J.at_] 37);have ae:=Row.kept ap ((Kept.refl (fun _=>False) f).alloc (.cells #[qJ v,qJ J.at_] 37)) (fun _ _ _ c=>c);have bi:¬f.heap.size=x:=D.ne;have bj:w.heap.size<=f.heap.size:=ac.size;clear ap ac C au;generalize f.heap.size=B at*;generalize (f.alloc (.cells #[qJ v,qJ J.at_] 37))=w4 at*;obtain⟨K,C0⟩:=D.blk 0 qs;have lB:=D.lt;simp only[List.getD_cons_zero] at K;go_cut [48] from 30 to 48 (fun u W=>u=.bool (xQ most M v)/\qK w4 W)
   case first=>
    by_cases U:most<=v
    .have t1:(most:Int)<=(v:Int):=qo;have HO:qh (xQ most M v=true):=by show _=_;simp[xQ,U]
     exact BA
    have t1:¬(most:Int)<=(v:Int):=qo;by_cases L:M.length=0
    .have t2:decide (0<M.length)=false:=by simp[L]
     have HO:qh (xQ most M v=false):=by show _=_;simp[xQ,U,L]
     clear L;exact BA
    have t2:0<M.length:=qo;obtain⟨r,a⟩:∃r,M[M.length - 1]?=some r:=⟨_,List.getElem?_eq_getElem qo⟩;obtain⟨p',c',N,aY⟩:=Ac ae;obtain⟨g,rfl,E,aZ,q0,q1⟩:=aY _ _ a;obtain⟨rfl,rfl⟩:pl=some (qA g 0)/\cl=c':=by cases N;exact⟨rfl,rfl⟩
    have HO:qh (xQ most M v=decide (v<=r.1)):=by show _=_;simp[xQ,U,a,show 0<M.length by omega]
    have t3:(0:Int)<=(M.length:Int) - 1:=qo;have t4:(M.length:Int) - 1<(M.length:Int):=qo;have t5:((M.length:Int) - 1).toNat=M.length - 1:=qo;clear L;exact BA
   case rest=>
   obtain⟨rfl,F⟩:=hcut;obtain⟨w5,a0⟩:=qE wc;subst a0;have O:=D.kept F (fun c=>c);have af:=av.kept F (fun c=>c);have ax:Kept (only x) w w5:=aw.trans (F.mono (fun _ _ c=>c.elim));have ay:=Row.kept ae F (fun _ _ _ c=>c);clear D av aw ae F K C0 lB;obtain⟨B1,C1⟩:=O.blk 1 qs;simp only[List.getD_cons_succ,List.getD_cons_zero] at B1;have a1:=O.lt;obtain⟨bb,ag⟩:=qF (xQ most M v);rw[ag];have az:=hide ag;clear ag;go_upto_if 48 with fail
   go_cut [] from 48 to 52 (fun W=>∃i,(if bb=true then dL aq J.at_ else aq)=i/\eu W x s i Y/\Kept (only x) w5 W)
   case first=>
    cases bb with
    | true=>
     go_wp2_with fail
     refine(gH af J.at_ aW).mono ?_;rintro e w6 ⟨rfl,d,ah⟩;go_wp2;go_meet;exact⟨_,rfl,d,ah⟩
    | false=>go_wp2;go_meet;exact⟨_,rfl,af,Kept.refl _ _⟩
   case rest=>
   obtain⟨i,h3,d,Q⟩:=hcut;have H3:=hide h3;have aA:=O.call Q;have aB:=ax.trans Q;have aC:=Row.call ay Q (fun k X=>qo);have a2:=fP d;obtain⟨-,⟨X1,Y1⟩,-,-,-⟩:=d.blk.five;clear h3 Q O ax ay af B1 C1 a1;go_wp2_with fail
   refine(ER d 1 20 qo).mono ?_;rintro e w7 ⟨rfl,G,R⟩;have ai:=IA (s:=s) (Z:=i) 1 20;obtain⟨⟨t,aD⟩,aj⟩:=qF (fH s 1 20 i);rw[aj] at G ai ⊢;have aE:=hide aj;simp only at G ai ⊢;have aF:=aA.call R;have ak:=aB.trans R;have am:=Row.call aC R (fun k X=>qo);clear aj R aA aB aC d X1 Y1;go_wp2_with fail
   refine(FT t _ ai).mono ?_;rintro e w8 ⟨rfl,rfl⟩;obtain⟨p',c',N,I⟩:=Ac am;obtain⟨rfl,rfl⟩:pl=p'/\cl=c':=by cases N;exact⟨rfl,rfl⟩
   clear N;have aG:=hide I;have aH:=hide am;clear I am;have bk:=ak.size;go_wp2;go_loop [11,12] (fun b j=>∃m:Nat,m<=M.length/\j=qJ m/\b=.bool (DR M t m)) (fun _ j=>M.length - (intOf j).toNat)
   case atStart=>exact⟨0,qZ,rfl,by simp[DR]⟩
   obtain⟨m,bm,rfl,rfl⟩:=hrel;by_cases a3:m<M.length
   .have a4:(m:Int)<(M.length:Int):=qo;obtain⟨r,a⟩:∃r,M[m]?=some r:=⟨_,List.getElem?_eq_getElem a3⟩;obtain⟨g,rfl,E,aZ,q0,q1⟩:=aG.o _ _ a;have aI:qh (DR M t (m+1)=(DR M t m&&decide (r.2≠t))):=by
     show _=_;unfold DR;rw[List.take_add_one,a,Bool.and_assoc];simp
    obtain⟨T,l⟩:=qF (DR M t m);rw[l];have H:=hide l;clear l q0 a;cases T with
    | true=>
     go_wp2;go_round
     case rel=>exact⟨m+1,qo,by go_num,by rw[aI.o,H.o];simp;exact vw _ _⟩
     simp[intOf];omega
    | false=>
     go_wp2;go_round
     case rel=>exact⟨m+1,qo,by go_num,by rw[aI.o,H.o];simp⟩
     simp[intOf];omega
   obtain rfl:m=M.length:=qo;have a4:¬(M.length:Int)<(M.length:Int):=qo;obtain⟨T,l⟩:=qF (DR M t M.length);rw[l];have H:=hide l;clear l aG;go_upto_if 78 with fail
   go_cut [] from 78 to 81 (fun W=>∃A,(if T=true then aD else dL aD i.at_)=A/\eu W x s A Y/\Kept (only x) w8 W)
   case first=>
    cases T with
    | false=>
     go_wp2_with fail
     refine(gH G i.at_ a2).mono ?_;rintro e w6 ⟨rfl,d,ah⟩;go_wp2;go_meet;exact⟨_,rfl,d,ah⟩
    | true=>go_wp2;go_meet;exact⟨_,rfl,G,Kept.refl _ _⟩
   case rest=>
   obtain⟨A,h5,aJ,V⟩:=hcut;have H5:=hide h5;have aK:=aF.call V;have aL:=ak.trans V;have aM:=Row.call aH.o V (fun k X=>qo);obtain⟨w9,a5⟩:=qE wc;subst a5;obtain⟨K,C0⟩:=aK.blk 0 qs;simp only[List.getD_cons_zero] at K;have bn:=aK.lt;have HW:=hide ((aM.pO (fun g E=>E)).alloc (.cells #[qJ v,.string t] 108));have bo:=aL.size;have bp:=aJ.lt;clear h5 V aF ak aH G aM;have a6:qh (∀u∈[Value.int .i64 v,Value.string t],u.oneCell'=true):=by intro u hu;simp at hu;rcases hu with rfl | rfl<;>rfl
   have a7:qh (M.length+1<=maxLen):=by show _<=_;unfold maxLen;omega
   have a8:qh ((M.length+1)*24<=140737488355328):=by show _<=_;omega
   have a9:qh (w.heap.size<=(w9.alloc (.cells #[qJ v,.string t] 108)).heap.size):=by show _<=_;simp;omega
   go_wp2_with (at_builtin;refine wpList_append_own _ rfl _ _ 68 rfl w.heap.size 108 i0 (.agg #[qJ 0,.string ⟨#[]⟩]) 2 24 underlying68 aQ aR aS aT rfl qx _ _ _ rfl HW.o ⟨w9.heap.size,0,none⟩ 1 1 [qJ v,.string t] rfl rfl (cells_at rfl rfl) a6.o a7.o a8.o a9.o ?_)
   intro v' aN aO an _;have ba:=iP (aL.alloc _) HW.o qR an;have bc:eu aN x s A Y:=(aJ.alloc _).kept (Kept.iB an) (fun a=>absurd (HW.o.lt x a).1 qo);have aP:isRow 108 2 QS (fun g=>w.heap.size<=g) (M++[(v,t)]) aN v':=by
    have:=Row.nS (ok:=fun g=>w.heap.size<=g) aO (fun g E _=>E);simpa [isRow,QS] using this
   have HR:=hide aP;have bd:qh (jA s most Z=jl s most (n - (M.length+1)) (M++[(v,t)]) A):=by
    show _=_;rw[HN.o];simp only[uz,ar.o,az.o,H3.o,aE.o,H.o,H5.o]
   clear aO an aP HW HN ar az H3 aE H H5;go_wp2;go_roundw
   case rel=>exact⟨M.length+1,M++[(v,t)],A,qo,by go_num,qs,bc,ba,HR.o,bd.o⟩
   simp[intOf];omega
  have hz:=fO hb;have HN:qh (jA s most Z=(M,J)):=by
   show _=_;rw[y.o,show n - M.length=n - (M.length+1)+1 by omega];simp[jl,hb]
  generalize gX J.bad=z at*;have bq:¬z<0:=qo;clear y hb;exact acT
 have HN:qh (jA s most Z=(M,J)):=by show _=_;rw[y.o,show n - M.length=0 by omega];rfl
 have aX:¬(M.length:Int)<(n:Int):=qo;clear y;exact acT
end
end Go.Proofs.YtdaafkmhfedkiaaGreat
