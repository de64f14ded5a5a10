import Derived.Test.YtdaafkmhfedkiaaGreatX19
import Derived.Test.YtdaafkmhfedkiaaGreatX20
namespace Go.Proofs.YtdaafkmhfedkiaaGreat
set_option maxHeartbeats 6400000
set_option maxRecDepth 100000
open Go.RowKit Go.Proofs.Tryz
def gy(dm:List (qS×qS))(n:Nat):qS×qS:=dm.getD n (⟨#[]⟩,⟨#[]⟩)
section
variable {S okT:qD} {w w':qW} {x Y fb:Nat} {s:qS} {Z:RS} {dm:List (qS×qS)} {tv:qv}
theorem JR:∀(l:List (qS×qS)) (k o:Nat),o<2->(l.flatMap iG)[k*2+o]?=(l[k]?).bind (fun r=>(iG r)[o]?)
 | [],k,o,_=>qs
 | r::l,0,o,h=>by
  rw[List.flatMap_cons,List.getElem?_append_left (by simp[iG];omega)];simp
 | r::l,k+1,o,h=>by
  rw[List.flatMap_cons,List.getElem?_append_right (by simp[iG];omega)];have:(k+1)*2+o - (iG r).length=k*2+o:=by simp[iG];omega
  rw[this,JR l k o h];simp
theorem Y7{l:List (qS×qS)}{k:Nat}{r:qS×qS}(h:l[k]?=some r):(l.flatMap iG)[k*2]?=some (.string r.1)/\(l.flatMap iG)[k*2+1]?=some (.string r.2):=by
 have a:=JR l k 0 qo;have U:=JR l k 1 qo;rw[h] at a U;exact⟨by simpa [iG] using a,by simpa [iG] using U⟩
theorem yI{ok:qD}{M:List (qS×qS)}{v:qv}(h:isRow 83 2 iG ok M w v):∃p c,v=.slice p M.length c/\∀k r,M[k]?=some r->∃g,p=some (qA g 0)/\ok g/\g<w.heap.size/\M.length<=c/\w.cell? ⟨g,k*2,none⟩=some (.string r.1)/\w.cell? ⟨g,k*2+1,none⟩=some (.string r.2):=by
 obtain⟨p,c,rfl⟩:=Row.form h;refine⟨p,c,rfl,fun k r a=>?_⟩;have X:=(List.getElem?_eq_some_iff.1 a).1;obtain⟨b,e,f,i,j,l,d⟩:=Row.cells h qo;obtain⟨rfl,rfl⟩:p=some (qA b 0)/\c=e:=by cases f;exact⟨rfl,rfl⟩
 exact⟨b,rfl,i,j,l,by rw[d _ qo,(Y7 a).1],by rw[d _ qo,(Y7 a).2]⟩
theorem yh{f nf A n:Nat}(i:w.cell? (qA Y 0)=some tv)(a:isRow 83 2 iG okT dm w tv)(m:w.cell? (qA Y 1)=some (.slice (some (qA fb 0)) nf A))(hf:f<nf)(j:w.cell? ⟨fb,f*7,none⟩=some (qJ n)):
  qC 105 #[qP Y,qJ f] w fun e w'=>e=.returned (.agg #[.string (gy dm n).1,.string (gy dm n).2])/\qK w w':=by
 have q:Y<w.heap.size:=World.block_lt_of_cell? w ⟨Y,0,none⟩ i;have t:fb<w.heap.size:=World.block_lt_of_cell? w ⟨fb,f*7,none⟩ j;have u:(f:Int)<(nf:Int):=qo;obtain⟨p,c,rfl,b⟩:=yI a;by_cases k:n<dm.length
 .have l:(n:Int)<(dm.length:Int):=qo;obtain⟨r,d⟩:∃r,dm[n]?=some r:=⟨_,List.getElem?_eq_getElem k⟩;obtain⟨g,rfl,-,y,z,B,C⟩:=b _ _ d;have h:qh (gy dm n=r):=by show _=_;simp[gy,d]
  clear b d a;go_enter func105,ntmps105;go_wp2;refine bodyPost_ret (v:=.agg #[.string r.1,.string r.2]) ?_ rfl ⟨by rw[h.o],qr.alloc _⟩;simp[results,results105,go_sem]
 have l:¬(n:Int)<(dm.length:Int):=qo;have h:qh (gy dm n=(⟨#[]⟩,⟨#[]⟩)):=by show _=_;simp[gy,List.getD_eq_getElem?_getD,List.getElem?_eq_none_iff.2 (by omega:dm.length<=n)]
 clear b a;go_enter func105,ntmps105;go_wp2;refine bodyPost_ret (v:=.agg #[.string ⟨#[]⟩,.string ⟨#[]⟩]) ?_ rfl ⟨by rw[h.o],qr.alloc _⟩;simp[results,results105,go_sem]
theorem UJ(a b:qv)(w:qW):(Instr.field 83 (.agg #[a,b]) 0).run prog w=.ok a w:=qk
theorem aeS(a b:qv)(w:qW):(Instr.field 83 (.agg #[a,b]) 1).run prog w=.ok b w:=qk
theorem FQ{f nf A n:Nat}{lc:qS}(j:w.cell? (qA Y 0)=some tv)(k:isRow 83 2 iG okT dm w tv)(m:w.cell? (qA Y 1)=some (.slice (some (qA fb 0)) nf A))(hf:f<nf)(p:w.cell? ⟨fb,f*7,none⟩=some (qJ n))(q:w.cell? ⟨fb,f*7+2,none⟩=some (.string lc))(C:(gy dm n).1.size+lc.size<=1000):
  qC 106 #[qP Y,qJ f] w fun e w'=>e=.returned (.string ((gy dm n).1++lc))/\qK w w':=by
 have u:Y<w.heap.size:=World.block_lt_of_cell? w ⟨Y,0,none⟩ j;have v:fb<w.heap.size:=World.block_lt_of_cell? w ⟨fb,f*7,none⟩ p;have D:(f:Int)<(nf:Int):=qo;have E:=UJ;have hno:¬9223372036854775807<(gy dm n).1.size+lc.size:=qo;have r:=yh (w:=w.drew) j (Row.kept k ((Kept.refl (fun _=>False) w).drew) (fun _ _ _ c=>c)) m hf p;have t:=hide r;have F:=hide k;clear r k;go_enter func106,ntmps106;go_wp2_with fail
 have y:=dX u m;have z:=dX v q;clear j m p q;have b:qK w w.drew:=qr.drew;refine kQ (qK w) 13 ?_;iterate 2 refine pQ b ?_
 refine tk 4 [12,11,10,9,7,6,5] b ?_;refine tk 5 [12,11,10,9,7,6] b ?_;refine tk 6 [12,11,10,9,7] b ?_;refine tk 7 [12,11,10,9] b ?_;refine tk 8 [12,11,10,9] b ?_;refine tk 9 [12,11,10] b ?_;refine tk 10 [12,11] b ?_;refine tk 11 [12] b ?_;refine dx (i:=2) qk (dn rfl (fun K d=>?_));refine eG (f:=105) (args:= #[qP Y,qJ f]) (by rfl) (by go_simp) t.o ?_;rintro e G ⟨rfl,B⟩;have g:=b.trans B;refine⟨_,rfl,d _ _ ⟨.inr g,?_⟩⟩;clear d K t;refine tk 3 [12] g ?_;refine tk 12 [] g ?_;refine dx (i:=13) qk (dn rfl (fun K d=>?_));go_simp;refine d _ _ ⟨.inl rfl,?_⟩;clear d K;refine dM qk ?_ _;clear y z;go_wp2;go_ret;exact⟨rfl,g⟩
end
def lV(s:qS)(l:List Nat)(Z:RS):RS:=l.foldl (fun a b=>gY s b a) Z
def mg:List Nat:=[4,110,97,109,101]
def EW(s:qS)(b:Nat)(Z:RS):Bool:=decide (Z.bad=none)&&(decide (Z.at_<Z.end_)&&decide (bt s Z.at_=b))
def sQ(s:qS)(nf:Nat)(Z:RS):RS:=
 if EW s 1 Z=true then gV (eP s {Z with at_:=Z.at_+1}).1.1 (eP s {Z with at_:=Z.at_+1}).1.2 (jA s nf (eP s {Z with at_:=Z.at_+1}).2).2 else Z
def mJ(s:qS)(nf:Nat)(kn:Nat->Nat):Nat->Nat->RS->RS
 | 0,_,Z=>Z
 | k+1,lo,Z=>if Z.bad≠none then Z else if nf<=(uS s Z).1\/(uS s Z).1<lo then dL (uS s Z).2 Z.at_ else mJ s nf kn k ((uS s Z).1+1) (jA s (kn (uS s Z).1) (uS s Z).2).2
def xm(s:qS)(nf:Nat)(kn:Nat->Nat)(Z:RS):RS:=
 if EW s 2 Z=true then gV (eP s {Z with at_:=Z.at_+1}).1.1 (eP s {Z with at_:=Z.at_+1}).1.2 (mJ s nf kn (dU s nf (eP s {Z with at_:=Z.at_+1}).2).1 0 (dU s nf (eP s {Z with at_:=Z.at_+1}).2).2) else Z
def oC(s:qS)(nf:Nat)(kn:Nat->Nat)(Z:RS):RS:=xm s nf kn (sQ s nf (lV s mg Z))
section
variable {s:qS} {Z:RS}
theorem y7(a most:Nat):wE Z (fH s a most Z).2:=by
 unfold fH;simp only;have L:wE Z (if(uS s Z).1<a\/most<(uS s Z).1 then dL (uS s Z).2 Z.at_ else(uS s Z).2):=by
  split
  .exact qa.trans (nC _)
  exact qa
 generalize (if(uS s Z).1<a\/most<(uS s Z).1 then dL (uS s Z).2 Z.at_ else(uS s Z).2)=b at*;split
 .exact L
 split
 .exact L.trans (nC _)
 exact L.trans ⟨rfl,fun h=>⟨h,Nat.le_add_right _ _⟩⟩
theorem aaN(most:Nat)(M:List (Nat×qS)):wE Z (uz s most M Z).2:=by
 unfold uz;simp only;have L:wE Z (if xQ most M (uS s Z).1=true then dL (uS s Z).2 Z.at_ else(uS s Z).2):=by
  split
  .exact qa.trans (nC _)
  exact qa
 generalize (if xQ most M (uS s Z).1=true then dL (uS s Z).2 Z.at_ else(uS s Z).2)=st2 at*;split
 .exact L.trans (y7 _ _)
 exact(L.trans (y7 _ _)).trans (nC _)
theorem Aw(most:Nat):∀(k:Nat) (M:List (Nat×qS)) (Z:RS),wE Z (jl s most k M Z).2
 | 0,_,Z=>wE.refl Z
 | k+1,M,Z=>by
  unfold jl;split
  .exact wE.refl _
  exact(aaN most M).trans (Aw most k _ _)
theorem FK(most:Nat):wE Z (jA s most Z).2:=(mG most).trans (Aw most _ _ _)
theorem aaO(nf:Nat)(kn:Nat->Nat):∀(k a:Nat) (Z:RS),wE Z (mJ s nf kn k a Z)
 | 0,_,Z=>wE.refl Z
 | k+1,a,Z=>by
  unfold mJ;split
  .exact wE.refl _
  split
  .exact qa.trans (nC _)
  exact(qa.trans (FK _)).trans (aaO nf kn k _ _)
theorem abZ{most:Nat}{M:List (Nat×qS)}(h:(uz s most M Z).2.bad=none):(uz s most M Z).1.1<most:=by
 have hb:xQ most M (uS s Z).1=false:=by
  cases hc:xQ most M (uS s Z).1 with
  | false=>rfl
  | true=>
   exfalso
   have e:uz s most M Z=(((uS s Z).1,(fH s 1 20 (dL (uS s Z).2 Z.at_)).1),if DR M (fH s 1 20 (dL (uS s Z).2 Z.at_)).1 M.length=true then(fH s 1 20 (dL (uS s Z).2 Z.at_)).2 else dL (fH s 1 20 (dL (uS s Z).2 Z.at_)).2 (dL (uS s Z).2 Z.at_).at_):=by
    unfold uz;simp only[hc,if_true]
   rw[e] at h;simp only at h;have h3:(fH s 1 20 (dL (uS s Z).2 Z.at_)).2.bad=none:=by
    split at h
    .exact h
    exact absurd h (jO _)
   exact jO _ ((y7 1 20).2 h3).1
 have:¬most<=(uS s Z).1:=by
  intro c;simp[xQ,c] at hb
 show(uS s Z).1<most;omega
theorem Jy(most:Nat):∀(k:Nat) (M:List (Nat×qS)) (Z:RS),(∀p∈M,p.1<most)->(jl s most k M Z).2.bad=none->∀p∈(jl s most k M Z).1,p.1<most
 | 0,_,_,ha,_=>ha
 | k+1,M,Z,ha,hb=>by
  unfold jl at hb ⊢;split at hb
  .rename_i h;exact absurd hb h
  rename_i h;rw[if_neg h];refine Jy most k _ _ ?_ hb;intro p hp;rw[List.mem_append,List.mem_singleton] at hp;rcases hp with hp | rfl
  .exact ha p hp
  exact abZ ((Aw most k _ _).2 hb).1
theorem ZV{most:Nat}(hb:(jA s most Z).2.bad=none):∀p∈(jA s most Z).1,p.1<most:=Jy most _ _ _ qs hb
theorem F7(most:Nat):∀(k:Nat) (M:List (Nat×qS)) (Z:RS),(jl s most k M Z).1.length<=M.length+k
 | 0,M,Z=>qR
 | k+1,M,Z=>by
  unfold jl;split
  .exact Nat.le_add_right _ _
  have:=F7 most k (M++[(uz s most M Z).1]) (uz s most M Z).2;rw[List.length_append] at this;simp at this;omega
theorem XI(most:Nat):(jA s most Z).1.length<=most:=by
 have:=F7 (s:=s) most (dU s most Z).1 [] (dU s most Z).2;exact adP
end
structure YR(cs cs':List Value):Prop where
 len:cs'.length=cs.length
 same:∀j,j%7<5->cs'.getD j undef=cs.getD j undef
 nm:XD cs->XD cs'
theorem YR.refl(cs:qV):YR cs cs:=⟨rfl,fun _ _=>rfl,fun h=>h⟩
theorem YR.set{cs cs':qV}(h:YR cs cs'){k:Nat}(X:5<=k%7)(v:qv)(b:(k%7=5->∃t,v=.string t)/\(k%7=6->∃p n c,v=.slice p n c)):YR cs (cs'.set k v):=
 ⟨by rw[List.length_set];exact h.len,fun j a=>by rw[getD_set_ne (by rintro rfl;omega)];exact h.same j a,fun d j a=>by
  rw[List.length_set] at a;by_cases e:k=j
  .subst e;rw[fB a];exact b
  rw[getD_set_ne e];exact h.nm d j a⟩
section
variable {S ok:qD} {w w':qW} {x Y fb:Nat} {s:qS} {Z:RS} {cs cs':qV} {tys:List (Nat×Nat)} {ds:List xY}
theorem iA.agr(h:iA w ok cs tys ds)(a:YR cs cs'):iA w ok cs' tys ds:=by
 refine⟨a.len.trans h.len,fun i ty f=>?_,a.nm h.nm⟩;have e:=h.each i ty f;refine⟨?_,?_,fun d b=>⟨?_,?_,?_⟩,fun c=>⟨?_,?_,?_⟩⟩
 .rw[a.same _ qo];exact e.1
 .rw[a.same _ qo];exact e.2.1
 .rw[a.same _ qo];exact(e.2.2.1 d b).1
 .rw[a.same _ qo];exact(e.2.2.1 d b).2.1
 .rw[a.same _ qo];exact(e.2.2.1 d b).2.2
 .rw[a.same _ qo];exact(e.2.2.2 c).1
 .rw[a.same _ qo];exact(e.2.2.2 c).2.1
 rw[a.same _ qo];exact(e.2.2.2 c).2.2
end
def nT(dm:List (qS×qS))(tys:List (Nat×Nat))(ds:List xY)(f:Nat):Nat:=(gy dm (tys.getD f (0,0)).1).1.size+(ds.getD f ⟨⟨#[]⟩,[],0⟩).locals.size
section
variable {ok:qD} {w w':qW} {x Y fb:Nat} {s:qS} {Z:RS} {cs cs':qV} {tys:List (Nat×Nat)} {ds:List xY} {dm:List (qS×qS)} {tv:qv}
theorem Lr{W:qW}{g k:Nat}(h:kY W g [qJ 4,qJ 110,qJ 97,qJ 109,qJ 101])(X:k<5):W.cell? (qA g k)=some (qJ ((mg.getD k 0:Nat):Int)):=by
 have:k=0\/k=1\/k=2\/k=3\/k=4:=qo;rcases this with rfl | rfl | rfl | rfl | rfl
 .exact(h 0 qs).1
 .exact(h 1 qs).1
 .exact(h 2 qs).1
 .exact(h 3 qs).1
 exact(h 4 qs).1
theorem Ul{k:Nat}(X:k<5):lV s (mg.take (k+1)) Z=gY s (mg.getD k 0) (lV s (mg.take k) Z):=by
 have:k=0\/k=1\/k=2\/k=3\/k=4:=qo;rcases this with rfl | rfl | rfl | rfl | rfl<;>rfl
theorem QN{b:Nat}(h:EW s b Z=true):Z.bad=none/\Z.at_<Z.end_:=by
 simp only[EW,Bool.and_eq_true,decide_eq_true_eq] at h;exact⟨h.1,h.2.1⟩
theorem eu.next(h:eu w x s Z Y)(a:Z.at_<Z.end_):eu (w.setCell (qA x 1) (qJ ((Z.at_:Int)+1))) x s {Z with at_:=Z.at_+1} Y:=
 ⟨h.blk.set 1 (qJ ((Z.at_:Int)+1)),a,h.big,h.sz,h.bd⟩
theorem TV{ms:qV}{p:qO}{A:Nat}(h:eu w x s Z Y)(hM:OB w x Y ms)(hl:18<ms.length)(c0:ms.getD 0 undef=tv)(hT:isRow 83 2 iG (fun g=>g≠x/\g≠fb) dm w tv)(c1:ms.getD 1 undef=.slice p tys.length A)(hp:tys≠[]->p=some (qA fb 0)/\OB w x fb cs/\fb≠Y)(hc:iA w ok cs tys ds)(hd:ds.length=tys.length)(cU:tys.length<=20)(aq:∀f,nT dm tys ds f<=100):
  qC 102 #[qP x] w fun e w'=>qU e/\eu w' x s (oC s tys.length (nT dm tys ds) Z) Y/\(∃cs',YR cs cs'/\(tys≠[]->OB w' x fb cs'))/\Kept (fun k=>k=x\/(tys≠[]/\k=fb)) w w':=by
 have hx:=h.lt;have cV:=hM.lt;have ck:¬Y=x:=hM.ne;have HM:=hide hM;have HP:=hide hp;have HC:=hide hc;have HT:=hide hT;have cm:=hide aq;have HD:=hide hd;have bw:∀W,Kept (fun k=>k=x\/(tys≠[]/\k=fb)) w W->OB W x Y ms:=fun W hW=>HM.o.kept hW (fun c=>c.elim (fun e=>ck e) (fun e=>(HP.o e.1).2.2 e.2.symm));have ar:=hide bw;clear hM hp hc hT aq hd bw;go_enter func102,ntmps102;have oH:OB (w.alloc (.cells #[qJ 4,qJ 110,qJ 97,qJ 109,qJ 101] 3)) x w.heap.size [qJ 4,qJ 110,qJ 97,qJ 109,qJ 101]:=OB.new (c:= #[qJ 4,qJ 110,qJ 97,qJ 109,qJ 101]) (t:=3) hx rfl;have bz:=h.alloc (.cells #[qJ 4,qJ 110,qJ 97,qJ 109,qJ 101] 3);clear h;go_wp2;go_loopw [3] (fun q wr=>∃k:Nat,k<=5/\q=qJ k/\eu wr x s (lV s (mg.take k) Z) Y/\OB wr x w.heap.size [qJ 4,qJ 110,qJ 97,qJ 109,qJ 101]/\Kept (only x) w wr) (fun q _=>5 - (intOf q).toNat)
 case atStart=>exact⟨0,qo,rfl,bz,oH,qr.alloc _⟩
 obtain⟨k,ad,rfl,hI,aT,X⟩:=hrel;clear oH bz;have lH:=aT.lt;by_cases R:k<5
 .have ax:(k:Int)<5:=qo;have aU:=Lr aT.blk R;have HN:=hide (Ul (s:=s) (Z:=Z) R);generalize mg.getD k 0=nb at*;go_wp2_with fail
  refine(nP hI nb).mono ?_;rintro e w2 ⟨rfl,bA,bB⟩;have co:qh (eu w2 x s (lV s (mg.take (k+1)) Z) Y):=by show eu _ _ _ _ _;rw[HN.o];exact bA
  clear bA HN aU;go_wp2;go_roundw
  case rel=>exact⟨k+1,qo,by go_num,co.o,aT.call bB,X.trans bB⟩
  simp[intOf];omega
 have bC:k=5:=qo;have HE:qh (oC s tys.length (nT dm tys ds) Z=xm s tys.length (nT dm tys ds) (sQ s tys.length (lV s (mg.take k) Z))):=by rw[bC];rfl
 have ax:¬(k:Int)<5:=qo;generalize lV s (mg.take k) Z=j at*;clear bC R;obtain⟨-,-,-,-,⟨X4,Y4⟩⟩:=hI.blk.five;have bD:tys≠[]->OB wr x fb cs:=fun c=>(HP.o c).2.1.call X;have bE:Kept (fun k=>k=x\/(tys≠[]/\k=fb)) w wr:=X.mono (fun k _ (c:k=x)=>.inl c);clear aT lH X;go_wp2_with fail
 clear X4 Y4;have cp:=hI.le;have cq:=hI.big;obtain⟨⟨I0,J0⟩,⟨I1,J1⟩,⟨I2,J2⟩,⟨M,J3⟩,-⟩:=hI.blk.five;go_cut [59] from 32 to 59 (fun u W=>u=.bool (EW s 1 j)/\qK wr W)
 case first=>
  by_cases hb:j.bad=none
  .rw[show gX j.bad= -1 by rw[hb];rfl] at M;by_cases R:j.at_<j.end_
   .have has:j.at_<s.size:=qo;have ax:(j.at_:Int)<(j.end_:Int):=qo;have cr:(j.at_:Int)<(s.size:Int):=qo;have ay:=zH has;by_cases U:bt s j.at_=1
    .have t1:(((s[j.at_].toNat:Nat):Int)==1)=true:=by simp;omega
     have HO:qh (EW s 1 j=true):=by show _=_;simp[EW,hb,R,U]
     clear U ay hb;exact BA
    have t1:(((s[j.at_].toNat:Nat):Int)==1)=false:=by simp;omega
    have HO:qh (EW s 1 j=false):=by show _=_;simp[EW,U]
    clear U ay hb;exact BA
   have ax:¬(j.at_:Int)<(j.end_:Int):=qo;have HO:qh (EW s 1 j=false):=by show _=_;simp[EW,R]
   clear hb;exact BA
  have hz:=fO hb;have HO:qh (EW s 1 j=false):=by show _=_;simp[EW,hb]
  generalize gX j.bad=z at*;have a6:¬z<0:=qo;clear hb;exact BA
 case rest=>
 clear I0 J0 I1 J1 I2 J2 M J3;obtain⟨rfl,C⟩:=hcut;obtain⟨wb,ct⟩:=qE wc;subst ct;have ag:=hI.kept C (fun c=>c);have bF:tys≠[]->OB wb x fb cs:=fun c=>(bD c).kept C (fun c=>c);have aV:Kept (fun k=>k=x\/(tys≠[]/\k=fb)) w wb:=bE.trans (C.mono (fun _ _ c=>c.elim));have az:=hide bF;obtain⟨ob,G⟩:=qF (EW s 1 j);rw[G];have E:=hide G;clear G hI C bE bD bF;go_upto_if 59 with fail
 go_cut [] from 59 to 111 (fun W=>∃b cs',sQ s tys.length j=b/\eu W x s b Y/\YR cs cs'/\(tys≠[]->OB W x fb cs')/\Kept (fun k=>k=x\/(tys≠[]/\k=fb)) w W)
 case first=>
  cases ob with
  | false=>go_wp2;go_meet;exact⟨j,cs,by unfold sQ;rw[E.o];rfl,ag,YR.refl _,az.o,aV⟩
  | true=>
   obtain⟨a7,aA⟩:=QN E.o;have aB:=ag.next aA;obtain⟨-,⟨I1,J1⟩,-,-,-⟩:=ag.blk.five;have a8:=ag.lt;have cu:=fP ag;have bG:sQ s tys.length j=gV (eP s {j with at_:=j.at_+1}).1.1 (eP s {j with at_:=j.at_+1}).1.2 (jA s tys.length (eP s {j with at_:=j.at_+1}).2).2:=by unfold sQ;rw[E.o];rfl
   have aC:=hide bG;have aD:Kept (fun k=>k=x\/(tys≠[]/\k=fb)) w (wb.setCell (qA x 1) (qJ ((j.at_:Int)+1))):=aV.setCell (p:=(qA x 1)) (fun _=>.inl rfl) _;have aE:tys≠[]->OB (wb.setCell (qA x 1) (qJ ((j.at_:Int)+1))) x fb cs:=fun c=>(az.o c).other (fun e=>(az.o c).ne e.symm) _;have ah:=hide aB;have aF:=hide aD;have aG:=hide aE;clear a7 bG aB aD aE ag aV az E;go_wp2_with fail
   refine(ze ah.o).mono ?_;rintro e w4 ⟨rfl,T,ai⟩;have aH:tys≠[]->OB w4 x fb cs:=fun c=>(aG.o c).call ai;have ae:=aF.o.trans (ai.mono (fun k _ (c:k=x)=>.inl c));have aI:=ah.o.big;have aj:=Bo (s:=s) (Z:={j with at_:=j.at_+1});have ak:=rE (s:=s) (Z:={j with at_:=j.at_+1});have N:=(FK (s:=s) (Z:=(eP s {j with at_:=j.at_+1}).2) tys.length).1;obtain⟨⟨⟨outer,en⟩,H⟩,am⟩:=qF (eP s {j with at_:=j.at_+1});rw[am] at T aj ak N ⊢;have aJ:qh (sQ s tys.length j=gV outer en (jA s tys.length H).2):=by show _=_;rw[aC.o,am]
   simp only at T aj ak N aI ⊢;have aK:qh ((jA s tys.length H).2.end_<=outer/\outer<=s.size):=⟨qo,qo⟩;have an:=ar.o _ ae;obtain⟨F,V⟩:=an.cell (k:=1) qo c1;have a9:=an.lt;have aL:=hide aH;clear am aj ak N aC ah aF aG ai aH I1 J1 a8 aA aI;go_wp2_with fail
   refine(Jn T tys.length qo).mono ?_;rintro e w5 ⟨⟨lv,rfl,hL⟩,aa,ad⟩;have aW:=ZV (s:=s) (Z:=H) (most:=tys.length);have aM:=XI (s:=s) (Z:=H) tys.length;obtain⟨pv,cv,rfl,-⟩:=Ac hL;obtain⟨⟨l,m⟩,ab⟩:=qF (jA s tys.length H);rw[ab] at aa hL aW aM ⊢;have aa9:qh (sQ s tys.length j=gV outer en m):=by show _=_;rw[aJ.o,ab]
   have VB:qh (m.end_<=outer/\outer<=s.size):=by have:=aK.o;rw[ab] at this;exact this
   simp only at aa hL aW aM ⊢;have cw:=hide aW;have HL:=hide hL;have cW:=ae.size;have aN:=ae.trans (ad.mono (fun k _ (c:k=x)=>.inl c));have aO:qh (tys≠[]->OB w5 x fb cs):=fun c=>(aL.o c).call ad;clear ab hL aW aJ aK T aL F V a9 an ad ae;go_wp2;go_loopw [8] (fun q wr=>∃(k:Nat) (cs':qV),k<=l.length/\q=qJ (k:Nat)/\eu wr x s m Y/\YR cs cs'/\(tys≠[]->OB wr x fb cs')/\isRow 108 2 QS (fun g=>w.heap.size<=g) l wr (.slice pv l.length cv)/\Kept (fun k=>k=x\/(tys≠[]/\k=fb)) w wr) (fun q _=>l.length - (intOf q).toNat)
   case atStart=>exact⟨0,cs,qZ,rfl,aa,YR.refl _,aO.o,Row.mono HL.o (fun g _ (hg:w4.heap.size<=g)=>qo),aN⟩
   obtain⟨k,cs',cx,rfl,Bh,Lx,aP,bH,hk6⟩:=hrel;have HF6:=hide aP;have ba:=hide bH;clear HL aO aa aN aP bH;obtain⟨-,-,-,⟨M,J3⟩,-⟩:=Bh.blk.five;have bI:=Bh.lt;have acw:=Bh.le;by_cases bJ:k<l.length
   .have bb:(k:Int)<(l.length:Int):=qo;by_cases hb:m.bad=none
    .rw[show gX m.bad= -1 by rw[hb];rfl] at M;obtain⟨r,hr⟩:∃r,l[k]?=some r:=⟨_,List.getElem?_eq_getElem bJ⟩;have cy:=cw.o hb r (List.mem_of_getElem? hr);have cX:(r.1:Int)<(tys.length:Int):=qo;have ao:tys≠[]:=by rintro rfl;simp at cy
     obtain⟨bc,aX,bK⟩:=HP.o ao;subst bc;have oF:=HF6.o ao;have cz:=aX.lt;obtain⟨p',c',bL,aU⟩:=Ac ba.o;obtain⟨O,rfl,bM,cY,q0,q1⟩:=aU k r hr;obtain⟨rfl,rfl⟩:pv=some (qA O 0)/\cv=c':=by cases bL;exact⟨rfl,rfl⟩
     have cZ:w.heap.size<=O:=ba.o.at_ O (by simp[Value.ownBlock]);have bd:=ar.o _ hk6;obtain⟨F,V⟩:=bd.cell (k:=1) qo c1;have cA:=bd.lt;have cB:cs'.length=tys.length*7:=Lx.len.trans HC.o.len;obtain⟨F5,E5⟩:=oF.cell (k:=r.1*7+5) qo rfl;have c6:=oF.lt;have aY:∀y,Kept (fun i=>i=fb) wr y->y.cell? (qA Y 1)=some (.slice (some (qA fb 0)) tys.length A):=fun y hW=>(hW.cell (p:=(qA Y 1)) cA (fun(e:Y=fb)=>bK e.symm)).trans F;have aZ:∀y,Kept (fun i=>i=fb) wr y->y.cell? ⟨O,k*2,none⟩=some (qJ r.1):=fun y hW=>(hW.cell (p:=⟨O,k*2,none⟩) bM (fun(e:O=fb)=>qo)).trans q0;have a0:∀y,Kept (fun i=>i=fb) wr y->y.cell? ⟨O,k*2+1,none⟩=some (.string r.2):=fun y hW=>(hW.cell (p:=⟨O,k*2+1,none⟩) bM (fun(e:O=fb)=>qo)).trans q1;have bN:=hide (And.intro aY (And.intro aZ a0));have HO:=hide oF;clear hb hr bL aU q0 q1 F V bd aX oF aY aZ a0;go_wp2_with fail
     obtain⟨aY,aZ,a0⟩:=bN.o;have hS:Kept (fun i=>i=fb) wr wr.drew:=qr.drew;refine kQ (Kept (fun i=>i=fb) wr) 16 ?_;iterate 16 refine pQ hS ?_
     refine dx (i:=16) qk (dn rfl (fun K I=>?_));go_simp;refine I _ _ ⟨.inl rfl,?_⟩;clear I K;refine dM qk ?_ _;have cC:OB (wr.setCell ⟨fb,r.1*7+5,none⟩ (.string r.2)).drew x fb (cs'.set (r.1*7+5) (.string r.2)):=(HO.o.set (r.1*7+5) (.string r.2)).drew;have Hz:eu (wr.setCell ⟨fb,r.1*7+5,none⟩ (.string r.2)).drew x s m Y:=(Bh.other HO.o.ne (.string r.2)).drew;have Rq:Kept (fun k=>k=x\/(tys≠[]/\k=fb)) w (wr.setCell ⟨fb,r.1*7+5,none⟩ (.string r.2)).drew:=(hk6.setCell (p:=⟨fb,r.1*7+5,none⟩) (fun _=>.inr ⟨ao,rfl⟩) (.string r.2)).drew;have bO:isRow 108 2 QS (fun g=>w.heap.size<=g) l (wr.setCell ⟨fb,r.1*7+5,none⟩ (.string r.2)).drew (.slice (some (qA O 0)) l.length cv):=Row.kept ba.o (((Kept.refl (fun i=>i=fb) wr).setCell (p:=⟨fb,r.1*7+5,none⟩) (fun _=>rfl) (.string r.2)).drew) (fun g _ (hg:w.heap.size<=g) (e:g=fb)=>qo);have cD:=hide bO;clear aY aZ a0 bN hS F5 E5 bO;go_wp2;go_roundw
     case rel=>exact⟨k+1,_,qo,by go_num,Hz,Lx.set qo _ ⟨fun _=>⟨_,rfl⟩,fun e=>qo⟩,fun _=>cC,cD.o,Rq⟩
     simp[intOf];omega
    have hz:=fO hb;generalize be:gX m.bad=z at*;have a6:¬z<0:=qo;clear hb be;exact agx
   have bb:¬(k:Int)<(l.length:Int):=qo;exact agx
 case rest=>
 obtain⟨wd,cE⟩:=qE wc;subst cE;obtain⟨b,au,bP,aQ,bQ,bR,aV⟩:=hcut;have bf:qh (oC s tys.length (nT dm tys ds) Z=xm s tys.length (nT dm tys ds) b):=by show _=_;rw[HE.o,bP]
 have bS:=hide bR;clear HE bP bR ag az E;go_wp2_with fail
 have cp:=aQ.le;have cq:=aQ.big;obtain⟨⟨I0,J0⟩,⟨I1,J1⟩,⟨I2,J2⟩,⟨M,J3⟩,-⟩:=aQ.blk.five;go_cut [139] from 112 to 139 (fun u W=>u=.bool (EW s 2 b)/\qK wd W)
 case first=>
  by_cases hb:b.bad=none
  .rw[show gX b.bad= -1 by rw[hb];rfl] at M;by_cases R:b.at_<b.end_
   .have has:b.at_<s.size:=qo;have ax:(b.at_:Int)<(b.end_:Int):=qo;have cr:(b.at_:Int)<(s.size:Int):=qo;have ay:=zH has;by_cases U:bt s b.at_=2
    .have t1:(((s[b.at_].toNat:Nat):Int)==2)=true:=by simp;omega
     have HO:qh (EW s 2 b=true):=by show _=_;simp[EW,hb,R,U]
     clear U ay hb;exact BA
    have t1:(((s[b.at_].toNat:Nat):Int)==2)=false:=by simp;omega
    have HO:qh (EW s 2 b=false):=by show _=_;simp[EW,U]
    clear U ay hb;exact BA
   have ax:¬(b.at_:Int)<(b.end_:Int):=qo;have HO:qh (EW s 2 b=false):=by show _=_;simp[EW,R]
   clear hb;exact BA
  have hz:=fO hb;have HO:qh (EW s 2 b=false):=by show _=_;simp[EW,hb]
  generalize gX b.bad=z at*;have a6:¬z<0:=qo;clear hb;exact BA
 case rest=>
 clear I0 J0 I1 J1 I2 J2 M J3;obtain⟨rfl,C⟩:=hcut;obtain⟨we,cF⟩:=qE wc;subst cF;have av:=aQ.kept C (fun c=>c);have bT:tys≠[]->OB we x fb au:=fun c=>(bS.o c).kept C (fun c=>c);have bg:Kept (fun k=>k=x\/(tys≠[]/\k=fb)) w we:=(show Kept (fun k=>k=x\/(tys≠[]/\k=fb)) w wd by assumption).trans (C.mono (fun _ _ c=>c.elim));have a1:=hide bT;obtain⟨ob,G⟩:=qF (EW s 2 b);rw[G];have E:=hide G;clear G aQ C bS bT;cases ob with
 | false=>
  have cG:qh (oC s tys.length (nT dm tys ds) Z=b):=by show _=_;rw[bf.o];unfold xm;rw[E.o];rfl
  go_wp2;go_end0;rw[cG.o];exact⟨rfl,av,⟨au,bQ,a1.o⟩,bg⟩
 | true=>
  obtain⟨a7,aA⟩:=QN E.o;have aB:=av.next aA;obtain⟨-,⟨I1,J1⟩,-,-,-⟩:=av.blk.five;have a8:=av.lt;have cu:=fP av;have aC:qh (oC s tys.length (nT dm tys ds) Z=gV (eP s {b with at_:=b.at_+1}).1.1 (eP s {b with at_:=b.at_+1}).1.2 (mJ s tys.length (nT dm tys ds) (dU s tys.length (eP s {b with at_:=b.at_+1}).2).1 0 (dU s tys.length (eP s {b with at_:=b.at_+1}).2).2)):=by show _=_;rw[bf.o];unfold xm;rw[E.o];rfl
  have aD:Kept (fun k=>k=x\/(tys≠[]/\k=fb)) w (we.setCell (qA x 1) (qJ ((b.at_:Int)+1))):=bg.setCell (p:=(qA x 1)) (fun _=>.inl rfl) _;have aE:tys≠[]->OB (we.setCell (qA x 1) (qJ ((b.at_:Int)+1))) x fb au:=fun c=>(a1.o c).other (fun e=>(a1.o c).ne e.symm) _;have ah:=hide aB;have aF:=hide aD;have aG:=hide aE;clear a7 aB aD aE av bg a1 E bf;go_wp2_with fail
  refine(ze ah.o).mono ?_;rintro e w4 ⟨rfl,T,ai⟩;have aH:tys≠[]->OB w4 x fb au:=fun c=>(aG.o c).call ai;have ae:=aF.o.trans (ai.mono (fun k _ (c:k=x)=>.inl c));have aI:=ah.o.big;have aj:=Bo (s:=s) (Z:={b with at_:=b.at_+1});have ak:=rE (s:=s) (Z:={b with at_:=b.at_+1});have N:=(mG (s:=s) (Z:=(eP s {b with at_:=b.at_+1}).2) tys.length).1;obtain⟨⟨⟨outer,en⟩,H⟩,am⟩:=qF (eP s {b with at_:=b.at_+1});rw[am] at T aj ak N ⊢;have aJ:qh (oC s tys.length (nT dm tys ds) Z=gV outer en (mJ s tys.length (nT dm tys ds) (dU s tys.length H).1 0 (dU s tys.length H).2)):=by show _=_;rw[aC.o,am]
  simp only at T aj ak N aI ⊢;have aK:qh ((dU s tys.length H).2.end_<=outer/\outer<=s.size):=⟨qo,qo⟩;have an:=ar.o _ ae;obtain⟨F,V⟩:=an.cell (k:=1) qo c1;have a9:=an.lt;have aL:=hide aH;clear am aj ak N aC ah aF aG ai aH I1 J1 a8 aA aI;go_wp2_with fail
  refine(mQ T tys.length).mono ?_;rintro e w5 ⟨rfl,aa,ad⟩;have aM:=qX (s:=s) (Z:=H) tys.length;obtain⟨⟨n,m⟩,ab⟩:=qF (dU s tys.length H);rw[ab] at aa aM ⊢;have aa9:qh (oC s tys.length (nT dm tys ds) Z=gV outer en (mJ s tys.length (nT dm tys ds) n 0 m)):=by show _=_;rw[aJ.o,ab]
  have VB:qh (m.end_<=outer/\outer<=s.size):=by have:=aK.o;rw[ab] at this;exact this
  simp only at aa aM ⊢;have aN:=ae.trans (ad.mono (fun k _ (c:k=x)=>.inl c));have aO:qh (tys≠[]->OB w5 x fb au):=fun c=>(aL.o c).call ad;clear ab aJ aK T aL F V a9 an ad ae;go_wp2;go_loopw [12,13] (fun lv q wr=>∃(k D:Nat) (J:RS) (cs':qV),k<=n/\q=qJ (k:Nat)/\lv=qJ ((D:Int) - 1)/\D<=tys.length/\eu wr x s J Y/\J.end_=m.end_/\YR cs cs'/\(tys≠[]->OB wr x fb cs')/\Kept (fun k=>k=x\/(tys≠[]/\k=fb)) w wr/\mJ s tys.length (nT dm tys ds) n 0 m=mJ s tys.length (nT dm tys ds) (n - k) D J) (fun _ q _=>n - (intOf q).toNat)
  case atStart=>exact⟨0,0,m,au,qZ,rfl,rfl,qZ,aa,rfl,bQ,aO.o,aN,rfl⟩
  obtain⟨k,D,J,cs',cx,rfl,rfl,c7,Bh,bU,Lx,aP,hk6,bV⟩:=hrel;have HE:=hide bV;have HEN:=hide bU;have HF6:=hide aP;clear aO aa aN aP bU bV;obtain⟨-,-,-,⟨M,J3⟩,-⟩:=Bh.blk.five;have bI:=Bh.lt;have acw:=Bh.le;have cH:=fP Bh;have c8:=hk6.size;by_cases bJ:k<n
  .have bb:(k:Int)<(n:Int):=qo;by_cases hb:J.bad=none
   .rw[show gX J.bad= -1 by rw[hb];rfl] at M;have HN:qh (mJ s tys.length (nT dm tys ds) n 0 m=if tys.length<=(uS s J).1\/(uS s J).1<D then dL (uS s J).2 J.at_ else mJ s tys.length (nT dm tys ds) (n - (k+1)) ((uS s J).1+1) (jA s (nT dm tys ds (uS s J).1) (uS s J).2).2):=by
     show _=_;rw[HE.o,show n - k=n - (k+1)+1 by omega];simp[mJ,hb]
    have N:=(qa (s:=s) (Z:=J)).1;clear HE hb;have bW:=hide N;clear N;go_wp2_with fail
    refine(ou Bh).mono ?_;rintro e w7 ⟨rfl,Hz,Rq⟩;have bX:=hk6.trans (Rq.mono (fun k _ (c:k=x)=>.inl c));have bY:qh (tys≠[]->OB w7 x fb cs'):=fun c=>(HF6.o c).call Rq;obtain⟨⟨v,ac⟩,a2⟩:=qF (uS s J);rw[a2] at Hz ⊢;have bh:qh (mJ s tys.length (nT dm tys ds) n 0 m=if tys.length<=v\/v<D then dL ac J.at_ else mJ s tys.length (nT dm tys ds) (n - (k+1)) (v+1) (jA s (nT dm tys ds v) ac).2):=by show _=_;rw[HN.o,a2]
    have bZ:qh (ac.end_=m.end_):=by show _=_;have:=bW.o;rw[a2] at this;exact this.trans HEN.o
    simp only at Hz ⊢;have b0:=Hz.lt;clear a2 HN HEN bW Bh M J3 Rq hk6 HF6 acw bI;go_wp2_with fail
    have oB:OB (w7.alloc (.cells #[qJ v,qJ J.at_] 37)) x w7.heap.size [qJ v,qJ J.at_]:=OB.new (c:= #[qJ v,qJ J.at_]) (t:=37) b0 rfl;have b1:=Hz.alloc (.cells #[qJ v,qJ J.at_] 37);have bi:=bX.alloc (.cells #[qJ v,qJ J.at_] 37);have b2:qh (tys≠[]->OB (w7.alloc (.cells #[qJ v,qJ J.at_] 37)) x fb cs'):=fun c=>(bY.o c).alloc _;clear Hz bX bY b0;generalize w7.heap.size=B at*;generalize (w7.alloc (.cells #[qJ v,qJ J.at_] 37))=w8 at*;obtain⟨B0,C0⟩:=oB.blk 0 qs;have lB:=oB.lt;simp only[List.getD_cons_zero] at B0;have bj:=ar.o _ bi;obtain⟨F,V⟩:=bj.cell (k:=1) qo c1;have cI:=bj.lt;go_cut [186] from 173 to 186 (fun u W=>u=.bool (decide (tys.length<=v\/v<D))/\qK w8 W)
    case first=>
     by_cases U:tys.length<=v
     .have t1:(tys.length:Int)<=(v:Int):=qo;have HO:qh (decide (tys.length<=v\/v<D)=true):=by show _=_;simp[U]
      exact BA
     have t1:¬(tys.length:Int)<=(v:Int):=qo;by_cases L:v<D
     .have t2:(v:Int)<=(D:Int) - 1:=qo;have HO:qh (decide (tys.length<=v\/v<D)=true):=by show _=_;simp[L]
      exact BA
     have t2:¬(v:Int)<=(D:Int) - 1:=qo;have HO:qh (decide (tys.length<=v\/v<D)=false):=by show _=_;rw[decide_eq_false_iff_not];omega
     exact BA
    case rest=>
    obtain⟨rfl,C⟩:=hcut;obtain⟨w9,cJ⟩:=qE wc;subst cJ;have bk:=oB.kept C (fun c=>c);have b3:=b1.kept C (fun c=>c);have a3:Kept (fun k=>k=x\/(tys≠[]/\k=fb)) w w9:=bi.trans (C.mono (fun _ _ c=>c.elim));have bm:qh (tys≠[]->OB w9 x fb cs'):=fun c=>(b2.o c).kept C (fun c=>c);obtain⟨ob,G⟩:=qF (decide (tys.length<=v\/v<D));rw[G];have E:=hide G;clear G C oB b1 bi b2 B0 C0 lB bj F V cI;obtain⟨B0,C0⟩:=bk.blk 0 qs;obtain⟨B1,C1⟩:=bk.blk 1 qs;have lB:=bk.lt;simp only[List.getD_cons_zero,List.getD_cons_succ] at B0 B1;cases ob with
    | true=>
     have HE4:qh (oC s tys.length (nT dm tys ds) Z=gV outer en (dL ac J.at_)):=by show _=_;rw[aa9.o,bh.o,if_pos (of_decide_eq_true E.o)]
     have b4:(dL ac J.at_).end_=m.end_:=(tZ _).trans bZ.o;have cK:=hide b4;clear b4;go_wp2_with fail
     refine(gH b3 J.at_ cH).mono ?_;rintro e bn ⟨rfl,aR,af⟩;have b5:=aR.le;have cL:=hide b5;clear b5;go_wp2_with fail
     refine(vW aR outer en (Nat.le_trans cL.o (by rw[cK.o];exact VB.o.1)) VB.o.2).mono ?_;rintro e b6 ⟨rfl,a4,ap⟩;go_wp2;go_end0;rw[HE4.o];exact⟨rfl,a4,⟨cs',Lx,fun c=>((bm.o c).call af).call ap⟩,(a3.trans (af.mono (fun k _ (c:k=x)=>.inl c))).trans (ap.mono (fun k _ (c:k=x)=>.inl c))⟩
    | false=>
     have b7:¬(tys.length<=v\/v<D):=of_decide_eq_false E.o;have b8:qh (mJ s tys.length (nT dm tys ds) n 0 m=mJ s tys.length (nT dm tys ds) (n - (k+1)) (v+1) (jA s (nT dm tys ds v) ac).2):=by show _=_;rw[bh.o,if_neg b7]
     have hv:v<tys.length:=qo;have c9:(v:Int)<(tys.length:Int):=qo;have ao:tys≠[]:=by rintro rfl;simp at hv
     obtain⟨bc,aX,bK⟩:=HP.o ao;subst bc;have oF:=bm.o ao;have cz:=aX.lt;have aw:=ar.o _ a3;have cB:cs'.length=tys.length*7:=Lx.len.trans HC.o.len;obtain⟨ty,bo⟩:∃ty,tys[v]?=some ty:=⟨_,List.getElem?_eq_getElem hv⟩;obtain⟨d,bp⟩:∃d,ds[v]?=some d:=⟨_,List.getElem?_eq_getElem (by rw[HD.o];exact hv)⟩;have bq:=HC.o.each v ty bo;have b9:=bq.2.2.1 d bp;have br:nT dm tys ds v=(gy dm ty.1).1.size+d.locals.size:=by simp[nT,bo,bp]
     have bs:=cm.o v;have cc:isRow 83 2 iG (fun g=>g≠x/\g≠fb) dm w9.drew tv:=Row.kept HT.o (a3.drew) (fun g _ hg c=>c.elim (fun e=>hg.1 e) (fun e=>hg.2 e.2));have cd:=FQ (w:=w9.drew) (Y:=Y) (fb:=fb) (f:=v) (nf:=tys.length) (A:=A) (n:=ty.1) (lc:=d.locals) (aw.drew.cell (k:=0) qo c0).1 cc (aw.drew.cell (k:=1) qo c1).1 hv (oF.drew.cell (k:=v*7) qo ((Lx.same _ qo).trans bq.1)).1 (oF.drew.cell (k:=v*7+2) qo ((Lx.same _ qo).trans b9.1)).1 (by rw[br] at bs;omega);have aq:((gy dm ty.1).1++d.locals).size=nT dm tys ds v:=by rw[br,ByteArray.size_append]
     generalize (gy dm ty.1).1++d.locals=kk at*;rw[<-aq] at bs;have cM:qh (mJ s tys.length (nT dm tys ds) n 0 m=mJ s tys.length (nT dm tys ds) (n - (k+1)) (v+1) (jA s kk.size ac).2):=by show _=_;rw[b8.o,<-aq]
     have ce:=hide cd;obtain⟨F,V⟩:=aw.cell (k:=1) qo c1;have cN:=aw.lt;have cO:=hide aw;have cf:=hide oF;clear cd cc br aq b8 bh b7 bq b9 bo bp aw oF bm;go_wp2_with fail
     have hS:w9.drew.cell? (qA Y 1)=some (.slice (some (qA fb 0)) tys.length A)/\True:=⟨F,trivial⟩;have cP:∀y:qW,(y.cell? (qA Y 1)=some (.slice (some (qA fb 0)) tys.length A)/\True)->(y.cell? (qA Y 1)=some (.slice (some (qA fb 0)) tys.length A)/\True):=fun _ c=>c;refine kQ (fun y:qW=>y.cell? (qA Y 1)=some (.slice (some (qA fb 0)) tys.length A)/\True) 13 ?_;iterate 8 refine pQ hS ?_
     refine dx (i:=8) qk (dn rfl (fun K I=>?_));refine eG (f:=106) (args:= #[qP Y,qJ v]) (by rfl) (by go_simp) ce.o ?_;rintro e bn ⟨rfl,af⟩;have bu:bn.cell? (qA Y 1)=some (.slice (some (qA fb 0)) tys.length A)/\True:=⟨(af.cell (p:=(qA Y 1)) cN (fun c=>c)).trans F,trivial⟩;refine⟨_,rfl,I _ _ ⟨.inr bu,?_⟩⟩;clear I K ce hS;refine tk 9 [10] bu ?_;have aR:=(b3.drew).kept af (fun c=>c);have bv:Kept (fun k=>k=x\/(tys≠[]/\k=fb)) w bn:=a3.drew.trans (af.mono (fun _ _ c=>c.elim));have ch:=cf.o.drew.kept af (fun c=>c);refine dx (i:=10) qk (dn rfl (fun K I=>?_));refine eG (f:=135) (args:= #[qP x,qJ kk.size]) (by rfl) (by go_simp) (Jn aR kk.size bs) ?_;rintro e b6 ⟨⟨nv,rfl,ci⟩,a4,ap⟩;obtain⟨pn,cn,rfl⟩:=Row.form ci;clear ci;generalize (jA s kk.size ac).1.length=nl at*;have a5:b6.cell? (qA Y 1)=some (.slice (some (qA fb 0)) tys.length A)/\True:=⟨((ar.o _ (bv.trans (ap.mono (fun k _ (c:k=x)=>.inl c)))).cell (k:=1) qo c1).1,trivial⟩;refine⟨_,rfl,I _ _ ⟨.inr a5,?_⟩⟩;clear I K bu;have aS:=ch.call ap;have cj:=bv.trans (ap.mono (fun k _ (c:k=x)=>.inl c));refine tk 11 [12] a5 ?_;refine tk 12 [] a5 ?_;obtain⟨F6,E6⟩:=aS.cell (k:=v*7+6) qo rfl;have da:=aS.lt;refine dx (i:=13) qk (dn rfl (fun K I=>?_));go_simp;refine I _ _ ⟨.inl rfl,?_⟩;clear I K;refine dM qk ?_ _;have cQ:=aS.set (v*7+6) (.slice pn nl cn);have cR:=a4.other aS.ne (.slice pn nl cn) (o:=v*7+6);have cS:=cj.setCell (p:=⟨fb,v*7+6,none⟩) (fun _=>.inr ⟨ao,rfl⟩) (.slice pn nl cn);have cT:qh ((jA s kk.size ac).2.end_=m.end_):=((FK kk.size).1).trans bZ.o;clear cP a5 F6 E6 F V B0 B1 C0 C1 cO cf aS ch a4 aR cj bv ap af;go_wp2;go_roundw
     case rel=>exact⟨k+1,v+1,_,_,qo,by go_num,by congr 1;omega,qo,cR,cT.o,Lx.set qo _ ⟨fun e=>qo,fun _=>⟨_,_,_,rfl⟩⟩,fun _=>cQ,cS,cM.o⟩
     simp[intOf];omega
   have hz:=fO hb;have HE4:qh (oC s tys.length (nT dm tys ds) Z=gV outer en J):=by
    show _=_;rw[aa9.o,HE.o,show n - k=n - (k+1)+1 by omega];simp[mJ,hb]
   generalize be:gX J.bad=z at*;have a6:¬z<0:=qo;clear hb be;exact agA
  have bb:¬(k:Int)<(n:Int):=qo;have HE4:qh (oC s tys.length (nT dm tys ds) Z=gV outer en J):=by
   show _=_;rw[aa9.o,HE.o,show n - k=0 by omega];rfl
  exact agA
end
section
variable {ok:qD} {w w':qW} {x Y fb:Nat} {s:qS} {Z:RS} {cs cs':qV} {tys:List (Nat×Nat)} {ds:List xY} {dm:List (qS×qS)} {tv:qv}
theorem ES{a:qV}(h:eu w x s Z Y)(b:OB w x Y a)(d:18<a.length)(c:a.getD 12 undef=qN):
  qC 61 #[qP x,qJ 6] w fun e w'=>qU e/\eu w' x s (nV s Z).2 Y/\(∃lv,OB w' x Y (a.set 12 lv)/\isRow 85 5 sJ.cells (fun g=>w.heap.size<=g) (nV s Z).1 w' lv)/\Kept (fun k=>k=x\/k=Y) w w':=by
 have hgo:=OZ h b d c;clear h b c;exact ac2
theorem ET{a:qV}(h:eu w x s Z Y)(b:OB w x Y a)(d:18<a.length)(c:a.getD 13 undef=qN):
  qC 61 #[qP x,qJ 7] w fun e w'=>qU e/\eu w' x s (nX s Z).2 Y/\(∃lv,OB w' x Y (a.set 13 lv)/\isRow 72 5 qc.cells (fun g=>w.heap.size<=g) (nX s Z).1 w' lv)/\Kept (fun k=>k=x\/k=Y) w w':=by
 have hgo:=O0 h b d c;clear h b c;exact ac2
theorem Jl{a:qV}{p:qO}{A:Nat}(h:eu w x s Z Y)(b:OB w x Y a)(c:18<a.length)(c1:a.getD 1 undef=.slice p tys.length A)(hp:tys≠[]->p=some (qA fb 0)/\OB w x fb cs/\fb≠Y)(hc:iA w (fun g=>w.heap.size<=g) cs tys [])(d:tys.length<=20):
  qC 61 #[qP x,qJ 10] w fun e w'=>qU e/\eu w' x s (mP s tys.length Z).2 Y/\(∃cs',(tys≠[]->OB w' x fb cs')/\iA w' (fun g=>w.heap.size<=g) cs' tys (mP s tys.length Z).1)/\Kept (fun k=>k=x\/(tys≠[]/\k=fb)) w w':=by
 have hgo:=TY h b c c1 hp hc d;clear h b c1 hp hc;exact ac2
theorem Ji{a:qV}{p:qO}{A:Nat}(h:eu w x s Z Y)(b:OB w x Y a)(j:18<a.length)(c0:a.getD 0 undef=tv)(c:isRow 83 2 iG (fun g=>g≠x/\g≠fb) dm w tv)(c1:a.getD 1 undef=.slice p tys.length A)(hp:tys≠[]->p=some (qA fb 0)/\OB w x fb cs/\fb≠Y)(hc:iA w ok cs tys ds)(d:ds.length=tys.length)(l:tys.length<=20)(i:∀f,nT dm tys ds f<=100):
  qC 61 #[qP x,qJ 0] w fun e w'=>qU e/\eu w' x s (oC s tys.length (nT dm tys ds) Z) Y/\(∃cs',YR cs cs'/\(tys≠[]->OB w' x fb cs'))/\Kept (fun k=>k=x\/(tys≠[]/\k=fb)) w w':=by
 have hgo:=TV h b j c0 c c1 hp hc d l i;clear h b c1 hp hc c0 c i d;exact ac2
end
structure RM where
 dm:List (qS×qS)
 tys:List (Nat×Nat)
 table:Option zA
 memory:Option zA
 dB:List sJ
 dw:List qc
 start:Option (Nat×Nat)
 elems:List lJ
 ds:List xY
 data:List lJ
def RM.none:RM:=⟨[],[],Option.none,Option.none,[],[],Option.none,[],[],[]⟩
def uq:List Nat:=[1,3,4,5,6,7,8,9,10,11,0]
def pR(s:qS)(i:Nat)(m:RM)(Z:RS):RM×RS:=
 if i=0 then({m with dm:=(xI s Z).1},(xI s Z).2)
 else if i=1 then({m with tys:=(lQ s 20 Z).1},(lQ s 20 Z).2)
 else if i=2 then({m with table:=(qj s Z).1},(qj s Z).2)
 else if i=3 then({m with memory:=(ni s Z).1},(ni s Z).2)
 else if i=4 then({m with dB:=(nV s Z).1},(nV s Z).2)
 else if i=5 then({m with dw:=(nX s Z).1},(nX s Z).2)
 else if i=6 then({m with start:=some ((uS s Z).1,Z.at_)},(uS s Z).2)
 else if i=7 then({m with elems:=(xV s Z).1},(xV s Z).2)
 else if i=8 then({m with ds:=(mP s m.tys.length Z).1},(mP s m.tys.length Z).2)
 else if i=9 then({m with data:=(Ap s Z).1},(Ap s Z).2)
 else(m,oC s m.tys.length (nT m.dm m.tys m.ds) Z)
def Aa(x Y fb:Nat)(tys:List (Nat×Nat))(g:Nat):Prop:=g≠x/\g≠Y/\(tys≠[]->g≠fb)
def wh:Option zA->List Value
 | none=>[.bool false,.bool false,qJ 0,qJ 0,qJ 0]
 | some l=>l.cells
def qm:Option (Nat×Nat)->List Value
 | none=>[.bool false,qJ 0,qJ 0]
 | some r=>[.bool true,qJ r.1,qJ r.2]
def uu(ms:List Value)(k:Nat)(vs:List Value):Prop:=∀j,j<vs.length->ms.getD (k+j) undef=vs.getD j undef
structure ac6(w:World)(ok:Nat->Prop)(ms:List Value)(m:RM):Prop where
 dm:isRow 83 2 iG ok m.dm w (ms.getD 0 undef)
 table:uu ms 2 (wh m.table)
 memory:uu ms 7 (wh m.memory)
 dB:isRow 85 5 sJ.cells ok m.dB w (ms.getD 12 undef)
 dw:isRow 72 5 qc.cells ok m.dw w (ms.getD 13 undef)
 start:uu ms 14 (qm m.start)
 elems:gu 77 6 uF ok m.elems w (ms.getD 17 undef)
 data:gu 77 6 uF ok m.data w (ms.getD 18 undef)
section
variable {S ok ok':qD} {w w':qW} {x Y fb:Nat} {s:qS} {Z:RS} {ms cs cs':qV} {m:RM}
theorem vV{E:TypeId}{d n:Nat}{v:qv}{xs:qV}(h:Row ok w E d v n xs)(X:Kept S w w')(b:∀g,g<w.heap.size->ok g->¬S g/\ok' g):Row ok' w' E d v n xs:=
 Row.kept (Row.mono h (fun g a e=>(b g a e).2) |>.DN (ok':=fun g=>(g<w.heap.size/\ok g)/\ok' g) (fun g a=>⟨⟨(h.own.lt g a).2,h.at_ g a⟩,(b g (h.own.lt g a).2 (h.at_ g a)).2⟩)) X (fun g a c=>(b g a c.1.2).1) |>.mono (fun _ _ c=>c.2)
theorem xP{l:List lJ}{v:qv}(h:gu 77 6 uF ok l w v)(X:Kept S w w')(hs:∀g,g<w.heap.size->ok g->¬S g/\ok' g):gu 77 6 uF ok' l w' v:=by
 exact age
theorem Yo{a:List fA}{lv:qv}(h:gu 79 9 kW ok a w lv)(X:Kept S w w')(hs:∀g,g<w.heap.size->ok g->¬S g/\ok' g):gu 79 9 kW ok' a w' lv:=by
 exact age
theorem iA.move{tys:List (Nat×Nat)}{ds:List xY}(h:iA w ok cs tys ds)(X:Kept S w w')(c:∀g,g<w.heap.size->ok g->¬S g/\ok' g):iA w' ok' cs tys ds:=
 ⟨h.len,fun i ty a=>⟨(h.each i ty a).1,(h.each i ty a).2.1,fun d b=>⟨((h.each i ty a).2.2.1 d b).1,Yo ((h.each i ty a).2.2.1 d b).2.1 X c,((h.each i ty a).2.2.1 d b).2.2⟩,(h.each i ty a).2.2.2⟩,h.nm⟩
theorem ac6.move(h:ac6 w ok ms m)(X:Kept S w w')(a:∀g,g<w.heap.size->ok g->¬S g/\ok' g):ac6 w' ok' ms m:=
 ⟨vV h.dm X a,h.table,h.memory,vV h.dB X a,vV h.dw X a,h.start,xP h.elems X a,xP h.data X a⟩
theorem uu.set{k j:Nat}{vs:qV}(h:uu ms k vs)(b:j<k\/k+vs.length<=j)(v:qv):uu (ms.set j v) k vs:=fun i a=>by
 rw[getD_set_ne qo];exact h i a
theorem yj:∀(vs ms:qV) (k j:Nat),k+vs.length<=ms.length->(wH ms k vs).getD j undef=if k<=j/\j<k+vs.length then vs.getD (j - k) undef else ms.getD j undef
 | [],ms,k,j,_=>by
  rw[if_neg (by simp only[List.length_nil];omega)];rfl
 | v::vs,ms,k,j,h=>by
  rw[wH,yj vs (ms.set k v) (k+1) j (by simp at h ⊢;omega)];simp only[List.length_cons] at h ⊢;by_cases b:j=k
  .subst b;rw[if_neg qo,if_pos qo,fB qo];simp
  by_cases a:k+1<=j/\j<k+1+vs.length
  .rw[if_pos a,if_pos qo];rw[show j - k=j - (k+1)+1 by omega];simp
  rw[if_neg a,if_neg qo,getD_set_ne qo]
theorem vP:∀(vs ms:qV) (k:Nat),(wH ms k vs).length=ms.length
 | [],_,_=>rfl
 | v::vs,ms,k=>by rw[wH,vP vs];simp
theorem uu.all{k j:Nat}{vs us:qV}(h:uu ms k vs)(a:j+us.length<=ms.length)(c:j+us.length<=k\/k+vs.length<=j):uu (wH ms j us) k vs:=fun i b=>by
 rw[yj _ _ _ _ a,if_neg qo];exact h i b
theorem uu.self{k:Nat}{vs:qV}(a:k+vs.length<=ms.length):uu (wH ms k vs) k vs:=fun i b=>by
 rw[yj _ _ _ _ a,if_pos qo];congr 1
 omega
theorem gW{k j:Nat}{us:qV}(a:j+us.length<=ms.length)(b:k<j\/j+us.length<=k):(wH ms j us).getD k undef=ms.getD k undef:=by
 rw[yj _ _ _ _ a,if_neg qo]
structure oU(w:World)(x Y fb:Nat)(ms cs:List Value)(p:Option Addr)(A:Nat)(m:RM)(nx:Nat):Prop where
 ob:OB w x Y ms
 len:ms.length=19
 c:ac6 w (Aa x Y fb m.tys) ms m
 fv:ms.getD 1 undef=.slice p m.tys.length A
 fp:m.tys≠[]->p=some (qA fb 0)/\OB w x fb cs/\fb≠Y
 fc:iA w (Aa x Y fb m.tys) cs m.tys m.ds
 z0:nx<=0->ms.getD 0 undef=qN
 z1:nx<=1->ms.getD 1 undef=qN/\m.tys=[]
 z2:nx<=2->m.table=none
 z3:nx<=3->m.memory=none
 z4:nx<=4->ms.getD 12 undef=qN
 z5:nx<=5->ms.getD 13 undef=qN
 z7:nx<=7->ms.getD 17 undef=qN
 z8:nx<=8->m.ds=[]
 z9:nx<=9->ms.getD 18 undef=qN
 f20:m.tys.length<=20
 good:∀t∈m.dm,t.1.size<=8
 wZ:∀d∈m.ds,d.locals.size<=50
end
end Go.Proofs.YtdaafkmhfedkiaaGreat
