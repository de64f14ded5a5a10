import Derived.Test.YtdaafkmhfedkiaaGreatX26
import Derived.Test.YtdaafkmhfedkiaaGreatX28
namespace Go.Proofs.YtdaafkmhfedkiaaGreat
set_option maxHeartbeats 200000
open Go.RowKit Go.Proofs.Tryz
def kq(k:Nat):Nat:=if k=127 then 105 else if k=126 then 108 else 63
def XT(k:Nat):Prop:=k=127\/k=126\/k=0
def SR(ks:List Nat)(b:qS):Prop:=(∀k∈ks,XT k)/\tl b 0=ks.map kq
structure ac8(b:uk)(f:kX):Prop where
 w3:b.word=3↔f.word=BI
 w4:b.word=4↔f.word=YT
 l7:KR b.takes f.l7
 fo:KR b.dH f.fo
 high:b.dK=f.high
 dead:b.cut=f.dead
structure zI(Z:Bd)(fs:Bk):Prop where
 stk:SR Z.di fs.di
 blk:nD ac8 Z.dh fs.opn
 err:fs.err=none
 now:Z.at_=fs.now
def lZ(r:Except Err Bd)(fs:Bk):Prop:=match r with
 | .ok Z=>zI Z fs
 | .error e=>fs.err=some e
def Qj(f:Bk->Bk):Prop:=∀fs e,fs.err=some e->(f fs).err=some e
section
variable {Z:Bd} {fs:Bk} {e:Err}
theorem nY(a b:Nat):Qj (fF a b):=fun fs e h=>by
 unfold fF;rw[h];exact h
theorem mV{a b:Nat}(h:fs.err=none):(fF a b fs).err=some (a,b):=by
 unfold fF;rw[h]
theorem Ec:Qj (fun fs=>(jg fs).2):=fun fs e h=>by
 show(jg fs).2.err=some e;unfold jg;split
 .exact h
 split
 .simp only;split
  .exact h
  exact nY _ _ _ _ h
 exact h
theorem ym(ks:qS):∀(i:Nat) (a:qS),Qj (fun fs=>(jE ks i a fs).2)
 | 0,_=>fun _ _ h=>h
 | i+1,a=>fun fs e h=>by
  show(jE ks (i+1) a fs).2.err=some e;unfold jE;refine ym ks i _ _ _ ?_;have hp:=Ec fs e h;split
  .exact nY _ _ _ _ hp
  exact hp
theorem ug(ks:qS):Qj (fun fs=>(dS ks fs).2):=ym ks _ _
theorem mE(g:qS):Qj (iF g):=fun _ _ h=>h
theorem CQ(a b c:qS):Qj (nZ a b c):=fun _ _ h=>h
theorem Bl:Qj sG:=fun fs e h=>by
 unfold sG;split<;>exact h
theorem aeU:Qj iq:=fun fs e h=>by
 unfold iq;split
 .exact h
 simp only;have a:=fun ks=>ug ks fs e h;split
 .exact a _
 exact nY _ _ _ _ (a _)
theorem SR.size{ks:qM}{b:qS}(h:SR ks b):b.size=ks.length:=by rw[<-TC,h.2,List.length_map]
theorem SR.get{ks:qM}{b:qS}(h:SR ks b){k:Nat}(X:k<ks.length):bt b k=kq (ks.getD k 0):=by
 have U:=Za (b:=b) (k:=k) (by rw[h.size];exact X);rw[h.2,List.getElem?_map,List.getElem?_eq_getElem X] at U;simp at U;rw[<-U];simp[X]
theorem SR.take{ks:qM}{b:qS}(h:SR ks b)(k:Nat):SR (ks.take k) (b.extract 0 k):=
 ⟨fun x hx=>h.1 x (List.mem_of_mem_take hx),by rw[Iy,h.2,List.map_take]⟩
theorem SR.app{ks ls:qM}{b c:qS}(h:SR ks b)(L:SR ls c):SR (ks++ls) (b++c):=by
 refine⟨fun x hx=>?_,by rw[AO,h.2,L.2,List.map_append]⟩;rcases List.mem_append.1 hx with hx | hx
 .exact h.1 x hx
 exact L.1 x hx
theorem adu{k:Nat}(h:k=127\/k=126):kq k=kl k:=by
 rcases h with rfl | rfl<;>rfl
theorem KR.sr{ks:qM}{b:qS}(h:KR ks b):SR ks b:=
 ⟨fun k X=>(h.1 k X).elim .inl (fun c=>.inr (.inl c)),by rw[h.2];exact List.map_congr_left (fun k X=>(adu (h.1 k X)).symm)⟩
theorem SR.one{k:Nat}(h:XT k):SR [k] (strOfNums [((kq k:Nat):Int)]):=by
 refine⟨fun x hx=>by simp at hx;rw[hx];exact h,?_⟩;rw[Y9 (by unfold kq;split;decide;split<;>decide)];rfl
theorem SR.nil:SR [] ⟨#[]⟩:=⟨qs,rfl⟩
theorem zI.size(h:zI Z fs):fs.di.size=Z.di.length:=h.stk.size
theorem zI.head(h:zI Z fs)(hb:Z.dh≠[]):∃f d,fs.opn=f::d/\ac8 Z.dJ f/\nD ac8 Z.dh.tail d:=by
 obtain⟨stk,bl,a⟩:=Z;have c:=h.blk;cases bl with
 | nil=>exact absurd rfl hb
 | cons b bl=>
  cases g:fs.opn with
  | nil=>have:=c.1;rw[g] at this;simp at this
  | cons f d=>rw[g] at c;refine⟨f,d,rfl,c.2 0 b f rfl rfl,?_,fun k x y hx hy=>c.2 (k+1) x y hx hy⟩;have:=c.1;simp at this;simp[this]
theorem zI.Ip(h:zI Z fs){ks:qM}{b:qS}(a:SR ks b):zI {Z with di:=ks} {fs with di:=b}:=⟨a,h.blk,h.err,h.now⟩
theorem abV{f:kX}{a:List kX}(b:fs.opn=f::a)(c:fs.di.size=f.high)(d:f.dead=true):jg fs=(63,fs):=by
 unfold jg;rw[b];simp only;rw[if_pos c,if_pos d]
theorem abU{f:kX}{a:List kX}(b:fs.opn=f::a)(c:fs.di.size=f.high)(d:¬f.dead=true):jg fs=(63,fF 4 fs.now fs):=by
 unfold jg;rw[b];simp only;rw[if_pos c,if_neg d]
theorem ZL{f:kX}{a:List kX}(b:fs.opn=f::a)(c:¬fs.di.size=f.high):jg fs=(bt fs.di (fs.di.size - 1),{fs with di:=fs.di.extract 0 (fs.di.size - 1)}):=by
 unfold jg;rw[b];simp only;rw[if_neg c]
theorem VT(h:zI Z fs)(hb:Z.dh≠[])(i:Z.dJ.dK<=Z.di.length):match iX Z.dJ Z.at_ Z.di with
  | .ok (k,stk)=>(jg fs).1=kq k/\XT k/\zI {Z with di:=stk} (jg fs).2
  | .error e=>(jg fs).2.err=some e:=by
 obtain⟨f,j,d,hf,-⟩:=h.head hb;have a:=h.size;unfold iX;by_cases b:Z.di.length=Z.dJ.dK
 .have c:fs.di.size=f.high:=by rw[a,b,hf.high]
  rw[if_pos b];by_cases hc:Z.dJ.cut=true
  .rw[if_pos hc,abV d c (by rw[<-hf.dead];exact hc)];exact⟨rfl,.inr (.inr rfl),h⟩
  rw[if_neg hc,abU d c (by rw[<-hf.dead];exact hc)];show(fF 4 fs.now fs).err=_;rw[mV h.err,h.now]
 have c:¬fs.di.size=f.high:=by rw[a,<-hf.high];exact b
 rw[if_neg b,ZL d c];have g:Z.di.length - 1<Z.di.length:=qo;refine⟨by rw[a];exact h.stk.get g,?_,?_⟩
 .have:Z.di.getD (Z.di.length - 1) 0=Z.di[Z.di.length - 1]:=by simp[g]
  rw[this];exact h.stk.1 _ (List.getElem_mem _)
 rw[a];exact h.Ip (h.stk.take _)
def wX(fl:Nat):Nat->List Nat->List Nat->List Nat×List Nat
 | 0,stk,w=>(stk,w)
 | i+1,stk,w=>if stk.length=fl then wX fl i stk (0::w) else wX fl i (stk.take (stk.length - 1)) (stk.getD (stk.length - 1) 0::w)
theorem abp{ks:qM}{b:qS}(X:KR ks b):∀(i:Nat) (Z:Bd) (fs:Bk) (w:qM) (d:qS),i<=ks.length->zI Z fs->Z.dh≠[]->Z.dJ.dK<=Z.di.length->SR w d->match iH Z.dJ Z.at_ ks i Z.di with
  | .ok stk=>zI {Z with di:=stk} (jE b i d fs).2/\wX Z.dJ.dK i Z.di w=(stk,(wX Z.dJ.dK i Z.di w).2)/\SR (wX Z.dJ.dK i Z.di w).2 (jE b i d fs).1
  | .error e=>(jE b i d fs).2.err=some e:=by
 intro i;induction i with
 | zero=>exact fun Z fs w d _ h _ _ hw=>⟨h,rfl,hw⟩
 | succ i r=>
  intro Z fs w d v h hb j hw;have hp:=VT h hb j;unfold iH;have l:bt b i=kl (ks.getD i 0)/\(ks.getD i 0=127\/ks.getD i 0=126):=by
   have U:=X.sr.get (k:=i) qo;have L:ks.getD i 0∈ks:=by
    have:ks.getD i 0=ks[i]' qo:=by simp[show i<ks.length by omega]
    rw[this];exact List.getElem_mem _
   have h3:=X.1 _ L;exact⟨by rw[U,adu h3],h3⟩
  rcases a:iX Z.dJ Z.at_ Z.di with e|⟨f,g⟩
  .rw[a] at hp;simp only;unfold jE;refine ym b i _ _ _ ?_;split
   .exact nY _ _ _ _ hp
   exact hp
  rw[a] at hp;obtain⟨m,n,o⟩:=hp;simp only;have p:((jg fs).1≠bt b i/\(jg fs).1≠63)↔(f≠ks.getD i 0/\f≠0):=by
   rw[m,l.1];rcases l.2 with h3 | h3<;>rw[h3]<;>rcases n with rfl | rfl | rfl<;>simp[kq,kl]
  have x:(jg fs).2.now=fs.now:=yQ;by_cases hc:f≠ks.getD i 0/\f≠0
  .rw[if_pos hc];simp only;unfold jE;rw[if_pos (p.2 hc)];refine ym b i _ _ _ ?_;rw[mV o.err,h.now]
  rw[if_neg hc];have s:jE b (i+1) d fs=jE b i (strOfNums [((jg fs).1:Int)]++d) (jg fs).2:=by
   conv=>lhs;unfold jE
   rw[if_neg (fun c=>hc (p.1 c))]
  rw[s,m];have t:Z.dJ.dK<=g.length:=(qi j a).1;have u:wX Z.dJ.dK (i+1) Z.di w=wX Z.dJ.dK i g (f::w):=by
   conv=>lhs;unfold wX
   unfold iX at a;by_cases q:Z.di.length=Z.dJ.dK
   .rw[if_pos q] at a ⊢;split at a
    .cases a;rfl
    cases a
   rw[if_neg q] at a ⊢;cases a;rfl
  rw[u];have:=r {Z with di:=g} (jg fs).2 (f::w) (strOfNums [((kq f:Nat):Int)]++d) qo o hb t ((SR.one n).app hw);exact this
theorem Qu{ks:qM}{b:qS}(X:KR ks b)(h:zI Z fs)(hb:Z.dh≠[])(c:Z.dJ.dK<=Z.di.length):match dP Z ks with
  | .ok J=>zI J (dS b fs).2/\wX Z.dJ.dK ks.length Z.di []=(J.di,(wX Z.dJ.dK ks.length Z.di []).2)/\SR (wX Z.dJ.dK ks.length Z.di []).2 (dS b fs).1
  | .error e=>(dS b fs).2.err=some e:=by
 have:=abp X ks.length Z fs [] ⟨#[]⟩ qR h hb c SR.nil;unfold dP dS;rw[X.size];rcases a:iH Z.dJ Z.at_ ks ks.length Z.di with e|stk
 .rw[a] at this;exact this
 rw[a] at this;exact this
theorem kP{ks:qM}{b:qS}(X:KR ks b)(h:zI Z fs)(hb:Z.dh≠[])(c:Z.dJ.dK<=Z.di.length):lZ (dP Z ks) (dS b fs).2:=by
 have:=Qu X h hb c;rcases a:dP Z ks with e|J
 .rw[a] at this;exact this
 rw[a] at this;exact this.1
theorem xk{ks:qM}{b:qS}(h:zI Z fs)(X:SR ks b):zI (gQ Z ks) (iF b fs):=h.Ip (h.stk.app X)
theorem H9(h:zI Z fs)(hb:Z.dh≠[]):zI (gU Z) (sG fs):=by
 obtain⟨f,c,b,hf,a⟩:=h.head hb;unfold gU sG;rw[b];refine⟨?_,⟨by simp[a.1],fun k x y hx hy=>?_⟩,h.err,h.now⟩
 .rw[hf.high];exact h.stk.take _
 cases k with
 | zero=>simp at hx hy;subst hx;subst hy;exact⟨hf.w3,hf.w4,hf.l7,hf.fo,hf.high,rfl⟩
 | succ k=>exact a.2 k x y hx hy
theorem QL{a:Nat}{W l7 fo:qS}{ins outs:qM}(h:zI Z fs)(h3:a=3↔W=BI)(h4:a=4↔W=YT)(b:KR ins l7)(c:KR outs fo):zI {Z with dh:=⟨a,ins,outs,Z.di.length,false⟩::Z.dh,di:=Z.di++ins} (nZ W l7 fo fs):=by
 refine⟨h.stk.app b.sr,⟨by simp[nZ,h.blk.1],fun k x y hx hy=>?_⟩,h.err,h.now⟩;cases k with
 | zero=>simp[nZ] at hx hy;subst hx;subst hy;exact⟨h3,h4,b,c,h.size.symm,rfl⟩
 | succ k=>exact h.blk.2 k x y hx hy
theorem NR{b:Nat}{W l7 fo:qS}{ins outs:qM}(h:zI Z fs)(hb:Z.dh≠[])(f:Z.dJ.dK<=Z.di.length)(h3:b=3↔W=BI)(h4:b=4↔W=YT)(c:KR ins l7)(g:KR outs fo):lZ (jR b ⟨ins,outs⟩ Z) (nZ W l7 fo (dS l7 fs).2):=by
 unfold jR;have a:=kP c h hb f;rcases d:dP Z ins with e|st1
 .rw[d] at a;exact CQ _ _ _ _ _ a
 rw[d] at a;exact QL a h3 h4 c g
theorem Fb(h:zI Z fs)(hb:Z.dh≠[])(g:Z.dJ.dK<=Z.di.length):match jX Z with
  | .ok (b,st1)=>b=Z.dJ/\zI st1 (iq fs)
  | .error e=>(iq fs).err=some e:=by
 obtain⟨f,m,j,hf,k⟩:=h.head hb;unfold jX iq;rw[j];simp only;have a:=kP hf.fo h hb g;rcases d:dP Z Z.dJ.dH with e|st1
 .rw[d] at a;simp only;split
  .exact a
  exact nY _ _ _ _ a
 rw[d] at a;have l:=eH g d;have i:(dS f.fo fs).2.di.size=st1.di.length:=a.size;simp only;by_cases c:st1.di.length=Z.dJ.dK
 .rw[if_pos c,if_pos (by rw[i,c,hf.high])];refine⟨rfl,a.stk,?_,a.err,a.now⟩;rw[l.1];exact k
 rw[if_neg c,if_neg (by rw[i,<-hf.high];exact c)];show(fF 4 (dS f.fo fs).2.now (dS f.fo fs).2).err=some (4,Z.at_);rw[mV a.err,AP,h.now]
end
structure rU(s:qS)(m:fE)(r:RM)(ls outs:List Nat)(c:FC)(Z:Bd)(fs:Bk)(j x:Nat)(y:ic)(i:fA):Prop where
 mod:uN s m r
 loc:KR ls c.kinds
 gvs:KR outs c.dH
 ins:aa6 j x y i
 bd:zI {Z with at_:=j} {fs with now:=i.at_}
 ne:Z.dh≠[]
 tidy:Tidy Z
 o:(Z.dh.getD (Z.dh.length - 1) uk.none).dH=outs
 two:x=5->2<=Z.dh.length
section
variable {s:qS} {m:fE} {r:RM} {ls outs:qM} {c:FC} {Z:Bd} {fs:Bk} {j x:Nat} {y:ic} {i:fA}
theorem rU.fl(h:rU s m r ls outs c Z fs j x y i):({Z with at_:=j}:Bd).dJ.dK<=({Z with at_:=j}:Bd).di.length:=h.tidy.dK
theorem Bg{e:Err}(h:(eY r c i {fs with now:=i.at_}).err=some e):(oq r c i fs).err=some e:=by
 unfold oq;rw[if_pos (by rw[h];simp)];exact h
theorem vS(a:eY r c i {fs with now:=i.at_}={fs with now:=i.at_})(b:fs.err=none)(d:i.op∈vF):oq r c i fs=jw r c i {fs with now:=i.at_}:=by
 unfold oq;rw[a,if_neg (fun c=>c b),if_pos d]
theorem tX(a:eY r c i {fs with now:=i.at_}={fs with now:=i.at_})(b:fs.err=none)(d:¬i.op∈vF):oq r c i fs=kD r c i {fs with now:=i.at_}:=by
 unfold oq;rw[a,if_neg (fun c=>c b),if_neg d]
theorem lW(h:¬((40<=i.op/\i.op<=58)\/i.op=63\/i.op=64)):eY r c i fs=lS r c i fs:=by
 unfold eY;rw[if_neg (fun d=>h d.2)]
theorem tJ{num:Int×Nat}{many:Nat}(U:num.1=i.xn)(L:num.2=i.pX)(b:0<=i.xn)(a:fs.err=none):match fT num many with
  | .ok k=>k=i.xn.toNat/\k<many/\fu (i.xn.toNat,i.pX) many fs=fs
  | .error e=>(fu (i.xn.toNat,i.pX) many fs).err=some e:=by
 unfold fT fu;rw[U,L];by_cases h:i.xn<(many:Int)
 .rw[if_pos h,if_neg (show ¬many<=i.xn.toNat by omega)];exact⟨rfl,qo,rfl⟩
 rw[if_neg h,if_pos (show many<=i.xn.toNat by omega)];exact mV a
theorem KR.inj{a d:qM}{b e:qS}(h:KR a b)(h':KR d e):a=d↔b=e:=by
 constructor
 .rintro rfl;have:tl b 0=tl e 0:=by rw[h.2,h'.2]
  have L:b.data.toList=e.data.toList:=by
   have h3:=this;simp only[tl,List.drop_zero] at h3;exact List.map_inj_right (fun x y g=>UInt8.toNat_inj.1 g) |>.1 h3
  cases b;cases e;simp only at L;congr 1
  exact Array.toList_inj.1 L
 rintro rfl;have L:a.map kl=d.map kl:=by rw[<-h.2,h'.2]
 have n:a.length=d.length:=by
  have:=congrArg List.length L;simpa using this
 apply List.ext_getElem n;intro k U f;have h3:kl a[k]=kl d[k]:=by
  have:=congrArg (fun l=>l[k]?) L;simp only[List.getElem?_map,List.getElem?_eq_getElem U,List.getElem?_eq_getElem f,Option.map_some,Option.some.injEq] at this;exact this
 have h4:=h.1 _ (List.getElem_mem U);have h5:=h'.1 _ (List.getElem_mem f);rcases h4 with h4 | h4<;>rcases h5 with h5 | h5<;>rw[h4,h5] at h3 ⊢ <;>simp[kl] at h3
theorem i127:KR [127] iS:=⟨qs,rfl⟩
theorem else_eq{f:kX}{a:List kX}(b:fs.opn=f::a):NS fs=nZ Wu f.l7 f.fo (iq fs):=by
 unfold NS;rw[b]
theorem UO{f:kX}{a:List kX}(b:fs.opn=f::a):LM fs=iF f.fo (if f.word=YT/\f.l7≠f.fo then fF 4 fs.now (iq fs) else iq fs):=by
 unfold LM;rw[b]
theorem xK{st1:Bd}{ks:qM}(hf:Z.dJ.dK<=Z.di.length)(hb:Z.dh≠[])(h:dP Z ks=.ok st1):st1.dh≠[]/\st1.dJ.dK<=st1.di.length/\st1.dh=Z.dh/\st1.at_=Z.at_:=by
 have U:=eH hf h;refine⟨by rw[U.1];exact hb,?_,U.1,U.2.1⟩;unfold Bd.dJ at U ⊢;rw[U.1];exact U.2.2.1
theorem Kz(h:zI Z fs){k:Nat}(X:k<Z.dh.length):∃f,fs.opn[k]?=some f/\ac8 (Z.dh.getD k uk.none) f:=by
 obtain⟨U,-⟩ | ⟨b,f,U,L,h3⟩:=h.blk.get k
 .rw[List.getElem?_eq_getElem X] at U;cases U
 refine⟨f,L,?_⟩;rw[List.getD_eq_getElem?_getD,U];exact h3
theorem Be(h:zI Z fs){k:Nat}(X:k<Z.dh.length):KR (eU (Z.dh.getD k uk.none)) (ji k fs):=by
 obtain⟨f,U,L⟩:=Kz h X;unfold eU ji;rw[U];simp only;by_cases hw:(Z.dh.getD k uk.none).word=3
 .rw[if_pos hw,if_pos (L.w3.1 hw)];exact L.l7
 rw[if_neg hw,if_neg (fun c=>hw (L.w3.2 c))];exact L.fo
theorem vQ(h:zI Z fs):fs.opn.length=Z.dh.length:=h.blk.1.symm
theorem aep(h:rU s m r ls outs c Z fs j 0 y i):lZ (fI m ls 0 y {Z with at_:=j}) (oq r c i fs):=by
 have a:=h.ins.op;rw[vS (r:=r) (c:=c) (i:=i) (fs:=fs) (by rw[lW qo];simp[lS,a]) h.bd.err (by rw[a];decide)];have b:jw r c i {fs with now:=i.at_}=sG {fs with now:=i.at_}:=by simp[jw,a]
 rw[b];exact H9 h.bd h.ne
theorem aeo(h:rU s m r ls outs c Z fs j 1 y i):lZ (fI m ls 1 y {Z with at_:=j}) (oq r c i fs):=by
 have a:=h.ins.op;rw[vS (r:=r) (c:=c) (i:=i) (fs:=fs) (by rw[lW qo];simp[lS,a]) h.bd.err (by rw[a];decide)];have b:jw r c i {fs with now:=i.at_}={fs with now:=i.at_}:=by simp[jw,a]
 rw[b];exact h.bd
theorem Y8(a:uN s m r){k:Nat}(X:k<m.dm.length):tyR (m.dm.getD k ⟨[],[]⟩) (gy r.dm k):=by
 obtain⟨U,-⟩ | ⟨t,u,U,L,h3⟩:=a.dm.get k
 .rw[List.getElem?_eq_getElem X] at U;cases U
 unfold gy;rw[List.getD_eq_getElem?_getD,List.getD_eq_getElem?_getD,U,L];exact h3
theorem BN(b:uN s m r)(hI:aa6 j x y i)(hx:x∈[2,3,4])(d:fs.err=none):match fJ m y with
  | .ok t=>lS r c i fs=fs/\tyR t (jU r.dm i)
  | .error e=>(lS r c i fs).err=some e:=by
 have f:=hI.op;have g:i.op=2\/i.op=3\/i.op=4:=by rw[f];simpa using hx
 have h:lS r c i fs=if i.dH=2 then fu (i.xn.toNat,i.pX) r.dm.length fs else fs:=by
  unfold lS;rw[if_pos g]
 rw[h];unfold fJ jU;rcases hI.blk hx with⟨U,L,h3,h4,h5⟩ | ⟨U,L,h3⟩ | ⟨U,L,k,h3,h4⟩
 .rw[if_pos U,if_pos L,if_neg qo,if_pos L];unfold kG;have a:=tJ (many:=m.dm.length) (fs:=fs) h3 h4 h5 d;rw[b.dm.1] at a ⊢;rcases hq:fT y.num r.dm.length with e|k
  .rw[hq] at a;exact a
  rw[hq] at a;obtain⟨rfl,l,n⟩:=a;exact⟨n,Y8 b (by rw[b.dm.1];exact l)⟩
 .rw[if_neg (by rw[U];decide),if_neg qo,if_neg qo,if_neg qo];exact⟨rfl,KR.nil,by rw[L];exact KR.nil⟩
 rw[if_neg (by rw[U];decide),if_neg qo,if_pos L];refine⟨rfl,KR.nil,?_⟩;rw[h3];have:=KR.nil.push h4;rw[List.nil_append] at this;have d:(⟨#[]⟩:qS)++strOfNums [(i.kind:Int)]=strOfNums [(i.kind:Int)]:=by
  apply ByteArray.ext;simp
 rw[d] at this;exact this
theorem abw(hx:x=2\/x=3)(h:rU s m r ls outs c Z fs j x y i):lZ (fI m ls x y {Z with at_:=j}) (oq r c i fs):=by
 have a:=h.ins.op;have d:fI m ls x y {Z with at_:=j}=(match fJ m y with
  | .error e=>.error e
  | .ok t=>jR x t {Z with at_:=j}):=by
  unfold fI fe;rw[if_pos qo,if_neg qo,if_pos hx];rfl
 rw[d];have hb:=BN (c:=c) (fs:={fs with now:=i.at_}) h.mod h.ins qt h.bd.err;rcases hq:fJ m y with e|t
 .rw[hq] at hb;exact Bg (by rw[lW qo];exact hb)
 rw[hq] at hb;obtain⟨f,b⟩:=hb;rw[vS (r:=r) (c:=c) (i:=i) (fs:=fs) (by rw[lW qo];exact f) h.bd.err (by rw[a];rcases hx with rfl | rfl<;>decide)];have g:jw r c i {fs with now:=i.at_}=zC r i {fs with now:=i.at_}:=by
  unfold jw;rw[if_neg qo,if_neg qo,if_pos qo]
 rw[g];unfold zC ifF;rw[if_neg qo,a];exact NR h.bd h.ne h.fl (by rcases hx with rfl | rfl<;>decide+kernel) (by rcases hx with rfl | rfl<;>decide+kernel) b.1 b.2
theorem aen(h:rU s m r ls outs c Z fs j 4 y i):lZ (fI m ls 4 y {Z with at_:=j}) (oq r c i fs):=by
 have a:=h.ins.op;have f:fI m ls 4 y {Z with at_:=j}=(match fJ m y with
  | .error e=>.error e
  | .ok t=>match dP {Z with at_:=j} [127] with
   | .error e=>.error e
   | .ok st1=>jR 4 t st1):=rfl
 rw[f];have hb:=BN (c:=c) (fs:={fs with now:=i.at_}) h.mod h.ins qs h.bd.err;rcases hq:fJ m y with e|t
 .rw[hq] at hb;exact Bg (by rw[lW qo];exact hb)
 rw[hq] at hb;obtain⟨g,d⟩:=hb;rw[vS (r:=r) (c:=c) (i:=i) (fs:=fs) (by rw[lW qo];exact g) h.bd.err (by rw[a];decide)];have k:jw r c i {fs with now:=i.at_}=zC r i {fs with now:=i.at_}:=by simp[jw,a]
 rw[k];unfold zC ifF;rw[if_pos a,a];have b:=kP i127 h.bd h.ne h.fl;simp only;rcases U:dP {Z with at_:=j} [127] with e|st1
 .rw[U] at b;exact CQ _ _ _ _ _ (ug _ _ _ b)
 rw[U] at b;obtain⟨l,n,-,-⟩:=xK h.fl h.ne U;exact NR b l n (by decide+kernel) (by decide+kernel) d.1 d.2
theorem FM{bl:uk}{a:Nat}{ks stk:qM}(hf:bl.dK<=stk.length):∀i,i<=ks.length->iH bl a ks i (stk++ks.take i)=.ok stk
 | 0,_=>by simp[iH]
 | i+1,hi=>by
  have b:i<ks.length:=qo;have e:stk++ks.take (i+1)=(stk++ks.take i)++[ks.getD i 0]:=by
   rw[List.take_succ_eq_append_getElem b,List.append_assoc];simp[b]
  have f:(stk++ks.take (i+1)).length=stk.length+i+1:=by
   simp;omega
  unfold iH iX;rw[if_neg (by rw[f];omega)];simp only;have g:(stk++ks.take (i+1)).getD ((stk++ks.take (i+1)).length - 1) 0=ks.getD i 0:=by
   rw[e];simp
  have h:(stk++ks.take (i+1)).take ((stk++ks.take (i+1)).length - 1)=stk++ks.take i:=by
   have k:(stk++ks.take (i+1)).length - 1=(stk++ks.take i).length:=by rw[f];simp;omega
   rw[k,e,List.take_left'];rfl
  rw[g,h,if_neg (fun d=>d.1 rfl)];exact FM hf i qo
theorem Zb{ks:qM}(hf:Z.dJ.dK<=Z.di.length):dP (gQ Z ks) ks=.ok Z:=by
 unfold dP gQ;have:=FM (bl:=Z.dJ) (a:=Z.at_) (ks:=ks) (stk:=Z.di) hf ks.length qR;rw[List.take_length] at this;have e:iH ({Z with di:=Z.di++ks}:Bd).dJ Z.at_ ks ks.length (Z.di++ks)=.ok Z.di:=this;simp only;rw[e]
theorem Rj{b:uk}{st1:Bd}(g:Tidy Z)(h:jX Z=.ok (b,st1)):st1.dh=Z.dh.tail/\st1.dJ.dK<=st1.di.length/\st1.at_=Z.at_:=by
 unfold jX at h;rcases f:dP Z Z.dJ.dH with e|l
 .rw[f] at h;cases h
 rw[f] at h;simp only at h;have U:=eH g.dK f;split at h
 .rename_i hl;cases h;refine⟨by simp only;rw[U.1],?_,U.2.1⟩;have k:=g.rZ;obtain⟨stk,d,a⟩:=Z;cases d with
  | nil=>simp only[Bd.dJ] at U ⊢;rw[U.1];exact qZ
  | cons n d=>
   simp only[Bd.dJ,List.headD_cons] at U hl ⊢;rw[U.1,hl];simp only[List.tail_cons];cases d with
   | nil=>exact qZ
   | cons o d=>exact k.2.1
 cases h
theorem aem(h:rU s m r ls outs c Z fs j 5 y i):lZ (fI m ls 5 y {Z with at_:=j}) (oq r c i fs):=by
 have b:=h.ins.op;have d:fI m ls 5 y {Z with at_:=j}=(match jX {Z with at_:=j} with
  | .error e=>.error e
  | .ok (left,st1)=>jR 5 ⟨left.takes,left.dH⟩ (gQ st1 left.takes)):=rfl
 rw[d];rw[vS (r:=r) (c:=c) (i:=i) (fs:=fs) (by rw[lW qo];simp[lS,b]) h.bd.err (by rw[b];decide)];have g:jw r c i {fs with now:=i.at_}=NS {fs with now:=i.at_}:=by simp[jw,b]
 rw[g];obtain⟨f,o,k,hf,p⟩:=h.bd.head h.ne;rw[else_eq k];have a:=Fb h.bd h.ne h.fl;have l:Tidy {Z with at_:=j}:=⟨h.tidy.rZ,h.tidy.short⟩;rcases hq:jX {Z with at_:=j} with e|⟨left,st1⟩
 .rw[hq] at a;exact CQ _ _ _ _ _ a
 rw[hq] at a;obtain⟨rfl,L⟩:=a;obtain⟨q,n,-⟩:=Rj l hq;simp only;unfold jR;rw[Zb n];exact QL L (by decide+kernel) (by decide+kernel) hf.l7 hf.fo
theorem abD(h:rU s m r ls outs c Z fs j 11 y i):lZ (fI m ls 11 y {Z with at_:=j}) (oq r c i fs):=by
 have b:=h.ins.op;have g:fI m ls 11 y {Z with at_:=j}=(match jX {Z with at_:=j} with
  | .error e=>.error e
  | .ok (left,st1)=>if left.word=4/\left.takes≠left.dH then .error (4,j) else .ok (gQ st1 left.dH)):=rfl
 rw[g];rw[vS (r:=r) (c:=c) (i:=i) (fs:=fs) (by rw[lW qo];simp[lS,b]) h.bd.err (by rw[b];decide)];have k:jw r c i {fs with now:=i.at_}=LM {fs with now:=i.at_}:=by simp[jw,b]
 rw[k];obtain⟨f,n,l,hf,o⟩:=h.bd.head h.ne;rw[UO l];have a:=Fb h.bd h.ne h.fl;rcases hq:jX {Z with at_:=j} with e|⟨left,st1⟩
 .rw[hq] at a;show(iF _ _).err=some e;refine mE _ _ _ ?_;split
  .exact nY _ _ _ _ a
  exact a
 rw[hq] at a;obtain⟨rfl,L⟩:=a;simp only;have hw:(f.word=YT/\f.l7≠f.fo)↔(({Z with at_:=j}:Bd).dJ.word=4/\({Z with at_:=j}:Bd).dJ.takes≠({Z with at_:=j}:Bd).dJ.dH):=by
  rw[hf.w4,Ne,Ne,KR.inj hf.l7 hf.fo]
 by_cases hc:({Z with at_:=j}:Bd).dJ.word=4/\({Z with at_:=j}:Bd).dJ.takes≠({Z with at_:=j}:Bd).dJ.dH
 .rw[if_pos hc,if_pos (hw.2 hc)];show(fF 4 i.at_ (iq _)).err=some (4,j);rw[mV L.err,h.ins.at_]
 rw[if_neg hc,if_neg (fun d=>hc (hw.1 d))];exact xk L hf.fo.sr
end
section
variable {s:qS} {m:fE} {r:RM} {ls outs:qM} {c:FC} {Z:Bd} {fs:Bk} {j x:Nat} {y:ic} {i:fA} {e:Err}
theorem aaf(hx:i.op=12\/i.op=13)(a:i.dF=[]):lS r c i fs=fu (i.xn.toNat,i.pX) fs.opn.length fs:=by
 unfold lS;rw[if_neg qo,if_pos qo,a];rfl
theorem abC(h:rU s m r ls outs c Z fs j 12 y i):lZ (fI m ls 12 y {Z with at_:=j}) (oq r c i fs):=by
 have b:=h.ins.op;obtain⟨d,f,g⟩:=h.ins.idx qx;have hidx:eY r c i {fs with now:=i.at_}=fu (i.xn.toNat,i.pX) Z.dh.length {fs with now:=i.at_}:=by
  rw[lW qo,aaf qo (h.ins.nol qx),vQ h.bd]
 have ht:=tJ (many:=Z.dh.length) d f g h.bd.err;show lZ (match(match fT y.num Z.dh.length with
  | .error e=>.error e
  | .ok k=>.ok (eU (Z.dh.getD k uk.none)):Except Err (qM)) with
  | .error e=>.error e
  | .ok ks=>match dP {Z with at_:=j} ks with
   | .error e=>.error e
   | .ok st1=>.ok (gU st1)) _
 rcases hq:fT y.num Z.dh.length with e|k
 .exact Vx
 rw[hq] at ht;obtain⟨rfl,l,n⟩:=ht;rw[vS (r:=r) (c:=c) (i:=i) (fs:=fs) (by rw[hidx];exact n) h.bd.err (by rw[b];decide)];have o:jw r c i {fs with now:=i.at_}=sG (dS (ji i.xn.toNat {fs with now:=i.at_}) {fs with now:=i.at_}).2:=by simp[jw,b]
 rw[o];have p:=Be h.bd l;have a:=kP p h.bd h.ne h.fl;simp only;rcases U:dP {Z with at_:=j} (eU (Z.dh.getD i.xn.toNat uk.none)) with e|st1
 .rw[U] at a;exact Bl _ _ a
 rw[U] at a;exact H9 a (xK h.fl h.ne U).1
theorem abB(h:rU s m r ls outs c Z fs j 13 y i):lZ (fI m ls 13 y {Z with at_:=j}) (oq r c i fs):=by
 have f:=h.ins.op;obtain⟨n,o,p⟩:=h.ins.idx qx;have hidx:eY r c i {fs with now:=i.at_}=fu (i.xn.toNat,i.pX) Z.dh.length {fs with now:=i.at_}:=by
  rw[lW qo,aaf qo (h.ins.nol qx),vQ h.bd]
 have ht:=tJ (many:=Z.dh.length) n o p h.bd.err;show lZ (match(match fT y.num Z.dh.length with
  | .error e=>.error e
  | .ok k=>.ok (eU (Z.dh.getD k uk.none)):Except Err (qM)) with
  | .error e=>.error e
  | .ok ks=>match dP {Z with at_:=j} [127] with
   | .error e=>.error e
   | .ok st1=>match dP st1 ks with
    | .error e=>.error e
    | .ok g=>.ok (gQ g ks)) _
 rcases hq:fT y.num Z.dh.length with e|k
 .exact Vx
 rw[hq] at ht;obtain⟨rfl,q,t⟩:=ht;rw[vS (r:=r) (c:=c) (i:=i) (fs:=fs) (by rw[hidx];exact t) h.bd.err (by rw[f];decide)];have u:jw r c i {fs with now:=i.at_}=Og i.xn.toNat {fs with now:=i.at_}:=by simp[jw,f]
 rw[u];unfold Og;have a:=kP i127 h.bd h.ne h.fl;simp only;rcases U:dP {Z with at_:=j} [127] with e|st1
 .rw[U] at a;exact mE _ _ _ (ug _ _ _ a)
 rw[U] at a;obtain⟨v,w,l,-⟩:=xK h.fl h.ne U;have d:=Be a (k:=i.xn.toNat) (by rw[l];exact q);rw[l] at d;have b:=kP d a v w;simp only;rcases L:dP st1 (eU (Z.dh.getD i.xn.toNat uk.none)) with e|g
 .rw[L] at b;exact mE _ _ _ b
 rw[L] at b;exact xk b d.sr
theorem abz(h:rU s m r ls outs c Z fs j 15 y i):lZ (fI m ls 15 y {Z with at_:=j}) (oq r c i fs):=by
 have b:=h.ins.op;rw[vS (r:=r) (c:=c) (i:=i) (fs:=fs) (by rw[lW qo];simp[lS,b]) h.bd.err (by rw[b];decide)];have d:jw r c i {fs with now:=i.at_}=sG (dS c.dH {fs with now:=i.at_}).2:=by simp[jw,b]
 rw[d];show lZ (match dP {Z with at_:=j} (Z.dh.getD (Z.dh.length - 1) uk.none).dH with
  | .error e=>.error e
  | .ok st1=>.ok (gU st1)) _
 rw[h.o];have a:=kP h.gvs h.bd h.ne h.fl;rcases U:dP {Z with at_:=j} outs with e|st1
 .rw[U] at a;exact Bl _ _ a
 rw[U] at a;exact H9 a (xK h.fl h.ne U).1
theorem Su{t:Ty}{u:qS×qS}(b:tyR t u)(h:zI Z fs)(hb:Z.dh≠[])(hf:Z.dJ.dK<=Z.di.length):lZ (rC t Z) (yt u fs):=by
 unfold rC yt;have a:=kP b.1 h hb hf;rcases U:dP Z t.ins with e|st1
 .rw[U] at a;exact mE _ _ _ a
 rw[U] at a;exact xk a b.2.sr
theorem BR(h:uN s m r){f:Nat}(hf:f<m.funcs.length):tyR (fM m f) (gy r.dm (r.tys.getD f (0,0)).1):=by
 unfold fM;obtain⟨U,-⟩ | ⟨a,b,U,L,h3⟩:=h.funcs.get f
 .rw[List.getElem?_eq_getElem hf] at U;cases U
 rw[List.getD_eq_getElem?_getD (l:=m.funcs),List.getD_eq_getElem?_getD (l:=r.tys),U,L];simp only[Option.getD_some];have k:a.1.toNat=b.1:=by rw[h3.1];rfl
 rw[k];obtain⟨d,g⟩ | ⟨t,u,d,g,n⟩:=h.dm.get b.1
 .unfold gy;rw[List.getD_eq_getElem?_getD,List.getD_eq_getElem?_getD,d,g];exact⟨KR.nil,KR.nil⟩
 unfold gy;rw[List.getD_eq_getElem?_getD,List.getD_eq_getElem?_getD,d,g];exact n
theorem aby(h:rU s m r ls outs c Z fs j 16 y i):lZ (fI m ls 16 y {Z with at_:=j}) (oq r c i fs):=by
 have a:=h.ins.op;obtain⟨b,d,g⟩:=h.ins.idx qx;have hidx:eY r c i {fs with now:=i.at_}=fu (i.xn.toNat,i.pX) m.funcs.length {fs with now:=i.at_}:=by
  rw[lW qo,h.mod.funcs.1];simp[lS,a]
 have ht:=tJ (many:=m.funcs.length) b d g h.bd.err;show lZ (match fT y.num m.funcs.length with
  | .error e=>.error e
  | .ok f=>rC (fM m f) {Z with at_:=j}) _
 rcases hq:fT y.num m.funcs.length with e|k
 .exact Vx
 rw[hq] at ht;obtain⟨rfl,l,n⟩:=ht;rw[tX (r:=r) (c:=c) (i:=i) (fs:=fs) (by rw[hidx];exact n) h.bd.err (by rw[a];decide)];have o:kD r c i {fs with now:=i.at_}=yt (gy r.dm (r.tys.getD i.xn.toNat (0,0)).1) {fs with now:=i.at_}:=by simp[kD,a]
 rw[o];exact Su (BR h.mod l) h.bd h.ne h.fl
theorem Hq{d f:Type}{R:d->f->Prop}{xs:List d}{o:Option f}(h:Uc R xs o):xs.length=0↔¬o.isSome=true:=by
 rcases h with⟨rfl,rfl⟩ | ⟨a,b,rfl,rfl,-⟩<;>simp
theorem abx(h:rU s m r ls outs c Z fs j 17 y i):lZ (fI m ls 17 y {Z with at_:=j}) (oq r c i fs):=by
 have f:=h.ins.op;obtain⟨n,o,p⟩:=h.ins.idx qx;have hidx:eY r c i {fs with now:=i.at_}=fu (i.xn.toNat,i.pX) m.dm.length (if r.table.isSome=true then {fs with now:=i.at_} else fF 3 i.at_ {fs with now:=i.at_}):=by
  rw[lW qo,h.mod.dm.1];unfold lS;rw[if_neg qo,if_neg qo,if_neg qo,if_neg qo,if_neg qo,if_pos f]
 have g:=Hq h.mod.tables;have q:fI m ls 17 y {Z with at_:=j}=if m.tables.length=0 then .error (3,j) else
  match kG m y.num with
  | .error e=>.error e
  | .ok t=>match dP {Z with at_:=j} [127] with
   | .error e=>.error e
   | .ok st1=>rC t st1:=rfl
 rw[q];by_cases a:m.tables.length=0
 .rw[if_pos a];refine Bg ?_;rw[hidx,if_neg (g.1 a)];have l:(fF 3 i.at_ {fs with now:=i.at_}).err=some (3,j):=by
   rw[mV h.bd.err,h.ins.at_]
  unfold fu;split
  .exact nY _ _ _ _ l
  exact l
 rw[if_neg a];have u:r.table.isSome=true:=Decidable.of_not_not (fun d=>a (g.2 d));rw[if_pos u] at hidx;have ht:=tJ (many:=m.dm.length) n o p h.bd.err;unfold kG;rcases hq:fT y.num m.dm.length with e|k
 .exact Vx
 rw[hq] at ht;obtain⟨rfl,v,w⟩:=ht;rw[tX (r:=r) (c:=c) (i:=i) (fs:=fs) (by rw[hidx];exact w) h.bd.err (by rw[f];decide)];have z:kD r c i {fs with now:=i.at_}=yt (gy r.dm i.xn.toNat) (dS iS {fs with now:=i.at_}).2:=by simp[kD,f]
 rw[z];have b:=kP i127 h.bd h.ne h.fl;simp only;rcases U:dP {Z with at_:=j} [127] with e|st1
 .rw[U] at b;exact mE _ _ _ (ug _ _ _ b)
 rw[U] at b;obtain⟨A,B,-,-⟩:=xK h.fl h.ne U;exact Su (Y8 h.mod v) b A B
theorem Uy(u:fs.err=none):∀(l:List (Int×Nat)) (d:List (Nat×Nat)) (M:List (qM)),nD EY l d->match jm Z l M with
  | .ok g=>d.foldl (fun s r=>fu r Z.dh.length s) fs=fs/\g=M++d.map (fun r=>eU (Z.dh.getD r.1 uk.none))/\∀r∈d,r.1<Z.dh.length
  | .error e=>(d.foldl (fun s r=>fu r Z.dh.length s) fs).err=some e:=by
 intro l;induction l with
 | nil=>intro d M h;have:d=[]:=List.eq_nil_of_length_eq_zero (by rw[<-h.1];rfl);subst this;exact⟨rfl,qs,qs⟩
 | cons x l n=>
  intro d M h;cases d with
  | nil=>have:=h.1;simp at this
  | cons r d=>
   have o:EY x r:=h.2 0 x r rfl rfl;have p:nD EY l d:=⟨by have:=h.1;simpa using this,fun k a b v hb=>h.2 (k+1) a b v hb⟩;unfold jm jB fT;rw[List.foldl_cons,o.1,o.2];by_cases hc:(r.1:Int)<(Z.dh.length:Int)
   .have f:fu r Z.dh.length fs=fs:=by
     unfold fu;rw[if_neg qo]
    rw[if_pos hc,f];simp only;have:=n d (M++[eU (Z.dh.getD ((r.1:Int)).toNat uk.none)]) p;rcases t:jm Z l (M++[eU (Z.dh.getD ((r.1:Int)).toNat uk.none)]) with e|g
    .rw[t] at this;exact this
    rw[t] at this;obtain⟨U,L,h3⟩:=this;refine⟨U,?_,?_⟩
    .rw[L];simp
    intro q hq;simp at hq;rcases hq with rfl | hq
    .omega
    exact h3 q hq
   rw[if_neg hc];have f:(fu r Z.dh.length fs).err=some (3,r.2):=by
    unfold fu;rw[if_pos qo];exact mV u
   show Bk.err (List.foldl _ _ _)=some (3,r.2);clear n h p;generalize fu r Z.dh.length fs=w at f;induction d generalizing w with
   | nil=>exact f
   | cons q d z=>
    rw[List.foldl_cons];apply z;unfold fu;split
    .exact nY _ _ _ _ f
    exact f
def qH(Z:Bd)(u:Nat):Bd:={Z with di:=Z.di.take Z.dJ.dK++(List.replicate u 0++Z.di.drop Z.dJ.dK)}
theorem ZM{bl:uk}{a:Nat}{ks b:qM}(hc:bl.cut=true)(hb:b.length=bl.dK):∀(k u:Nat) (g:qM),k=u+g.length->iH bl a ks k (b++(List.replicate u 0++g))=match iH bl a ks k (b++g) with
  | .error e=>.error e
  | .ok _=>.ok b:=by
 intro k;induction k with
 | zero=>intro u g X;obtain rfl:u=0:=qo;obtain rfl:g=[]:=List.eq_nil_of_length_eq_zero qo;simp[iH]
 | succ k p=>
  intro u g X;rcases List.eq_nil_or_concat g with rfl | ⟨t,q,rfl⟩
  .obtain rfl:u=k+1:=by simpa using X.symm
   have l:iH bl a ks (k+1) (b++(List.replicate (k+1) 0++[]))=iH bl a ks k (b++(List.replicate k 0++[])):=by
    conv=>lhs;unfold iH iX
    have h:(b++(List.replicate (k+1) 0++[])).length=b.length+k+1:=by simp;omega
    rw[if_neg (by rw[h];omega)];simp only;have n:(b++(List.replicate (k+1) 0++[])).getD ((b++(List.replicate (k+1) 0++[])).length - 1) 0=0:=by
     rw[h,List.getD_eq_getElem?_getD];simp
    have o:(b++(List.replicate (k+1) 0++[])).take ((b++(List.replicate (k+1) 0++[])).length - 1)=b++(List.replicate k 0++[]):=by
     rw[h,List.append_nil,List.append_nil,List.replicate_succ',<-List.append_assoc,List.take_left' qs]
    rw[n,o,if_neg (fun d=>d.2 rfl)]
   have v:iH bl a ks (k+1) (b++[])=iH bl a ks k (b++[]):=by
    conv=>lhs;unfold iH iX
    rw[if_pos (by simpa using hb),if_pos hc];simp only;rw[if_neg (fun d=>d.2 rfl)]
   rw[l,v];exact p k [] qs
  have w:k=u+t.length:=by simp at X;omega
  have l:∀f:qM,bl.dK<=f.length->iH bl a ks (k+1) (f++[q])=if q≠ks.getD k 0/\q≠0 then .error (4,a) else iH bl a ks k f:=by
   intro f hp;conv=>lhs;unfold iH iX
   have h:(f++[q]).length=f.length+1:=qs;rw[if_neg (by rw[h];omega)];simp only;have n:(f++[q]).getD ((f++[q]).length - 1) 0=q:=qs;have o:(f++[q]).take ((f++[q]).length - 1)=f:=qs;rw[n,o]
  have z:b++(List.replicate u 0++t.concat q)=(b++(List.replicate u 0++t))++[q]:=qs;have A:b++t.concat q=(b++t)++[q]:=qs;rw[z,A,l _ qt,l _ qt];by_cases hq:q≠ks.getD k 0/\q≠0
  .rw[if_pos hq,if_pos hq]
  rw[if_neg hq,if_neg hq];exact p u t w
theorem Zc{bl:uk}{a:Nat}{ks:qM}:∀(k:Nat) {stk s':qM},bl.dK<=stk.length->stk.length - bl.dK<k->iH bl a ks k stk=.ok s'->bl.cut=true:=by
 intro k;induction k with
 | zero=>intro stk s' _ h _;omega
 | succ k d=>
  intro stk s' hf X h;unfold iH iX at h;by_cases b:stk.length=bl.dK
  .rw[if_pos b] at h;by_cases hc:bl.cut=true
   .exact hc
   rw[if_neg hc] at h;cases h
  rw[if_neg b] at h;simp only at h;split at h
  .cases h
  exact d qt qt h
theorem Zd{fl:Nat}:∀(k:Nat) (stk w:qM),fl<=stk.length->wX fl k stk w=(stk.take (stk.length - min k (stk.length - fl)),List.replicate (k - min k (stk.length - fl)) 0++(stk.drop (stk.length - min k (stk.length - fl))++w)):=by
 intro k;induction k with
 | zero=>intro stk w _;simp[wX]
 | succ k f=>
  intro stk w hf;unfold wX;by_cases a:stk.length=fl
  .rw[if_pos a,f stk (0::w) hf];have b:stk.length - fl=0:=qo;rw[b];simp[List.replicate_succ']
  rw[if_neg a,f _ _ qt];have g:stk≠[]:=fun d=>by rw[d] at a hf;simp at a hf;omega
  obtain⟨t,q,rfl⟩:∃t q,stk=t++[q]:=⟨stk.dropLast,stk.getLast g,(List.dropLast_concat_getLast g).symm⟩;have b:(t++[q]).take ((t++[q]).length - 1)=t:=qs;have h:(t++[q]).getD ((t++[q]).length - 1) 0=q:=qs;have l:(t++[q]).length=t.length+1:=qs;rw[b,h];rw[l] at a hf ⊢;have n:min (k+1) (t.length+1 - fl)=min k (t.length - fl)+1:=qo;rw[n];have o:t.length+1 - (min k (t.length - fl)+1)=t.length - min k (t.length - fl):=qo;have p:k+1 - (min k (t.length - fl)+1)=k - min k (t.length - fl):=qo;rw[o,p,List.take_append_of_le_length qo,List.drop_append_of_le_length qo];simp
theorem Kc(last:qS):∀(l:List (Nat×Nat)),Qj (fun fs=>(zU last l fs).1)
 | []=>fun _ _ h=>h
 | q::l=>fun fs e h=>by
  show(zU last (q::l) fs).1.err=some e;unfold zU;split
  .exact nY _ _ _ _ h
  exact Kc last l _ _ (mE _ _ _ (ug _ _ _ h))
theorem Gg(last:qS){q:Bk×Bool}(h:q.1.err=some e):(EH last q).err=some e:=by
 unfold EH;split
 .exact Bl _ _ (ug _ _ _ h)
 exact h
def VU(Z:Bd)(Lq u:Nat):Prop:=u=0\/(Z.dJ.cut=true/\u+(Z.di.length - Z.dJ.dK)=Lq)
theorem zf:qH Z 0=Z:=by
 obtain⟨stk,b,a⟩:=Z;unfold qH;simp
theorem O3(hf:Z.dJ.dK<=Z.di.length){u:Nat}:(qH Z u).dJ.dK<=(qH Z u).di.length:=by
 show Z.dJ.dK<=(Z.di.take Z.dJ.dK++(List.replicate u 0++Z.di.drop Z.dJ.dK)).length;simp;omega
theorem Nj(hf:Z.dJ.dK<=Z.di.length){u:Nat}{ks:qM}(b:VU Z ks.length u):(∃e,dP (qH Z u) ks=.error e/\dP Z ks=.error e)\/∃s1 s2,dP (qH Z u) ks=.ok s1/\dP Z ks=.ok s2:=by
 rcases b with rfl | ⟨hc,b⟩
 .rw[zf];rcases h:dP Z ks with e|s1
  .exact .inl ⟨e,rfl,rfl⟩
  exact .inr ⟨s1,s1,rfl,rfl⟩
 have d:(Z.di.take Z.dJ.dK).length=Z.dJ.dK:=by simp;omega
 have U:=ZM (bl:=Z.dJ) (a:=Z.at_) (ks:=ks) hc d ks.length u (Z.di.drop Z.dJ.dK) qt;rw[List.take_append_drop] at U;have f:dP (qH Z u) ks=match iH Z.dJ Z.at_ ks ks.length (Z.di.take Z.dJ.dK++(List.replicate u 0++Z.di.drop Z.dJ.dK)) with
  | .error e=>.error e
  | .ok stk=>.ok {qH Z u with di:=stk}:=rfl
 rw[f,U];unfold dP;rcases iH Z.dJ Z.at_ ks ks.length Z.di with e|stk
 .exact .inl ⟨e,rfl,rfl⟩
 exact .inr ⟨_,_,rfl,rfl⟩
theorem abo{last:qM}{lastB:qS}(w:KR last lastB)(hb:Z.dh≠[])(hf:Z.dJ.dK<=Z.di.length):∀(l:List (Nat×Nat)) (u:Nat) (fs:Bk),(∀q∈l,q.1<Z.dh.length)->VU Z last.length u->zI (qH Z u) fs->match nE Z last (l.map (fun q=>eU (Z.dh.getD q.1 uk.none))) with
  | .ok _=>∃b A,VU Z last.length b/\zU lastB l fs=(A,true)/\zI (qH Z b) A
  | .error e=>(zU lastB l fs).1.err=some e:=by
 intro l;induction l with
 | nil=>exact fun u fs _ a h=>⟨u,fs,a,rfl,h⟩
 | cons q l J=>
  intro u fs hq a h;have n:KR (eU (Z.dh.getD q.1 uk.none)) (ji q.1 fs):=Be h (hq q qs);rw[List.map_cons];unfold nE zU;by_cases d:(eU (Z.dh.getD q.1 uk.none)).length≠last.length
  .rw[if_pos d,if_pos (by rw[n.size,w.size];exact d)];show(fF 4 fs.now fs).err=some (4,Z.at_);rw[mV h.err,<-h.now];rfl
  rw[if_neg d,if_neg (by rw[n.size,w.size];exact d)];have o:(eU (Z.dh.getD q.1 uk.none)).length=last.length:=Decidable.of_not_not d;have f:=Qu n h hb (O3 hf);rcases Nj hf (ks:=eU (Z.dh.getD q.1 uk.none)) (u:=u) (by rw[o];exact a) with⟨e,U,L⟩ | ⟨s1,s2,U,L⟩
  .rw[U] at f;rw[L];exact Kc lastB l _ _ (mE _ _ _ f)
  rw[U] at f;rw[L];simp only;obtain⟨K,M,N⟩:=f;have B:=xk K N;have C:(qH Z u).dJ.dK<=(qH Z u).di.length:=O3 hf;have D:=Zd (fl:=(qH Z u).dJ.dK) (eU (Z.dh.getD q.1 uk.none)).length (qH Z u).di [] C;have E:(qH Z u).dJ=Z.dJ:=rfl;have F:(qH Z u).di.length=u+Z.di.length:=by
   show(Z.di.take Z.dJ.dK++(List.replicate u 0++Z.di.drop Z.dJ.dK)).length=_;simp;omega
  have g:s1.dh=Z.dh/\s1.at_=Z.at_:=by
   have:=eH C U;exact⟨this.1,this.2.1⟩
  obtain⟨b,O,P⟩:∃b,VU Z last.length b/\gQ s1 (wX (qH Z u).dJ.dK (eU (Z.dh.getD q.1 uk.none)).length (qH Z u).di []).2=qH Z b:=by
   have G:s1.di=(wX (qH Z u).dJ.dK (eU (Z.dh.getD q.1 uk.none)).length (qH Z u).di []).1:=by rw[M]
   have H:∀v:Bd,v.dh=Z.dh->v.at_=Z.at_->∀k,v.di=Z.di.take Z.dJ.dK++(List.replicate k 0++Z.di.drop Z.dJ.dK)->v=qH Z k:=by
    rintro⟨S,T,V⟩ rfl rfl k X;simp only at X;rw[X];rfl
   by_cases W:last.length<=u+(Z.di.length - Z.dJ.dK)
   .refine⟨u,a,H (gQ s1 _) g.1 g.2 u ?_⟩;show s1.di++_=_;rw[G,D,o,F,E];have t:min last.length (u+Z.di.length - Z.dJ.dK)=last.length:=qo;rw[t];simp only[Nat.sub_self,List.replicate_zero,List.nil_append,List.append_nil];rw[List.take_append_drop];rfl
   have Q:u=0:=by
    rcases a with a | ⟨-,a⟩
    .exact a
    omega
   subst Q;have hcut:Z.dJ.cut=true:=by
    rw[zf] at U;unfold dP at U;rcases I:iH Z.dJ Z.at_ (eU (Z.dh.getD q.1 uk.none)) (eU (Z.dh.getD q.1 uk.none)).length Z.di with e|z
    .rw[I] at U;cases U
    exact Zc _ hf qo I
   refine⟨last.length - (Z.di.length - Z.dJ.dK),.inr ⟨hcut,qo⟩,H (gQ s1 _) g.1 g.2 _ ?_⟩;show s1.di++_=_;rw[G,D,o,F,E,zf];have t:min last.length (0+Z.di.length - Z.dJ.dK)=Z.di.length - Z.dJ.dK:=qo;rw[t];have R:0+Z.di.length - (Z.di.length - Z.dJ.dK)=Z.dJ.dK:=qo;rw[R];simp
  rw[P] at B;exact J b _ (fun p hp=>hq p (by simp[hp])) O B
theorem aaB{st1 a:Bd}(U:st1.dh=a.dh)(L:st1.at_=a.at_)(h3:st1.di.take st1.dJ.dK=a.di.take a.dJ.dK):gU st1=gU a:=by
 obtain⟨b,d,f⟩:=st1;obtain⟨g,h,k⟩:=a;simp only at U L;subst U;subst L;unfold gU;rw[h3];rfl
theorem abA(h:rU s m r ls outs c Z fs j 14 y i):lZ (fI m ls 14 y {Z with at_:=j}) (oq r c i fs):=by
 have v:=h.ins.op;obtain⟨D,E,F⟩:=h.ins.idx qx;have G:=h.ins.lab rfl;have hidx:eY r c i {fs with now:=i.at_}=fu (i.xn.toNat,i.pX) Z.dh.length (i.dF.foldl (fun s r=>fu r Z.dh.length s) {fs with now:=i.at_}):=by
  rw[lW qo];unfold lS;rw[if_neg qo,if_pos qo,vQ h.bd]
 have b:=Uy (Z:={Z with at_:=j}) h.bd.err y.dF i.dF [] G;show lZ (iM y {Z with at_:=j}) _;unfold iM;rcases w:jm {Z with at_:=j} y.dF [] with e|z
 .rw[w] at b;refine Bg ?_;rw[hidx];unfold fu;split
  .exact nY _ _ _ _ b
  exact b
 rw[w] at b;obtain⟨l1,l2,H⟩:=b;have I:i.dF.foldl (fun s r=>fu r Z.dh.length s) {fs with now:=i.at_}={fs with now:=i.at_}:=l1;rw[I] at hidx;simp only;have ht:=tJ (many:=Z.dh.length) D E F h.bd.err;unfold jB;simp only;rcases hq:fT y.num Z.dh.length with e|k
 .exact Vx
 rw[hq] at ht;obtain⟨rfl,J,K⟩:=ht;rw[vS (r:=r) (c:=c) (i:=i) (fs:=fs) (by rw[hidx];exact K) h.bd.err (by rw[v];decide)];have L:jw r c i {fs with now:=i.at_}=uJ i {fs with now:=i.at_}:=by simp[jw,v]
 rw[L];unfold uJ;have d:=kP i127 h.bd h.ne h.fl;simp only;rcases U:dP {Z with at_:=j} [127] with e|st1
 .rw[U] at d;exact Gg _ (Kc _ _ _ _ d)
 rw[U] at d;obtain⟨p,f,n,-⟩:=xK h.fl h.ne U;have t:=Be d (k:=i.xn.toNat) (by rw[n];exact J);rw[n] at t;have M:z=i.dF.map (fun q=>eU (st1.dh.getD q.1 uk.none)):=by
  rw[l2,n];rfl
 have g:=abo t p f i.dF 0 _ (fun q hq=>by rw[n];exact H q hq) (.inl rfl) (by rw[zf];exact d);rw[<-M] at g;simp only;rcases A:nE st1 (eU (Z.dh.getD i.xn.toNat uk.none)) z with e|Y
 .rw[A] at g;exact Gg _ g
 rw[A] at g;obtain⟨B,C,N,O,Q⟩:=g;rw[O];have R:EH (ji i.xn.toNat (dS iS {fs with now:=i.at_}).2) (C,true)=sG (dS (ji i.xn.toNat (dS iS {fs with now:=i.at_}).2) C).2:=rfl;rw[R];have o:=kP t Q (show(qH st1 B).dh≠[] from p) (O3 f);simp only;rcases Nj f (u:=B) N with⟨e,p1,p2⟩ | ⟨s1,s2,p1,p2⟩
 .rw[p1] at o;rw[p2];exact Bl _ _ o
 rw[p1] at o;rw[p2];have a:=eH (O3 f) p1;have l:=eH f p2;have hcut:=H9 o (by rw[a.1];exact p);have S:gU s1=gU s2:=by
  refine aaB (by rw[a.1,l.1];rfl) (by rw[a.2.1,l.2.1];rfl) ?_;have T:s1.dJ.dK=st1.dJ.dK:=by unfold Bd.dJ;rw[a.1];rfl
  have V:s2.dJ.dK=st1.dJ.dK:=by unfold Bd.dJ;rw[l.1]
  rw[T,V,a.2.2.2.2,l.2.2.2.2,List.take_take,List.take_take];have W:min st1.dJ.dK s1.di.length=st1.dJ.dK:=Nat.min_eq_left a.2.2.1;have X:min st1.dJ.dK s2.di.length=st1.dJ.dK:=Nat.min_eq_left l.2.2.1;rw[W,X];show(st1.di.take st1.dJ.dK++_).take st1.dJ.dK=_;rw[List.take_left' qt]
 rw[S] at hcut;exact hcut
end
section
variable {s:qS} {m:fE} {r:RM} {ls outs:qM} {c:FC} {Z:Bd} {fs:Bk} {j x:Nat} {y:ic} {i:fA} {e:Err}
theorem OG(h:zI Z fs)(hb:Z.dh≠[])(b:Z.dJ.dK<=Z.di.length):match fQ Z with
  | .ok (k,st1)=>(jg fs).1=kq k/\XT k/\zI st1 (jg fs).2/\st1.dh≠[]/\st1.dJ.dK<=st1.di.length
  | .error e=>(jg fs).2.err=some e:=by
 have hp:=VT h hb b;unfold fQ;rcases a:iX Z.dJ Z.at_ Z.di with e|⟨k,stk⟩
 .rw[a] at hp;exact hp
 rw[a] at hp;exact⟨hp.1,hp.2.1,hp.2.2,hb,(qi b a).1⟩
theorem abv(h:rU s m r ls outs c Z fs j 26 y i):lZ (fI m ls 26 y {Z with at_:=j}) (oq r c i fs):=by
 have b:=h.ins.op;rw[tX (r:=r) (c:=c) (i:=i) (fs:=fs) (by rw[lW qo];simp[lS,b]) h.bd.err (by rw[b];decide)];have f:kD r c i {fs with now:=i.at_}=(jg {fs with now:=i.at_}).2:=by simp[kD,b]
 rw[f];show lZ (match fQ {Z with at_:=j} with
  | .error e=>.error e
  | .ok (_,st1)=>.ok st1) _
 have a:=OG h.bd h.ne h.fl;rcases d:fQ {Z with at_:=j} with e|⟨k,st1⟩
 .rw[d] at a;exact a
 rw[d] at a;exact a.2.2.1
theorem abu(h:rU s m r ls outs c Z fs j 27 y i):lZ (fI m ls 27 y {Z with at_:=j}) (oq r c i fs):=by
 have o:=h.ins.op;rw[tX (r:=r) (c:=c) (i:=i) (fs:=fs) (by rw[lW qo];simp[lS,o]) h.bd.err (by rw[o];decide)];have B:kD r c i {fs with now:=i.at_}=uo {fs with now:=i.at_}:=by simp[kD,o]
 rw[B];show lZ (gZ {Z with at_:=j}) _;unfold gZ uo aeu;have f:=kP i127 h.bd h.ne h.fl;have hbad:∀{q:Bk} {g:qS} {e:Err} {b:Prop} [Decidable b] {n:Nat},q.err=some e->(iF g (if b then fF 4 n q else q)).err=some e:=by
  intro q g e b _ n hq;refine mE _ _ _ ?_;split
  .exact nY _ _ _ _ hq
  exact hq
 rcases U:dP {Z with at_:=j} [127] with e|st1
 .rw[U] at f;exact hbad (Ec _ _ (Ec _ _ f))
 rw[U] at f;obtain⟨C,D,-,K⟩:=xK h.fl h.ne U;have k:=OG f C D;simp only;rcases p:fQ st1 with e|q
 .rw[p] at k;exact hbad (Ec _ _ k)
 obtain⟨a,E⟩:=q;rw[p] at k;obtain⟨F,t,G,H,I⟩:=k;have l:=OG G H I;simp only;rcases u:fQ E with e|⟨first,L⟩
 .rw[u] at l;exact hbad l
 rw[u] at l;obtain⟨J,v,w,M,N⟩:=l;simp only;rw[F,J];have z:(kq first≠kq a/\kq first≠63/\kq a≠63)↔(a≠0/\a≠(if first=0 then a else first)):=by
  rcases t with rfl | rfl | rfl<;>rcases v with rfl | rfl | rfl<;>simp[kq]
 have A:(if kq first=63 then kq a else kq first)=kq (if first=0 then a else first)/\XT (if first=0 then a else first):=by
  rcases t with rfl | rfl | rfl<;>rcases v with rfl | rfl | rfl<;>simp[kq,XT]
 by_cases hc:a≠0/\a≠(if first=0 then a else first)
 .rw[if_pos hc,if_pos (z.2 hc)];show(fF 4 i.at_ _).err=some (4,j);rw[mV w.err,h.ins.at_]
 rw[if_neg hc,if_neg (fun d=>hc (z.1 d)),A.1];exact xk w (SR.one A.2)
theorem afQ{k:Nat}(a:KR ls c.kinds)(X:k<ls.length):KR [ls.getD k 0] (c.kinds.extract k (k+1)):=by
 have U:ls.getD k 0=ls[k]:=by simp[X]
 refine⟨fun q hq=>?_,?_⟩
 .simp at hq;rw[hq];have:=a.1 _ (List.getElem_mem X);rw[<-U] at this;simpa using this
 have L:tl (c.kinds.extract k (k+1)) 0=((tl c.kinds 0).drop k).take 1:=by
  simp[tl,ByteArray.data_extract,List.drop_take,List.map_take,List.map_drop]
 rw[L,a.2,<-List.map_drop,List.drop_eq_getElem_cons X,U];rfl
theorem Zk(hx:x=32\/x=33\/x=34)(h:rU s m r ls outs c Z fs j x y i):lZ (fI m ls x y {Z with at_:=j}) (oq r c i fs):=by
 have d:=h.ins.op;obtain⟨f,g,l⟩:=h.ins.idx (by simp[Pn];omega);have n:=h.loc.size;have hidx:eY r c i {fs with now:=i.at_}=fu (i.xn.toNat,i.pX) ls.length {fs with now:=i.at_}:=by
  rw[lW qo,<-n];unfold lS;rw[if_neg qo,if_neg qo,if_neg qo,if_pos qo]
 have ht:=tJ (many:=ls.length) f g l h.bd.err;have o:fI m ls x y {Z with at_:=j}=iD ls x y {Z with at_:=j}:=by
  unfold fI fG;rw[if_neg qo,if_neg qo,if_pos qo,if_neg qo,if_neg qo,if_neg qo,if_neg qo]
 rw[o];unfold iD;rcases hq:fT y.num ls.length with e|k
 .exact Vx
 rw[hq] at ht;obtain⟨rfl,p,q⟩:=ht;rw[tX (r:=r) (c:=c) (i:=i) (fs:=fs) (by rw[hidx];exact q) h.bd.err (by rw[d];rcases hx with rfl | rfl | rfl<;>decide)];have X:=afQ h.loc p;have a:=kP X h.bd h.ne h.fl;simp only;rcases hx with rfl | rfl | rfl
 .have b:kD r c i {fs with now:=i.at_}=iF (yR c i) {fs with now:=i.at_}:=by simp[kD,d]
  rw[b];exact xk h.bd X.sr
 .have b:kD r c i {fs with now:=i.at_}=(dS (yR c i) {fs with now:=i.at_}).2:=by simp[kD,d]
  rw[b,if_neg qx];unfold yR;rcases U:dP {Z with at_:=j} [ls.getD i.xn.toNat 0] with e|st1
  .rw[U] at a;exact a
  rw[U] at a;exact a
 have b:kD r c i {fs with now:=i.at_}=iF (yR c i) (dS (yR c i) {fs with now:=i.at_}).2:=by simp[kD,d]
 rw[b,if_neg qx];unfold yR;rcases U:dP {Z with at_:=j} [ls.getD i.xn.toNat 0] with e|st1
 .rw[U] at a;exact mE _ _ _ a
 rw[U] at a;exact xk a X.sr
theorem acE(a:uN s m r){k:Nat}(X:k<m.dB.length):aar (m.dB.getD k ⟨0,false,⟨0,0,0⟩⟩) (r.dB.getD k ⟨0,false,⟨0,0,0⟩⟩):=by
 obtain⟨U,-⟩ | ⟨t,u,U,L,h3⟩:=a.dB.get k
 .rw[List.getElem?_eq_getElem X] at U;cases U
 rw[List.getD_eq_getElem?_getD,List.getD_eq_getElem?_getD,U,L];exact h3
theorem aeD{k d:Nat}(h:Rl k d):KR [k] (strOfNums [(d:Int)]):=by
 have:=KR.nil.push h;rw[List.nil_append] at this;have a:(⟨#[]⟩:qS)++strOfNums [(d:Int)]=strOfNums [(d:Int)]:=by
  apply ByteArray.ext;simp
 rw[a] at this;exact this
theorem Zl(hx:x=35\/x=36)(h:rU s m r ls outs c Z fs j x y i):lZ (fI m ls x y {Z with at_:=j}) (oq r c i fs):=by
 have b:=h.ins.op;obtain⟨l,n,o⟩:=h.ins.idx (by simp[Pn];omega);have hidx:eY r c i {fs with now:=i.at_}=fu (i.xn.toNat,i.pX) m.dB.length {fs with now:=i.at_}:=by
  rw[lW qo,h.mod.dB.1];unfold lS;rw[if_neg qo,if_neg qo,if_neg qo,if_neg qo,if_pos qo]
 have ht:=tJ (many:=m.dB.length) l n o h.bd.err;have p:fI m ls x y {Z with at_:=j}=(match iw m y.num with
  | .error e=>.error e
  | .ok g=>if x=35 then .ok (gQ {Z with at_:=j} [g.kind]) else if g.xM then dP {Z with at_:=j} [g.kind] else .error (4,j)):=by
  rcases hx with rfl | rfl
  .show(match iw m y.num with
    | .error e=>Except.error e
    | .ok g=>Except.ok (gQ {Z with at_:=j} [g.kind]))=_
   cases iw m y.num<;>rfl
  show(match iw m y.num with
   | .error e=>Except.error e
   | .ok g=>if g.xM then dP {Z with at_:=j} [g.kind] else Except.error (4,j))=_
  cases iw m y.num<;>rfl
 rw[p];unfold iw;rcases hq:fT y.num m.dB.length with e|k
 .exact Vx
 rw[hq] at ht;obtain⟨rfl,q,t⟩:=ht;rw[tX (r:=r) (c:=c) (i:=i) (fs:=fs) (by rw[hidx];exact t) h.bd.err (by rw[b];rcases hx with rfl | rfl<;>decide)];have f:=acE h.mod q;have X:=aeD f.1;simp only;rcases hx with rfl | rfl
 .have d:kD r c i {fs with now:=i.at_}=iF (strOfNums [((yV r i).kind:Int)]) {fs with now:=i.at_}:=by simp[kD,b]
  rw[d,if_pos rfl];exact xk h.bd X.sr
 have d:kD r c i {fs with now:=i.at_}=Dy (yV r i) {fs with now:=i.at_}:=by simp[kD,b]
 rw[d,if_neg qx];unfold Dy yV;rw[<-f.2.1];by_cases a:(m.dB.getD i.xn.toNat ⟨0,false,⟨0,0,0⟩⟩).xM=true
 .rw[if_pos a,if_pos a];exact kP X h.bd h.ne h.fl
 rw[if_neg a,if_neg a];refine ug _ _ _ ?_;show(fF 4 i.at_ _).err=some (4,j);rw[mV h.bd.err,h.ins.at_]
def Ud(x:Nat):List Nat×List Nat:=
 if x=65 then([],[127]) else if x=66 then([],[126]) else if x=69 then([127],[127]) else if x<=79 then([127,127],[127]) else if x=80 then([126],[127]) else if x<=90 then([126,126],[127]) else if x<=105 then([127],[127]) else if x<=120 then([127,127],[127]) else if x<=123 then([126],[126]) else if x<=138 then([126,126],[126]) else if x=167 then([126],[127]) else([127],[126])
def memT(x:Nat):List Nat×List Nat:=
 if x=63 then([],[127]) else if x=64 then([127],[127]) else if x=41 then([127],[126]) else if x=40\/x=44\/x=45 then([127],[127]) else if x=55 then([127,126],[]) else([127,127],[])
def R7(x:Nat):qS×qS:=sumT (kS (aac x)) x (decide (x=63)) (decide (x=65)) (decide (x=66)) (decide (x=64)) (decide (x=167)) (decide (x=172)) (decide (x=173))
theorem abX:∀x:Fin 256,(x.val=65\/x.val=66\/(69<=x.val/\x.val<=90)\/(103<=x.val/\x.val<=138)\/x.val=167\/x.val=172\/x.val=173)->((∀k∈(Ud x.val).1,k=127\/k=126)/\tl (R7 x.val).1 0=(Ud x.val).1.map kl)/\((∀k∈(Ud x.val).2,k=127\/k=126)/\tl (R7 x.val).2 0=(Ud x.val).2.map kl):=by decide+kernel
theorem ab1:∀x:Fin 256,x.val∈[40,41,44,45,54,55,58,63,64]->(((∀k∈(memT x.val).1,k=127\/k=126)/\tl (R7 x.val).1 0=(memT x.val).1.map kl)/\((∀k∈(memT x.val).2,k=127\/k=126)/\tl (R7 x.val).2 0=(memT x.val).2.map kl))/\(uK x.val:Int)=vk x.val:=by decide+kernel
theorem abY:dP Z []=.ok Z:=rfl
theorem QO:gQ Z []=Z:=by
 obtain⟨a,b,d⟩:=Z;simp[gQ]
theorem VG{a b:qM}{d:qS×qS}(g:KR a d.1)(hb:KR b d.2)(h:zI Z fs)(k:Z.dh≠[])(l:Z.dJ.dK<=Z.di.length):lZ (match dP Z a with
  | .error e=>.error e
  | .ok st1=>.ok (gQ st1 b)) (iF d.2 (dS d.1 fs).2):=by
 have f:=kP g h k l;rcases U:dP Z a with e|st1
 .rw[U] at f;exact mE _ _ _ f
 rw[U] at f;exact xk f hb.sr
theorem aeA:kz x Z=match dP Z (Ud x).1 with
  | .error e=>.error e
  | .ok st1=>.ok (gQ st1 (Ud x).2):=by
 unfold kz Ud kK;by_cases U:x=65
 .rw[if_pos U,if_pos U];rfl
 rw[if_neg U,if_neg U];by_cases L:x=66
 .rw[if_pos L,if_pos L];rfl
 rw[if_neg L,if_neg L];by_cases h3:x=69
 .rw[if_pos h3,if_pos h3];rfl
 rw[if_neg h3,if_neg h3];by_cases h4:x<=79
 .rw[if_pos h4,if_pos h4];rfl
 rw[if_neg h4,if_neg h4];by_cases h5:x=80
 .rw[if_pos h5,if_pos h5];rfl
 rw[if_neg h5,if_neg h5];by_cases a:x<=90
 .rw[if_pos a,if_pos a];rfl
 rw[if_neg a,if_neg a];by_cases b:x<=105
 .rw[if_pos b,if_pos b];rfl
 rw[if_neg b,if_neg b];by_cases d:x<=120
 .rw[if_pos d,if_pos d];rfl
 rw[if_neg d,if_neg d];by_cases f:x<=123
 .rw[if_pos f,if_pos f];rfl
 rw[if_neg f,if_neg f];by_cases g:x<=138
 .rw[if_pos g,if_pos g];rfl
 rw[if_neg g,if_neg g];by_cases h11:x=167
 .rw[if_pos h11,if_pos h11];rfl
 rw[if_neg h11,if_neg h11];rfl
theorem Jr(a:i.op=x)(hx:40<=x):kD r c i fs=yf i (R7 x) fs:=by
 unfold kD R7;rw[if_neg qo,if_neg qo,if_neg qo,if_neg qo,if_neg qo,if_neg qo,if_neg qo,if_neg qo,if_neg qo,a]
theorem VW(hx:16<=x):¬x∈vF:=by
 unfold vF;simp;omega
theorem Zi(hx:x=65\/x=66\/(69<=x/\x<=90)\/(103<=x/\x<=138)\/x=167\/x=172\/x=173)(h:rU s m r ls outs c Z fs j x y i):lZ (fI m ls x y {Z with at_:=j}) (oq r c i fs):=by
 have a:=h.ins.op;have f:lS r c i {fs with now:=i.at_}={fs with now:=i.at_}:=by
  unfold lS;rw[if_neg qo,if_neg qo,if_neg qo,if_neg qo,if_neg qo,if_neg qo]
 rw[tX (r:=r) (c:=c) (i:=i) (fs:=fs) (by rw[lW qo];exact f) h.bd.err (by rw[a];exact VW qo),Jr a qo];have g:fI m ls x y {Z with at_:=j}=kz x {Z with at_:=j}:=by
  unfold fI;rw[if_neg qo,if_neg qo,if_neg qo,if_neg qo]
 rw[g,aeA];have b:=abX ⟨x,qo⟩ hx;unfold yf pG;rw[if_neg (fun d=>qo)];exact VG b.1 b.2 h.bd h.ne h.fl
theorem Zj(hx:x∈[40,41,44,45,54,55,58,63,64])(h:rU s m r ls outs c Z fs j x y i):lZ (fI m ls x y {Z with at_:=j}) (oq r c i fs):=by
 have f:=h.ins.op;have E:(40<=x/\x<=58)\/x=63\/x=64:=by simp at hx;omega
 have A:lS r c i {fs with now:=i.at_}={fs with now:=i.at_}:=by
  unfold lS;rw[if_neg qo,if_neg qo,if_neg qo,if_neg qo,if_neg qo,if_neg qo]
 have B:=Hq h.mod.jT;have F:fI m ls x y {Z with at_:=j}=fD m x y {Z with at_:=j}:=by
  unfold fI;rw[if_neg qo,if_neg qo,if_neg qo,if_pos qo]
 rw[F];unfold fD;by_cases u:m.jT.length=0
 .rw[if_pos u];refine Bg ?_;unfold eY;rw[if_pos ⟨by simpa using B.1 u,by rw[f];exact E⟩,A,mV h.bd.err,h.ins.at_]
 rw[if_neg u];have G:r.memory.isSome=true:=Decidable.of_not_not (fun d=>u (B.2 d));have H:eY r c i {fs with now:=i.at_}={fs with now:=i.at_}:=by
  unfold eY;rw[if_neg (fun d=>by rw[G] at d;exact absurd d.1 qx),A]
 rw[tX (r:=r) (c:=c) (i:=i) (fs:=fs) H h.bd.err (by rw[f];exact VW qo),Jr f qo];obtain⟨C,w⟩:=ab1 ⟨x,qo⟩ hx;simp only at w;have n:(∀q:Except Err Bd,(q=match dP {Z with at_:=j} (memT x).1 with
   | .error e=>.error e
   | .ok st1=>.ok (gQ st1 (memT x).2))->¬((40<=i.op/\i.op<=58)/\(uK i.op:Int)<i.xn)->lZ q (yf i (R7 x) {fs with now:=i.at_})):=by
  rintro q rfl o;unfold yf pG;rw[if_neg o];exact VG C.1 C.2 h.bd h.ne h.fl
 have v:vk x<y.align->(40<=x/\x<=58)->lZ (.error (4,j)) (yf i (R7 x) {fs with now:=i.at_}):=by
  intro a b;unfold yf pG;have z:=h.ins.mem b;rw[if_pos ⟨by rw[f];exact b,by rw[f,w,<-z.1];exact a⟩];refine mE _ _ _ (ug _ _ _ ?_);show(fF 4 i.at_ _).err=some (4,j);rw[mV h.bd.err,h.ins.at_]
 have I:(40<=x/\x<=58)->¬vk x<y.align->¬((40<=i.op/\i.op<=58)/\(uK i.op:Int)<i.xn):=by
  intro b a d;have z:=h.ins.mem b;rw[f,w,<-z.1] at d;exact a d.2
 by_cases p:x=63
 .rw[if_pos p];subst p;exact n _ rfl (by rw[f];omega)
 rw[if_neg p];by_cases t:x=64
 .rw[if_pos t];subst t;exact n _ rfl (by rw[f];omega)
 rw[if_neg t];have b:40<=x/\x<=58:=qo;have D:∀{q:Except Err Bd},(match q with
  | .error e=>.error e
  | .ok st1=>.ok (gQ st1 []):Except Err Bd)=q:=by
  intro q;rcases q with e|st1
  .rfl
  show Except.ok (gQ st1 [])=_;rw[QO]
 by_cases a:vk x<y.align
 .by_cases g:x=41
  .rw[if_pos g];unfold p9;rw[if_pos a];exact v a b
  rw[if_neg g];by_cases k:x=40\/x=44\/x=45
  .rw[if_pos k];unfold p9;rw[if_pos a];exact v a b
  rw[if_neg k];by_cases l:x=55
  .rw[if_pos l];unfold mM;rw[if_pos a];exact v a b
  rw[if_neg l];rw[if_pos (by simp at hx;omega)];unfold mM;rw[if_pos a];exact v a b
 have o:=I b a;by_cases g:x=41
 .rw[if_pos g];unfold p9;rw[if_neg a];subst g;exact n _ rfl o
 rw[if_neg g];by_cases k:x=40\/x=44\/x=45
 .rw[if_pos k];unfold p9;rw[if_neg a];refine n _ ?_ o;have:memT x=([127],[127]):=by
   unfold memT;rw[if_neg p,if_neg t,if_neg g,if_pos k]
  rw[this];rfl
 rw[if_neg k];by_cases l:x=55
 .rw[if_pos l];unfold mM;rw[if_neg a];subst l;exact n _ D.symm o
 rw[if_neg l];rw[if_pos (by simp at hx;omega)];unfold mM;rw[if_neg a];refine n _ ?_ o;have:memT x=([127,127],[]):=by
  unfold memT;rw[if_neg p,if_neg t,if_neg g,if_neg k,if_neg l]
 rw[this];exact D.symm
theorem Zm(hx:x∈iL\/rF x=true)(h:rU s m r ls outs c Z fs j x y i):lZ (fI m ls x y {Z with at_:=j}) (oq r c i fs):=by
 have a:x=0\/x=1\/(x=2\/x=3)\/x=4\/x=5\/x=11\/x=12\/x=13\/x=14\/x=15\/x=16\/x=17\/x=26\/x=27\/(x=32\/x=33\/x=34)\/(x=35\/x=36)\/x∈[40,41,44,45,54,55,58,63,64]\/(x=65\/x=66\/(69<=x/\x<=90)\/(103<=x/\x<=138)\/x=167\/x=172\/x=173):=by
  rcases hx with hx | hx
  .simp[iL] at hx;simp;omega
  simp[rF] at hx;simp;omega
 rcases a with rfl | rfl | hx | rfl | rfl | rfl | rfl | rfl | rfl | rfl | rfl | rfl | rfl | rfl | hx | hx | hx | hx
 .exact aep h
 .exact aeo h
 .exact abw hx h
 .exact aen h
 .exact aem h
 .exact abD h
 .exact abC h
 .exact abB h
 .exact abA h
 .exact abz h
 .exact aby h
 .exact abx h
 .exact abv h
 .exact abu h
 .exact Zk hx h
 .exact Zl hx h
 .exact Zj hx h
 exact Zi hx h
end
end Go.Proofs.YtdaafkmhfedkiaaGreat
