import Derived.Test.YtdaafkmhfedkiaaGreatX23
namespace Go.Proofs.YtdaafkmhfedkiaaGreat
set_option maxHeartbeats 200000
open Go.RowKit Go.Proofs.Tryz
theorem iI{o:Option Nat}{p:Nat}(h:o=some p):o≠none:=fun c=>by rw[h] at c;cases c
section
variable {s:qS} {n i j:Nat} {e:Err}
theorem yJ(a most:Nat):Ib (fH s a most):=fun Z p h=>by
 have U:=rQ (s:=s) Z p h;have L:(if(uS s Z).1<a\/most<(uS s Z).1 then dL (uS s Z).2 Z.at_ else(uS s Z).2).bad=some p:=by
  split
  .exact iy U
  exact U
 unfold fH;simp only;rw[if_pos (iI L)];exact L
theorem E8{most k:Nat}(b:i<=n)(c:n<=s.size)(h:eZ most s n i=.ok (k,j)):uS s ⟨i,n,none⟩=(k,⟨j,n,none⟩)/\k<=most/\i<=j/\j<=n:=by
 unfold eZ at h;rcases a:uM s n i with e|⟨v,d⟩
 .rw[a] at h;cases h
 obtain⟨y,rfl,L,h3,h4⟩:=wV b c a;rw[a] at h;simp only at h;split at h
 .cases h
 cases h;exact⟨by rw[L];rfl,qo,h3,h4⟩
theorem Cn{most:Nat}(b:i<=n)(c:n<=s.size)(h:eZ most s n i=.error e):e.1=2/\(((uS s ⟨i,n,none⟩).2.bad=some e.2)\/((uS s ⟨i,n,none⟩).2.bad=none/\most<(uS s ⟨i,n,none⟩).1/\e.2=i)):=by
 unfold eZ at h;rcases a:uM s n i with d|⟨v,f⟩
 .rw[a] at h;cases h;exact⟨(rW b c a).1,.inl (rW b c a).2⟩
 obtain⟨y,rfl,L,h3,h4⟩:=wV b c a;rw[a] at h;simp only at h;split at h
 .cases h;exact⟨rfl,.inr ⟨by rw[L],by rw[L];show most<y;omega,rfl⟩⟩
 cases h
theorem MP{most:Nat}(a:i<=n)(b:n<=s.size)(h:eZ most s n i=.error e):e.1=2/\(fH s 0 most ⟨i,n,none⟩).2.bad=some e.2:=by
 obtain⟨U,L⟩:=Cn a b h;refine⟨U,?_⟩;have h3:(if(uS s ⟨i,n,none⟩).1<0\/most<(uS s ⟨i,n,none⟩).1 then dL (uS s ⟨i,n,none⟩).2 i else(uS s ⟨i,n,none⟩).2).bad=some e.2:=by
  exact adZ
 unfold fH;simp only;rw[if_pos (iI h3)];exact h3
theorem TD{a most k:Nat}(h:uS s ⟨i,n,none⟩=(k,⟨j,n,none⟩))(U:a<=k)(L:k<=most):fH s a most ⟨i,n,none⟩=if n<j+k then(⟨#[]⟩,⟨j,n,some n⟩) else(s.extract j (j+k),⟨j+k,n,none⟩):=by
 have c:¬(k<a\/most<k):=qo;unfold fH;rw[h];simp only[if_neg c,ne_eq,not_true,if_false];split<;>rfl
theorem MO{most k:Nat}(b:i<=n)(c:n<=s.size)(h:eZ most s n i=.ok (k,j))(a:kZ k s n j=.error e):e.1=2/\(fH s 0 most ⟨i,n,none⟩).2.bad=some e.2:=by
 obtain⟨U,L,h3,h4⟩:=E8 b c h;rw[TD U qZ L];unfold kZ at a;split at a
 .cases a;rw[if_pos qo];exact⟨rfl,rfl⟩
 cases a
theorem VF{most k a:Nat}{t:qS}(c:i<=n)(d:n<=s.size)(h:eZ most s n i=.ok (k,j))(b:kZ k s n j=.ok (t,a)):fH s 0 most ⟨i,n,none⟩=(t,⟨a,n,none⟩)/\i<=a/\a<=n:=by
 obtain⟨U,L,h3,h4⟩:=E8 c d h;rw[TD U qZ L];unfold kZ at b;split at b
 .cases b
 cases b;rw[if_neg qo];exact⟨rfl,qo,qo⟩
def aaC(c:Cst)(d:MC):Prop:=c.at_=d.at_/\Rl c.kind d.kind
theorem AR:Ib (jS s):=fun Z p h=>by
 have U:=vO (s:=s) Z p h;unfold jS;split
 .exact nN 11 _ _ (VH _ _ U)
 split
 .exact nN 11 _ _ (VH _ _ U)
 exact nN 11 _ _ (iy U)
theorem xC:yc s aaC ku (jS s):=by
 intro n i u g;unfold ku;rcases o:iO [65,66] s n i with e|q
 .simp only;rcases O4 o with⟨U,L,rfl⟩ | ⟨U,rfl⟩
  .simp at L;unfold jS;rw[l9 U];simp only;rw[if_neg L.1,if_neg L.2];exact⟨trivial,nN 11 _ _ rfl⟩
  unfold jS;rw[sN U];simp only;rw[if_neg qx,if_neg qx];exact⟨trivial,nN 11 _ _ rfl⟩
 obtain⟨x,j⟩:=q;obtain⟨U,L,h3,rfl⟩:=uy o;simp only;simp at L;rcases L with rfl | rfl
 .have h:jS s ⟨i,n,none⟩=(⟨105,(sS s 4 8 16 7 ⟨i+1,n,none⟩).1,i⟩,gY s 11 (sS s 4 8 16 7 ⟨i+1,n,none⟩).2):=by
   unfold jS;rw[l9 U,h3];rfl
  rw[h,if_pos rfl];rcases c:sM 4 4 s n (i+1) with e|q
  .obtain⟨a,g2⟩:=Ht.err qo g c;exact⟨a,nN 11 _ _ g2⟩
  obtain⟨v,k⟩:=q;obtain⟨y,a,-,p,r⟩:=Ht.ok qo g c;simp only;rw[a];rcases d:iO [11] s n k with e|⟨b,t⟩
  .exact uA d
  obtain⟨l,f,m,rfl⟩:=uy d;simp only;simp at f;rw[xq l 11 (by rw[m,f])];exact⟨_,rfl,⟨rfl,.inl rfl,rfl⟩,qo,qo⟩
 have h:jS s ⟨i,n,none⟩=(⟨108,(sS s 9 1 2 63 ⟨i+1,n,none⟩).1,i⟩,gY s 11 (sS s 9 1 2 63 ⟨i+1,n,none⟩).2):=by
  unfold jS;rw[l9 U,h3];rfl
 rw[h,if_neg qx];rcases c:sM 9 1 s n (i+1) with e|q
 .obtain⟨a,g2⟩:=Hr.err qo g c;exact⟨a,nN 11 _ _ g2⟩
 obtain⟨v,k⟩:=q;obtain⟨y,a,-,p,r⟩:=Hr.ok qo g c;simp only;rw[a];rcases d:iO [11] s n k with e|⟨b,t⟩
 .exact uA d
 obtain⟨l,f,m,rfl⟩:=uy d;simp only;simp at f;rw[xq l 11 (by rw[m,f])];exact⟨_,rfl,⟨rfl,.inr rfl,rfl⟩,qo,qo⟩
def uU(s:qS)(k:Nat)(Z:RS):RS:=if k<(dO s Z).1 then dL (dO s Z).2 Z.at_ else(dO s Z).2
theorem O6(h:i<n)(k:Nat)(hb:bt s i<=k):uU s k ⟨i,n,none⟩=⟨i+1,n,none⟩:=by
 unfold uU;rw[l9 h];exact if_neg (by show ¬k<bt s i;omega)
theorem Jz{k:Nat}{l:qM}(a:∀x,x<=k->x∈l)(h:iO l s n i=.error e):e.1=2/\(uU s k ⟨i,n,none⟩).bad=some e.2:=by
 rcases O4 h with⟨U,L,rfl⟩ | ⟨U,rfl⟩
 .unfold uU;rw[l9 U];have:k<bt s i:=Nat.lt_of_not_le (fun c=>L (a _ c));rw[if_pos this];exact⟨rfl,rfl⟩
 unfold uU;rw[sN U];exact⟨rfl,rfl⟩
theorem Dx(k:Nat):∀Z p,Z.bad=some p->(uU s k Z).bad=some p:=fun Z p h=>by
 unfold uU;split
 .exact iy (vO Z p h)
 exact vO Z p h
def XN(x:Hf)(y:zA):Prop:=x.at_=y.at_/\x.least=(y.min:Int)/\x.most=(y.max:Int)/\x.has=y.has
theorem Rb{Z:RS}:jG s Z=if(dO s Z).1=1 then(⟨true,(uS s (uU s 1 Z)).1,(uS s (uS s (uU s 1 Z)).2).1,Z.at_⟩,(uS s (uS s (uU s 1 Z)).2).2) else(⟨false,(uS s (uU s 1 Z)).1,0,Z.at_⟩,(uS s (uU s 1 Z)).2):=rfl
theorem xL:Ib (jG s):=fun Z p h=>by
 have U:=Dx (s:=s) 1 Z p h;rw[Rb];split
 .exact rQ _ _ (rQ _ _ U)
 exact rQ _ _ U
theorem Hu:yc s XN xu (jG s):=by
 intro n i h a;rw[Rb];unfold xu;rcases c:iO [0,1] s n i with e|q
 .obtain⟨U,L⟩:=Jz (k:=1) (fun x hx=>by simp;omega) c;refine⟨U,?_⟩;split
  .exact rQ _ _ (rQ _ _ L)
  exact rQ _ _ L
 obtain⟨x,j⟩:=q;obtain⟨U,L,h3,rfl⟩:=uy c;simp only;rw[O6 U 1 (by rw[h3];simp at L;omega),l9 U,h3];simp only;rcases d:uM s n (i+1) with e|q
 .obtain⟨g1,b⟩:=rW qo a d;refine⟨g1,?_⟩;split
  .exact rQ _ _ b
  exact b
 obtain⟨v,f⟩:=q;obtain⟨y,rfl,b,l,m⟩:=wV qo a d;rw[b];simp only;simp at L;rcases L with rfl | rfl
 .rw[if_neg qx,if_neg qx];exact⟨_,rfl,⟨rfl,rfl,rfl,rfl⟩,qo,qo⟩
 rw[if_pos rfl,if_pos rfl];rcases hw:uM s n f with e|⟨v2,o⟩
 .exact rW qo a hw
 obtain⟨p,rfl,g,r,t⟩:=wV qo a hw;rw[g];exact⟨_,rfl,⟨rfl,rfl,rfl,rfl⟩,qo,qo⟩
def aar(g:MF)(h:sJ):Prop:=Rl g.kind h.kind/\g.xM=h.chg/\aaC g.first h.init
theorem X9{Z:RS}:BL s Z=(⟨(jq s Z).1,(dO s (jq s Z).2).1==1,(jS s (uU s 1 (jq s Z).2)).1⟩,(jS s (uU s 1 (jq s Z).2)).2):=rfl
theorem Zo:yc s aar mH (BL s):=by
 intro n i g a;rw[X9];unfold mH;rcases X:kJ s n i with e|q
 .obtain⟨U,L⟩:=yN.err g a X;exact⟨U,AR _ _ (Dx 1 _ _ L)⟩
 obtain⟨k,j⟩:=q;obtain⟨c,U,L,h3,h4⟩:=yN.ok g a X;rw[U];simp only;rcases h:iO [0,1] s n j with e|q
 .obtain⟨b,f⟩:=Jz (k:=1) (fun x hx=>by simp;omega) h;exact⟨b,AR _ _ f⟩
 obtain⟨x,p⟩:=q;obtain⟨b,f,l,rfl⟩:=uy h;rw[O6 b 1 (by rw[l];simp at f;omega),l9 b,l];simp only;rcases hc:ku s n (j+1) with e|⟨d,r⟩
 .exact xC.err qo a hc
 obtain⟨y,m,o,t,u⟩:=xC.ok qo a hc;rw[m];exact⟨_,rfl,⟨L,rfl,o⟩,qo,qo⟩
def aau(x:Ql)(y:qc):Prop:=x.nameAt=y.at_/\x.name=y.name/\x.Tc=y.what/\EY x.idx y.x
theorem abJ:yc s aau nA (LK s):=by
 intro n i d a;unfold nA;have u:LK s ⟨i,n,none⟩=(⟨i,(fH s 0 20 ⟨i,n,none⟩).1,(dO s (if kF (fH s 0 20 ⟨i,n,none⟩).1 0=true then(fH s 0 20 ⟨i,n,none⟩).2 else dL (fH s 0 20 ⟨i,n,none⟩).2 i)).1,((uS s (uU s 3 (if kF (fH s 0 20 ⟨i,n,none⟩).1 0=true then(fH s 0 20 ⟨i,n,none⟩).2 else dL (fH s 0 20 ⟨i,n,none⟩).2 i))).1,(uU s 3 (if kF (fH s 0 20 ⟨i,n,none⟩).1 0=true then(fH s 0 20 ⟨i,n,none⟩).2 else dL (fH s 0 20 ⟨i,n,none⟩).2 i)).at_)⟩,(uS s (uU s 3 (if kF (fH s 0 20 ⟨i,n,none⟩).1 0=true then(fH s 0 20 ⟨i,n,none⟩).2 else dL (fH s 0 20 ⟨i,n,none⟩).2 i))).2):=rfl;rw[u];have hbad:∀{p:Nat},(fH s 0 20 ⟨i,n,none⟩).2.bad=some p->(uS s (uU s 3 (if kF (fH s 0 20 ⟨i,n,none⟩).1 0=true then(fH s 0 20 ⟨i,n,none⟩).2 else dL (fH s 0 20 ⟨i,n,none⟩).2 i))).2.bad=some p:=fun {p} h=>by
  refine rQ _ _ (Dx 3 _ _ ?_);split
  .exact h
  exact iy h
 rcases hc:eZ 20 s n i with e|q
 .obtain⟨U,L⟩:=MP d a hc;exact⟨U,hbad L⟩
 obtain⟨k,j⟩:=q;simp only;rcases g:kZ k s n j with e|q
 .obtain⟨U,L⟩:=MO d a hc g;exact⟨U,hbad L⟩
 obtain⟨t,l⟩:=q;obtain⟨U,L,h3⟩:=VF d a hc g;clear hbad;rw[U];simp only;by_cases b:kF t 0=true
 .rw[if_neg (by rw[b];decide),if_pos b];rcases m:iO [0,1,2,3] s n l with e|q
  .obtain⟨c,f⟩:=Jz (k:=3) (fun x hx=>by simp;omega) m;exact⟨c,rQ _ _ f⟩
  obtain⟨x,z⟩:=q;obtain⟨c,f,o,rfl⟩:=uy m;rw[O6 c 3 (by rw[o];simp at f;omega),l9 c,o];simp only;rcases r:uM s n (l+1) with e|⟨v,A⟩
  .exact rW qo a r
  obtain⟨y,rfl,w,B,C⟩:=wV qo a r;rw[w];exact⟨_,rfl,⟨rfl,rfl,rfl,rfl,rfl⟩,qo,qo⟩
 rw[if_pos (by simpa using b),if_neg b];exact⟨rfl,rQ _ _ (Dx 3 _ _ rfl)⟩
def tyR(t:Ty)(q:qS×qS):Prop:=KR t.ins q.1/\KR t.outs q.2
theorem abI:yc s tyR vT (OE s):=by
 intro n i o c;unfold vT OE;rcases g:iO [96] s n i with e|q
 .obtain⟨U,L⟩:=uA g;exact⟨U,EM 4 _ _ (EM 8 _ _ L)⟩
 obtain⟨x,j⟩:=q;obtain⟨U,L,h3,rfl⟩:=uy g;simp at L;rw[xq U 96 (by rw[h3,L])];simp only;rcases h:dY 8 kJ s n (i+1) with e|q
 .obtain⟨d,f⟩:=(AV 8).err qo c h;exact⟨d,EM 4 _ _ f⟩
 obtain⟨a,k⟩:=q;obtain⟨y,d,f,p,r⟩:=(AV 8).ok qo c h;rw[d];simp only;rcases hb:dY 4 kJ s n k with e|⟨b,t⟩
 .exact(AV 4).err qo c hb
 obtain⟨z,l,m,u,v⟩:=(AV 4).ok qo c hb;rw[l];exact⟨_,rfl,⟨f,m⟩,qo,qo⟩
theorem VP:∀(k:Nat) (M:List (Nat×Nat)) (Z:RS),rM s k M Z=GI (uR s) k M Z
 | 0,_,_=>rfl
 | k+1,M,Z=>by
  unfold rM GI;rw[VP k];rfl
theorem VQ{most:Nat}:lQ s most=Ls s most (uR s):=by
 funext Z
 exact VP _ _ _
theorem zX(most:Nat):yc s (nD EY) (dY most uM) (lQ s most):=by rw[VQ];exact yM VJ most
theorem Dv(most:Nat):Ib (lQ s most):=by rw[VQ];exact yK most
def acL(x:Qi)(y:lJ):Prop:=x.at_=y.at_/\aaC x.place y.place/\nD EY x.funcs y.funcs
theorem Zp:yc s acL xW (Em s):=by
 intro n i m a;unfold xW Em;rcases g:iO [0] s n i with e|q
 .obtain⟨U,L⟩:=uA g;exact⟨U,Dv 20 _ _ (AR _ _ L)⟩
 obtain⟨x,j⟩:=q;obtain⟨U,L,h3,rfl⟩:=uy g;simp at L;rw[xq U 0 (by rw[h3,L])];simp only;rcases hc:ku s n (i+1) with e|q
 .obtain⟨d,f⟩:=xC.err qo a hc;exact⟨d,Dv 20 _ _ f⟩
 obtain⟨c,h⟩:=q;obtain⟨y,d,f,o,p⟩:=xC.ok qo a hc;rw[d];simp only;rcases hb:dY 20 uM s n h with e|⟨b,r⟩
 .exact(zX 20).err qo a hb
 obtain⟨z,k,l,t,u⟩:=(zX 20).ok qo a hb;rw[k];exact⟨_,rfl,⟨rfl,f,l⟩,qo,qo⟩
def acO(x:Dat)(y:lJ):Prop:=x.at_=y.at_/\aaC x.place y.place/\x.bytes=y.bytes/\y.funcs=[]
theorem Xg:yc s acO xe (zq s):=by
 intro n i r a;unfold xe zq;rcases h:iO [0] s n i with e|q
 .obtain⟨U,L⟩:=uA h;exact⟨U,yJ 0 100 _ _ (AR _ _ L)⟩
 obtain⟨x,j⟩:=q;obtain⟨U,L,h3,rfl⟩:=uy h;simp at L;rw[xq U 0 (by rw[h3,L])];simp only;rcases hc:ku s n (i+1) with e|q
 .obtain⟨b,d⟩:=xC.err qo a hc;exact⟨b,yJ 0 100 _ _ d⟩
 obtain⟨c,m⟩:=q;obtain⟨y,b,d,u,f⟩:=xC.ok qo a hc;rw[b];simp only;rcases g:eZ 100 s n m with e|q
 .exact MP f a g
 obtain⟨k,o⟩:=q;simp only;rcases l:kZ k s n o with e|⟨t,v⟩
 .exact MO f a g l
 obtain⟨p,w,z⟩:=VF f a g l;rw[p];exact⟨_,rfl,⟨rfl,d,rfl,rfl⟩,qo,qo⟩
end
def Pn:List Nat:=[12,13,14,16,17,32,33,34,35,36]
structure aa6(a x:Nat)(y:ic)(i:fA):Prop where
 op:i.op=x
 at_:i.at_=a
 blk:x∈[2,3,4]->(y.typed=true/\i.dH=2/\y.num.1=i.xn/\y.num.2=i.pX/\0<=i.xn)\/(y.typed=false/\y.dH=[]/\i.dH=0)\/(y.typed=false/\i.dH=1/\∃k,y.dH=[k]/\Rl k i.kind)
 idx:x∈Pn->y.num.1=i.xn/\y.num.2=i.pX/\0<=i.xn
 lab:x=14->nD EY y.dF i.dF
 mem:40<=x/\x<=58->y.align=i.xn/\0<=i.xn
 nol:x≠14->i.dF=[]
 nn:0<=i.xn
 few:i.dF.length<=20
theorem NF:∀x:Fin 256,(dN x.val).data.toList.isEmpty=!(decide (x.val∈iL)||rF x.val):=by decide+kernel
section
variable {s:qS} {n i j:Nat} {e:Err}
theorem Xc(ins:fA):Ib (iZ s ins):=fun Z p h=>by
 unfold iZ;rw[if_pos (iI h)];exact h
theorem IV(ins:fA):Ib (uX s ins):=fun Z p h=>rQ Z p h
theorem IW(ins:fA):Ib (gK s ins):=fun Z p h=>by
 unfold gK;split
 .exact Xc _ _ _ h
 split
 .exact VH _ _ h
 split
 .exact VH _ _ h
 split
 .exact nN 0 _ _ h
 split
 .exact nN 0 _ _ (IV _ _ _ h)
 split
 .exact IV _ _ _ (Dv 20 _ _ h)
 split
 .exact IV _ _ _ h
 split
 .exact rQ _ _ (IV _ _ _ h)
 exact h
theorem Zf(op:Nat)(opn:qS)(a:Nat):Ib (jW op opn a):=fun Z p h=>by
 unfold jW;split
 .exact iy h
 split
 .exact h
 split
 .exact h
 split
 .exact iy h
 split
 .exact h
 split
 .exact h
 exact h
theorem af3(ins:fA)(h:i<n)(hb:bt s i=64):iZ s ins ⟨i,n,none⟩=(ins,⟨i+1,n,none⟩):=by simp[iZ,h,hb]
theorem acD(ins:fA)(h:i<n)(hb:bt s i=127\/bt s i=126):iZ s ins ⟨i,n,none⟩=({ins with dH:=1,kind:=kl (bt s i)},⟨i+1,n,none⟩):=by
 have X:jq s ⟨i,n,none⟩=(kl (bt s i),⟨i+1,n,none⟩):=by
  unfold jq;rw[l9 h];rcases hb with hb | hb<;>(rw[hb];rfl)
 have a:¬bt s i=64:=qo;simp[iZ,h,hb,a,X]
theorem aan(ins:fA)(h:¬(i<n/\bt s i=64))(h':¬(i<n/\(bt s i=127\/bt s i=126))):iZ s ins ⟨i,n,none⟩=({ins with dH:=2,xn:=(sS s 4 16 32 3 ⟨i,n,none⟩).1,pX:=i},if(sS s 4 16 32 3 ⟨i,n,none⟩).1<0 then dL (sS s 4 16 32 3 ⟨i,n,none⟩).2 i else(sS s 4 16 32 3 ⟨i,n,none⟩).2):=by
 unfold iZ;rw[if_neg (fun c=>c rfl),if_neg h,if_neg h']
theorem Ya{a x:Nat}(hx:x∈[2,3,4])(q:i<=n)(r:n<=s.size):match jI s n i with
  | .ok (y,j)=>∃ins,iZ s (fV x a) ⟨i,n,none⟩=(ins,⟨j,n,none⟩)/\aa6 a x y ins/\i<=j/\j<=n
  | .error e=>e.1=2/\(iZ s (fV x a) ⟨i,n,none⟩).2.bad=some e.2:=by
 have k:¬x∈Pn:=fun c=>by simp at hx;simp[Pn] at c;omega
 have l:¬x=14:=fun c=>by simp at hx;omega
 have m:¬(40<=x/\x<=58):=fun c=>by simp at hx;omega
 by_cases h:i<n
 .have hp:o6 s n i=.ok (bt s i,i):=by simp[o6,h]
  by_cases b:bt s i=127\/bt s i=126
  .have hb:jI s n i=.ok ({ic.none with dH:=[bt s i]},i+1):=by
    unfold jI;rw[hp];exact if_pos b
   rw[hb,acD _ h b];exact⟨_,rfl,⟨rfl,rfl,fun _=>.inr (.inr ⟨rfl,rfl,bt s i,rfl,b,rfl⟩),fun c=>absurd c k,fun c=>absurd c l,fun c=>absurd c m,fun _=>rfl,Int.le_refl _,qZ⟩,qo,qo⟩
  by_cases f:bt s i=64
  .have hb:jI s n i=.ok (ic.none,i+1):=by
    unfold jI;rw[hp];exact(if_neg b).trans (if_pos f)
   rw[hb,af3 _ h f];exact⟨_,rfl,⟨rfl,rfl,fun _=>.inr (.inl ⟨rfl,rfl,rfl⟩),fun c=>absurd c k,fun c=>absurd c l,fun c=>absurd c m,fun _=>rfl,Int.le_refl _,qZ⟩,qo,qo⟩
  rw[aan _ (fun c=>f c.2) (fun c=>b c.2)];rcases d:sM 4 5 s n i with e|⟨v,j⟩
  .have hb:jI s n i=.error e:=by
    unfold jI;rw[hp,d];exact(if_neg b).trans (if_neg f)
   rw[hb];obtain⟨o,p⟩:=VK.err q r d;refine⟨o,?_⟩;simp only;split
   .exact iy p
   exact p
  have hb:jI s n i=if v<0 then .error (2,i) else .ok ({ic.none with typed:=true,num:=(v%4294967296,i)},j):=by
   unfold jI;rw[hp,d];exact(if_neg b).trans (if_neg f)
  rw[hb];obtain⟨u,o,⟨rfl,p⟩,t,w⟩:=VK.ok q r d;rw[o];by_cases g:v<0
  .rw[if_pos g];simp only;rw[if_pos g];exact⟨trivial,rfl⟩
  rw[if_neg g];simp only;rw[if_neg g];have z:v%4294967296=v:=qo;exact⟨_,rfl,⟨rfl,rfl,fun _=>.inl ⟨rfl,rfl,z,rfl,by show 0<=v;omega⟩,fun c=>absurd c k,fun c=>absurd c l,fun c=>absurd c m,fun _=>rfl,by show 0<=v;omega,qZ⟩,t,w⟩
 have hp:o6 s n i=.error (2,n):=by simp[o6,h]
 have hb:jI s n i=.error (2,n):=by
  unfold jI;rw[hp]
 rw[hb,aan _ (fun c=>h c.1) (fun c=>h c.1)];refine⟨rfl,?_⟩;have d:(sS s 4 16 32 3 ⟨i,n,none⟩).2.bad=some n:=by
  unfold sS rX;rw[sN h];simp
 simp only;split
 .exact iy d
 exact d
theorem VE{ins:fA}{y:Nat}(h:uS s ⟨i,n,none⟩=(y,⟨j,n,none⟩)):uX s ins ⟨i,n,none⟩=({ins with xn:=(y:Int),pX:=i},⟨j,n,none⟩):=by
 unfold uX;rw[h]
theorem acR{a x:Nat}(hx:x∈iL\/rF x=true)(g:i<=n)(d:n<=s.size):match jc a x s n i with
  | .ok (y,j)=>∃ins,gK s (fV x a) ⟨i,n,none⟩=(ins,⟨j,n,none⟩)/\aa6 a x y ins/\i<=j/\j<=n
  | .error e=>e.1=2/\(gK s (fV x a) ⟨i,n,none⟩).2.bad=some e.2:=by
 have o:(fV x a).op=x:=rfl;by_cases U:x∈[2,3,4]
 .have J:jc a x s n i=jI s n i:=by unfold jc;rw[if_pos U]
  have f:gK s (fV x a) ⟨i,n,none⟩=iZ s (fV x a) ⟨i,n,none⟩:=by unfold gK;rw[o,if_pos (by simpa using U)]
  rw[J,f];exact Ya U g d
 have r:¬(x=2\/x=3\/x=4):=by simpa using U
 have hnb:∀{y:ic} {ins:fA},x∈[2,3,4]->(y.typed=true/\ins.dH=2/\y.num.1=ins.xn/\y.num.2=ins.pX/\0<=ins.xn)\/(y.typed=false/\y.dH=[]/\ins.dH=0)\/(y.typed=false/\ins.dH=1/\∃k,y.dH=[k]/\Rl k ins.kind):=fun c=>absurd c U;by_cases m:x∈[14]
 .have af2:x=14:=by simpa using m
  have f:gK s (fV x a) ⟨i,n,none⟩=uX s {fV x a with dF:=(lQ s 20 ⟨i,n,none⟩).1} (lQ s 20 ⟨i,n,none⟩).2:=by
   unfold gK;rw[o,if_neg r,if_neg qo,if_neg qo,if_neg qo,if_neg qo,if_pos af2];rfl
  rw[f];unfold jc;rw[if_neg U,if_pos m];rcases O:dY 20 uM s n i with e|q
  .obtain⟨g1,w⟩:=(zX 20).err g d O;exact⟨g1,IV _ _ _ w⟩
  obtain⟨ls,t⟩:=q;obtain⟨ys,g1,w,g3,g4⟩:=(zX 20).ok g d O;rw[g1];simp only;rcases l:uM s n t with e|⟨v,K⟩
  .exact rW g4 d l
  obtain⟨y,rfl,z,L,C⟩:=wV g4 d l;rw[VE z];exact⟨_,rfl,⟨rfl,rfl,hnb,fun _=>⟨rfl,rfl,Int.natCast_nonneg _⟩,fun _=>w,fun c=>qo,fun c=>absurd af2 c,Int.natCast_nonneg _,by rw[show ys=(lQ s 20 ⟨i,n,none⟩).1 by rw[g1]];exact DF 20⟩,qo,qo⟩
 have Ro:¬x=14:=by simpa using m
 by_cases p:x∈[40,41,44,45,54,55,58]
 .have hm2:40<=x/\x<=58:=by simp at p;omega
  have f:gK s (fV x a) ⟨i,n,none⟩=({(uX s (fV x a) ⟨i,n,none⟩).1 with off:=((uS s (uX s (fV x a) ⟨i,n,none⟩).2).1:Nat)},(uS s (uX s (fV x a) ⟨i,n,none⟩).2).2):=by
   unfold gK;rw[o,if_neg r,if_neg qo,if_neg qo,if_neg qo,if_neg qo,if_neg Ro,if_neg qo,if_pos hm2]
  rw[f];unfold jc;rw[if_neg U,if_neg m,if_pos p];have hni:¬x∈Pn:=fun c=>by simp[Pn] at c;omega
  rcases l:uM s n i with e|q
  .obtain⟨g1,w⟩:=rW g d l;exact⟨g1,rQ _ _ w⟩
  obtain⟨v,t⟩:=q;obtain⟨y,rfl,z,L,C⟩:=wV g d l;rw[VE z];simp only;rcases hw:uM s n t with e|⟨v2,K⟩
  .exact rW C d hw
  obtain⟨T,rfl,l2,G,V⟩:=wV C d hw;rw[l2];exact⟨_,rfl,⟨rfl,rfl,hnb,fun c=>absurd c hni,fun c=>absurd c Ro,fun _=>⟨rfl,Int.natCast_nonneg _⟩,fun _=>rfl,Int.natCast_nonneg _,qZ⟩,qo,qo⟩
 by_cases hp:x∈[12,13,16,32,33,34,35,36]
 .have hp2:x=12\/x=13\/x=16\/(32<=x/\x<=36):=by simp at hp;omega
  have f:gK s (fV x a) ⟨i,n,none⟩=uX s (fV x a) ⟨i,n,none⟩:=by
   unfold gK;rw[o,if_neg r,if_neg qo,if_neg qo,if_neg qo,if_neg qo,if_neg Ro,if_pos hp2]
  rw[f];unfold jc;rw[if_neg U,if_neg m,if_neg p,if_pos hp];rcases l:uM s n i with e|⟨v,t⟩
  .exact rW g d l
  obtain⟨y,rfl,z,L,C⟩:=wV g d l;rw[VE z];exact agf
 have R:¬(x=12\/x=13\/x=16\/(32<=x/\x<=36)):=fun c=>hp qt;by_cases A:x∈[17]
 .have ahv:x=17:=by simpa using A
  have f:gK s (fV x a) ⟨i,n,none⟩=((uX s (fV x a) ⟨i,n,none⟩).1,gY s 0 (uX s (fV x a) ⟨i,n,none⟩).2):=by
   unfold gK;rw[o,if_neg r,if_neg qo,if_neg qo,if_neg qo,if_pos ahv]
  rw[f];unfold jc;rw[if_neg U,if_neg m,if_neg p,if_neg hp,if_pos A];rcases l:uM s n i with e|q
  .obtain⟨g1,w⟩:=rW g d l;exact⟨g1,nN 0 _ _ w⟩
  obtain⟨v,t⟩:=q;obtain⟨y,rfl,z,L,C⟩:=wV g d l;rw[VE z];simp only;rcases D:iO [0] s n t with e|⟨b,K⟩
  .exact uA D
  obtain⟨l1,l2,G,rfl⟩:=uy D;simp at l2;rw[xq l1 0 (by rw[G,l2])];exact agf
 have S:¬x=17:=by simpa using A
 have hni:¬x∈Pn:=fun c=>by simp[Pn] at c;omega
 by_cases B:x∈[63,64]
 .have M:x=63\/x=64:=by simpa using B
  have f:gK s (fV x a) ⟨i,n,none⟩=(fV x a,gY s 0 ⟨i,n,none⟩):=by
   unfold gK;rw[o,if_neg r,if_neg qo,if_neg qo,if_pos M]
  rw[f];unfold jc;rw[if_neg U,if_neg m,if_neg p,if_neg hp,if_neg A,if_pos B];rcases D:iO [0] s n i with e|⟨b,K⟩
  .exact uA D
  obtain⟨l1,l2,G,rfl⟩:=uy D;simp at l2;rw[xq l1 0 (by rw[G,l2])];exact⟨_,rfl,⟨rfl,rfl,hnb,fun c=>absurd c hni,fun c=>absurd c Ro,fun c=>qo,fun _=>rfl,Int.le_refl _,qZ⟩,qo,qo⟩
 have M:¬(x=63\/x=64):=by simpa using B
 by_cases E:x∈[65]
 .have H:x=65:=by simpa using E
  have f:gK s (fV x a) ⟨i,n,none⟩=({fV x a with val:=(sS s 4 8 16 7 ⟨i,n,none⟩).1},(sS s 4 8 16 7 ⟨i,n,none⟩).2):=by
   unfold gK;rw[o,if_neg r,if_pos H];rfl
  rw[f];unfold jc;rw[if_neg U,if_neg m,if_neg p,if_neg hp,if_neg A,if_neg B,if_pos E];rcases F:sM 4 4 s n i with e|⟨v,t⟩
  .exact Ht.err g d F
  obtain⟨u,g1,-,g3,g4⟩:=Ht.ok g d F;exact aea
 have H:¬x=65:=by simpa using E
 by_cases I:x∈[66]
 .have N:x=66:=by simpa using I
  have f:gK s (fV x a) ⟨i,n,none⟩=({fV x a with val:=(sS s 9 1 2 63 ⟨i,n,none⟩).1},(sS s 9 1 2 63 ⟨i,n,none⟩).2):=by
   unfold gK;rw[o,if_neg r,if_neg H,if_pos N];rfl
  rw[f];unfold jc;rw[if_neg U,if_neg m,if_neg p,if_neg hp,if_neg A,if_neg B,if_neg E,if_pos I];rcases F:sM 9 1 s n i with e|⟨v,t⟩
  .exact Hr.err g d F
  obtain⟨u,g1,-,g3,g4⟩:=Hr.ok g d F;exact aea
 have N:¬x=66:=by simpa using I
 have hb:rF x=true:=by
  rcases hx with hx | hx
  .exfalso
   simp[iL] at hx;simp at p;omega
  exact hx
 have Q:¬(40<=x/\x<=58):=fun c=>by
  simp[rF] at hb;omega
 have f:gK s (fV x a) ⟨i,n,none⟩=(fV x a,⟨i,n,none⟩):=by
  unfold gK;rw[o,if_neg r,if_neg H,if_neg N,if_neg M,if_neg S,if_neg Ro,if_neg R,if_neg Q]
 have J:jc a x s n i=.ok (ic.none,i):=by
  unfold jc;rw[if_neg U,if_neg m,if_neg p,if_neg hp,if_neg A,if_neg B,if_neg E,if_neg I,if_pos hb]
 rw[J,f];exact⟨_,rfl,⟨rfl,rfl,hnb,fun c=>absurd c hni,fun c=>absurd c Ro,fun c=>absurd c Q,fun _=>rfl,Int.le_refl _,qZ⟩,qo,qo⟩
end
def nl(x:Nat):Nat:=if x=4 then 105 else if x=5 then 101 else 98
def BH(os:List Nat)(b:qS):Prop:=tl b 0=os.map nl/\∀x∈os,x=2\/x=3\/x=4\/x=5
def Str(s:qS)(n:Nat):List fA->List Nat->Nat->Nat->Nat->Prop
 | [],os,j,en,e=>j<n/\bt s j=11/\os=[]/\en=j/\e=j+1
 | i::is,os,j,en,e=>j<n/\¬(bt s j=11/\os=[])/\∃os' y j2,je os j (bt s j)=.ok os'/\jc j (bt s j) s n (j+1)=.ok (y,j2)/\aa6 j (bt s j) y i/\Str s n is os' j2 en e
section
variable {α β:Type} {s:qS} {n i j:Nat} {e:Err}
theorem BH.size{os:qM}{b:qS}(h:BH os b):b.size=os.length:=by rw[<-TC,h.1,List.length_map]
theorem Za{b:qS}{k:Nat}(h:k<b.size):(tl b 0)[k]?=some (bt b k):=by
 rw[zH h];simp[tl,h];rfl
theorem Iy(b:qS)(k:Nat):tl (b.extract 0 k) 0=(tl b 0).take k:=by
 simp[tl,ByteArray.data_extract]
theorem XF{os:qM}{b:qS}(h:BH os b):(b.size=0\/bt b (b.size - 1)≠105)↔os.getLast?≠some 4:=by
 have d:=h.size;by_cases f:b.size=0
 .have:os=[]:=List.eq_nil_of_length_eq_zero qo;subst this;simp[f]
 have X:b.size - 1<b.size:=qo;have U:=Za X;rw[h.1,List.getElem?_map,d] at U;rw[List.getLast?_eq_getElem?];cases a:os[os.length - 1]? with
 | none=>rw[a] at U;simp at U
 | some x=>
  rw[a] at U;simp at U;have hx:=h.2 x (List.mem_of_getElem? a);have g:¬os.length=0:=qo;rw[d,<-U];unfold nl;rcases hx with rfl | rfl | rfl | rfl
  .simp
  .simp
  .simpa using fun c=>g (by rw[c];rfl)
  simp
theorem Nl{os:qM}{b:qS}(h:BH os b):BH os.dropLast (b.extract 0 (b.size - 1)):=by
 refine⟨?_,fun x hx=>h.2 x (List.mem_of_mem_take (by rw[<-List.dropLast_eq_take];exact hx))⟩;rw[Iy,h.1,h.size,List.dropLast_eq_take,List.map_take]
theorem Bc{os:qM}{b:qS}(h:BH os b)(x:Nat)(c:UInt8)(hx:x=2\/x=3\/x=4\/x=5)(hc:nl x=c.toNat):BH (os++[x]) (b++⟨#[c]⟩):=by
 refine⟨?_,fun y hy=>?_⟩
 .rw[AO,h.1,List.map_append];simp[tl,hc]
 simp at hy;rcases hy with hy | rfl
 .exact h.2 y hy
 exact hx
theorem ZO{os:qM}{b:qS}{x:Nat}(h:BH os b)(hx:x<256)(q:os.length<=50)(Z:RS):if(dN x).data.toList.isEmpty=true then jW x b j Z=(b,dL Z j) else match je os j x with
  | .ok os'=>∃l,jW x b j Z=(l,Z)/\BH os' l/\os'.length<=50
  | .error e=>e=(2,j)/\(jW x b j Z).2=dL Z j:=by
 by_cases hw:(dN x).data.toList.isEmpty=true
 .rw[if_pos hw];exact Ju hw
 rw[if_neg hw];have t:=h.size;unfold je;by_cases U:x∈[2,3,4]
 .rw[if_pos U];have f:x=4\/x=2\/x=3:=by simp at U;omega
  by_cases m:os.length=50
  .rw[if_pos m];exact⟨rfl,by rw[zg f qo]⟩
  rw[if_neg m];have g:¬50<=b.size:=qo;rcases f with h4 | L | h3
  .exact⟨_,QM h4 g,Bc h x 105 qo (by rw[h4];rfl),qt⟩
  .exact⟨_,FY L g,Bc h x 98 qo (by rw[L];rfl),qt⟩
  exact⟨_,Jv h3 g,Bc h x 98 qo (by rw[h3];rfl),qt⟩
 rw[if_neg U];have f:¬(x=2\/x=3\/x=4):=by simpa using U
 have o:=XF h;by_cases h5:x=5
 .rw[if_pos h5];by_cases a:os.getLast?=some 4
  .rw[if_pos a];have hc:¬(b.size=0\/bt b (b.size - 1)≠105):=fun c=>o.1 c a;have k:tV b=105:=by
    unfold tV;rw[if_neg (fun c=>hc (.inl c))];exact Decidable.of_not_not (fun c=>hc (.inr c))
   have r:os.dropLast.length+1<=50:=by
    have:os≠[]:=fun c=>by rw[c] at a;simp at a
    have:=List.length_pos_iff.2 this;simp;omega
   exact⟨_,FW h5 k,Bc (Nl h) 5 101 qo rfl,by simpa using r⟩
  rw[if_neg a];have k:¬tV b=105:=fun c=>by
   rcases o.2 a with d | d
   .unfold tV at c;rw[if_pos d] at c;exact absurd c qx
   unfold tV at c;by_cases p:b.size=0
   .rw[if_pos p] at c;exact absurd c qx
   rw[if_neg p] at c;exact d c
  exact⟨rfl,by rw[FX h5 k]⟩
 rw[if_neg h5];by_cases h11:x=11
 .rw[if_pos h11];exact⟨_,Nk h11,Nl h,qt⟩
 rw[if_neg h11];exact⟨_,FV hw h5 h11 qo qo qo,h,q⟩
theorem yY{Z:RS}{opn:qS}{M:List fA}(h:Z.bad≠none):∀(f:Nat),jr s f opn M Z=(M,0,Z)
 | 0=>rfl
 | f+1=>by
  unfold jr;rw[if_pos h]
theorem Oa{f:Nat}{opn:qS}{M:List fA}(h:¬((dO s ⟨j,n,none⟩).1=11/\opn.size=0)):jr s (f+1) opn M ⟨j,n,none⟩=jr s f (jW (dO s ⟨j,n,none⟩).1 opn j (dO s ⟨j,n,none⟩).2).1 (M++[(gK s (fV (dO s ⟨j,n,none⟩).1 j) (jW (dO s ⟨j,n,none⟩).1 opn j (dO s ⟨j,n,none⟩).2).2).1]) (gK s (fV (dO s ⟨j,n,none⟩).1 j) (jW (dO s ⟨j,n,none⟩).1 opn j (dO s ⟨j,n,none⟩).2).2).2:=by
 conv=>lhs;unfold jr
 rw[if_neg (fun c=>c rfl),if_neg h]
theorem Sg{f:Nat}{opn:qS}{M:List fA}(h:¬j<n):(jr s (f+1) opn M ⟨j,n,none⟩).2.2.bad=some n:=by
 rw[Oa (by rw[sN h];simp),sN h];have U:(gK s (fV 0 j) (jW 0 opn j ⟨j,n,some n⟩).2).2.bad=some n:=IW _ _ _ (Zf 0 opn j _ _ rfl);rw[yY (iI U)];exact U
theorem aaE(z:n<=s.size):∀(fuel:Nat) (os:qM) (j f:Nat) (opn:qS) (M:List fA),n - j<=fuel->n - j<f->BH os opn->os.length<=50->j<=n->match mo s n fuel os j with
  | .ok e=>∃k l,jr s f opn M ⟨j,n,none⟩=(M++k,l,⟨e,n,none⟩)/\Str s n k os j l e/\j<=e/\e<=n
  | .error er=>er.1=2/\(jr s f opn M ⟨j,n,none⟩).2.2.bad=some er.2:=by
 intro fuel;induction fuel with
 | zero=>intro os j f opn M U L _ _ _;obtain⟨g,rfl⟩:∃g,f=g+1:=⟨f - 1,qo⟩;exact⟨rfl,Sg qo⟩
 | succ fuel A=>
  intro os j f opn M U L v B S;obtain⟨g,rfl⟩:∃g,f=g+1:=⟨f - 1,qo⟩;unfold mo;by_cases h:j<n
  .rw[eB h];have q:=xg s j;have w:=v.size;simp only;by_cases d:bt s j=11/\os=[]
   .rw[if_pos d];obtain⟨m,C⟩:=d;subst C;have hb:jc j (bt s j) s n (j+1)=.ok (ic.none,j+1):=by rw[m];rfl
    rw[hb];simp only;rw[if_pos ⟨m,trivial⟩];refine⟨[],j,?_,⟨h,m,rfl,rfl,rfl⟩,qo,qo⟩;unfold jr;rw[if_neg (fun c=>c rfl),l9 h,if_pos ⟨m,by rw[w];rfl⟩,List.append_nil]
   rw[if_neg d];have D:¬((dO s ⟨j,n,none⟩).1=11/\opn.size=0):=by
    rw[l9 h];exact fun c=>d ⟨c.1,List.eq_nil_of_length_eq_zero (by rw[<-w];exact c.2)⟩
   rw[Oa D,l9 h];simp only;have b:=ZO (j:=j) v q B ⟨j+1,n,none⟩;by_cases hw:(dN (bt s j)).data.toList.isEmpty=true
   .rw[if_pos hw] at b;rw[b];have X:=NF ⟨bt s j,q⟩;simp only at X;rw[hw] at X;simp at X;have U:(gK s (fV (bt s j) j) (dL ⟨j+1,n,none⟩ j)).2.bad=some j:=IW _ _ _ rfl;rw[yY (iI U)];have E:je os j (bt s j)=.ok os:=by
     unfold je;have:¬bt s j∈[2,3,4]:=fun c=>X.1 (by simp[iL];simp at c;omega);rw[if_neg this,if_neg (fun c=>by rw[c] at X;exact absurd X.2 qx),if_neg (fun c=>by rw[c] at X;exact absurd X.2 qx)]
    rw[E];simp only;have F:jc j (bt s j) s n (j+1)=.error (2,j):=by
     have hf:=X.1;simp only[iL,List.mem_cons,List.not_mem_nil,or_false,not_or] at hf;unfold jc;simp[hf,X.2]
    rw[F];exact⟨rfl,U⟩
   rw[if_neg hw] at b;have X:=NF ⟨bt s j,q⟩;simp only at X;have G:bt s j∈iL\/rF (bt s j)=true:=by
    simp only[Bool.not_eq_true] at hw;rw[hw] at X;simp at X;by_cases hf:bt s j∈iL
    .exact .inl hf
    exact .inr (X hf)
   rcases r:je os j (bt s j) with er|os'
   .rw[r] at b;obtain⟨rfl,H⟩:=b;rw[H];have U:(gK s (fV (bt s j) j) (dL ⟨j+1,n,none⟩ j)).2.bad=some j:=IW _ _ _ rfl;rw[yY (iI U)];exact⟨rfl,U⟩
   rw[r] at b;obtain⟨I,J,K,N⟩:=b;rw[J];simp only;have o:=acR (a:=j) G (show j+1<=n by omega) z;rcases hb:jc j (bt s j) s n (j+1) with er|⟨y,t⟩
   .rw[hb] at o;obtain⟨u,p⟩:=o;rw[yY (iI p)];exact⟨u,p⟩
   rw[hb] at o;obtain⟨ins,u,p,T,O⟩:=o;rw[u];simp only;rw[if_neg d];have:=A os' t g I (M++[ins]) qo qo K N O;rcases x:mo s n fuel os' t with er|e
   .rw[x] at this;exact this
   rw[x] at this;obtain⟨k,l,P,Q,V,R⟩:=this;refine⟨ins::k,l,?_,⟨h,d,os',y,t,r,hb,p,Q⟩,qo,R⟩;rw[P];simp
  rw[iW h];exact⟨rfl,Sg h⟩
theorem KR.rep{ks:qM}{b:qS}{k c:Nat}(h:KR ks b)(a:Rl k c):∀m:Nat,KR (ks++List.replicate m k) (DD b c m)
 | 0=>by simpa [DD] using h
 | m+1=>by
  rw[List.replicate_succ',<-List.append_assoc];exact(KR.rep h a m).push a
theorem zh{Z:RS}(h:Z.bad≠none):∀(k:Nat) (M:qS),jh s k M Z=(M,Z)
 | 0,_=>rfl
 | k+1,M=>by
  unfold jh;rw[if_pos h]
theorem XL(a:n<=s.size):∀(k:Nat) (xs:qM) (b:qS) (j:Nat),KR xs b->xs.length<=50->j<=n->match iJ s n k xs j with
  | .ok (p,d)=>∃f,jh s k b ⟨j,n,none⟩=(f,⟨d,n,none⟩)/\KR p f/\j<=d/\d<=n
  | .error e=>e.1=2/\(jh s k b ⟨j,n,none⟩).2.bad=some e.2:=by
 intro k;induction k with
 | zero=>exact fun xs b j g _ l=>⟨b,rfl,g,qo,qo⟩
 | succ k w=>
  intro xs b j g D l;have E:=g.size;have x:jh s (k+1) b ⟨j,n,none⟩=if 50<b.size+(uS s ⟨j,n,none⟩).1 then(b,dL (uS s ⟨j,n,none⟩).2 j) else jh s k (DD b (jq s (uS s ⟨j,n,none⟩).2).1 (uS s ⟨j,n,none⟩).1) (jq s (uS s ⟨j,n,none⟩).2).2:=by
   conv=>lhs;unfold jh
   rw[if_neg (fun c=>c rfl)]
  rw[x];unfold iJ;rcases r:eZ (50 - xs.length) s n j with e|q
  .obtain⟨U,L⟩:=Cn l a r;refine⟨U,?_⟩;rcases L with L | ⟨L,h3,h4⟩
   .split
    .exact iy L
    have h5:=Zg (s:=s) _ _ L;rw[zh (iI h5)];exact h5
   rw[if_pos qo,h4];simp only;unfold dL;rw[L]
  obtain⟨m,y⟩:=q;obtain⟨U,L,h3,h4⟩:=E8 l a r;rw[U];simp only;rw[if_neg qo];rcases X:kJ s n y with e|q
  .obtain⟨o,h⟩:=yN.err h4 a X;rw[zh (iI h)];exact⟨o,h⟩
  obtain⟨t,u⟩:=q;obtain⟨c,o,h,F,z⟩:=yN.ok h4 a X;rw[o];simp only;have:=w (xs++List.replicate m t) (DD b c m) u (g.rep h m) qt z;rcases v:iJ s n k (xs++List.replicate m t) u with e|⟨p,d⟩
  .rw[v] at this;exact this
  rw[v] at this;obtain⟨f,A,B,G,C⟩:=this;exact⟨f,A,B,qo,C⟩
theorem IY:yc s KR nJ (kH s):=by
 intro n i b a;unfold nJ kH;rcases c:uM s n i with e|q
 .obtain⟨U,L⟩:=rW b a c;rw[zh (iI L)];exact⟨U,L⟩
 obtain⟨v,j⟩:=q;obtain⟨y,rfl,L,h3,h4⟩:=wV b a c;rw[L];simp only;have:=XL a y [] ⟨#[]⟩ j KR.nil qs h4;rw[show((y:Int)).toNat=y from rfl];rcases d:iJ s n y [] j with e|⟨l,m⟩
 .rw[d] at this;exact this
 rw[d] at this;obtain⟨f,g,h,o,k⟩:=this;exact⟨f,g,h,qo,k⟩
theorem IX:Ib (kH s):=fun Z p h=>by
 unfold kH;rw[zh (iI (rQ Z p h))];exact rQ Z p h
def aeV(s:qS)(x:YQ)(d:xY):Prop:=KR x.1 d.locals/\∃e,Str s x.2.2 d.code [] x.2.1 d.end_ e
def aeW(s:qS)(Z:RS):xY×RS:=(⟨(kH s Z).1,(mF s Z).1,(mF s Z).2.1⟩,(mF s Z).2.2)
theorem Zh:Ib (aeW s):=fun Z p h=>by
 show(mF s Z).2.2.bad=some p;unfold mF;rw[yY (iI (IX Z p h))];exact IX Z p h
theorem Zq:yc s (aeV s) oK (aeW s):=by
 intro n i c a;unfold oK aeW mF;rcases d:nJ s n i with e|⟨ls,j⟩
 .obtain⟨U,L⟩:=IY.err c a d;rw[yY (iI L)];exact⟨U,L⟩
 obtain⟨b,U,L,h3,h4⟩:=IY.ok c a d;rw[U];simp only;have:=aaE a (n - j) [] j (s.size+2) ⟨#[]⟩ [] qR qo ⟨rfl,qs⟩ qs h4;unfold zk;rcases f:mo s n (n - j) [] j with e|e
 .rw[f] at this;exact this
 rw[f] at this;obtain⟨l,m,g,h,o,k⟩:=this;rw[g];exact⟨_,rfl,⟨L,e,h⟩,qo,k⟩
def Tu{β:Type}(s:qS)(g:RS->β×RS)(Z:RS):β×RS:=((g (eP s Z).2).1,gV (eP s Z).1.1 (eP s Z).1.2 (g (eP s Z).2).2)
theorem CK{a b p:Nat}{Z:RS}(h:Z.bad=some p):(gV a b Z).bad=some p:=by
 unfold gV;simp only;split
 .exact h
 exact iy h
theorem afm{Z:RS}{p:Nat}(h:Z.bad=some p):(eP s Z).2.bad=some p:=by
 unfold eP;simp only;split
 .exact rQ Z p h
 exact rQ Z p h
theorem OU{R:α->β->Prop}{m:qS->Nat->Nat->Except Err (α×Nat)}{g:RS->β×RS}(h:yc s R m g)(r:Ib g):yc s R (fK m) (Tu s g):=by
 intro n i k f;unfold fK Tu;rcases l:uM s n i with e|q
 .obtain⟨U,L⟩:=rW k f l;refine⟨U,CK (r _ _ ?_)⟩;unfold eP;simp only;split
  .exact L
  exact L
 obtain⟨v,j⟩:=q;obtain⟨y,rfl,L,h3,h4⟩:=wV k f l;have hb:eP s ⟨i,n,none⟩=((n,j+y),if j+y<n then⟨j,j+y,none⟩ else⟨j,n,none⟩):=by
  unfold eP;rw[L]
 rw[hb];simp only;by_cases o:(n:Int) - (j:Int)<(y:Int)
 .rw[if_pos o,if_neg qo];rcases c:m s n j with e|⟨x,d⟩
  .obtain⟨a,b⟩:=h.err h4 f c;exact⟨a,CK b⟩
  obtain⟨u,a,b,t,w⟩:=h.ok h4 f c;rw[a];simp only;refine⟨trivial,?_⟩;unfold gV;rw[if_neg (by show ¬d=j+y;omega)];rfl
 rw[if_neg o];have z:((y:Int)).toNat=y:=rfl;rw[z];have A:(if j+y<n then(⟨j,j+y,none⟩:RS) else⟨j,n,none⟩)=⟨j,j+y,none⟩:=by
  split
  .rfl
  rw[show n=j+y by omega]
 rw[A];rcases c:m s (j+y) j with e|⟨x,d⟩
 .obtain⟨a,b⟩:=h.err qo qo c;exact⟨a,CK b⟩
 obtain⟨u,a,b,t,w⟩:=h.ok qo qo c;rw[a];simp only;by_cases p:d<j+y
 .rw[if_pos p];refine⟨rfl,?_⟩;unfold gV;rw[if_neg (by show ¬d=j+y;omega)];rfl
 rw[if_neg p];refine⟨u,?_,b,qo,qo⟩;unfold gV;rw[if_pos (by show d=j+y;omega)]
theorem abK:yc s (aeV s) vg (Kj s):=OU Zq Zh
theorem Kh:∀(k:Nat) (M:List xY) (Z:RS),jC s k M Z=GI (Kj s) k M Z
 | 0,_,_=>rfl
 | k+1,M,Z=>by
  unfold jC GI;rw[Kh k]
end
def Ux(M:List zM)(least:Nat):Prop:=(M=[]/\least=0)\/(0<M.length/\(M.getD (M.length - 1) (0,⟨#[]⟩)).1+1=least)
section
variable {s:qS} {n i j:Nat} {e:Err}
theorem VV{M:List zM}{a many v:Nat}(h:Ux M a):xQ many M v=true↔(v<a\/many<=v):=by
 unfold xQ;rcases h with⟨rfl,rfl⟩ | ⟨U,L⟩
 .simp
 simp only[Bool.or_eq_true,Bool.and_eq_true,decide_eq_true_eq];omega
theorem aeB{M:List zM}{t:qS}:DR M t M.length=(iE t&&!qQ M t):=by
 unfold DR qQ;rw[List.take_length];congr 1
 rw[List.not_any_eq_all_not];congr 1
 funext p
 rw[vw];by_cases hp:p.2=t<;>simp[hp]
theorem afD(many:Nat)(M:List zM):Ib (uz s many M):=fun Z p h=>by
 have U:=rQ (s:=s) Z p h;have L:(if xQ many M (uS s Z).1=true then dL (uS s Z).2 Z.at_ else(uS s Z).2).bad=some p:=by
  split
  .exact iy U
  exact U
 have h3:∀a:RS,a.bad=some p->(if DR M (fH s 1 20 a).1 M.length=true then(fH s 1 20 a).2 else dL (fH s 1 20 a).2 a.at_).bad=some p:=fun a h=>by
  split
  .exact yJ 1 20 _ _ h
  exact iy (yJ 1 20 _ _ h)
 exact h3 _ L
theorem WZ{e:Err}(a:i<=n)(b:n<=s.size)(h:eZ 20 s n i=.error e):e.1=2/\(fH s 1 20 ⟨i,n,none⟩).2.bad=some e.2:=by
 obtain⟨U,L⟩:=Cn a b h;refine⟨U,?_⟩;have h3:(if(uS s ⟨i,n,none⟩).1<1\/20<(uS s ⟨i,n,none⟩).1 then dL (uS s ⟨i,n,none⟩).2 i else(uS s ⟨i,n,none⟩).2).bad=some e.2:=by
  exact adZ
 unfold fH;simp only;rw[if_pos (iI h3)];exact h3
theorem TF(h:uS s ⟨i,n,none⟩=(0,⟨j,n,none⟩)):(fH s 1 20 ⟨i,n,none⟩).2.bad=some i:=by
 unfold fH;rw[h];simp[dL]
theorem ZX{M:List zM}{l many:Nat}(m:Ux M l)(o:j<=n)(d:n<=s.size):match wY M l many s n j with
  | .ok (x,j')=>uz s many M ⟨j,n,none⟩=(x,⟨j',n,none⟩)/\j<=j'/\j'<=n
  | .error e=>e.1=2/\(uz s many M ⟨j,n,none⟩).2.bad=some e.2:=by
 have r:uz s many M ⟨j,n,none⟩=(((uS s ⟨j,n,none⟩).1,(fH s 1 20 (if xQ many M (uS s ⟨j,n,none⟩).1=true then dL (uS s ⟨j,n,none⟩).2 j else(uS s ⟨j,n,none⟩).2)).1),if DR M (fH s 1 20 (if xQ many M (uS s ⟨j,n,none⟩).1=true then dL (uS s ⟨j,n,none⟩).2 j else(uS s ⟨j,n,none⟩).2)).1 M.length=true then(fH s 1 20 (if xQ many M (uS s ⟨j,n,none⟩).1=true then dL (uS s ⟨j,n,none⟩).2 j else(uS s ⟨j,n,none⟩).2)).2 else dL (fH s 1 20 (if xQ many M (uS s ⟨j,n,none⟩).1=true then dL (uS s ⟨j,n,none⟩).2 j else(uS s ⟨j,n,none⟩).2)).2 (if xQ many M (uS s ⟨j,n,none⟩).1=true then dL (uS s ⟨j,n,none⟩).2 j else(uS s ⟨j,n,none⟩).2).at_):=rfl;rw[r];clear r;generalize b:(if xQ many M (uS s ⟨j,n,none⟩).1=true then dL (uS s ⟨j,n,none⟩).2 j else(uS s ⟨j,n,none⟩).2)=st2;have hbad:∀{p:Nat},st2.bad=some p->(if DR M (fH s 1 20 st2).1 M.length=true then(fH s 1 20 st2).2 else dL (fH s 1 20 st2).2 st2.at_).bad=some p:=fun {p} h=>by
  split
  .exact yJ 1 20 _ _ h
  exact iy (yJ 1 20 _ _ h)
 unfold wY oJ;rcases t:uM s n j with e|q
 .obtain⟨U,L⟩:=rW o d t;refine⟨U,hbad ?_⟩;rw[<-b];split
  .exact iy L
  exact L
 obtain⟨v,z⟩:=q;obtain⟨y,rfl,L,h3,h4⟩:=wV o d t;rw[L] at b ⊢;simp only at b ⊢;by_cases u:y<l\/many<=y
 .rw[if_pos ((VV m).2 u)] at b;rw[if_pos qo];exact⟨rfl,hbad (by rw[<-b];rfl)⟩
 rw[if_neg (fun c=>u ((VV m).1 c))] at b;rw[if_neg qo];subst b;simp only;rcases hc:eZ 20 s n z with e|⟨k,a⟩
 .obtain⟨f,g⟩:=WZ h4 d hc;refine⟨f,?_⟩;split
  .exact g
  exact iy g
 obtain⟨f,g,C,D⟩:=E8 h4 d hc;simp only;by_cases X:k=0
 .subst X;have A:kZ 0 s n a=.ok (s.extract a (a+0),a+0):=by simp[kZ]
  rw[A];have B:iE (s.extract a (a+0))=false:=by
   have:(s.extract a (a+0)).size=0:=by rw[ByteArray.size_extract];omega
   unfold iE;rw[this];simp
  simp only;rw[B];have hb:=TF f;refine⟨rfl,?_⟩;split
  .exact hb
  exact iy hb
 rw[TD f qo g];unfold kZ;by_cases w:n - a<k
 .rw[if_pos w,if_pos qo];refine⟨rfl,?_⟩;split
  .rfl
  rfl
 rw[if_neg w,if_neg qo];simp only;rw[aeB];by_cases hb:(iE (s.extract a (a+k))&&!qQ M (s.extract a (a+k)))=true
 .rw[if_pos hb,if_pos hb];exact⟨rfl,qo,qo⟩
 rw[if_neg hb,if_neg hb];exact⟨rfl,rfl⟩
theorem EZ{Z:RS}(h:Z.bad≠none)(many:Nat):∀(k:Nat) (M:List zM),jl s many k M Z=(M,Z)
 | 0,_=>rfl
 | k+1,M=>by
  unfold jl;rw[if_pos h]
theorem ZW(m:n<=s.size)(many:Nat):∀(k b:Nat) (M:List zM) (j:Nat),Ux M b->j<=n->match lU many s n k b M j with
  | .ok (xs,d)=>jl s many k M ⟨j,n,none⟩=(xs,⟨d,n,none⟩)/\j<=d/\d<=n
  | .error e=>e.1=2/\(jl s many k M ⟨j,n,none⟩).2.bad=some e.2:=by
 intro k;induction k with
 | zero=>exact fun _ M j _ f=>⟨rfl,qo,qo⟩
 | succ k o=>
  intro b M j p f;have r:jl s many (k+1) M ⟨j,n,none⟩=jl s many k (M++[(uz s many M ⟨j,n,none⟩).1]) (uz s many M ⟨j,n,none⟩).2:=by
   conv=>lhs;unfold jl
   rw[if_neg (fun c=>c rfl)]
  rw[r];unfold lU;have a:=ZX (many:=many) p f m;rcases g:wY M b many s n j with e|q
  .rw[g] at a;rw[EZ (iI a.2)];exact a
  obtain⟨x,h⟩:=q;rw[g] at a;obtain⟨U,L,h3⟩:=a;rw[U];simp only;have:=o (x.1+1) (M++[x]) h (.inr ⟨qs,qs⟩) h3;rcases l:lU many s n k (x.1+1) (M++[x]) h with e|⟨xs,d⟩
  .rw[l] at this;exact this
  rw[l] at this;exact⟨this.1,qo,this.2.2⟩
theorem AU(many:Nat):yc s (fun a b=>a=b) (jy many) (jA s many):=by
 intro n i d c;unfold jy jA;rcases f:eZ many s n i with e|q
 .obtain⟨U,L⟩:=(oW many).err d c f;rw[EZ (iI L)];exact⟨U,L⟩
 obtain⟨k,j⟩:=q;obtain⟨y,U,rfl,h3,h4⟩:=(oW many).ok d c f;rw[U];simp only;have:=ZW c many k 0 [] j (.inl ⟨rfl,rfl⟩) h4;rcases g:lU many s n k 0 [] j with e|⟨xs,h⟩
 .rw[g] at this;exact this
 rw[g] at this;exact⟨xs,this.1,rfl,qo,this.2.2⟩
theorem MQ(many:Nat):Ib (jA s many):=fun Z p h=>by
 unfold jA;rw[EZ (iI (mY many Z p h))];exact mY many Z p h
theorem O7{Z:RS}(h:Z.bad≠none)(nf:Nat)(kn:Nat->Nat):∀(k a:Nat),mJ s nf kn k a Z=Z
 | 0,_=>rfl
 | k+1,a=>by
  unfold mJ;rw[if_pos h]
theorem afP(b:n<=s.size){m:fE}{kn:Nat->Nat}(u:∀f,f<m.funcs.length->kn f=qY m f):∀(k a:Nat) (M:List (Nat×List zM)) (j:Nat),j<=n->match sF m s n k a M j with
  | .ok (_,d)=>mJ s m.funcs.length kn k a ⟨j,n,none⟩=⟨d,n,none⟩/\j<=d/\d<=n
  | .error e=>e.1=2/\(mJ s m.funcs.length kn k a ⟨j,n,none⟩).bad=some e.2:=by
 intro k;induction k with
 | zero=>exact fun _ M j g=>⟨rfl,qo,qo⟩
 | succ k w=>
  intro a M j g;have x:mJ s m.funcs.length kn (k+1) a ⟨j,n,none⟩=if m.funcs.length<=(uS s ⟨j,n,none⟩).1\/(uS s ⟨j,n,none⟩).1<a then dL (uS s ⟨j,n,none⟩).2 j else mJ s m.funcs.length kn k ((uS s ⟨j,n,none⟩).1+1) (jA s (kn (uS s ⟨j,n,none⟩).1) (uS s ⟨j,n,none⟩).2).2:=by
   conv=>lhs;unfold mJ
   rw[if_neg (fun c=>c rfl)]
  rw[x];unfold sF E9 oJ;rcases l:uM s n j with e|q
  .obtain⟨U,L⟩:=rW g b l;refine⟨U,?_⟩;split
   .exact iy L
   have h3:=MQ (s:=s) (kn (uS s ⟨j,n,none⟩).1) _ _ L;rw[O7 (iI h3)];exact h3
  obtain⟨v,A⟩:=q;obtain⟨y,rfl,L,h3,h4⟩:=wV g b l;rw[L];simp only;by_cases o:m.funcs.length<=y\/y<a
  .rw[if_pos o,if_pos qo];exact⟨rfl,rfl⟩
  rw[if_neg o,if_neg qo];have B:((y:Int)).toNat=y:=rfl;simp only[B];rw[u y qo];rcases p:jy (qY m y) s n A with e|q
  .obtain⟨h,g2⟩:=(AU _).err h4 b p;rw[O7 (iI g2)];exact⟨h,g2⟩
  obtain⟨r,t⟩:=q;obtain⟨z,h,rfl,D,C⟩:=(AU _).ok h4 b p;rw[h];simp only;have:=w (y+1) (M++[(y,r)]) t C;rcases hh:sF m s n k (y+1) (M++[(y,r)]) t with e|⟨xs,d⟩
  .rw[hh] at this;exact this
  rw[hh] at this;exact⟨this.1,qo,this.2.2⟩
def VM(m m1:fE):Prop:=∃a b,m1={m with nfuncs:=a,kR:=b}
theorem TM(m:fE):yc s (fun d _=>VM m d) (iQ m) (fun Z=>((),(jA s m.funcs.length Z).2)):=by
 intro n i a b;unfold iQ;rcases c:jy m.funcs.length s n i with e|⟨xs,j⟩
 .exact(AU _).err a b c
 obtain⟨z,f,-,g,h⟩:=(AU _).ok a b c;simp only;rw[f];exact⟨(),rfl,⟨xs,m.kR,rfl⟩,g,h⟩
theorem TK{m:fE}{kn:Nat->Nat}(g:∀f,f<m.funcs.length->kn f=qY m f):yc s (fun h _=>VM m h) (gq m) (fun Z=>((),mJ s m.funcs.length kn (dU s m.funcs.length Z).1 0 (dU s m.funcs.length Z).2)):=by
 intro n i b a;unfold gq;rcases c:eZ m.funcs.length s n i with e|q
 .obtain⟨U,L⟩:=(oW _).err b a c;simp only;rw[O7 (iI L)];exact⟨U,L⟩
 obtain⟨k,j⟩:=q;obtain⟨y,U,rfl,h3,h4⟩:=(oW _).ok b a c;simp only;rw[U];simp only;have:=afP a g k 0 [] j h4;rcases d:sF m s n k 0 [] j with e|⟨xs,l⟩
 .rw[d] at this;exact this
 rw[d] at this;simp only;rw[this.1];exact⟨(),rfl,⟨m.nfuncs,xs,rfl⟩,qo,this.2.2⟩
theorem Ze{g:RS->RS}(h:∀Z p,Z.bad=some p->(g Z).bad=some p):Ib (fun Z=>((),g Z)):=h
def Jp(s:qS)(b:Nat)(g:RS->RS)(Z:RS):RS:=if EW s b Z=true then(Tu s (fun Z=>((),g Z)) {Z with at_:=Z.at_+1}).2 else Z
theorem Dw{b:Nat}{g:RS->RS}:∀Z p,Z.bad=some p->(Jp s b g Z).bad=some p:=fun Z p h=>by
 unfold Jp;rw[if_neg (by unfold EW;rw[h];simp)];exact h
theorem VS{b:Type}{R:b->Prop}{which:Nat}{x0:b}{tM:qS->Nat->Nat->Except Err (b×Nat)}{g:RS->RS}(h:yc s (fun m _=>R m) tM (fun Z=>((),g Z)))(k:∀Z p,Z.bad=some p->(g Z).bad=some p)(c:R x0)(r:i<=n)(d:n<=s.size):match nQ which x0 tM s n i with
  | .ok (x,j)=>Jp s which g ⟨i,n,none⟩=⟨j,n,none⟩/\R x/\i<=j/\j<=n
  | .error e=>e.1=2/\(Jp s which g ⟨i,n,none⟩).bad=some e.2:=by
 unfold nQ Jp EW;by_cases a:i<n
 .rw[if_pos a];by_cases hb:bt s i=which
  .rw[if_pos hb];rw[if_pos (by simp[a,hb])];have hw:=OU h (Ze k);rcases f:fK tM s n (i+1) with e|⟨x,j⟩
   .exact hw.err (show i+1<=n by omega) d f
   obtain⟨u,l,o,t,q⟩:=hw.ok (show i+1<=n by omega) d f;simp only;rw[l];exact⟨rfl,o,qo,q⟩
  rw[if_neg hb,if_neg (by simp[hb])];exact⟨rfl,c,qo,qo⟩
 rw[if_neg a,if_neg (by simp[a])];exact⟨rfl,c,qo,qo⟩
theorem EL:∀(l:qM) (Z:RS) (p:Nat),Z.bad=some p->(lV s l Z).bad=some p
 | [],_,_,h=>h
 | b::l,Z,p,h=>EL l (gY s b Z) p (nN b Z p h)
theorem Al(d:n<=s.size):∀(l:qM) (i:Nat),i<=n->match gz l s n i with
  | .ok (_,j)=>lV s l ⟨i,n,none⟩=⟨j,n,none⟩/\i<=j/\j<=n
  | .error e=>e.1=2/\(lV s l ⟨i,n,none⟩).bad=some e.2
 | [],i,hi=>⟨rfl,qo,hi⟩
 | b::l,i,hi=>by
  have f:lV s (b::l) ⟨i,n,none⟩=lV s l (gY s b ⟨i,n,none⟩):=rfl;rw[f];unfold gz;rcases a:iO [b] s n i with e|q
  .obtain⟨U,L⟩:=uA a;exact⟨U,EL l _ _ L⟩
  obtain⟨v,j⟩:=q;obtain⟨U,L,h3,rfl⟩:=uy a;simp at L;rw[xq U b (by rw[h3,L])];simp only;have:=Al d l (i+1) qo;rcases c:gz l s n (i+1) with e|⟨u,g⟩
  .rw[c] at this;exact this
  rw[c] at this;exact⟨this.1,qo,this.2.2⟩
theorem Uk{nf:Nat}{Z:RS}:sQ s nf Z=Jp s 1 (fun Z=>(jA s nf Z).2) Z:=by
 unfold sQ Jp Tu;split
 .with_reducible rfl
 rfl
theorem Uj{nf:Nat}{kn:Nat->Nat}{Z:RS}:xm s nf kn Z=Jp s 2 (fun Z=>mJ s nf kn (dU s nf Z).1 0 (dU s nf Z).2) Z:=by
 unfold xm Jp Tu;split
 .with_reducible rfl
 rfl
theorem Nr{nf:Nat}{kn:Nat->Nat}{Z:RS}:oC s nf kn Z=Jp s 2 (fun Z=>mJ s nf kn (dU s nf Z).1 0 (dU s nf Z).2) (Jp s 1 (fun Z=>(jA s nf Z).2) (lV s mg Z)):=by
 unfold oC;rw[Uj,Uk]
theorem ael{nf:Nat}{kn:Nat->Nat}:∀Z p,Z.bad=some p->(mJ s nf kn (dU s nf Z).1 0 (dU s nf Z).2).bad=some p:=fun Z p h=>by
 rw[O7 (iI (mY nf Z p h))];exact mY nf Z p h
theorem Xb{nf:Nat}{kn:Nat->Nat}:∀Z p,Z.bad=some p->(oC s nf kn Z).bad=some p:=fun Z p h=>by
 rw[Nr];exact Dw _ _ (Dw _ _ (EL mg Z p h))
theorem XH{m:fE}{kn:Nat->Nat}(l:∀f,f<m.funcs.length->kn f=qY m f)(o:i<=n)(g:n<=s.size):match oD m s n i with
  | .ok (h,j)=>oC s m.funcs.length kn ⟨i,n,none⟩=⟨j,n,none⟩/\VM m h/\i<=j/\j<=n
  | .error e=>e.1=2/\(oC s m.funcs.length kn ⟨i,n,none⟩).bad=some e.2:=by
 rw[Nr];unfold oD;have U:=Al g mg i o;rw[show([4,110,97,109,101]:qM)=mg from rfl];rcases k:gz mg s n i with e|q
 .rw[k] at U;exact⟨U.1,Dw _ _ (Dw _ _ U.2)⟩
 obtain⟨u,j⟩:=q;rw[k] at U;obtain⟨p,y,r⟩:=U;rw[p];simp only;have L:=VS (which:=1) (x0:=m) (TM (s:=s) m) (MQ _) ⟨m.nfuncs,m.kR,rfl⟩ r g;rcases hp:nQ 1 m (iQ m) s n j with e|⟨h,t⟩
 .rw[hp] at L;exact⟨L.1,Dw _ _ L.2⟩
 rw[hp] at L;obtain⟨v,⟨a,b,rfl⟩,z,w⟩:=L;rw[v];simp only;have h3:=VS (which:=2) (x0:={m with nfuncs:=a,kR:=b}) (TK (s:=s) (m:={m with nfuncs:=a,kR:=b}) (kn:=kn) l) ael ⟨_,_,rfl⟩ w g;rcases hq:nQ 2 {m with nfuncs:=a,kR:=b} (gq {m with nfuncs:=a,kR:=b}) s n t with e | ⟨A,B⟩
 .rw[hq] at h3 ⊢;exact h3
 rw[hq] at h3 ⊢;obtain⟨l1,⟨c,d,rfl⟩,C,x⟩:=h3;exact⟨l1,⟨c,d,rfl⟩,qo,x⟩
end
def Uc{α β:Type}(R:α->β->Prop)(xs:List α)(o:Option β):Prop:=(xs=[]/\o=none)\/∃x y,xs=[x]/\o=some y/\R x y
structure uN(s:qS)(m:fE)(r:RM):Prop where
 dm:nD tyR m.dm r.dm
 funcs:nD EY m.funcs r.tys
 tables:Uc XN m.tables r.table
 jT:Uc XN m.jT r.memory
 dB:nD aar m.dB r.dB
 dw:nD aau m.dw r.dw
 starts:Uc EY m.starts r.start
 elems:nD acL m.elems r.elems
 dQ:nD (aeV s) m.dQ r.ds
 data:nD acO m.data r.data
section
variable {α α' β β':Type} {s:qS} {n i j:Nat} {e:Err}
theorem nD.get{R:α->β->Prop}{xs:List α}{ys:List β}(h:nD R xs ys)(k:Nat):(xs[k]?=none/\ys[k]?=none)\/∃x y,xs[k]?=some x/\ys[k]?=some y/\R x y:=by
 by_cases X:k<xs.length
 .refine .inr ⟨xs[k],ys[k]'(by rw[<-h.1];exact X),List.getElem?_eq_getElem X,List.getElem?_eq_getElem _,?_⟩;exact h.2 k _ _ (List.getElem?_eq_getElem X) (List.getElem?_eq_getElem _)
 exact .inl ⟨List.getElem?_eq_none qo,List.getElem?_eq_none (by rw[<-h.1];omega)⟩
theorem yc.map{R:α->β->Prop}{c:α'->β'->Prop}{m:qS->Nat->Nat->Except Err (α×Nat)}{f:RS->β×RS}(h:yc s R m f)(d:α->α')(fr:β->β')(q:∀a b,R a b->c (d a) (fr b)){g:qS->Nat->Nat->Except Err (α'×Nat)}(r:∀n i,g s n i=match m s n i with
  | .error e=>.error e
  | .ok (x,j)=>.ok (d x,j)) {k:RS->β'×RS} (t:∀Z,k Z=(fr (f Z).1,(f Z).2)):yc s c g k:=by
 intro n i l o;rw[r,t];rcases p:m s n i with e|⟨x,j⟩
 .exact h.err l o p
 obtain⟨y,U,L,h3,h4⟩:=h.ok l o p;simp only;rw[U];exact⟨_,rfl,q _ _ L,h3,h4⟩
theorem CB(tM:qS->Nat->Nat->Except Err (α×Nat))(s:qS)(n:Nat):∀(k:Nat) (M:List α) (j:Nat) (xs:List α) (a:Nat),eO tM s n k M j=.ok (xs,a)->xs.length=M.length+k
 | 0,M,j,xs,a,h=>by
  unfold eO at h;cases h;rfl
 | k+1,M,j,xs,a,h=>by
  unfold eO at h;rcases b:tM s n j with e|⟨x,c⟩
  .rw[b] at h;cases h
  rw[b] at h;have:=CB tM s n k (M++[x]) c xs a h;rw[this];simp;omega
theorem XM{most:Nat}{tM:qS->Nat->Nat->Except Err (α×Nat)}{xs:List α}(h:dY most tM s n i=.ok (xs,j)):xs.length<=most:=by
 unfold dY at h;rcases hc:eZ most s n i with e|q
 .rw[hc] at h;cases h
 obtain⟨k,c⟩:=q;rw[hc] at h;have U:=CB tM s n k [] c xs j h;unfold eZ at hc;rcases b:uM s n i with e|⟨⟨v,a⟩,d⟩
 .rw[b] at hc;cases hc
 rw[b] at hc;simp only at hc;split at hc
 .cases hc
 cases hc;rw[U];simp;omega
theorem yc.and{R:α->β->Prop}{m:qS->Nat->Nat->Except Err (α×Nat)}{f:RS->β×RS}{P:α->Prop}(h:yc s R m f)(hp:∀n i x j,m s n i=.ok (x,j)->P x):yc s (fun a b=>R a b/\P a) m f:=by
 intro n i d g;rcases c:m s n i with e|⟨x,j⟩
 .exact h.err d g c
 obtain⟨y,U,L,h3⟩:=h.ok d g c;exact⟨y,U,⟨L,hp n i x j c⟩,h3⟩
theorem Qr:∀(k:Nat) (M:List (qS×qS)) (Z:RS),mX s k M Z=GI (OE s) k M Z
 | 0,_,_=>rfl
 | k+1,M,Z=>by
  unfold mX GI;rw[Qr k]
theorem JN:∀(k:Nat) (M:List sJ) (Z:RS),lK s k M Z=GI (BL s) k M Z
 | 0,_,_=>rfl
 | k+1,M,Z=>by
  unfold lK GI;rw[JN k]
theorem JX:∀(k:Nat) (M:List qc) (Z:RS),lN s k M Z=GI (LK s) k M Z
 | 0,_,_=>rfl
 | k+1,M,Z=>by
  unfold lN GI;rw[JX k]
theorem RV:∀(k:Nat) (M:List lJ) (Z:RS),pF s k M Z=GI (Em s) k M Z
 | 0,_,_=>rfl
 | k+1,M,Z=>by
  unfold pF GI;rw[RV k]
theorem Wx:∀(k:Nat) (M:List lJ) (Z:RS),sU s k M Z=GI (zq s) k M Z
 | 0,_,_=>rfl
 | k+1,M,Z=>by
  unfold sU GI;rw[Wx k]
theorem Qs:xI s=Ls s 20 (OE s):=by funext Z;exact Qr _ _ _
theorem JO:nV s=Ls s 10 (BL s):=by funext Z;exact JN _ _ _
theorem JY:nX s=Ls s 20 (LK s):=by funext Z;exact JX _ _ _
theorem RX:xV s=Ls s 5 (Em s):=by funext Z;exact RV _ _ _
theorem Wy:Ap s=Ls s 10 (zq s):=by funext Z;exact Wx _ _ _
theorem Xf:yc s (Uc XN) (dY 1 um) (qj s):=by
 intro n i c a;unfold dY qj;rcases d:eZ 1 s n i with e|q
 .obtain⟨U,L⟩:=(oW 1).err c a d;refine⟨U,?_⟩;split
  .exact xL _ _ (nN 112 _ _ L)
  exact L
 obtain⟨k,j⟩:=q;obtain⟨y,U,rfl,h3,h4⟩:=(oW 1).ok c a d;have X:=(E8 c a d).2.1;rw[U];simp only;by_cases l:k=1
 .subst l;rw[if_pos rfl];simp only[eO,um];rcases g:iO [112] s n j with e|q
  .obtain⟨f,b⟩:=uA g;exact⟨f,xL _ _ b⟩
  obtain⟨v,r⟩:=q;obtain⟨f,b,m,rfl⟩:=uy g;simp at b;rw[xq f 112 (by rw[m,b])];simp only;rcases h:xu s n (j+1) with e|⟨x,t⟩
  .exact Hu.err qo a h
  obtain⟨u,o,p,w,z⟩:=Hu.ok qo a h;simp only;rw[o];exact⟨_,rfl,.inr ⟨x,u,rfl,rfl,p⟩,qo,qo⟩
 obtain rfl:k=0:=qo;rw[if_neg qx];exact⟨_,rfl,.inl ⟨rfl,rfl⟩,h3,h4⟩
theorem TJ:yc s (Uc XN) (dY 1 xu) (ni s):=by
 intro n i b a;unfold dY ni;rcases c:eZ 1 s n i with e|q
 .obtain⟨U,L⟩:=(oW 1).err b a c;refine⟨U,?_⟩;split
  .exact xL _ _ L
  exact L
 obtain⟨k,j⟩:=q;obtain⟨y,U,rfl,h3,h4⟩:=(oW 1).ok b a c;have X:=(E8 b a c).2.1;rw[U];simp only;by_cases f:k=1
 .subst f;rw[if_pos rfl];simp only[eO];rcases d:xu s n j with e|⟨x,l⟩
  .exact Hu.err h4 a d
  obtain⟨u,g,h,m,o⟩:=Hu.ok h4 a d;simp only;rw[g];exact⟨_,rfl,.inr ⟨x,u,rfl,rfl,h⟩,qo,qo⟩
 obtain rfl:k=0:=qo;rw[if_neg qx];exact⟨_,rfl,.inl ⟨rfl,rfl⟩,h3,h4⟩
theorem afR{m:fE}{r:RM}(h:uN s m r)(f:Nat)(hf:f<m.funcs.length):nT r.dm r.tys r.ds f=qY m f:=by
 unfold nT qY fE.params;obtain⟨U,-⟩ | ⟨x,y,hx,hy,a⟩:=h.funcs.get f
 .rw[List.getElem?_eq_getElem hf] at U;cases U
 rw[hx,List.getD_eq_getElem?_getD,hy];have b:x.1.toNat=y.1:=by rw[a.1];rfl
 simp only[Option.getD_some];rw[b];congr 1
 .unfold gy;rw[List.getD_eq_getElem?_getD];obtain⟨U,L⟩ | ⟨t,u,U,L,h3⟩:=h.dm.get y.1
  .rw[U,L];rfl
  rw[U,L];exact h3.1.size
 rw[List.getD_eq_getElem?_getD];obtain⟨U,L⟩ | ⟨c,d,U,L,h3⟩:=h.dQ.get f
 .rw[U,L];rfl
 rw[U,L];exact h3.1.size
def aew(s:qS)(m:fE)(k:Nat)(m1:fE)(r1:RM):Prop:=uN s m1 r1/\(k=8->m1.dQ.length=m1.funcs.length)/\(k≠8->m1.dQ=m.dQ)/\(8<k->m1.funcs=m.funcs)/\m1.funcs.length<=20
theorem Xh(m:fE)(r:RM)(a:uN s m r)(k:m.funcs.length<=20):yc s (aew s m 8) (rA m) (fun Z=>({r with ds:=(mP s r.tys.length Z).1},(mP s r.tys.length Z).2)):=by
 intro n i f b;have z:m.funcs.length=r.tys.length:=a.funcs.1;have l:∀Z,mP s r.tys.length Z=GI (Kj s) (dU s 20 Z).1 [] (if(dU s 20 Z).1=r.tys.length then(dU s 20 Z).2 else dL (dU s 20 Z).2 Z.at_):=fun Z=>Kh _ _ _;simp only[l];unfold rA;rcases g:uM s n i with e|q
 .obtain⟨U,L⟩:=rW f b g;have h3:(dU s 20 ⟨i,n,none⟩).2.bad=some e.2:=by
   unfold dU;simp only;split
   .exact iy L
   exact L
  have h4:(if(dU s 20 ⟨i,n,none⟩).1=r.tys.length then(dU s 20 ⟨i,n,none⟩).2 else dL (dU s 20 ⟨i,n,none⟩).2 i).bad=some e.2:=by
   split
   .exact h3
   exact iy h3
  rw[CJ (iI h4)];exact⟨U,h4⟩
 obtain⟨v,j⟩:=q;obtain⟨y,rfl,L,h3,h4⟩:=wV f b g;have o:dU s 20 ⟨i,n,none⟩=if 20<y then(0,⟨j,n,some i⟩) else(y,⟨j,n,none⟩):=by
  unfold dU;rw[L];by_cases hy:20<y<;>simp[hy,dL]
 rw[o];by_cases p:y=m.funcs.length
 .simp only;rw[if_pos qo,if_neg qo];simp only;rw[if_pos qo,p];have:=Zn (abK (s:=s)) b m.funcs.length [] [] j nD.nil h4;have h:=CB vg s n m.funcs.length [] j;rcases d:eO vg s n m.funcs.length [] j with e|⟨xs,t⟩
  .rw[d] at this;exact this
  rw[d] at this;obtain⟨ys,u,w,A,x⟩:=this;rw[d] at h;simp only;rw[u];refine⟨_,rfl,⟨⟨a.dm,a.funcs,a.tables,a.jT,a.dB,a.dw,a.starts,a.elems,w,a.data⟩,fun _=>?_,fun c=>absurd rfl c,fun c=>qo,k⟩,qo,x⟩;have:=h xs t rfl;simpa using this
 simp only;rw[if_neg qo];by_cases hy:20<y
 .rw[if_pos hy];simp only;rw[CJ (by split<;>(simp[dL]))];refine⟨trivial,?_⟩;split<;>rfl
 rw[if_neg hy];simp only;rw[if_neg qo,CJ (by simp[dL])];exact⟨trivial,rfl⟩
theorem aev{m:fE}{r:RM}(d:uN s m r)(g:m.funcs.length<=20):∀k,k<11->yc s (aew s m k) (uZ m (uq.getD k 0)) (pR s k r):=by
 intro k X;have p:∀{l:fE},VM m l->aew s m 10 l r:=by
  rintro l ⟨a,b,rfl⟩;exact⟨⟨d.dm,d.funcs,d.tables,d.jT,d.dB,d.dw,d.starts,d.elems,d.dQ,d.data⟩,fun c=>absurd c qx,fun _=>rfl,fun _=>rfl,g⟩
 rcases(show k=0\/k=1\/k=2\/k=3\/k=4\/k=5\/k=6\/k=7\/k=8\/k=9\/k=10 by omega) with rfl | rfl | rfl | rfl | rfl | rfl | rfl | rfl | rfl | rfl | rfl
 .exact(yM abI 20).map (fun xs=>{m with dm:=xs}) (fun ys=>{r with dm:=ys}) (fun a b h=>⟨⟨h,d.funcs,d.tables,d.jT,d.dB,d.dw,d.starts,d.elems,d.dQ,d.data⟩,fun c=>absurd c qx,fun _=>rfl,fun c=>qo,g⟩) (fun n i=>by show wQ m s n i=_;unfold wQ;cases dY 20 vT s n i<;>rfl) (fun Z=>by rw[<-Qs];rfl)
 .exact((zX 20).and (fun n i xs j hx=>XM hx)).map (fun xs=>{m with funcs:=xs}) (fun ys=>{r with tys:=ys}) (fun a b h=>⟨⟨d.dm,h.1,d.tables,d.jT,d.dB,d.dw,d.starts,d.elems,d.dQ,d.data⟩,fun c=>absurd c qx,fun _=>rfl,fun c=>qo,h.2⟩) (fun n i=>by show wP m s n i=_;unfold wP;cases dY 20 uM s n i<;>rfl) (fun Z=>rfl)
 .exact Xf.map (fun xs=>{m with tables:=xs}) (fun ys=>{r with table:=ys}) (fun a b h=>⟨⟨d.dm,d.funcs,h,d.jT,d.dB,d.dw,d.starts,d.elems,d.dQ,d.data⟩,fun c=>absurd c qx,fun _=>rfl,fun c=>qo,g⟩) (fun n i=>by show wO m s n i=_;unfold wO;cases dY 1 um s n i<;>rfl) (fun Z=>rfl)
 .exact TJ.map (fun xs=>{m with jT:=xs}) (fun ys=>{r with memory:=ys}) (fun a b h=>⟨⟨d.dm,d.funcs,d.tables,h,d.dB,d.dw,d.starts,d.elems,d.dQ,d.data⟩,fun c=>absurd c qx,fun _=>rfl,fun c=>qo,g⟩) (fun n i=>by show wM m s n i=_;unfold wM;cases dY 1 xu s n i<;>rfl) (fun Z=>rfl)
 .exact(yM Zo 10).map (fun xs=>{m with dB:=xs}) (fun ys=>{r with dB:=ys}) (fun a b h=>⟨⟨d.dm,d.funcs,d.tables,d.jT,h,d.dw,d.starts,d.elems,d.dQ,d.data⟩,fun c=>absurd c qx,fun _=>rfl,fun c=>qo,g⟩) (fun n i=>by show wL m s n i=_;unfold wL;cases dY 10 mH s n i<;>rfl) (fun Z=>by rw[<-JO];rfl)
 .exact(yM abJ 20).map (fun xs=>{m with dw:=xs}) (fun ys=>{r with dw:=ys}) (fun a b h=>⟨⟨d.dm,d.funcs,d.tables,d.jT,d.dB,h,d.starts,d.elems,d.dQ,d.data⟩,fun c=>absurd c qx,fun _=>rfl,fun c=>qo,g⟩) (fun n i=>by show wK m s n i=_;unfold wK;cases dY 20 nA s n i<;>rfl) (fun Z=>by rw[<-JY];rfl)
 .exact VJ.map (fun x=>{m with starts:=[x]}) (fun y=>{r with start:=some y}) (fun a b h=>⟨⟨d.dm,d.funcs,d.tables,d.jT,d.dB,d.dw,.inr ⟨a,b,rfl,rfl,h⟩,d.elems,d.dQ,d.data⟩,fun c=>absurd c qx,fun _=>rfl,fun c=>qo,g⟩) (fun n i=>by show wJ m s n i=_;unfold wJ;cases uM s n i<;>rfl) (fun Z=>rfl)
 .exact(yM Zp 5).map (fun xs=>{m with elems:=xs}) (fun ys=>{r with elems:=ys}) (fun a b h=>⟨⟨d.dm,d.funcs,d.tables,d.jT,d.dB,d.dw,d.starts,h,d.dQ,d.data⟩,fun c=>absurd c qx,fun _=>rfl,fun c=>qo,g⟩) (fun n i=>by show wI m s n i=_;unfold wI;cases dY 5 xW s n i<;>rfl) (fun Z=>by rw[<-RX];rfl)
 .exact Xh m r d g
 .exact(yM Xg 10).map (fun xs=>{m with data:=xs}) (fun ys=>{r with data:=ys}) (fun a b h=>⟨⟨d.dm,d.funcs,d.tables,d.jT,d.dB,d.dw,d.starts,d.elems,d.dQ,h⟩,fun c=>absurd c qx,fun _=>rfl,fun c=>rfl,g⟩) (fun n i=>by show sV m s n i=_;unfold sV;cases dY 10 xe s n i<;>rfl) (fun Z=>by rw[<-Wy];rfl)
 intro n i q t;have h:=XH (m:=m) (kn:=nT r.dm r.tys r.ds) (fun f hf=>afR d f hf) q t;have hc:uZ m (uq.getD 10 0) s n i=oD m s n i:=rfl;rw[hc];have u:pR s 10 r ⟨i,n,none⟩=(r,oC s m.funcs.length (nT r.dm r.tys r.ds) ⟨i,n,none⟩):=by rw[d.funcs.1];rfl
 rw[u];rcases o:oD m s n i with e|⟨l,j⟩
 .rw[o] at h;exact h
 rw[o] at h;obtain⟨v,w,z,A⟩:=h;simp only;rw[v];exact⟨_,rfl,p w,z,A⟩
theorem abr{r:RM}(k:Nat):Ib (pR s k r):=fun Z p h=>by
 unfold pR;split
 .rw[Qs];exact yK 20 _ _ h
 split
 .exact Dv 20 _ _ h
 split
 .show(qj s Z).2.bad=some p;unfold qj;split
  .exact xL _ _ (nN 112 _ _ (mY 1 _ _ h))
  exact mY 1 _ _ h
 split
 .show(ni s Z).2.bad=some p;unfold ni;split
  .exact xL _ _ (mY 1 _ _ h)
  exact mY 1 _ _ h
 split
 .rw[JO];exact yK 10 _ _ h
 split
 .rw[JY];exact yK 20 _ _ h
 split
 .exact rQ _ _ h
 split
 .rw[RX];exact yK 5 _ _ h
 split
 .show(mP s r.tys.length Z).2.bad=some p;have a:mP s r.tys.length Z=GI (Kj s) (dU s 20 Z).1 [] (if(dU s 20 Z).1=r.tys.length then(dU s 20 Z).2 else dL (dU s 20 Z).2 Z.at_):=Kh _ _ _;have h4:(if(dU s 20 Z).1=r.tys.length then(dU s 20 Z).2 else dL (dU s 20 Z).2 Z.at_).bad=some p:=by
   split
   .exact mY 20 _ _ h
   exact iy (mY 20 _ _ h)
  rw[a,CJ (iI h4)];exact h4
 split
 .rw[Wy];exact yK 10 _ _ h
 exact Xb _ _ h
end
end Go.Proofs.YtdaafkmhfedkiaaGreat
