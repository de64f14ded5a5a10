import Derived.BigQuiet
import Derived.Deep.AppendLies
import Derived.Deep.QuietTactic
import Derived.Deep.RegionLaw
import Derived.Test.YtfkcodlceoghpaaGreatDoorX14
namespace Go.Proofs.YtfkcodlceoghpaaGreatDoor
set_option maxHeartbeats 1600000
set_option maxRecDepth 100000
set_option linter.unusedSimpArgs false
set_option linter.unusedVariables false
open Go.RowKit Go.Proofs.Tryz
def rD(K:Nat->Prop)(x:pW)(w:World)(cs:List Value):Prop:=
 ∃tv gv,cs=[qB x.word,tv,gv,qJ x.dK,.bool x.cut]/\dH K x.takes w tv/\dH K x.dL w gv
theorem rD.kept{S K:qD}{w w':qW}{x:pW}{cs:qV}(h:rD K x w cs)(X:Kept S w w')(b:∀g,g<w.heap.size->K g->¬S g):rD K x w' cs:=by
 obtain⟨d,gv,e,a,c⟩:=h;exact⟨d,gv,e,Row.kept a X b,Row.kept c X b⟩
theorem rD.mono{K K':qD}{w:qW}{x:pW}{cs:qV}(h:rD K x w cs)(d:∀g,K g->K' g):rD K' x w cs:=by
 obtain⟨f,gv,e,a,c⟩:=h;exact⟨f,gv,e,Row.mono a (λg _ b=>d g b),Row.mono c (λg _ b=>d g b)⟩
structure gB(K O:Nat->Prop)(w:World)(bb:Nat)(mp lv sv bv:Value)(Z:Bd):Prop where
 blk:jf w bb [mp,lv,sv,bv,qJ Z.at_]
 own:O bb
 stk:dH (λg=>O g/\g≠bb) Z.dB w sv
 tY:gI 282 5 (λ_=>rD K) (λg=>O g/\g≠bb) Z.dn.reverse w bv
 pY:∀k,O k->¬K k
 kb:∀k,K k->k<w.heap.size
def gZ(K O:Nat->Prop)(w:World)(bb:Nat)(mp lv:Value)(Z:Bd):Prop:=∃sv bv,gB K O w bb mp lv sv bv Z
section
variable {K O S:qD}{w w':qW}{bb:Nat}{mp lv sv bv:qv}{Z:Bd}
theorem gB.lt(h:gB K O w bb mp lv sv bv Z):bb<w.heap.size:=h.blk.lt
theorem gB.kept(h:gB K O w bb mp lv sv bv Z)(X:Kept S w w')(b:∀k,k<w.heap.size->S k->¬O k/\¬K k):gB K O w' bb mp lv sv bv Z:=
 ⟨h.blk.kept X h.lt (λc=>(b _ h.lt c).1 h.own),h.own,Row.kept h.stk X (λg a ho c=>(b g a c).1 ho.1),h.tY.kept X (λg a ho c=>(b g a c).1 ho.1) (λ_ _ e=>e.kept X (λg a ho c=>(b g a c).2 ho)),h.pY,λk d=>qad (h.kb k d) X.size⟩
theorem gB.drewN(h:gB K O w bb mp lv sv bv Z)(k:Nat):gB K O (w.drewN k) bb mp lv sv bv Z:=
 h.kept (S:=λ_=>False) (qr.drewN k) (λ_ _ c=>c.elim)
theorem gB.drew(h:gB K O w bb mp lv sv bv Z):gB K O w.drew bb mp lv sv bv Z:=
 h.kept (S:=λ_=>False) (qr.drew) (λ_ _ c=>c.elim)
theorem gB.alloc(h:gB K O w bb mp lv sv bv Z)(o:Obj):gB K O (w.alloc o) bb mp lv sv bv Z:=
 h.kept (S:=λ_=>False) (qr.alloc o) (λ_ _ c=>c.elim)
theorem gB.more{b:qD}(h:gB K O w bb mp lv sv bv Z)(ho:∀k,O k->b k)(c:∀k,b k->¬K k):gB K b w bb mp lv sv bv Z:=
 ⟨h.blk,ho _ h.own,Row.mono h.stk (λg _ a=>⟨ho g a.1,a.2⟩),by
  obtain⟨css,U,d⟩:=h.tY;exact⟨css,Row.mono U (λg _ a=>⟨ho g a.1,a.2⟩),d⟩,c,h.kb⟩
theorem gB.cells{a b:qv}{J:Bd}(h:gB K O w bb mp lv sv bv Z)(X:Kept (only bb) w w')(hb:jf w' bb [mp,lv,a,b,qJ J.at_])
  (d:dH (λg=>O g/\g≠bb) J.dB w a) (hl:gI 282 5 (λ_=>rD K) (λg=>O g/\g≠bb) J.dn.reverse w b):gB K O w' bb mp lv a b J:=
 ⟨hb,h.own,Row.kept d X (λg _ ho (c:g=bb)=>ho.2 c),hl.kept X (λg _ ho (c:g=bb)=>ho.2 c) (λ_ _ e=>e.kept X (λg _ f (c:g=bb)=>h.pY bb h.own (c▸f))),h.pY,λk i=>qad (h.kb k i) X.size⟩
end
theorem Row.cut{ok:qD}{w:qW}{E:TypeId}{a n k:Nat}{p:qO}{c:Nat}{xs:qV}(h:Row ok w E a (.slice p n c) n xs)(X:k<=n):Row ok w E a (.slice p k c) k (xs.take (k*a)):=by
 refine⟨⟨?_,?_⟩,λg l=>h.at_ g (by cases p<;>simp_all [Value.ownBlock])⟩
 .have:=h.own.1;have b:k*a<=n*a:=Nat.mul_le_mul_right _ X;simp;omega
 obtain⟨hv,m⟩ | ⟨g,A,d,hv,hb,e,o,f,i,j⟩:=h.own.2
 .cases hv;have:k=0:=qo;subst this;exact .inl ⟨rfl,rfl⟩
 cases hv;refine .inr ⟨g,c,d,rfl,hb,e,qo,f,i,?_⟩;have b:k*a<=n*a:=Nat.mul_le_mul_right _ X;rw[<-j,qcg,qcj b]
theorem dH.cut{ok:qD}{w:qW}{ks:qM}{p:qO}{c:Nat}(k:Nat)(h:dH ok ks w (qX p ks c))(X:k<=ks.length):dH ok (ks.take k) w (.slice p k c):=by
 have q:=Row.cut h X;unfold dH;have a:(ks.take k).length=k:=by simp;omega
 rw[a];have b:kindCells (ks.take k)=(kindCells ks).take (k*1):=by simp[kindCells]
 rw[b];exact q
theorem dH.cell{ok:qD}{w:qW}{ks:qM}{v:qv}(h:dH ok ks w v){i:Nat}(hi:i<ks.length):∃g A,v=qL g ks.length A/\ok g/\g<w.heap.size/\ks.length<=A/\w.cell? (qA g i)=some (qB (ks.getD i 0:Nat)):=by
 have a:=λg=>h.own.cells (g:=g);obtain⟨_,e⟩ | ⟨g,A,f,rfl,hb,b,c,j,k,l⟩:=h.own.2
 .omega
 refine⟨g,A,rfl,h.at_ g rfl,(qah.1 b).1,c,?_⟩;have:=a g rfl i (qB (ks.getD i 0:Nat)) (by simp[kindCells,hi]);have d:(⟨g,0,none⟩:Addr).add i=⟨g,i,none⟩:=by unfold Addr.add;split<;>simp_all
 rwa[d]at this
theorem dH.len{ok:qD}{w:qW}{ks:qM}{v:qv}(h:dH ok ks w v):ks.length<=maxLen:=by
 obtain⟨_,a⟩ | ⟨g,A,b,rfl,hb,c,d,e,f,i⟩:=h.own.2
 .omega
 omega
theorem uS{K ok:qD}{w:qW}{a:List pW}{v:qv}(h:gI 282 5 (λ_=>rD K) ok a.reverse w v){k:Nat}(X:k<a.length):
  ∃g A b gv,v=qL g a.length A/\ok g/\g<w.heap.size/\a.length<=A/\dH K a[k].takes w b/\dH K a[k].dL w gv/\
   w.cell? ⟨g,(a.length - 1 - k)*5,none⟩=some (qB (a[k].word:Nat))/\w.cell? ⟨g,(a.length - 1 - k)*5+1,none⟩=some b/\w.cell? ⟨g,(a.length - 1 - k)*5+2,none⟩=some gv/\
   w.cell? ⟨g,(a.length - 1 - k)*5+3,none⟩=some (qJ (a[k].dK:Nat))/\w.cell? ⟨g,(a.length - 1 - k)*5+4,none⟩=some (.bool a[k].cut):=by
 obtain⟨css,d,e⟩:=h;have f:=λg=>d.own.cells (g:=g);have j:a.reverse.length=a.length:=qs;have l:a.reverse[a.length - 1 - k]?=some a[k]:=by
  rw[List.getElem?_reverse qo];rw[show a.length - 1 - (a.length - 1 - k)=k by omega];exact qab X
 obtain⟨cs,m,⟨b,gv,rfl,n,p⟩,-⟩:=e.get l;obtain⟨_,t⟩ | ⟨g,A,x,hv,hb,q,y,z,B,C⟩:=d.own.2
 .omega
 have r:∀i,(⟨g,0,none⟩:Addr).add i=⟨g,i,none⟩:=by intro i;unfold Addr.add;split<;>simp_all
 have c:∀o u,o<5->([Value.int .u8 (a[k].word:Nat),b,gv,qJ (a[k].dK:Nat),.bool a[k].cut]:qV)[o]?=some u->w.cell? ⟨g,(a.length - 1 - k)*5+o,none⟩=some u:=by
  intro o u ho s;have:=f g (by rw[hv];rfl) ((a.length - 1 - k)*5+o) u ((Each.flat e m ho).trans s);rwa[r]at this
 refine⟨g,A,b,gv,by rw[hv,j],d.at_ g (by rw[hv];rfl),(qah.1 q).1,qo,n,p,?_,c 1 _ qo rfl,c 2 _ qo rfl,c 3 _ qo rfl,c 4 _ qo rfl⟩;exact c 0 _ qo rfl
structure Says{α:Type}(S:Nat->Prop)(w:World)(r:Except Err α)(V:α->World->Value->Prop)(e:Ending)(w':World):Prop where
 kept:Kept S w w'
 ok:∀x,r=.ok x->∃v,e=.returned v/\V x w' v
 err:∀q p,r=.error (q,p)->e=fo q p
def Oh(_:Unit)(_:World)(v:Value):Prop:=v=.tuple #[]
abbrev Looks(w:World)(r:Except Err Unit)(e:Ending)(w':World):Prop:=Says (λ_=>False) w r Oh e w'
section
variable {α:Type}{S:qD}{w w':qW}{r:Except Err α}{V:α->qW->qv->Prop}
theorem Says.dN{x:α}{v:qv}(a:r=.ok x)(X:Kept S w w')(hv:V x w' v):Says S w r V (.returned v) w':=
 ⟨X,λx' h=>by rw[a]at h;cases h;exact⟨v,rfl,hv⟩,λq p h=>by rw[a]at h;cases h⟩
theorem Says.dG{q p:Nat}(a:r=.error (q,p))(X:Kept S w w'):Says S w r V (fo q p) w':=
 ⟨X,λx' h=>by(rw[a]at h;cases h),λb c h=>by rw[a]at h;cases h;rfl⟩
end
theorem VI(v:Int)(a b:Nat)(w:qW)(h0:0<=v)(U:v<=4294967295):
  qC 67 #[.agg #[qI v,qJ a],qJ b] w (Says (λ_=>False) w (fE (v,a) b) λk _ u=>u=qJ v/\v=(k:Int)/\k<b):=by
 by_cases c:v<(b:Int)
 .go_enter func67,ntmps67;go_wp2;go_ret;exact Says.dN (x:=v.toNat) (by simp[fE,c]) (qr.alloc _) ⟨rfl,qo,qo⟩
 have d:(b:Int)<=v:=qo;go_enter func67,ntmps67;go_wp2_with fail
 refine(iK _ _ _).mono ?_;rintro e g⟨rfl,rfl⟩;exact⟨rfl,Says.dG (by simp[fE,c]) (qr.alloc _)⟩
theorem VJ{x:Int×Nat}{a:Nat}:(∀k,fE x a=.ok k->gV a x=.ok ())/\∀e,fE x a=.error e->gV a x=.error e:=by
 unfold fE gV;split
 .exact⟨λ_ _=>rfl,λ_ h=>by cases h⟩
 exact⟨λ_ h=>(by cases h),λ_ h=>by cases h;rfl⟩
section
variable {α:Type}{f:α->Except Err Unit}{xs:List α}{k:Nat}
theorem mX(X:k<xs.length)(h:f xs[k]=.ok ()):dV f (xs.drop k)=dV f (xs.drop (k+1)):=by
 rw[qan X];simp[dV,h]
theorem kZ{e:Err}(X:k<xs.length)(h:f xs[k]=.error e):dV f (xs.drop k)=.error e:=by
 rw[qan X];simp[dV,h]
theorem o9(X:¬k<xs.length):dV f (xs.drop k)=.ok ():=by
 rw[qbq qo];rfl
end
theorem mF{w:qW}{a g A n:Nat}{b c sv z:qv}(h:jf w a [b,c,sv,qL g n A,z])(d:0<n)(hl:n<=60):
  qC 292 #[qP a] w λe w'=>e=.returned (.pointer (some ⟨g,(n - 1)*5,none⟩))/\∃k,w'=w.drewN k:=by
 obtain⟨-,-,-,⟨f,i⟩,-⟩:=h.five;have j:(0:Int)<=(n:Int) - 1:=qo;have l:(n:Int) - 1<(n:Int):=qo;go_enter func292,ntmps292;go_wp2;go_quiet (fail)
 go_wp2;go_ret;exact⟨qs,_,rfl⟩
theorem lS{w:qW}{b a:Nat}{c d sv f:qv}(h:jf w b [c,d,sv,f,qJ a]):
  qC 237 #[qP b] w λe w'=>e=fo 4 a/\w'=w:=by
 obtain⟨-,-,-,-,⟨g,i⟩⟩:=h.five;go_enter func237,ntmps237;exact Vt
theorem gB.uG{K d:qD}{w:qW}{e:Nat}{j k sv f:qv}{Z:Bd}(h:gB K d w e j k sv f Z)(hb:Z.dn≠[]):
  ∃g A c gv,f=qL g Z.dn.length A/\(d g/\g≠e)/\g<w.heap.size/\Z.dn.length<=A/\0<Z.dn.length/\dH K Z.dJ.takes w c/\dH K Z.dJ.dL w gv/\
   w.cell? ⟨g,(Z.dn.length - 1)*5,none⟩=some (qB Z.dJ.word)/\w.cell? ⟨g,(Z.dn.length - 1)*5+1,none⟩=some c/\w.cell? ⟨g,(Z.dn.length - 1)*5+2,none⟩=some gv/\
   w.cell? ⟨g,(Z.dn.length - 1)*5+3,none⟩=some (qJ Z.dJ.dK)/\w.cell? ⟨g,(Z.dn.length - 1)*5+4,none⟩=some (.bool Z.dJ.cut):=by
 have hl:0<Z.dn.length:=by
  have:Z.dn.length≠0:=by simpa using hb
  omega
 have hi:Z.dJ=Z.dn[0]:=by
  obtain⟨stk,i,a⟩:=Z;cases i with
  | nil=>exact absurd rfl hb
  | cons b i=>rfl
 obtain⟨g,A,c,gv,U,l,m,n,o,p,q,r,s,t,u⟩:=uS h.tY hl;rw[hi];exact⟨g,A,c,gv,U,l,m,n,hl,o,p,q,r,s,t,u⟩
def Wh(K O:Nat->Prop)(bb:Nat)(mp lv:Value)(p:Option Addr)(c:Nat)(bv:Value)(x:Nat×Bd)(w:World)(v:Value):Prop:=
 v=qB x.1/\gB K O w bb mp lv (qX p x.2.dB c) bv x.2
theorem yU{K m:qD}{w:qW}{f c:Nat}{q r x:qv}{p:qO}{Z:Bd}(h:gB K m w f q r (qX p Z.dB c) x Z)(hb:Z.dn≠[])(hl:Z.dn.length<=60)(hf:Z.dJ.dK<=Z.dB.length)(H:Z.dB.length<=1000000):
  qC 236 #[qP f] w (Says (only f) w (fe Z) (Wh K m f q r p c x)):=by
 obtain⟨g,A,I,gv,rfl,z,J,L,j,-,-,M,N,O,B3,P⟩:=h.uG hb;obtain⟨-,-,⟨Q,R⟩,⟨S,T⟩,⟨U,V⟩⟩:=h.blk.five;have a:=h.blk;have s:=qH h;have t:=h.stk;clear h;have W:=z.2;generalize u:Z.dn.length=n at*;generalize b:Z.dJ.dK=v at*;generalize k:Z.dJ.cut=B at*;by_cases d:Z.dB.length=v
 .have C:((Z.dB.length:Int)==(v:Int))=true:=by simp;omega
  cases B with
  | true=>
   have l:qh (fe Z=.ok (0,Z)):=by show _=_;simp[fe,iR,d,b,k]
   clear d u b k;go_enter func236,ntmps236;go_wp2;go_quiet (exact Calls.quiet_of (mF (a.drewN _) j hl))
   go_wp2_with fail
   refine(mF (a.drewN _) j hl).mono ?_;rintro e D⟨rfl,E,rfl⟩;go_wp2;go_ret;exact Says.dN l.o (qr.drewN _) ⟨rfl,s.o.drewN _⟩
  | false=>
   have l:qh (fe Z=.error (4,Z.at_)):=by show _=_;simp[fe,iR,d,b,k]
   clear d u b k;go_enter func236,ntmps236;go_wp2;go_quiet (exact Calls.quiet_of (mF (a.drewN _) j hl))
   go_wp2_with fail
   refine(mF (a.drewN _) j hl).mono ?_;rintro e D⟨rfl,E,rfl⟩;go_wp2_with fail
   refine(lS (a.drewN _)).mono ?_;rintro e X⟨rfl,rfl⟩;exact⟨rfl,Says.dG l.o (qr.drewN _)⟩
 have C:((Z.dB.length:Int)==(v:Int))=false:=by simp;omega
 obtain⟨gs,cs,hv,Y,aa,ab,ac⟩:=dH.cell t (i:=Z.dB.length - 1) qo;cases hv;have F:=qH (dH.cut (Z.dB.length - 1) t qo);have l:qh (fe Z=.ok (Z.dB.getD (Z.dB.length - 1) 0,{Z with dB:=Z.dB.take (Z.dB.length - 1)})):=by show _=_;simp[fe,iR,d,b]
 have y:(Z.dB.take (Z.dB.length - 1)).length=Z.dB.length - 1:=qs;have G:=qH y;have b1:(0:Int)<=(Z.dB.length:Int) - 1:=qo;have b2:(Z.dB.length:Int) - 1<(Z.dB.length:Int):=qo;have b3:(Z.dB.length:Int) - 1<=(c:Int):=qo;have b4:decide ((Z.dB.length:Int) - 1<0)=false:=by simp;omega
 clear d u b k t y;generalize Z.dB.getD (Z.dB.length - 1) 0=kd at*;go_enter func236,ntmps236;go_wp2;go_quiet (exact Calls.quiet_of (mF (a.drewN _) j hl))
 go_wp2;go_ret;refine Says.dN l.o ((qr.drewN _).own _) ⟨rfl,?_⟩;show gB K m _ f q r (.slice _ (Z.dB.take (Z.dB.length - 1)).length c) _ _;rw[G.o];exact s.o.cells ((qr.drewN _).own _) ((a.drewN _).set 2 _) F.o s.o.tY
def Td(K O:Nat->Prop)(bb:Nat)(mp lv:Value)(p:Option Addr)(c:Nat)(bv:Value)(x:Bd)(w:World)(v:Value):Prop:=
 v=.tuple #[]/\gB K O w bb mp lv (qX p x.dB c) bv x
theorem vU{Z st1:Bd}(hi:st1.dJ=Z.dJ)(a:st1.at_=Z.at_):iR Z.dJ Z.at_ st1.dB=match fe st1 with
  | .error e=>.error e
  | .ok (got,J)=>.ok (got,J.dB):=by
 unfold fe;rw[hi,a];obtain e|x:=iR Z.dJ Z.at_ st1.dB
 .rfl
 rfl
def kG(Z:Bd)(ks:List Nat)(i:Nat)(stk:List Nat):Except Err Bd:=
 match jD Z.dJ Z.at_ ks i stk with
 | .error e=>.error e
 | .ok stk=>.ok {Z with dB:=stk}
theorem Ew{Z st1:Bd}{ks:qM}{j:Nat}{e:Err}(hi:st1.dJ=Z.dJ)(a:st1.at_=Z.at_)(h:fe st1=.error e):kG Z ks (j+1) st1.dB=.error e:=by
 have:=vU hi a;rw[h]at this;simp[kG,jD,this]
theorem Ey{Z st1 b:Bd}{ks:qM}{j a:Nat}(hi:st1.dJ=Z.dJ)(c:st1.at_=Z.at_)(h:fe st1=.ok (a,b))(U:a≠ks.getD j 0)(d:a≠0):kG Z ks (j+1) st1.dB=.error (4,Z.at_):=by
 have:=vU hi c;rw[h]at this;simp only[kG,jD,this];rw[qac ⟨U,d⟩]
theorem yT{Z st1 b:Bd}{ks:qM}{j a:Nat}(hi:st1.dJ=Z.dJ)(c:st1.at_=Z.at_)(h:fe st1=.ok (a,b))(U:¬(a≠ks.getD j 0/\a≠0)):kG Z ks (j+1) st1.dB=kG Z ks j b.dB:=by
 have:=vU hi c;rw[h]at this;simp only[kG,jD,this];rw[qaa U]
theorem vJ{Z J:Bd}{k:Nat}(hf:Z.dJ.dK<=Z.dB.length)(h:fe Z=.ok (k,J)):J={Z with dB:=J.dB}/\Z.dJ.dK<=J.dB.length/\J.dB.length<=Z.dB.length:=by
 unfold fe at h;split at h
 .cases h
 rename_i ho;cases h;have:=oV hf ho;exact⟨rfl,this.1,this.2.1⟩
theorem take_any{K r ok:qD}{w:qW}{a c:Nat}{s t u A:qv}{p:qO}{Z:Bd}{ks:qM}(h:gB K r w a s t (qX p Z.dB c) u Z)(X:dH ok ks w A)(B:¬ok a)(hb:ks≠[]->Z.dn≠[])(hl:Z.dn.length<=60)(hf:Z.dJ.dK<=Z.dB.length)(hs:Z.dB.length<=1000000)(ah:ks.length<=50):
  qC 186 #[qP a,A] w (Says (only a) w (dQ Z ks) (Td K r a s t p c u)):=by
 obtain⟨pk,ck,rfl⟩:=Row.shape X;have C:qh (dQ Z ks=kG Z ks ks.length Z.dB):=rfl;have D:=qH h;clear h;go_enter func186,ntmps186;go_wp2;go_loopw [4] (λq wr=>∃(i:Nat)(st1:Bd),i<=ks.length/\q=qJ ((i:Int) - 1)/\(st1={Z with dB:=st1.dB}/\Z.dJ.dK<=st1.dB.length/\st1.dB.length<=Z.dB.length)/\gB K r wr a s t (qX p st1.dB c) u st1/\Kept (only a) w wr/\
   dQ Z ks=kG Z ks i st1.dB) (λq _=>(intOf q+1).toNat)
 case atStart=>exact⟨ks.length,Z,qR,by go_num,⟨rfl,hf,qR⟩,D.o,Kept.refl _ _,C.o⟩
 obtain⟨i,st1,hi,rfl,⟨k,ab,ai⟩,E,x,F⟩:=hrel;have b:=qH F;have G:=qH E;have H:=qH k;have I:st1.dJ=Z.dJ:=by rw[k];rfl
 have J:st1.at_=Z.at_:=by rw[k]
 have L:st1.dn=Z.dn:=by rw[k]
 have f:=qH I;have m:=qH J;have M:=qH L;clear F E C D k I J L;by_cases hz:i=0
 .subst hz;have HR:qh (dQ Z ks=.ok st1):=by show _=_;rw[b.o,H.o];rfl
  clear b;go_wp2;go_end0;exact Says.dN HR.o x ⟨rfl,G.o⟩
 obtain⟨j,rfl⟩:∃j,i=j+1:=⟨i - 1,qo⟩;have ac:ks≠[]:=by intro e;subst e;simp at hi
 have N:dH ok ks wr (qX pk ks ck):=Row.kept X x (λg _ y (e:g=a)=>B (e▸y));have O:=qH (λ(W:qW)(hW:Kept (only a) wr W)=>dH.cell (Row.kept N hW (λg _ y (e:g=a)=>B (e▸y))) (show j<ks.length by omega));have Q:((j+1:Nat):Int) - 1=(j:Int):=qo;have t1:decide ((0:Int)<=((j+1:Nat):Int) - 1)=true:=qs;rw[Q]at t1 ⊢;clear N Q;have ad:st1.dn≠[]:=by rw[M.o];exact hb ac
 have ae:st1.dn.length<=60:=by rw[M.o];exact hl
 have R:st1.dJ.dK<=st1.dB.length:=by rw[f.o];exact ab
 go_wp2_with fail
 refine(yU G.o ad ae R qo).mono ?_;rintro e w2⟨S,T,V⟩;have hk4:=x.trans S;rcases ho:fe st1 with⟨q,pp⟩|⟨d,st2⟩
 .obtain rfl:=V _ _ ho;exact⟨rfl,Says.dG (b.o.trans (Ew f.o m.o ho)) hk4⟩
 obtain⟨v,rfl,hv,Y⟩:=T _ ho;obtain rfl:v=qB d:=hv;obtain⟨gk,aj,af,-,ak,al,am⟩:=O.o w2 S;cases af;have n:=vJ R ho;rw[f.o]at n;have aa:st2={Z with dB:=st2.dB}:=by rw[n.1,H.o]
 have an:(0:Int)<=(j:Int):=qo;have ao:(j:Int)<(ks.length:Int):=qo;have HB2:=qH Y;have z:=qH ho;have HS2:=qH aa;have hl2:st2.dB.length<=Z.dB.length:=qo;have XR:=n.2.1;clear T V ho O Y aa n;by_cases U:d=ks.getD j 0
 .have tb:(((d:Nat):Int) !=((ks.getD j 0:Nat):Int))=false:=by simp[U]
  have HN:qh (dQ Z ks=kG Z ks j st2.dB):=b.o.trans (yT f.o m.o z.o (λhh=>hh.1 U));clear b U;exact WB
 have tb:(((d:Nat):Int) !=((ks.getD j 0:Nat):Int))=true:=by rw[qcm];omega
 by_cases l:d=0
 .have tc:(((d:Nat):Int) !=0)=false:=by simp[l]
  have HN:qh (dQ Z ks=kG Z ks j st2.dB):=b.o.trans (yT f.o m.o z.o (λhh=>hh.2 l));clear b U l;exact WB
 have tc:(((d:Nat):Int) !=0)=true:=by rw[qcm];omega
 have HN:qh (dQ Z ks=.error (4,Z.at_)):=b.o.trans (Ey f.o m.o z.o U l);have ag:st2.at_=Z.at_:=by rw[HS2.o]
 clear b U l;generalize ks.getD j 0=kj at*;go_wp2_with fail
 refine(lS HB2.o.blk).mono ?_;rintro e w3⟨rfl,rfl⟩;rw[ag];exact⟨rfl,Says.dG HN.o hk4⟩
theorem yz{P:Program}{w:qW}{base:Nat}{t ty e:TypeId}{i:TypeInfo}{d:Nat}(b:P.underlying t=some (.slice e))(hi:P.info? e=some i){v:qv}{n:Nat}{xs:qV}(f:w.ownsRow base e d v n xs)(q:qO)(c:Nat):
  (Builtin.append_ #[t,t] ty #[v,.slice q 0 c]).run P w=.ok v w:=by
 have hf:(Builtin.firstCells i.size 0 (.slice q 0 c)).run P w=.ok #[] w:=by
  cases q with
  | none=>exact run_firstCells_none w _ _ _ _
  | some a=>exact run_firstCells_some w _ 0 a 0 c [] qs qs
 obtain⟨rfl,rfl⟩ | ⟨g,A,j,rfl,_,_,h,_⟩:=f.2
 .simp[Builtin.append_,qcq b,sizeOf,typeInfo,hi,Builtin.lenOf,hf]
 simp[Builtin.append_,qcq b,sizeOf,typeInfo,hi,Builtin.lenOf,hf,h,storeCells]
theorem oF{P:Program}{w:qW}{b:Array Oper}{d:List Oper}{o:Oper}{a:Act}{Q:Exit->Act->qW->Prop}(f:o.guard=none)(s x:Operand)(t:TypeId)
  (ho:o.op=.call {callee:=.builtin .append,args:= #[s,x],argTypes:= #[t,t]})
  (base:Nat) (e:TypeId) (i:TypeInfo) (g:Nat) (j:P.underlying t=some (.slice e)) (hi:P.info? e=some i)
  (v:qv) (n:Nat) (xs:qV) (k:a.eval s=v) (l:w.ownsRow base e g v n xs) (q:qO) (c:Nat) (hx:a.eval x=.slice q 0 c)
  (h:wpList P b Q d (a.put o.dst v) w):wpList P b Q (o::d) a w:=by
 refine wpList_plain f λ_ m=>?_;have p:=yz (ty:=o.type) j hi l q c;unfold Oper.wp execOp;simp only[ho,resolve,invoke,builtin,Sem.run_bind,Sem.run_pure,Result.andThen_ok,List.map_toArray,List.map_cons,List.map_nil,k,hx,p];exact m _ _ h
def More(O:Nat->Prop)(w:World):Nat->Prop:=λk=>O k\/w.heap.size<=k
def EX(K O:Nat->Prop)(w0:World)(bb:Nat)(mp lv:Value)(x:Bd)(w:World)(v:Value):Prop:=v=.tuple #[]/\gZ K (More O w0) w bb mp lv x
theorem su(a b:qM):kindCells (a++b)=kindCells a++kindCells b:=by simp[kindCells]
theorem put_any{K f ok:qD}{w:qW}{a:Nat}{q r sv n B:qv}{Z:Bd}{ks:qM}(h:gB K f w a q r sv n Z)(X:dH ok ks w B)(hs:Z.dB.length<=1000000)(ag:ks.length<=50):
  qC 187 #[qP a,B] w (Says f w (.ok (fJ Z ks)) (EX K f w a q r)):=by
 obtain⟨C,D,N,O,Q⟩:=qap Tryz.Bj;obtain⟨-,-,⟨R,S⟩,-,-⟩:=h.blk.five;have t:=h.lt;have b:=qH h;have E:∀k,w.heap.size<=k->¬K k:=λk ah c=>by have:=h.kb k c;omega
 obtain⟨ps,cs,rfl⟩:=Row.shape h.stk;obtain⟨pk,T,rfl⟩:=Row.shape X;have i:=h.stk;clear h;by_cases v:ks=[]
 .subst v;go_enter func187,ntmps187;go_wp2_with (at_builtin;refine oF rfl _ _ 98 rfl 0 80 C 1 underlying98 D _ _ _ rfl i.own _ _ rfl ?_)
  go_wp2;go_end0;refine Says.dN rfl (qr.setCell (λ_=>b.o.own) _) ⟨rfl,qX ps Z.dB cs,n,?_⟩;have hv:gB K f (w.setCell (qA a 2) (qX ps Z.dB cs)) a q r (qX ps Z.dB cs) n (fJ Z []):=by
   refine b.o.cells (qr.own _) (b.o.blk.set 2 _) ?_ b.o.tY;simpa [fJ] using b.o.stk
  exact hv.more (λk X=>.inl X) (λk X=>X.elim (b.o.pY k) (E k))
 have F:0<ks.length:=by
  have:ks.length≠0:=by simpa using v
  omega
 obtain⟨gk,ai,V,-,aj,ak,hcells⟩:=Row.cells X F;cases V;have G:∀j u,(kindCells ks)[j]?=some u->w.cell? ((⟨gk,0,none⟩:Addr).add j)=some u:=by
  exact Xe
 have H:∀u∈kindCells ks,u.oneCell'=true:=by
  intro u I;simp[kindCells]at I;obtain⟨x,-,rfl⟩:=I;rfl
 have W:=qH G;have Y:=qH H;clear G H hcells v;go_enter func187,ntmps187;go_wp2_with (at_builtin;refine wpList_append_lies _ rfl _ _ 98 rfl 0 80 C (qB 0) 1 1 underlying98 D N O Q rfl qx _ _ _ rfl i.own ⟨gk,0,none⟩ ks.length T (kindCells ks) rfl (by simp[kindCells]) W.o Y.o F ?c3 ?c4 qZ w.heap.size rfl ?_)
 case c3=>unfold maxLen;omega
 case c4=>omega
 intro m A l J s L al;have y:some a≠(Value.slice ps Z.dB.length cs).ownBlock:=λe=>(i.at_ a e.symm).2 rfl;have q2:l.cell? (qA a 2)=some (qX ps Z.dB cs):=(s.cell_far ⟨a,2,none⟩ t y).trans R;have f2:l.frozen? (qA a 2)=false:=(s.frozen_far ⟨a,2,none⟩ t y).trans S;have aa:=qH J;have HA:=qH L;have p:=qH s;clear J L s;go_wp2;go_end0;have ab:Kept f w l:=(Kept.gH p.o).mono (λk _ e=>(i.at_ k e).1);refine Says.dN rfl (ab.setCell (λ_=>b.o.own) _) ⟨rfl,qL m (Z.dB.length+ks.length) A,n,?_⟩;have ac:More f w m/\m≠a:=by
  obtain hh | hh:=HA.o
  .exact⟨.inl (i.at_ m hh).1,(i.at_ m hh).2⟩
  exact⟨.inr qo,qo⟩
 have ad:dH (λg=>More f w g/\g≠a) (Z.dB++ks) l (qL m (Z.dB.length+ks.length) A):=by
  refine⟨?_,λg d=>?_⟩
  .rw[su,qaq];exact aa.o
  simp[Value.ownBlock]at d;subst d;exact ac
 have ae:jf l a [q,r,qX ps Z.dB cs,n,qJ Z.at_]:=b.o.blk.kept (Kept.gH p.o) t (λe=>y e.symm);have af:gI 282 5 (λ_=>rD K) (λg=>More f w g/\g≠a) Z.dn.reverse l n:=by
  obtain⟨css,U,M⟩:=b.o.tY.grown i.own qx p.o (λx cs e=>e.kept (Kept.gH p.o) (λg _ hK hS=>b.o.pY g (i.at_ g hS).1 hK));exact⟨css,Row.mono U (λg _ d=>⟨.inl d.1,d.2⟩),M⟩
 have z:Kept (only a) l (l.setCell (qA a 2) (qL m (Z.dB.length+ks.length) A)):=qr.own _;refine⟨ae.set 2 _,.inl b.o.own,?_,?_,λk X=>X.elim (b.o.pY k) (E k),λk X=>?_⟩
 .exact Row.kept ad z (λg _ d (c:g=a)=>d.2 c)
 .exact af.kept z (λg _ d (c:g=a)=>d.2 c) (λ_ _ e=>e.kept z (λg _ d (c:g=a)=>b.o.pY a b.o.own (c▸d)))
 have:=b.o.kb k X;have M:=p.o.size;simp;omega
def Vg(K O:Nat->Prop)(bb:Nat)(mp lv sv bv:Value)(Z:Bd)(_:Unit)(w:World)(v:Value):Prop:=v=.tuple #[]/\gB K O w bb mp lv sv bv Z
def kM(Z:Bd)(ks:List Nat):Except Err Unit:=match dQ Z ks with
 | .error e=>.error e
 | .ok _=>.ok ()
theorem GM{K i ok:qD}{w:qW}{a c:Nat}{j k l m:qv}{p:qO}{Z:Bd}{ks:qM}(h:gB K i w a j k (qX p Z.dB c) l Z)(X:dH ok ks w m)(t:¬ok a)(hb:ks≠[]->Z.dn≠[])(hl:Z.dn.length<=60)(hf:Z.dJ.dK<=Z.dB.length)(u:Z.dB.length<=1000000)(x:ks.length<=50):
  qC 294 #[qP a,m] w (Says (only a) w (kM Z ks) (Vg K i a j k (qX p Z.dB c) l Z)):=by
 obtain⟨-,-,⟨y,z⟩,-,-⟩:=h.blk.five;obtain⟨C,D,rfl⟩:=Row.shape X;go_enter func294,ntmps294;go_wp2_with fail
 refine(take_any h X t hb hl hf u x).mono ?_;rintro e E⟨b,n,r⟩;have d:=qH h;clear h;rcases ho:dQ Z ks with⟨q,F⟩|st1
 .obtain rfl:=r _ _ ho;exact⟨rfl,Says.dG (by simp[kM,ho]) b⟩
 obtain⟨v,rfl,rfl,f⟩:=n _ ho;have A:qh (kM Z ks=.ok ()):=by show _=_;simp[kM,ho]
 have s:st1.at_=Z.at_:=(eO hf ho).2.1;obtain⟨-,-,⟨G,H⟩,-,-⟩:=f.blk.five;have g:=f.blk;rw[s]at g;have B:=qH g;clear n r ho f s g y z;go_wp2;go_end0;exact Says.dN A.o (b.own _) ⟨rfl,d.o.cells (b.own _) (B.o.set 2 _) d.o.stk d.o.tY⟩
theorem Each.Jc{c d:Type}{P:c->d->Prop}:∀{xs:List c}{x:c}{ys:List d},Each P (xs++[x]) ys->∃b y,ys=b++[y]/\Each P xs b/\P x y
 | [],x,[],h=>h.elim
 | [],x,[y],h=>⟨[],y,rfl,trivial,h.1⟩
 | [],x,y::z::ys,h=>h.2.elim
 | a::xs,x,[],h=>h.elim
 | a::xs,x,y::ys,h=>by
  obtain⟨b,f,e,U,g⟩:=Each.Jc (xs:=xs) h.2;exact⟨y::b,f,by rw[e];rfl,⟨h.1,U⟩,g⟩
theorem Each.Bz{a:Type}{P:a->qV->Prop}{m:Nat}:∀{xs:List a}{css:List (qV)},Each (λx c=>P x c/\c.length=m) xs css->css.flatten.length=xs.length*m
 | [],[],_=>qs
 | _::xs,c::css,h=>by
  have U:=h.1.2;have b:=Each.Bz (xs:=xs) (css:=css) h.2;simp only[qdy,qaq,qbb,U,b,Nat.add_mul];omega
 | [],_::_,h=>h.elim
 | _::_,[],h=>h.elim
theorem Row.set{ok:qD}{w:qW}{E:TypeId}{a n i g c:Nat}{xs:qV}(h:Row ok w E a (qL g n c) n xs)(u:qv):Row ok (w.setCell (qA g i) u) E a (qL g n c) n (xs.set i u):=by
 refine⟨⟨by simp[h.own.1],?_⟩,h.at_⟩;obtain⟨hv,_⟩ | ⟨l,A,b,hv,hb,d,e,f,j,k⟩:=h.own.2
 .cases hv
 cases hv;refine .inr ⟨g,c,b.setIfInBounds i u,rfl,hb,?_,e,f,by simpa using j,?_⟩
 .simp[World.setCell,Array.getElem?_modify,d]
 rw[<-k];simp[List.take_set]
theorem Row.free{ok:qD}{w:qW}{E:TypeId}{a n g c:Nat}{xs:qV}(h:Row ok w E a (qL g n c) n xs)(i:Nat):w.frozen? (qA g i)=false:=by
 obtain⟨hv,_⟩ | ⟨d,A,e,hv,hb,b,_⟩:=h.own.2
 .cases hv
 cases hv;simp[World.frozen?,b]
theorem KN{K ok:qD}{w:qW}{g A n:Nat}{a:List pW}{b:pW}(h:gI 282 5 (λ_=>rD K) ok (b::a).reverse w (qL g n A))(j:¬K g)(c:Bool):
  gI 282 5 (λ_=>rD K) ok ({b with cut:=c}::a).reverse (w.setCell ⟨g,a.length*5+4,none⟩ (.bool c)) (qL g n A):=by
 have X:Kept (only g) w (w.setCell ⟨g,a.length*5+4,none⟩ (.bool c)):=qr.own _;obtain⟨css,m,o⟩:=h;simp only[qcu]at o ⊢;obtain⟨l,cs,rfl,U,⟨⟨f,gv,rfl,q,r⟩,-⟩⟩:=o.Jc;have p:=U.Bz;obtain⟨u,v,hv⟩:=Row.shape m;cases hv;refine⟨l++[[qB b.word,f,gv,qJ b.dK,.bool c]],?_,?_⟩
 .have hr:=Row.set (i:=a.length*5+4) m (.bool c);simp only[List.flatten_append,qdy,List.flatten_nil,qbt]at hr ⊢;have s:(a.reverse++[{b with cut:=c}]).length=(a.reverse++[b]).length:=qs;have t:(l.flatten++[Value.int .u8 b.word,f,gv,qJ b.dK,.bool b.cut]).set (a.length*5+4) (.bool c)=l.flatten++[Value.int .u8 b.word,f,gv,qJ b.dK,.bool c]:=by
   simp only[List.length_reverse]at p;rw[qcp _ _ qo,p];simp
  rw[t]at hr;rw[s];simpa using hr
 refine Each.snoc (U.to (λx cs hh=>⟨hh.1.kept X (λk _ d (e:k=g)=>j (e▸d)),hh.2⟩)) ⟨⟨f,gv,rfl,Row.kept q X (λk _ d (e:k=g)=>j (e▸d)),Row.kept r X (λk _ d (e:k=g)=>j (e▸d))⟩,rfl⟩
theorem Row.apart{ok ok':qD}{w:qW}{E d:TypeId}{f i n n':Nat}{v e:qv}{xs j:qV}(h:Row ok w E f v n xs)(h':Row ok' w d i e n' j)(k:E≠d){g:Nat}(a:v.ownBlock=some g):e.ownBlock≠some g:=by
 intro b;obtain⟨rfl,_⟩ | ⟨m,o,p,rfl,_,l,_⟩:=h.own.2
 .simp[Value.ownBlock]at a
 obtain⟨rfl,_⟩ | ⟨q,r,s,rfl,_,c,_⟩:=h'.own.2
 .simp[Value.ownBlock]at b
 simp[Value.ownBlock]at a b;subst a b;rw[l]at c;simp at c;exact k c.2
theorem Row.only{ok ok':qD}{w:qW}{E:TypeId}{a n:Nat}{v:qv}{xs:qV}(h:Row ok w E a v n xs)(b:∀g,v.ownBlock=some g->ok' g):Row ok' w E a v n xs:=⟨h.own,b⟩
theorem Fh{K l:qD}{w:qW}{i c g A:Nat}{m n:qv}{p:qO}{Z:Bd}(h:gB K l w i m n (qX p Z.dB c) (qL g Z.dn.length A) Z)(hb:Z.dn≠[])
  (hc:dH (λg=>l g/\g≠i) (Z.dB.take Z.dJ.dK) w (.slice p Z.dJ.dK c)) (k k':Nat):
  Says l w (.ok (fV Z)) (EX K l w i m n) (.returned (.tuple #[])) ((((w.drewN k).setCell (qA i 2) (.slice p Z.dJ.dK c)).drewN k').setCell ⟨g,(Z.dn.length - 1)*5+4,none⟩ (.bool true)):=by
 obtain⟨stk,d,a⟩:=Z;cases d with
 | nil=>exact absurd rfl hb
 | cons b d=>
  simp only[Bd.dJ,qds]at hc ⊢;have o:∃css,Row (λg=>l g/\g≠i) w 282 5 (qL g (b::d).length A) (b::d).reverse.length css:=by
   obtain⟨css,U,-⟩:=h.tY;exact⟨_,U⟩
  obtain⟨css,o⟩:=o;have q:=o.at_ g rfl;have U:gB K l (((w.drewN k).setCell (qA i 2) (.slice p b.dK c)).drewN k') i m n (.slice p b.dK c) (qL g (b::d).length A) ⟨stk.take b.dK,b::d,a⟩:=
   (h.cells (J:=⟨stk.take b.dK,b::d,a⟩) ((qr.drewN _).own _) ((h.blk.drewN _).set 2 _) hc h.tY).drewN _
  generalize t:((w.drewN k).setCell (qA i 2) (.slice p b.dK c)).drewN k'=W at U ⊢;have u:Kept l w W:=by rw[<-t];exact((qr.drewN _).setCell (λ_=>h.own) _).drewN _
  have v:∀j,w.heap.size<=j->¬K j:=λj f c=>by have:=h.kb j c;omega
  have x:((b::d).length - 1)*5+4=d.length*5+4:=qs;have s:Kept (only g) W (W.setCell ⟨g,((b::d).length - 1)*5+4,none⟩ (.bool true)):=qr.own _;refine Says.dN rfl (u.setCell (λ_=>q.1) _) ⟨rfl,.slice p b.dK c,qL g (b::d).length A,?_⟩;have y:gB K l (W.setCell ⟨g,((b::d).length - 1)*5+4,none⟩ (.bool true)) i m n (.slice p b.dK c) (qL g (b::d).length A) ⟨stk.take b.dK,{b with cut:=true}::d,a⟩:=by
   have z:∃css,Row (λg=>l g/\g≠i) W 282 5 (qL g (b::d).length A) (b::d).reverse.length css:=by
    obtain⟨css,r,-⟩:=U.tY;exact⟨_,r⟩
   obtain⟨C,B⟩:=z;refine⟨U.blk.kept s U.lt (λ(e:i=g)=>q.2 e.symm),U.own,?_,?_,U.pY,λj f=>by have:=U.kb j f;simpa using this⟩
   .have r:dH (λj=>(l j/\j≠i)/\j≠g) (stk.take b.dK) W (.slice p b.dK c):=Row.only U.stk (λj f=>⟨U.stk.at_ j f,λe=>Row.apart U.stk B qx f (by rw[e];rfl)⟩);exact Row.mono (Row.kept r s (λj _ f (e:j=g)=>f.2 e)) (λj _ f=>f.1)
   rw[x];exact KN U.tY (U.pY g q.1) true
  exact y.more (λj f=>.inl f) (λj f=>f.elim (h.pY j) (v j))
theorem Kn{K b:qD}{w:qW}{a c:Nat}{j k t:qv}{p:qO}{Z:Bd}(h:gB K b w a j k (qX p Z.dB c) t Z)(hb:Z.dn≠[])(hl:Z.dn.length<=60)(hf:Z.dJ.dK<=Z.dB.length):
  qC 238 #[qP a] w (Says b w (.ok (fV Z)) (EX K b w a j k)):=by
 obtain⟨g,A,B,gv,rfl,l,C,D,m,-,-,E,F,G,B3,H⟩:=h.uG hb;obtain⟨-,-,⟨I,J⟩,⟨L,M⟩,⟨N,O⟩⟩:=h.blk.five;have d:=h.blk;have u:=qH h;have i:=h.stk;have v:=qH (dH.cut Z.dJ.dK i hf);have P:Z.dB.length<=c:=by
  obtain⟨hv,q⟩ | ⟨g,A,Q,hv,_,_,x,_⟩:=i.own.2
  .omega
  cases hv;exact x
 have R:w.frozen? ⟨g,(Z.dn.length - 1)*5+4,none⟩=false:=by
  obtain⟨css,r,-⟩:=h.tY;rw[show Z.dn.reverse.length=Z.dn.length by simp]at r;exact Row.free r _
 clear h i;have S:=l.2;have T:a≠g:=λe=>l.2 e.symm;have U:=d.lt;generalize q:Z.dn.length=n at*;generalize y:Z.dJ.dK=s at*;have V:(0:Int)<=(s:Int):=qo;have W:(s:Int)<=(c:Int):=qo;go_enter func238,ntmps238;go_wp2_with fail
 go_region_law (first
  | (refine dP (f:=292) (args:= #[qP a]) (by rfl) (by go_simp) (mF (d.drewN 1) m hl) ?_;rintro e z⟨rfl,X,rfl⟩;refine⟨_,rfl,?_⟩))
 all_goals
  go_wp2_with fail
  refine(mF ((d.drewN _).set 2 _) m hl).mono ?_;rintro e z⟨rfl,Y,rfl⟩;go_wp2;go_end0;subst q y;exact Fh u.o hb v.o _ _
def Told(N q p:Nat):Prop:=2<=q/\q<=6/\p<=N
theorem Ka{m:dX}{ls:qM}{s:qS}{n N:Nat}(hm:iX N m)(b:n<=N):∀(fuel:Nat)(os:qM)(j:Nat)(Z:Bd){q p:Nat},j<=n->Tidy Z->Z.dn.length=os.length+1->rO m ls s n fuel os j Z=.error (q,p)->Told N q p:=by
 intro fuel;induction fuel with
 | zero=>intro os j Z q p l f hb h;simp[rO]at h;obtain⟨rfl,rfl⟩:=h;exact⟨qo,qo,b⟩
 | succ fuel o=>
  intro os j Z q p l f hb h;unfold rO at h;by_cases g:j<n
  .rw[dY g]at h;simp only at h;have i:∀y e,iE j (bt s j) s n (j+1)=.ok (y,e)->nJ N y/\e<=n:=by
    intro y e hb;have:=(jX j (bt s j)).ok qo qo hb;obtain⟨-,r,t,u,v,w,z⟩:=this;exact⟨⟨t.le b,u,λx hx=>(v x hx).le b,w,z⟩,r⟩
   have hst:Tidy {Z with at_:=j}:=⟨f.kR,f.short⟩;have hne:({Z with at_:=j}:Bd).dn≠[]:=by
    intro c;have:Z.dn.length=0:=by simp at c;simp[c]
    omega
   by_cases hl:bt s j=11/\os=[]
   .rw[qac hl]at h;simp only at h;split at h
    .rename_i a;cases h;have:=(jX j (bt s j)).err qo qo a;exact⟨qo,qo,qo⟩
    rename_i y e a;obtain⟨hy,k⟩:=i _ _ a;split at h
    .exact UN
    rw[qac hl]at h;cases h
   rw[qaa hl]at h;rcases d:gp os j (bt s j) with⟨C,D⟩|os'
   .rw[d]at h;cases h;have:=DL d;exact⟨qo,qo,qo⟩
   rw[d]at h;simp only at h;split at h
   .rename_i a;cases h;have:=(jX j (bt s j)).err qo qo a;exact⟨qo,qo,qo⟩
   rename_i y e a;obtain⟨hy,k⟩:=i _ _ a;split at h
   .exact UN
   rename_i J hc;rw[qaa hl]at h;obtain⟨A,-,-,B⟩:=(tC (ls:=ls) hm hy (bt s j) _ hst hne qt).2 _ hc;have:=zY (.inr ⟨hl,os',d,rfl⟩);refine o os' e J k A ?_ h;simp at B;omega
  rw[gQ g]at h;cases h;exact⟨qo,qo,b⟩
theorem jJ{a:Type}{f:a->Except Err Unit}{R:Nat->qD}:∀{xs:List a}{q p:Nat},(∀x∈xs,∀q p,f x=.error (q,p)->R q p)->dV f xs=.error (q,p)->R q p
 | [],q,p,_,h=>by simp[dV]at h
 | x::xs,q,p,U,h=>by
  unfold dV at h;split at h
  .rename_i ho;cases h;exact U x qs _ _ ho
  exact jJ (λy hy=>U y (by simp[hy])) h
theorem mq{a b:Except Err Unit}{R:Nat->qD}{q p:Nat}(U:∀q p,a=.error (q,p)->R q p)(c:∀q p,b=.error (q,p)->R q p)(h:lq a b=.error (q,p)):R q p:=by
 unfold lq at h;split at h
 .cases h;exact U _ _ rfl
 exact c _ _ h
theorem vT{a q p N:Nat}{x:Int×Nat}(hx:mJ N x)(h:gV a x=.error (q,p)):Told N q p:=by
 unfold gV at h;split at h<;>cases h;exact⟨qo,qo,hx.2.2⟩
theorem wJ{k q p N:Nat}{c:Cst}(hx:c.at_<=N)(h:jc k c=.error (q,p)):Told N q p:=by
 unfold jc at h;split at h<;>cases h;exact⟨qo,qo,hx⟩
theorem Iy{s:qS}{m:dX}{f q p N:Nat}(hm:iX N m)(hf:f<m.dF.length)(h:gJ s m f=.error (q,p)):Told N q p:=by
 have hc:=hm.dF.2 _ (show m.dF.getD f ([],0,0)∈m.dF by simp[hf]);unfold gJ at h;have a:Tidy ⟨[],[⟨2,[],(dM m f).outs,0,false⟩],0⟩:=by
  refine⟨⟨qR,trivial⟩,?_⟩;intro b hb;simp at hb;subst hb;exact⟨qs,(nU hm f).2⟩
 exact Ka hm hc.2.2 _ _ _ _ hc.2.1 a qs h
theorem Rl{s:qS}{m:dX}{q p N:Nat}(hm:iX N m)(h:zC s m=.error (q,p)):Told N q p:=by
 unfold zC at h;refine mq (λq p=>jJ (λx hx _ _ h=>vT (hm.funcs.2 x hx) h)) (λq p=>mq (λq p=>jJ (λx hx q p h=>?_)) (λq p=>mq (λq p=>jJ (λx hx q p h=>?_)) (λq p=>mq (λq p=>jJ (λx hx q p h=>wJ (hm.dI.2 x hx) h))
  (λq p=>mq (λq p=>jJ (λx hx q p h=>?_)) (λq p=>mq (λq p=>jJ (λx hx q p h=>?_)) (λq p=>mq (λq p=>jJ (λx hx q p h=>?_)) (λq p=>mq (λq p=>jJ (λx hx q p h=>Iy hm (by simpa using hx) h)) (λq p=>jJ (λx hx q p h=>?_))))))))) h
 .have:=hm.tables.2 x hx;unfold jQ at h;split at h<;>cases h;exact⟨qo,qo,this⟩
 .have:=hm.fP.2 x hx;unfold jQ at h;split at h<;>cases h;exact⟨qo,qo,this⟩
 .unfold fM at h;split at h
  .cases h
  rename_i e a;have:=hm.dw.2 e (qai a);split at h
  .cases h;exact⟨qo,qo,this.1⟩
  exact vT this.2.1 h
 .have:=hm.starts.2 x hx;unfold ig at h;split at h
  .rename_i ho;cases h;have U:=nL this ho;exact⟨qo,qo,U.2⟩
  split at h<;>cases h;exact⟨qo,qo,this.2.2⟩
 .have:=hm.elems.2 x hx;unfold jd at h;split at h
  .cases h;exact⟨qo,qo,this.1⟩
  split at h
  .rename_i ho;cases h;exact wJ this.2.1 ho
  exact jJ (λy hy _ _ h=>vT (this.2.2.2 y hy) h) h
 have:=hm.data.2 x hx;unfold jB at h;split at h
 .cases h;exact⟨qo,qo,this.1⟩
 exact wJ this.2 h
end Go.Proofs.YtfkcodlceoghpaaGreatDoor
