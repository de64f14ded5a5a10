import Derived.Test.YtfkcodlceoghpaaGreatDoorX19
import Derived.Test.YtfkcodlceoghpaaGreatDoorX20
namespace Go.Proofs.YtfkcodlceoghpaaGreatDoor
set_option maxHeartbeats 3200000
set_option maxRecDepth 100000
set_option linter.unusedSimpArgs false
set_option linter.unusedVariables false
open Go.RowKit Go.Proofs.Tryz
section
variable {w0 w:qW}{G:Gm}{E:Ev}{Q:Nat->Gf}{fv:qv}{Xq l:List It}
theorem jg.Jm(h:jg Xq G E Q fv)(b:Sx w0 w l)(c:∀p∈Xq,p∈l){f k o:Nat}{F:PF}{p:PS}(d:E.fs[f]?=some F)(X:F.ss[k]?=some p)(ho:o<5):w.cell? ⟨G.sg f,k*5+o,none⟩=(Gv p ((Q f).lv k))[o]?/\G.sg f<w.heap.size:=by
 obtain⟨U,e⟩:=h.Z f F d;have i:=(qae.1 X).1;obtain⟨A,hv⟩:=e qo;obtain⟨g,A,a,-,j,-,n⟩:=Row.cells (U.row b c) qo;rw[hv]at a;cases a;refine⟨(n (k*5+o) qo).trans ?_,j⟩;have:=flat_get (f:=λk=>Gv (F.ss.getD k ⟨0,0,0,[],0⟩) ((Q f).lv k)) (xs:=List.range F.ss.length) (m:=5) (o:=o) (λ_=>rfl) (List.getElem?_range i) ho;rw[this,qag,X];rfl
end
theorem o5{r:Option Rn}{s:Rn}{why:Nat}(h:ok0 r=some (s,why)):r=some s/\why=0:=by
 unfold ok0 at h;cases r with
 | none=>cases h
 | some a=>cases h;exact⟨rfl,rfl⟩
section
variable {w0 w:qW}{G:Gm}{E:Ev}{Q:Nat->Gf}{rb Y fu most:Nat}{tv fv ev bv:qv}{Xq:List It}{s s':Rn}{f k:Nat}{F:PF}{p:PS}
theorem Jy{why:Nat}(h:RA w0 G rb Y fu tv fv ev bv most Xq s w)(g:jg Xq G E Q fv)(u:E.fs[f]?=some F)(X:F.ss[k]?=some p)(y:ny E s)(hl:s.stk.length<=300000)(I:s.lab.length<100000)(j:s.eY.length<=50)(hc:oh E p s=some (s',why)):qC 194 #[qP rb,.pointer (some ⟨G.sg f,k*5,none⟩)] w λe w'=>e=.returned (qJ why)/\RA w0 G rb Y fu tv fv ev bv most Xq s' w':=by
 obtain⟨v,h⟩:=h;obtain⟨c0,aa⟩:=g.Jm h fG u X (o:=0) qo;obtain⟨c1,-⟩:=g.Jm h fG u X (o:=1) qo;replace c0:w.cell? ⟨G.sg f,k*5,none⟩=some (qB p.wd):=c0
 replace c1:w.cell? ⟨G.sg f,k*5+1,none⟩=some (qJ p.bk):=c1
 unfold oh at hc;generalize p.wd=q at*;by_cases h0:q=0
 .subst h0;cases hc;replace c0:w.cell? ⟨G.sg f,k*5,none⟩=some (qB 0):=c0
  have H:=qH h;clear h;go_enter func194,ntmps194;go_wp2;go_ret;exact⟨rfl,_,H.o⟩
 rw[qaa h0]at hc;by_cases L:q=2\/q=3
 .rw[qac L]at hc;obtain⟨b,rfl⟩:=o5 hc;have HO:=qH (DC h g hl qo j b);clear h hc b;obtain rfl | rfl:=L
  .replace c0:w.cell? ⟨G.sg f,k*5,none⟩=some (qB 2):=c0
   go_enter func194,ntmps194;exact Dn
  replace c0:w.cell? ⟨G.sg f,k*5,none⟩=some (qB 3):=c0
  go_enter func194,ntmps194;exact Dn
 rw[qaa L]at hc;by_cases d:q=4
 .subst d;rw[qac rfl]at hc;obtain⟨b,rfl⟩:=o5 hc;replace c0:w.cell? ⟨G.sg f,k*5,none⟩=some (qB 4):=c0
  have HO:=qH (SL ⟨v,h⟩ g y hl I j b);clear h hc b;go_enter func194,ntmps194;exact Dn
 rw[qaa d]at hc;by_cases r:q=5
 .subst r;rw[qac rfl]at hc;obtain⟨b,rfl⟩:=o5 hc;replace c0:w.cell? ⟨G.sg f,k*5,none⟩=some (qB 5):=c0
  have HO:=qH (oM h g y hl qo j b);clear h hc b;go_enter func194,ntmps194;exact Dn
 rw[qaa r]at hc;by_cases t:q=11
 .subst t;rw[qac rfl]at hc;split at hc
  .cases hc
  rename_i J;cases hc;replace c0:w.cell? ⟨G.sg f,k*5,none⟩=some (qB 11):=c0
  obtain⟨n,z⟩:∃n,s.lab.length=n+1:=⟨s.lab.length - 1,qo⟩;obtain⟨i,cl,A,-,ab,ac,M⟩:=Row.cells (h.isRow 2 rfl) (show 0<s.lab.length by omega);obtain⟨vs,vl,N,O,R⟩:=v;simp only at A;subst A;obtain⟨T,y3⟩:=h.c 0 3 rfl rfl;have ad:=h.lt 0 rfl;have ae:IntKind.i64.wrap ((s.lab.length:Int) - 1)=(n:Int):=by rw[show(s.lab.length:Int) - 1=(n:Int) by omega];exact qaf _ ⟨qo,qo⟩
  have af:(n:Int)<=(cl:Int):=qo;have d:=((h.cut 2 (n:=s.lab.length) (n':=n) qo rfl).drew.set 0 3 (qL i n cl) rfl);have U:=qH d;have B:=qH z;clear h d M z J;go_enter func194,ntmps194;go_wp2_with fail
  have C:(λV:qW=>V.cell? (qA rb 3)=some (qL i s.lab.length cl)) w.drew:=T;refine jU (λV:qW=>V.cell? (qA rb 3)=some (qL i s.lab.length cl)) 14 ?_;iterate 14 refine nE C ?_ (hy:=qu)
  refine iU (λK D=>?_);go_simp;refine D _ _ ?_;clear D K C;go_wp2;go_ret;refine⟨rfl,⟨vs,qL i n cl,N,O,R⟩,?_⟩;have:=U.o;have W:s.lab.dropLast=s.lab.take n:=by rw[qde,B.o];rfl
  have Z:(s.lab.take n).length=n:=by have:=B.o;simp;omega
  simp only[LM,qz,qw]at this ⊢;rw[W,Z,nQ (m:=2) (λ_=>rfl)];exact this
 rw[qaa t]at hc;cases hc;have t0:((q:Int)==0)=false:=by simp;omega
 have t2:((q:Int)==2)=false:=by simp;omega
 have t3:((q:Int)==3)=false:=by simp;omega
 have t4:((q:Int)==4)=false:=by simp;omega
 have t5:((q:Int)==5)=false:=by simp;omega
 have ag:((q:Int)==11)=false:=by simp;omega
 have H:=qH h;clear h h0 L d r t;go_enter func194,ntmps194;go_wp2;go_ret;exact⟨rfl,_,H.o⟩
end
section
variable {w0 w:qW}{G:Gm}{E:Ev}{Q:Nat->Gf}{rb Y fu most:Nat}{tv fv ev bv:qv}{Xq:List It}{s s':Rn}
theorem vZ{v:Rv}{gs cs b num:Nat}(h:Sx w0 w (LM G rb Y fu tv fv ev bv most v s Xq))(hv:v.s=qL gs s.stk.length cs)(hl:s.stk.length<=300000)(ab:s.lab.length<=100000)(B:s.eY.length<=50)(hb:uT s=some b)(C:b+num<s.stk.length):qC 259 #[qP rb,qI num] w λe w'=>e=.returned (.pointer (some ⟨gs,b+num,none⟩))/\Sx w0 w' (LM G rb Y fu tv fv ev bv most v s Xq):=by
 unfold uT at hb;cases hf:s.eY.getLast? with
 | none=>rw[hf]at hb;cases hb
 | some f=>
  rw[hf]at hb;simp only at hb;cases d:s.lab[f.fi]? with
  | none=>rw[d]at hb;cases hb
  | some D=>
   rw[d]at hb;simp only[Option.map_some,Option.some.injEq]at hb;have j:0<s.eY.length:=by
    exact T9
   have ac:f.fi<s.lab.length:=(qae.1 d).1;obtain⟨gf,cf,t,-,F,ad,I⟩:=Row.cells (h.isRow 3 rfl) j;obtain⟨g,cl,u,-,J,ae,L⟩:=Row.cells (h.isRow 2 rfl) (show 0<s.lab.length by omega);obtain⟨k,X⟩:=qE (s.eY.length - 1);have y:s.eY[k]?=some f:=by rw[X,<-qbm];exact hf
   obtain⟨vs,vl,vf,M,N⟩:=v;simp only at t u hv;subst t u hv;have n:∀V:qW,Sx w0 V (LM G rb Y fu tv fv ev bv most ⟨qL gs s.stk.length cs,qL g s.lab.length cl,qL gf s.eY.length cf,M,N⟩ s Xq)->
     V.cell? (qA rb 3)=some (qL g s.lab.length cl)/\V.cell? ⟨gf,k*3+2,none⟩=some (qJ f.fi)/\V.cell? ⟨g,f.fi*2+1,none⟩=some (qJ b):=λV p=>by
    obtain⟨_,_,O,-,-,-,R⟩:=Row.cells (p.isRow 3 rfl) j;obtain⟨_,_,T,-,-,-,W⟩:=Row.cells (p.isRow 2 rfl) (show 0<s.lab.length by omega);cases O;cases T;exact⟨(p.c 0 3 rfl rfl).1,(R (k*3+2) qo).trans (flat_get (m:=3) (o:=2) (λ_=>rfl) y qo),(W (f.fi*2+1) qo).trans ((flat_get (m:=2) (o:=1) (λ_=>rfl) d qo).trans (by rw[<-hb];rfl))⟩
   have af:(k:Int)<(s.eY.length:Int):=qo;have ag:(f.fi:Int)<(s.lab.length:Int):=qo;have ah:IntKind.i64.wrap (num:Int)=(num:Int):=qaf _ ⟨qo,qo⟩;have Z:IntKind.i64.wrap ((b:Int)+(num:Int))=((b+num:Nat):Int):=by rw[show(b:Int)+(num:Int)=((b+num:Nat):Int) by omega];exact qaf _ ⟨qo,qo⟩
   have aa:((b+num:Nat):Int)<(s.stk.length:Int):=qo;obtain⟨bn,z⟩:=qE (b+num);rw[<-z]at Z aa ⊢;have q:=qH (rX h.drew (gf:=gf) (cf:=cf) rfl B j);rw[<-X]at q;have H:=qH h;have HX:qh (D.fl=b):=hb;clear h I L hf X y d hb F J z C;go_enter func259,ntmps259;go_upto_region 1 with fail
   have A:=n _ H.o.drew;refine jU (λV:qW=>V.cell? (qA rb 3)=some (qL g s.lab.length cl)/\V.cell? ⟨gf,k*3+2,none⟩=some (qJ f.fi)/\V.cell? ⟨g,f.fi*2+1,none⟩=some (qJ b)) 12 ?_;iterate 5 refine nE A ?_ (hy:=qY)
   refine jO (λK i=>?_);refine dP (f:=140) (args:= #[qP rb]) (by rfl) (by go_simp) q.o ?_;rintro e w1⟨rfl,U⟩;have r:=n _ U;refine⟨_,rfl,i _ _ (.inr r) ?_⟩;clear i K A;simp only[Act.put,qy,qz,qw];iterate 6 refine nE r ?_ (hy:=qY)
   refine iU (λK i=>?_);go_simp;refine i _ _ ?_;obtain⟨x2,y2⟩:=U.c 0 2 rfl rfl;have ai:=U.lt 0 rfl;have H1:=qH U;clear i K r n U H q;go_wp2;go_ret;exact⟨rfl,H1.o⟩
end
section
variable {w0 w:qW}{G:Gm}{E:Ev}{Q:Nat->Gf}{rb Y fu most:Nat}{tv fv ev bv:qv}{Xq:List It}{s s':Rn}{f k:Nat}{F:PF}{p:PS}
theorem Q8{l:List Int}{j:Nat}{n:Int}:(eD l).set j (qJ n)=eD (l.set j n):=by unfold eD;rw[List.map_set]
theorem Py{why:Nat}(h:RA w0 G rb Y fu tv fv ev bv most Xq s w)(hF:jg Xq G E Q fv)(aq:E.fs[f]?=some F)(X:F.ss[k]?=some p)(hl:s.stk.length<=300000)(ah:s.lab.length<=100000)(ai:s.eY.length<=50)(hc:tu p s=some (s',why)):qC 196 #[qP rb,.pointer (some ⟨G.sg f,k*5,none⟩)] w λe w'=>qU e/\RA w0 G rb Y fu tv fv ev bv most Xq s' w':=by
 have ae:qh (∀V l,Sx w0 V l->(∀p∈Xq,p∈l)->V.cell? ⟨G.sg f,k*5+2,none⟩=some (qI p.num)/\G.sg f<V.heap.size):=λV l J hl=>hF.Jm J hl aq X (o:=2) qo;obtain⟨v,h⟩:=h;obtain⟨c0,aI⟩:=hF.Jm h fG aq X (o:=0) qo;obtain⟨c2,-⟩:=ae.o _ _ h fG;replace c0:w.cell? ⟨G.sg f,k*5,none⟩=some (qB p.wd):=c0
 unfold tu at hc;generalize p.wd=q at*;generalize p.num=num at*;by_cases aj:q=26
 .subst aj;rw[qac rfl]at hc;cases hp:s.pop with
  | none=>rw[hp]at hc;cases hc
  | some A=>
   obtain⟨n,m⟩:=A;rw[hp]at hc;cases hc;replace c0:w.cell? ⟨G.sg f,k*5,none⟩=some (qB 26):=c0
   have HO:=qH (fI ⟨v,h⟩ hl hp);clear h hp;exact WO
 rw[qaa aj]at hc;by_cases ak:q=27
 .subst ak;rw[qac rfl]at hc;cases hp:s.pop with
  | none=>rw[hp]at hc;cases hc
  | some A=>
   obtain⟨n,m⟩:=A;rw[hp]at hc;simp only at hc;cases af:m.pop with
   | none=>rw[af]at hc;cases hc
   | some A=>
    obtain⟨b,s2⟩:=A;rw[af]at hc;simp only at hc;cases ag:s2.pop with
    | none=>rw[ag]at hc;cases hc
    | some A=>
     obtain⟨a,s3⟩:=A;rw[ag]at hc;cases hc;replace c0:w.cell? ⟨G.sg f,k*5,none⟩=some (qB 27):=c0
     obtain⟨r,hr⟩:=qE (if n≠0 then a else b);rw[<-hr];have HO:=qH (Pz ⟨v,h⟩ hl hp af ag hr);clear h hp af ag hr;exact WO
 rw[qaa ak]at hc;by_cases al:q=32
 .subst al;rw[qac rfl]at hc;cases hb:uT s with
  | none=>rw[hb]at hc;cases hc
  | some b=>
   rw[hb]at hc;simp only at hc;cases i:s.stk[b+num]? with
   | none=>rw[i]at hc;cases hc
   | some n=>
    rw[i]at hc;cases hc;replace c0:w.cell? ⟨G.sg f,k*5,none⟩=some (qB 32):=c0
    have t:b+num<s.stk.length:=(qae.1 i).1;obtain⟨gs,cs,D,-,M,ar,y⟩:=Row.cells (h.isRow 1 rfl) (show 0<s.stk.length by omega);have HO:=qH (vZ h D hl ah ai hb t);obtain⟨j,I⟩:=qE (b+num);rw[<-I]at HO i t;have HN:=qH i;clear h hb i I M y;go_enter func196,ntmps196;go_wp2_with fail
    refine HO.o.mono ?_;rintro e w2⟨rfl,L⟩;obtain⟨au,aw,ad,-,M,-,y⟩:=Row.cells (L.isRow 1 rfl) (show 0<s.stk.length by omega);rw[D]at ad;cases ad;have c5:w2.cell? (qA gs j)=some (qJ n):=(y j qo).trans (by unfold eD;rw[qbk,HN.o];rfl);have HP:=qH (iw ⟨v,L⟩ hl n);clear L HO y D;go_wp2_with fail
    refine HP.o.mono ?_;rintro e w3⟨rfl,B⟩;have H3:=qH B;clear B HP;go_wp2;go_end0;exact⟨rfl,H3.o⟩
 rw[qaa al]at hc;by_cases am:q=33
 .subst am;rw[qac rfl]at hc;cases hp:s.pop with
  | none=>rw[hp]at hc;cases hc
  | some A=>
   obtain⟨n,m⟩:=A;rw[hp]at hc;simp only at hc;cases hb:uT m with
   | none=>rw[hb]at hc;cases hc
   | some b=>
    rw[hb]at hc;simp only at hc;split at hc
    .rename_i t;cases hc;obtain⟨p1,p2,-,-,p5⟩:=eZ hp;have aC:m.stk.length<=300000:=qo;have aD:m.lab.length<=100000:=by rw[p1];exact ah
     have aE:m.eY.length<=50:=by rw[p2];exact ai
     replace c0:w.cell? ⟨G.sg f,k*5,none⟩=some (qB 33):=c0
     have HO:=qH (fI ⟨v,h⟩ hl hp);obtain⟨j,I⟩:=qE (b+num);rw[<-I];have HB:qh (uT m=some b/\j=b+num):=⟨hb,I⟩;rw[<-I]at t;clear h hp hb p1 p2 p5 I;go_enter func196,ntmps196;go_wp2_with fail
     refine HO.o.mono ?_;rintro e w1⟨rfl,v1,U⟩;obtain⟨c2,aJ⟩:=ae.o _ _ U fG;obtain⟨gs,cs,D,-,M,ar,y⟩:=Row.cells (U.isRow 1 rfl) (show 0<m.stk.length by omega);have N:=qH (vZ U D aC aD aE HB.o.1 (num:=num) (by rw[<-HB.o.2];exact t));rw[<-HB.o.2]at N;clear U HO HB M y;go_wp2_with fail
     refine N.o.mono ?_;rintro e w2⟨rfl,L⟩;obtain⟨vs,O,R,T,vg⟩:=v1;simp only at D;subst D;obtain⟨au,aw,ad,-,M,-,y⟩:=Row.cells (L.isRow 1 rfl) (show 0<m.stk.length by omega);cases ad;have c5:w2.cell? (qA gs j)=some (qJ m.stk[j]):=(y j qo).trans (uH t);have ax:=L.vM 1 j rfl;have B:=L.EG 1 j (qJ n) rfl;have H3:=qH B;clear L N y B;go_wp2;go_end0;refine⟨rfl,⟨qL gs m.stk.length cs,O,R,T,vg⟩,?_⟩;exact Vx
    cases hc
 rw[qaa am]at hc;by_cases an:q=34
 .subst an;rw[qac rfl]at hc;cases i:s.stk.getLast? with
  | none=>rw[i]at hc;cases hc
  | some n=>
   cases hb:uT s with
   | none=>rw[i,hb]at hc;cases hc
   | some b=>
    rw[i,hb]at hc;simp only at hc;split at hc
    .rename_i t;cases hc;replace c0:w.cell? ⟨G.sg f,k*5,none⟩=some (qB 34):=c0
     obtain⟨gs,cs,D,-,M,ar,-⟩:=Row.cells (h.isRow 1 rfl) (show 0<s.stk.length by omega);obtain⟨vs,O,R,T,vg⟩:=v;simp only at D;subst D;obtain⟨W,ay⟩:=qE (s.stk.length - 1);have aA:s.stk[W]?=some n:=by rw[ay,<-qbm];exact i
     have aK:IntKind.i64.wrap ((s.stk.length:Int) - 1)=(W:Int):=by rw[show(s.stk.length:Int) - 1=(W:Int) by omega];exact qaf _ ⟨qo,qo⟩
     have aL:(W:Int)<(s.stk.length:Int):=qo;have Z:∀V:qW,Sx w0 V (LM G rb Y fu tv fv ev bv most ⟨qL gs s.stk.length cs,O,R,T,vg⟩ s Xq)->
       V.cell? (qA rb 2)=some (qL gs s.stk.length cs)/\V.cell? (qA gs W)=some (qJ n)/\V.cell? ⟨G.sg f,k*5+2,none⟩=some (qI num):=λV J=>by
      obtain⟨_,_,e1,-,-,-,q1⟩:=Row.cells (J.isRow 1 rfl) (show 0<s.stk.length by omega);cases e1;exact⟨(J.c 0 2 rfl rfl).1,(q1 W qo).trans (by unfold eD;rw[qbk,aA];rfl),(ae.o _ _ J fG).1⟩
     have N:=qH (vZ h.drew rfl hl ah ai hb t);obtain⟨j,I⟩:=qE (b+num);rw[<-I]at N t ⊢;have d:=Z _ h.drew;clear h I hb i ay aA M;go_enter func196,ntmps196;go_upto_region 11 with fail
     refine jU (λV:qW=>V.cell? (qA rb 2)=some (qL gs s.stk.length cs)/\V.cell? (qA gs W)=some (qJ n)/\V.cell? ⟨G.sg f,k*5+2,none⟩=some (qI num)) 19 ?_;iterate 5 refine nE d ?_ (hy:=qY)
     unfold jh;refine jb 6 d ?_;refine jb 7 d ?_;refine jb 8 d ?_;refine jb 9 d ?_ (hy:=qY);refine jb 10 d ?_;refine jb 11 d ?_;refine jb 12 d ?_;refine jb 13 d ?_ (hy:=qY);refine jb 14 d ?_;refine jb 15 d ?_;refine jb 16 d ?_;refine jb 17 d ?_ (hy:=qY);refine oJ 5 (λK u=>?_);refine dP (f:=259) (args:= #[qP rb,qI num]) (by rfl) (by go_simp) N.o ?_;rintro e w1⟨rfl,U⟩;have aa:=Z _ U;refine⟨_,rfl,u _ _ (.inr aa) ?_⟩;clear u K d;simp only[Act.put,qy,qz,qw];refine jb 18 aa ?_;obtain⟨au,aw,ad,-,M,-,y⟩:=Row.cells (U.isRow 1 rfl) (show 0<s.stk.length by omega);cases ad;have c5:w1.cell? (qA gs j)=some (qJ s.stk[j]):=(y j qo).trans (uH t);have ax:=U.vM 1 j rfl;have B:=U.EG 1 j (qJ n) rfl;have H3:=qH B;clear U N y B Z;refine xE (λK u=>?_);go_simp;refine u _ _ ?_;clear u K aa;go_wp2;go_end0;refine⟨rfl,⟨qL gs s.stk.length cs,O,R,T,vg⟩,?_⟩;exact Vx
    cases hc
 rw[qaa an]at hc;by_cases ao:q=35
 .subst ao;rw[qac rfl]at hc;cases i:s.dW[num]? with
  | none=>rw[i]at hc;cases hc
  | some n=>
   rw[i]at hc;cases hc;replace c0:w.cell? ⟨G.sg f,k*5,none⟩=some (qB 35):=c0
   have t:num<s.dW.length:=(qae.1 i).1;obtain⟨C,cg,ab,-,aB,aF,ac⟩:=Row.cells (h.isRow 6 rfl) (show 0<s.dW.length by omega);obtain⟨vs,O,R,T,vg⟩:=v;simp only at ab;subst ab;have aG:(num:Int)<(s.dW.length:Int):=qo;have c5:w.cell? (qA C num)=some (qJ n):=(ac num qo).trans (by unfold eD;rw[qbk,i];rfl);have d:w.drew.cell? (qA rb 0)=some (qP Y)/\w.drew.cell? (qA Y 6)=some (qL C s.dW.length cg)/\w.drew.cell? (qA C num)=some (qJ n)/\w.drew.cell? ⟨G.sg f,k*5+2,none⟩=some (qI num):=⟨(h.c 0 0 rfl rfl).1,(h.c 4 6 rfl rfl).1,c5,c2⟩;have HP:=qH (iw ⟨_,h.drew⟩ hl n);clear h ac i;go_enter func196,ntmps196;go_upto_region 13 with fail
   refine jU (λV:qW=>V.cell? (qA rb 0)=some (qP Y)/\V.cell? (qA Y 6)=some (qL C s.dW.length cg)/\V.cell? (qA C num)=some (qJ n)/\V.cell? ⟨G.sg f,k*5+2,none⟩=some (qI num)) 14 ?_;iterate 14 refine nE d ?_ (hy:=by(refine Or.inl ⟨by rfl,?_⟩;intro _ d;obtain⟨_,_,_,_⟩:=d;go_simp;try with_reducible rfl))
   refine iU (λK u=>?_);refine dP (f:=80) (args:= #[qP rb,qJ n]) (by rfl) (by go_simp) HP.o ?_;rintro e w1⟨rfl,U⟩;refine⟨_,rfl,u _ _ ?_⟩;have H1:=qH U;clear u K d U HP;go_wp2;go_end0;exact⟨rfl,H1.o⟩
 rw[qaa ao]at hc;by_cases ap:q=36
 .subst ap;rw[qac rfl]at hc;cases hp:s.pop with
  | none=>rw[hp]at hc;cases hc
  | some A=>
   obtain⟨n,m⟩:=A;rw[hp]at hc;simp only at hc;split at hc
   .rename_i t;cases hc;obtain⟨z,rfl⟩:∃z,m={s with stk:=z}:=by
     unfold Rn.pop at hp;split at hp
     .cases hp
     cases hp;exact⟨_,rfl⟩
    simp only at t;replace c0:w.cell? ⟨G.sg f,k*5,none⟩=some (qB 36):=c0
    obtain⟨C,cg,ab,-,aB,aF,ac⟩:=Row.cells (h.isRow 6 rfl) (show 0<s.dW.length by omega);obtain⟨vs,O,R,T,vg⟩:=v;simp only at ab;subst ab;have aG:(num:Int)<(s.dW.length:Int):=qo;have Z:∀V (v:Rv) (z:Rn),v.g=qL C s.dW.length cg->Sx w0 V (LM G rb Y fu tv fv ev bv most v z Xq)->V.cell? (qA rb 0)=some (qP Y)/\V.cell? (qA Y 6)=some (qL C s.dW.length cg)/\V.cell? ⟨G.sg f,k*5+2,none⟩=some (qI num):=λV v z e J=>
     ⟨(J.c 0 0 rfl rfl).1,by rw[<-e];exact(J.c 4 6 rfl rfl).1,(ae.o _ _ J fG).1⟩
    have d:=Z _ _ _ rfl h.drew;have HT:=qH (um h.drew hl hp);clear h hp ac;go_enter func196,ntmps196;go_upto_region 15 with fail
    refine jU (λV:qW=>V.cell? (qA rb 0)=some (qP Y)/\V.cell? (qA Y 6)=some (qL C s.dW.length cg)/\V.cell? ⟨G.sg f,k*5+2,none⟩=some (qI num)) 14 ?_;iterate 12 refine nE d ?_ (hy:=qY)
    refine jO (λK u=>?_);refine dP (f:=256) (args:= #[qP rb]) (by rfl) (by go_simp) HT.o ?_;rintro e w1⟨rfl,aH,U⟩;have aa:=Z _ _ _ rfl U;refine⟨_,rfl,u _ _ (.inr aa) ?_⟩;clear u K d;simp only[Act.put,qy,qz,qw];refine nE aa ?_;obtain⟨aM,aN,ab,-,aB,-,ac⟩:=Row.cells (U.isRow 6 rfl) (show 0<s.dW.length by omega);cases ab;have c5:w1.cell? (qA C num)=some (qJ s.dW[num]):=(ac num (by show _<s.dW.length*1;omega)).trans (uH t);have ax:=U.vM 6 num rfl;have B:=U.EG 6 num (qJ n) rfl;have H3:=qH B;clear U HT ac B Z;refine iU (λK u=>?_);go_simp;refine u _ _ ?_;clear u K aa;go_wp2;go_end0;refine⟨rfl,⟨aH,O,R,T,qL C s.dW.length cg⟩,?_⟩;exact Vx
   cases hc
 rw[qaa ap]at hc;cases hc;have aO:((q:Int)==26)=false:=by simp;omega
 have aP:((q:Int)==27)=false:=by simp;omega
 have aQ:((q:Int)==32)=false:=by simp;omega
 have aR:((q:Int)==33)=false:=by simp;omega
 have aS:((q:Int)==34)=false:=by simp;omega
 have aT:((q:Int)==35)=false:=by simp;omega
 have aU:((q:Int)==36)=false:=by simp;omega
 have H:=qH h;clear h aj ak al am an ao ap;go_enter func196,ntmps196;go_wp2;go_end0;exact⟨rfl,_,H.o⟩
theorem wrap_u32(n:Int):IntKind.u32.wrap n=((u32 n:Nat):Int):=by
 unfold u32;rw[Int.toNat_of_nonneg (qdt _ qx)];rfl
theorem rF(n:Int):u32 n<4294967296:=by
 have U:=qdt n (show(4294967296:Int)≠0 by decide);have a:=Int.emod_lt_of_pos n (show(0:Int)<4294967296 by decide);unfold u32;omega
theorem Jw{why:Nat}(h:RA w0 G rb Y fu tv fv ev bv most Xq s w)(b:jg Xq G E Q fv)(t:E.fs[f]?=some F)(X:F.ss[k]?=some p)(ae:∀(j:Nat)(F:PF),E.fs[j]?=some F->0<F.bs.length/\F.loc<=100000)(am:p.num<4294967296)(y:ny E s)(hl:s.stk.length<=300000)(m:s.lab.length<=100000)(r:s.eY.length<=50)(hc:rE E p s=some (s',why))
  (hI:Hg E p s=some (s',why)->qC 257 #[qP rb,.pointer (some ⟨G.sg f,k*5,none⟩)] w λe w'=>e=.returned (qJ why)/\RA w0 G rb Y fu tv fv ev bv most Xq s' w'):qC 195 #[qP rb,.pointer (some ⟨G.sg f,k*5,none⟩)] w λe w'=>e=.returned (qJ why)/\RA w0 G rb Y fu tv fv ev bv most Xq s' w':=by
 have D:qh (∀V l,Sx w0 V l->(∀p∈Xq,p∈l)->V.cell? ⟨G.sg f,k*5+2,none⟩=some (qI p.num)/\G.sg f<V.heap.size):=λV l I hl=>b.Jm I hl t X (o:=2) qo;have aa:=qH (b.lb f F t k p X);obtain⟨v,h⟩:=h;obtain⟨pb,cb,ab⟩:=Row.shape (aa.o.row h fG);have af:qh (∀V l,Sx w0 V l->(∀p∈Xq,p∈l)->V.cell? ⟨G.sg f,k*5+3,none⟩=some (.slice pb p.zz.length cb)):=λV l I hl=>(b.Jm I hl t X (o:=3) qo).1.trans (by rw[<-ab];rfl);obtain⟨c0,an⟩:=b.Jm h fG t X (o:=0) qo;obtain⟨c2,-⟩:=D.o _ _ h fG;replace c0:w.cell? ⟨G.sg f,k*5,none⟩=some (qB p.wd):=c0
 unfold rE at hc;generalize p.wd=q at*;by_cases J:q=12
 .subst J;rw[qac rfl]at hc;obtain⟨a,rfl⟩:=o5 hc;replace c0:w.cell? ⟨G.sg f,k*5,none⟩=some (qB 12):=c0
  have HO:=qH (oM h b y hl m r a);clear h hc a hI;go_enter func195,ntmps195;exact Dn
 rw[qaa J]at hc;by_cases K:q=13
 .subst K;rw[qac rfl]at hc;cases hp:s.pop with
  | none=>rw[hp]at hc;cases hc
  | some M=>
   obtain⟨n,d⟩:=M;rw[hp]at hc;simp only at hc;replace c0:w.cell? ⟨G.sg f,k*5,none⟩=some (qB 13):=c0
   obtain⟨g,p2,-,-,N⟩:=eZ hp;have z:d.stk.length<=300000:=qo;have A:d.lab.length<=100000:=by rw[g];exact m
   have B:d.eY.length<=50:=by rw[p2];exact r
   have C:=y.same g;have HO:=qH (fI ⟨v,h⟩ hl hp);have i:=qH hc;clear h hp hI hc g p2 N;go_enter func195,ntmps195;go_wp2_with fail
   refine HO.o.mono ?_;rintro e w1⟨rfl,v1,U⟩;obtain⟨c2,ag⟩:=D.o _ _ U fG;have H1:=qH U;clear U HO;have hc:=i.o;clear i;by_cases c:n=0
   .rw[qaa (by simp[c])]at hc;cases hc;have t1:(n !=0)=false:=by simp[c]
    have t0:(n==0)=true:=by simp[c]
    clear c;go_wp2;go_ret;exact⟨rfl,_,H1.o⟩
   rw[qac c]at hc;obtain⟨a,rfl⟩:=o5 hc;have t1:(n !=0)=true:=by simp[c]
   have t0:(n==0)=false:=by simp[c]
   have HJ:=qH (oM H1.o b C z A B a);clear c hc a;exact Vw
 rw[qaa K]at hc;by_cases O:q=14
 .subst O;rw[qac rfl]at hc;cases hp:s.pop with
  | none=>rw[hp]at hc;cases hc
  | some M=>
   obtain⟨n,d⟩:=M;rw[hp]at hc;simp only at hc;obtain⟨a,rfl⟩:=o5 hc;replace c0:w.cell? ⟨G.sg f,k*5,none⟩=some (qB 14):=c0
   obtain⟨g,p2,-,-,N⟩:=eZ hp;have z:d.stk.length<=300000:=qo;have A:d.lab.length<=100000:=by rw[g];exact m
   have B:d.eY.length<=50:=by rw[p2];exact r
   have C:=y.same g;have HO:=qH (fI ⟨v,h⟩ hl hp);have ah:=wrap_u32 n;have ai:=rF n;obtain⟨u,hu⟩:=qE (u32 n);rw[<-hu]at ah ai a;have aj:IntKind.i64.wrap (u:Int)=(u:Int):=qaf _ ⟨qo,qo⟩;have i:=qH a;clear h hp hI hc g p2 N a hu;go_enter func195,ntmps195;go_wp2_with fail
   refine HO.o.mono ?_;rintro e w1⟨rfl,v1,U⟩;obtain⟨c2,ag⟩:=D.o _ _ U fG;have c3:=af.o _ _ U fG;by_cases R:u<p.zz.length
   .have a:=i.o;obtain⟨ak,S⟩:∃x,p.zz[u]?=some x:=⟨_,qab R⟩;rw[qag,S]at a;simp only[qdl]at a;obtain⟨gb,ao,ac,-,ap,aq,ad⟩:=Row.cells (aa.o.row U fG) (show 0<p.zz.length by omega);rw[ab]at ac;cases ac;have c6:w1.cell? (qA gb u)=some (qI ak):=(ad u qo).trans (by unfold jC;rw[qbk,S];rfl);have al:(u:Int)<(p.zz.length:Int):=qo;have HJ:=qH (oM U b C z A B a);clear U HO i a R S ad;exact Vw
   have a:=i.o;rw[qag,List.getElem?_eq_none qo]at a;simp only[Option.getD_none]at a;have al:¬((u:Int)<(p.zz.length:Int)):=qo;have HJ:=qH (oM U b C z A B a);clear U HO i a R;exact Vw
 rw[qaa O]at hc;by_cases T:q=15
 .subst T;rw[qac rfl]at hc;obtain⟨a,rfl⟩:=o5 hc;replace c0:w.cell? ⟨G.sg f,k*5,none⟩=some (qB 15):=c0
  have HO:=qH (wh h b y hl m r a);clear h hc a hI;go_enter func195,ntmps195;exact Dn
 rw[qaa T]at hc;by_cases W:q=16
 .subst W;rw[qac rfl]at hc;replace c0:w.cell? ⟨G.sg f,k*5,none⟩=some (qB 16):=c0
  have HO:=qH (wo h b (ae _) hl m r hc);have aj:IntKind.i64.wrap (p.num:Int)=(p.num:Int):=qaf _ ⟨qo,qo⟩;clear h hc hI;go_enter func195,ntmps195;exact Dn
 rw[qaa W]at hc;by_cases Z:q=17
 .subst Z;rw[qac rfl]at hc;replace c0:w.cell? ⟨G.sg f,k*5,none⟩=some (qB 17):=c0
  have HO:=qH (hI hc);clear h hc hI;go_enter func195,ntmps195;exact Dn
 rw[qaa Z]at hc;cases hc;have ar:((q:Int)==12)=false:=by simp;omega
 have au:((q:Int)==13)=false:=by simp;omega
 have aw:((q:Int)==14)=false:=by simp;omega
 have ax:((q:Int)==15)=false:=by simp;omega
 have ay:((q:Int)==16)=false:=by simp;omega
 have aA:((q:Int)==17)=false:=by simp;omega
 have H:=qH h;clear h hI J K O T W Z;go_enter func195,ntmps195;go_wp2;go_ret;exact⟨rfl,_,H.o⟩
theorem SQ{why:Nat}(h:RA w0 G rb Y fu tv fv ev bv most Xq s w)(i:jg Xq G E Q fv)(l:E.fs[f]?=some F)(X:F.ss[k]?=some p)(t:∀(j:Nat)(F:PF),E.fs[j]?=some F->0<F.bs.length/\F.loc<=100000)(u:p.num<4294967296)(r:ny E s)(hl:s.stk.length<=300000)(y:s.lab.length<100000)(n:s.eY.length<=50)(hc:TK E p s=some (s',why))
  (hI:Hg E p s=some (s',why)->qC 257 #[qP rb,.pointer (some ⟨G.sg f,k*5,none⟩)] w λe w'=>e=.returned (qJ why)/\RA w0 G rb Y fu tv fv ev bv most Xq s' w')
  (b:36<p.wd->lD E p s=some (s',why)->qC 197 #[qP rb,.pointer (some ⟨G.sg f,k*5,none⟩)] w λe w'=>e=.returned (qJ why)/\RA w0 G rb Y fu tv fv ev bv most Xq s' w')
  (c:64<p.wd->ou E p s=some (s',why)->qC 198 #[qP rb,.pointer (some ⟨G.sg f,k*5,none⟩)] w λe w'=>e=.returned (qJ why)/\RA w0 G rb Y fu tv fv ev bv most Xq s' w'):qC 142 #[qP rb,.pointer (some ⟨G.sg f,k*5,none⟩)] w λe w'=>e=.returned (qJ why)/\RA w0 G rb Y fu tv fv ev bv most Xq s' w':=by
 have A:p.wd=p.wd:=rfl;obtain⟨c0,B⟩:w.cell? ⟨G.sg f,k*5,none⟩=some (qB p.wd)/\G.sg f<w.heap.size:=by
  obtain⟨v,h⟩:=h;exact i.Jm h fG l X (o:=0) qo
 unfold TK at hc;by_cases a:p.wd<=11
 .rw[qac a]at hc;have HO:=qH (Jy h i l X r hl y n hc);have q:(p.wd:Int)<=11:=qo;clear h hc hI b c a;go_enter func142,ntmps142;exact Dn
 have C:¬(p.wd:Int)<=11:=qo;rw[qaa a]at hc;by_cases d:p.wd<=17
 .rw[qac d]at hc;have HO:=qH (Jw h i l X t u r hl qo n hc hI);have q:(p.wd:Int)<=17:=qo;clear h hc hI b c a d;go_enter func142,ntmps142;exact Dn
 have D:¬(p.wd:Int)<=17:=qo;rw[qaa d]at hc;by_cases g:p.wd<=36
 .rw[qac g]at hc;have HO:=qH (Py h i l X hl qo n hc);have z:why=0:=by
   unfold tu at hc;repeat' split at hc
   all_goals first
    | (cases hc;rfl)
    | (cases hc)
    | (simp only[qbd]at hc;obtain⟨x,-,hx⟩:=hc;cases hx;rfl)
  subst z;have q:(p.wd:Int)<=36:=qo;clear h hc hI b c a d g;go_enter func142,ntmps142;exact Dn
 have H:¬(p.wd:Int)<=36:=qo;rw[qaa g]at hc;by_cases m:p.wd<=64
 .rw[qac m]at hc;have HO:=qH (b qo hc);have q:(p.wd:Int)<=64:=qo;clear h hc hI b c a d g m;go_enter func142,ntmps142;exact Dn
 have I:¬(p.wd:Int)<=64:=qo;rw[qaa m]at hc;have HO:=qH (c qo hc);clear h hc hI b c a d g m;go_enter func142,ntmps142;exact Dn
end
section
variable {w0 w:qW}{G:Gm}{E:Ev}{Q:Nat->Gf}{rb Y fu most:Nat}{tv fv ev bv:qv}{Xq:List It}{s s':Rn}
theorem vY{v:Rv}(h:Sx w0 w (LM G rb Y fu tv fv ev bv most v s Xq))(hm:s.mem.length<=1000000):qC 34 #[qP Y] w λe w'=>e=.returned (qJ ((s.mem.length / 64:Nat):Int))/\w'=w:=by
 obtain⟨d,f,a⟩:=Row.shape (h.isRow 5 rfl);obtain⟨vs,g,i,j,k⟩:=v;simp only at a;subst a;obtain⟨l,m⟩:=h.c 4 4 rfl rfl;have n:=h.lt 4 rfl;have b:(s.mem.length:Int).tdiv 64=((s.mem.length / 64:Nat):Int):=by rw[Int.tdiv_eq_ediv_of_nonneg qo];rfl
 have hw:IntKind.i64.wrap ((s.mem.length / 64:Nat):Int)=((s.mem.length / 64:Nat):Int):=qaf _ ⟨qo,qo⟩;clear h;go_enter func34,ntmps34;go_wp2;go_ret;refine⟨?_,rfl⟩;simp[b,hw]
end
theorem Ej{tS b:TypeId}{d:IntKind}{e:Nat}(k:prog.underlying tS=some (.slice b))(l:(prog.info? b).map (λi=>(i.zero,i.size,i.bytes))=some (some (.int d 0),1,e))(q:e<=8){f:Array Oper}{j:List Oper}{o:Oper}{a:Act}{w:qW}{Q:Exit->Act->qW->Prop}{B m n:Nat}{v:qv}{xs:qV}(r:o.guard=none)(s x:Operand)
  (ho:o.op=.call {callee:=.builtin .append,args:= #[s,x],argTypes:= #[tS,3]}) (t:a.eval s=v) (hx:a.eval x=qJ n)
  (u:w.ownsRow B b 1 v m xs) (y:B<=w.heap.size) (hm:m+n<=2000000)
  (h:∀p c w',w'.ownsRow B b 1 (.slice p (m+n) c) (m+n) (xs++List.replicate n (.int d 0))->w.grownBy w' v.ownBlock->(∀g,(Value.slice p (m+n) c).ownBlock=some g->v.ownBlock=some g\/g=w.heap.size)->wpList prog f Q j (a.put o.dst (.slice p (m+n) c)) w'):wpList prog f Q (o::j) a w:=by
 refine wpList_plain r λK z=>?_;obtain⟨p,c,w',A,C,D,F⟩:=Dp k l q o.type u y hm;unfold Oper.wp execOp;simp only[ho,resolve,invoke,builtin,Sem.run_bind,Sem.run_pure,Result.andThen_ok,List.map_toArray,List.map_cons,List.map_nil,t,hx,A];exact z _ _ (h p c w' C D F)
section
variable {w0 w:qW}{G:Gm}{E:Ev}{Q:Nat->Gf}{rb Y fu most:Nat}{tv fv ev bv:qv}{Xq:List It}{s s':Rn}
theorem PK{v:Rv}{m:Nat}(h:Sx w0 w (LM G rb Y fu tv fv ev bv most v s Xq))(hm:s.mem.length<=700000)(d:m<4294967296)(hno:most<s.mem.length / 64+m):qC 260 #[qP Y,qI m] w λe w'=>e=.returned (qJ (-1))/\w'=w:=by
 obtain⟨f,g⟩:=h.c 4 5 rfl rfl;have i:=h.lt 4 rfl;have a:=qH (vY h qo);obtain⟨pg,b⟩:=qE (s.mem.length / 64);rw[<-b]at a hno;have j:IntKind.i64.wrap (m:Int)=(m:Int):=qaf _ ⟨qo,qo⟩;have k:IntKind.i64.wrap ((pg:Int)+(m:Int))=(pg:Int)+(m:Int):=qaf _ ⟨qo,qo⟩;have l:(most:Int)<(pg:Int)+(m:Int):=qo;clear h b hno;go_enter func260,ntmps260;go_wp2_with fail
 refine a.o.mono ?_;rintro e n⟨rfl,rfl⟩;clear a;go_wp2;go_ret;exact⟨rfl,rfl⟩
theorem MK{v:Rv}{m:Nat}(h:Sx w0 w (LM G rb Y fu tv fv ev bv most v s Xq))(hm:s.mem.length<=700000)(C:m<4294967296)(D:most<=10000)(hno:s.mem.length / 64+m<=most):qC 260 #[qP Y,qI m] w λe w'=>e=.returned (qJ ((s.mem.length / 64:Nat):Int))/\RA w0 G rb Y fu tv fv ev bv most Xq {s with mem:=s.mem++List.replicate (m*64) 0} w':=by
 obtain⟨f,g,j⟩:=Row.shape (h.isRow 5 rfl);obtain⟨vs,y,z,F,A⟩:=v;simp only at j;subst j;obtain⟨I,J⟩:=h.c 4 5 rfl rfl;obtain⟨K,L⟩:=h.c 4 4 rfl rfl;have M:=h.lt 4 rfl;have b:=qH (vY h qo);obtain⟨pg,l⟩:=qE (s.mem.length / 64);rw[<-l]at b hno ⊢;have N:IntKind.i64.wrap (m:Int)=(m:Int):=qaf _ ⟨qo,qo⟩;have O:IntKind.i64.wrap ((pg:Int)+(m:Int))=(pg:Int)+(m:Int):=qaf _ ⟨qo,qo⟩;have P:IntKind.i64.wrap ((m:Int)*64)=((m*64:Nat):Int):=by rw[show(m:Int)*64=((m*64:Nat):Int) by omega];exact qaf _ ⟨qo,qo⟩
 have R:¬(most:Int)<(pg:Int)+(m:Int):=qo;have p:=qH (h.row 5 rfl);have H:=qH h;clear h l;go_enter func260,ntmps260;go_wp2_with fail
 refine b.o.mono ?_;rintro e T⟨rfl,rfl⟩;clear b;go_wp2_with (at_builtin;refine Ej (tS:=50) qk Tryz.info5 qo rfl (.tmp 21) (.tmp 24) rfl (v:=.slice f s.mem.length g) (n:=m*64) rfl rfl p.o H.o.kept.size qo ?_)
 intro d c1 U q t u;have a:=H.o.upd (k:=5) (S:=λi=>(Value.slice f s.mem.length g).ownBlock=some i) rfl (Kept.gH t) (λi e=>e) (p2:=.r 5 1 (.slice d (s.mem.length+m*64) c1) (s.mem.length+m*64) (jr s.mem++List.replicate (m*64) (Value.int .u8 0))) q (λi e=>(u i e).imp id (λe=>qo));obtain⟨V,W⟩:=a.c 4 4 rfl rfl;have X:=a.lt 4 rfl;have x:=a.set 4 4 (.slice d (s.mem.length+m*64) c1) rfl;have B:=qH x;clear q t u a x H p;go_wp2;go_ret;refine⟨rfl,⟨vs,y,z,.slice d (s.mem.length+m*64) c1,A⟩,?_⟩;have:=B.o;simp only[LM,qz,qw]at this ⊢;simpa [jr] using this
end
def VL(x:Nat)(n:Int):Int:=if x=40 then wrap64 (wrap32 n) else if x=44 then wrap64 (IntKind.i8.wrap n) else wrap64 n
theorem Gn{w:qW}{x:Nat}{n:Int}:qC 297 #[qB x,.int .u64 n] w λe w'=>e=.returned (qJ (VL x n))/\w'=w:=by
 obtain⟨r,a⟩:=qE (VL x n);rw[<-a];unfold VL at a;by_cases b:x=40
 .subst b;rw[qac rfl]at a;have HR:=qH a;clear a;go_enter func297,ntmps297;exact OQ
 rw[qaa b]at a;have d:((x:Int)==40)=false:=by simp;omega
 by_cases c:x=44
 .subst c;rw[qac rfl]at a;have HR:=qH a;clear a b d;go_enter func297,ntmps297;exact OQ
 rw[qaa c]at a;have f:((x:Int)==44)=false:=by simp;omega
 have HR:=qH a;clear a b c;go_enter func297,ntmps297;exact OQ
end Go.Proofs.YtfkcodlceoghpaaGreatDoor
