import Derived.Test.YtdaafkmhfedkiaaGreatX9
namespace Go.Proofs.YtdaafkmhfedkiaaGreat
set_option maxHeartbeats 3200000
set_option maxRecDepth 100000
open Go.RowKit Go.Proofs.Tryz
theorem tY{w:qW}{a g A n:Nat}{b lv c z:qv}(h:kY w a [b,lv,c,.slice (some (qA g 0)) n A,z])(d:0<n)(f:n<=60):
  qC 230 #[qP a] w fun e w'=>e=.returned (.pointer (some ⟨g,(n - 1)*5,none⟩))/\∃k,w'=w.drewN k:=by
 obtain⟨-,-,-,⟨i,j⟩,-⟩:=h.five;have l:(0:Int)<=(n:Int) - 1:=qo;have m:(n:Int) - 1<(n:Int):=qo;go_enter func230,ntmps230;go_wp2;go_quiet (fail)
 go_wp2;go_ret;exact⟨qs,_,rfl⟩
theorem sK{w:qW}{b a:Nat}{c lv d f:qv}(h:kY w b [c,lv,d,f,qJ a]):
  qC 201 #[qP b] w fun e w'=>e=iK 4 a/\w'=w:=by
 obtain⟨-,-,-,-,⟨g,i⟩⟩:=h.five;go_enter func201,ntmps201;exact ae4
theorem jd.Aj{K e:qD}{w:qW}{f:Nat}{l lv m i:qv}{Z:Bd}(h:jd K e w f l lv m i Z)(hb:Z.dh≠[]):
  ∃g A c d,i=.slice (some (qA g 0)) Z.dh.length A/\(e g/\g≠f)/\g<w.heap.size/\Z.dh.length<=A/\0<Z.dh.length/\dG K Z.dJ.takes w c/\dG K Z.dJ.dH w d/\
   w.cell? ⟨g,(Z.dh.length - 1)*5,none⟩=some (qB Z.dJ.word)/\w.cell? ⟨g,(Z.dh.length - 1)*5+1,none⟩=some c/\w.cell? ⟨g,(Z.dh.length - 1)*5+2,none⟩=some d/\
   w.cell? ⟨g,(Z.dh.length - 1)*5+3,none⟩=some (qJ Z.dJ.dK)/\w.cell? ⟨g,(Z.dh.length - 1)*5+4,none⟩=some (.bool Z.dJ.cut):=by
 have j:0<Z.dh.length:=by
  have:Z.dh.length≠0:=by simpa using hb
  omega
 have n:Z.dJ=Z.dh[0]:=by
  obtain⟨stk,k,a⟩:=Z;cases k with
  | nil=>exact absurd rfl hb
  | cons b k=>rfl
 obtain⟨g,A,c,d,U,L,h3,h4,h5,o,p,q,r,s,h11⟩:=Au h.zK j;rw[n];exact⟨g,A,c,d,U,L,h3,h4,j,h5,o,p,q,r,s,h11⟩
def afV(K O:Nat->Prop)(bb:Nat)(mp lv:Value)(p:Option Addr)(c:Nat)(bv:Value)(x:Nat×Bd)(w:World)(v:Value):Prop:=
 v=qB x.1/\jd K O w bb mp lv (.slice p x.2.di.length c) bv x.2
theorem FO{K q:qD}{w:qW}{f c:Nat}{r lv v:qv}{p:qO}{Z:Bd}(h:jd K q w f r lv (.slice p Z.di.length c) v Z)(hb:Z.dh≠[])(j:Z.dh.length<=60)(hf:Z.dJ.dK<=Z.di.length)(H:Z.di.length<=1000000):
  qC 200 #[qP f] w (Says (only f) w (fQ Z) (afV K q f r lv p c v)):=by
 obtain⟨g,A,I,J,rfl,y,L,M,k,-,-,N,O,P,Q,R⟩:=h.Aj hb;obtain⟨-,-,⟨S,T⟩,⟨U,V⟩,⟨W,X⟩⟩:=h.blk.five;have a:=h.blk;have s:=hide h;have t:=h.stk;clear h;have Y:=y.2;generalize u:Z.dh.length=n at*;generalize b:Z.dJ.dK=fl at*;generalize l:Z.dJ.cut=z at*;by_cases d:Z.di.length=fl
 .have B:((Z.di.length:Int)==(fl:Int))=true:=by simp;omega
  cases z with
  | true=>
   have m:qh (fQ Z=.ok (0,Z)):=by show _=_;simp[fQ,iX,d,b,l]
   clear d u b l;go_enter func200,ntmps200;go_wp2;go_quiet (exact Calls.quiet_of (tY (a.drewN _) k j))
   go_wp2_with fail
   refine(tY (a.drewN _) k j).mono ?_;rintro e C ⟨rfl,D,rfl⟩;go_wp2;go_ret;exact Says.dW m.o (qr.drewN _) ⟨rfl,s.o.drewN _⟩
  | false=>
   have m:qh (fQ Z=.error (4,Z.at_)):=by show _=_;simp[fQ,iX,d,b,l]
   clear d u b l;go_enter func200,ntmps200;go_wp2;go_quiet (exact Calls.quiet_of (tY (a.drewN _) k j))
   go_wp2_with fail
   refine(tY (a.drewN _) k j).mono ?_;rintro e C ⟨rfl,D,rfl⟩;go_wp2_with fail
   refine(sK (a.drewN _)).mono ?_;rintro e w3 ⟨rfl,rfl⟩;exact⟨rfl,Says.dD m.o (qr.drewN _)⟩
 have B:((Z.di.length:Int)==(fl:Int))=false:=by simp;omega
 obtain⟨gs,cs,E,aa,ab,ac,ad⟩:=dG.cell t (i:=Z.di.length - 1) qo;cases E;have F:=hide (dG.cut (Z.di.length - 1) t qo);have m:qh (fQ Z=.ok (Z.di.getD (Z.di.length - 1) 0,{Z with di:=Z.di.take (Z.di.length - 1)})):=by show _=_;simp[fQ,iX,d,b]
 have x:(Z.di.take (Z.di.length - 1)).length=Z.di.length - 1:=qs;have G:=hide x;have b1:(0:Int)<=(Z.di.length:Int) - 1:=qo;have b2:(Z.di.length:Int) - 1<(Z.di.length:Int):=qo;have b3:(Z.di.length:Int) - 1<=(c:Int):=qo;have b4:decide ((Z.di.length:Int) - 1<0)=false:=by simp;omega
 clear d u b l t x;generalize Z.di.getD (Z.di.length - 1) 0=kd at*;go_enter func200,ntmps200;go_wp2;go_quiet (exact Calls.quiet_of (tY (a.drewN _) k j))
 go_wp2;go_ret;refine Says.dW m.o ((qr.drewN _).own _) ⟨rfl,?_⟩;show jd K q _ f r lv (.slice _ (Z.di.take (Z.di.length - 1)).length c) _ _;rw[G.o];exact s.o.cells ((qr.drewN _).own _) ((a.drewN _).set 2 _) F.o s.o.zK
def ab6(K O:Nat->Prop)(bb:Nat)(mp lv:Value)(p:Option Addr)(c:Nat)(bv:Value)(x:Bd)(w:World)(v:Value):Prop:=
 v=.tuple #[]/\jd K O w bb mp lv (.slice p x.di.length c) bv x
theorem BZ{Z st1:Bd}(a:st1.dJ=Z.dJ)(b:st1.at_=Z.at_):iX Z.dJ Z.at_ st1.di=match fQ st1 with
  | .error e=>.error e
  | .ok (got,J)=>.ok (got,J.di):=by
 unfold fQ;rw[a,b];rcases iX Z.dJ Z.at_ st1.di with e|x
 .rfl
 rfl
def qg(Z:Bd)(ks:List Nat)(i:Nat)(stk:List Nat):Except Err Bd:=
 match iH Z.dJ Z.at_ ks i stk with
 | .error e=>.error e
 | .ok stk=>.ok {Z with di:=stk}
theorem OM{Z st1:Bd}{ks:qM}{j:Nat}{e:Err}(a:st1.dJ=Z.dJ)(b:st1.at_=Z.at_)(h:fQ st1=.error e):qg Z ks (j+1) st1.di=.error e:=by
 have:=BZ a b;rw[h] at this;simp[qg,iH,this]
theorem OO{Z st1 b:Bd}{ks:qM}{j a:Nat}(c:st1.dJ=Z.dJ)(d:st1.at_=Z.at_)(h:fQ st1=.ok (a,b))(U:a≠ks.getD j 0)(L:a≠0):qg Z ks (j+1) st1.di=.error (4,Z.at_):=by
 have:=BZ c d;rw[h] at this;simp only[qg,iH,this];rw[if_pos ⟨U,L⟩]
theorem FN{Z st1 b:Bd}{ks:qM}{j a:Nat}(c:st1.dJ=Z.dJ)(d:st1.at_=Z.at_)(h:fQ st1=.ok (a,b))(U:¬(a≠ks.getD j 0/\a≠0)):qg Z ks (j+1) st1.di=qg Z ks j b.di:=by
 have:=BZ c d;rw[h] at this;simp only[qg,iH,this];rw[if_neg U]
theorem BB{Z J:Bd}{k:Nat}(hf:Z.dJ.dK<=Z.di.length)(h:fQ Z=.ok (k,J)):J={Z with di:=J.di}/\Z.dJ.dK<=J.di.length/\J.di.length<=Z.di.length:=by
 unfold fQ at h;split at h
 .cases h
 rename_i a;cases h;have:=qi hf a;exact⟨rfl,this.1,this.2.1⟩
theorem take_any{K r ok:qD}{w:qW}{a c:Nat}{s lv t z:qv}{p:qO}{Z:Bd}{ks:qM}(h:jd K r w a s lv (.slice p Z.di.length c) t Z)(X:dG ok ks w z)(A:¬ok a)(hb:ks≠[]->Z.dh≠[])(hl:Z.dh.length<=60)(hf:Z.dJ.dK<=Z.di.length)(hs:Z.di.length<=1000000)(ah:ks.length<=50):
  qC 174 #[qP a,z] w (Says (only a) w (dP Z ks) (ab6 K r a s lv p c t)):=by
 obtain⟨pk,ck,rfl⟩:=Row.shape X;have B:qh (dP Z ks=qg Z ks ks.length Z.di):=rfl;have C:=hide h;clear h;go_enter func174,ntmps174;go_wp2;go_loopw [4] (fun q wr=>∃(i:Nat) (st1:Bd),i<=ks.length/\q=qJ ((i:Int) - 1)/\(st1={Z with di:=st1.di}/\Z.dJ.dK<=st1.di.length/\st1.di.length<=Z.di.length)/\jd K r wr a s lv (.slice p st1.di.length c) t st1/\Kept (only a) w wr/\
   dP Z ks=qg Z ks i st1.di) (fun q _=>(intOf q+1).toNat)
 case atStart=>exact⟨ks.length,Z,qR,by go_num,⟨rfl,hf,qR⟩,C.o,Kept.refl _ _,B.o⟩
 obtain⟨i,st1,hi,rfl,⟨l,ab,ai⟩,D,u,E⟩:=hrel;have b:=hide E;have F:=hide D;have G:=hide l;have H:st1.dJ=Z.dJ:=by rw[l];rfl
 have I:st1.at_=Z.at_:=by rw[l]
 have J:st1.dh=Z.dh:=by rw[l]
 have f:=hide H;have m:=hide I;have M:=hide J;clear E D B C l H I J;by_cases hz:i=0
 .subst hz;have HR:qh (dP Z ks=.ok st1):=by show _=_;rw[b.o,G.o];rfl
  clear b;go_wp2;go_end0;exact Says.dW HR.o u ⟨rfl,F.o⟩
 obtain⟨j,rfl⟩:∃j,i=j+1:=⟨i - 1,qo⟩;have ac:ks≠[]:=by intro e;subst e;simp at hi
 have N:dG ok ks wr (.slice pk ks.length ck):=Row.kept X u (fun g _ x (e:g=a)=>A (e▸x));have O:=hide (fun(W:qW) (hW:Kept (only a) wr W)=>dG.cell (Row.kept N hW (fun g _ x (e:g=a)=>A (e▸x))) (show j<ks.length by omega));have Q:((j+1:Nat):Int) - 1=(j:Int):=qo;have t1:decide ((0:Int)<=((j+1:Nat):Int) - 1)=true:=qs;rw[Q] at t1 ⊢;clear N Q;have ad:st1.dh≠[]:=by rw[M.o];exact hb ac
 have ae:st1.dh.length<=60:=by rw[M.o];exact hl
 have R:st1.dJ.dK<=st1.di.length:=by rw[f.o];exact ab
 go_wp2_with fail
 refine(FO F.o ad ae R qo).mono ?_;rintro e w2 ⟨S,T,V⟩;have hk4:=u.trans S;rcases k:fQ st1 with⟨q,pp⟩|⟨d,st2⟩
 .obtain rfl:=V _ _ k;exact⟨rfl,Says.dD (b.o.trans (OM f.o m.o k)) hk4⟩
 obtain⟨v,rfl,hv,Y⟩:=T _ k;obtain rfl:v=qB d:=hv;obtain⟨gk,aj,af,-,ak,am,an⟩:=O.o w2 S;cases af;have n:=BB R k;rw[f.o] at n;have aa:st2={Z with di:=st2.di}:=by rw[n.1,G.o]
 have ao:(0:Int)<=(j:Int):=qo;have ap:(j:Int)<(ks.length:Int):=qo;have HB2:=hide Y;have y:=hide k;have HS2:=hide aa;have hl2:st2.di.length<=Z.di.length:=qo;have aht:=n.2.1;clear T V k O Y aa n;by_cases U:d=ks.getD j 0
 .have tb:(((d:Nat):Int) !=((ks.getD j 0:Nat):Int))=false:=by simp[U]
  have HN:qh (dP Z ks=qg Z ks j st2.di):=b.o.trans (FN f.o m.o y.o (fun hh=>hh.1 U));clear b U;exact aeb
 have tb:(((d:Nat):Int) !=((ks.getD j 0:Nat):Int))=true:=by rw[bne_iff_ne];omega
 by_cases L:d=0
 .have tc:(((d:Nat):Int) !=0)=false:=by simp[L]
  have HN:qh (dP Z ks=qg Z ks j st2.di):=b.o.trans (FN f.o m.o y.o (fun hh=>hh.2 L));clear b U L;exact aeb
 have tc:(((d:Nat):Int) !=0)=true:=by rw[bne_iff_ne];omega
 have HN:qh (dP Z ks=.error (4,Z.at_)):=b.o.trans (OO f.o m.o y.o U L);have ag:st2.at_=Z.at_:=by rw[HS2.o]
 clear b U L;generalize ks.getD j 0=kj at*;go_wp2_with fail
 refine(sK HB2.o.blk).mono ?_;rintro e w3 ⟨rfl,rfl⟩;rw[ag];exact⟨rfl,Says.dD HN.o hk4⟩
theorem EO{P:Program}{w:qW}{f:Nat}{t ty e:TypeId}{i:TypeInfo}{h:Nat}(b:P.underlying t=some (.slice e))(d:P.info? e=some i){v:qv}{n:Nat}{xs:qV}(j:w.ownsRow f e h v n xs)(q:qO)(c:Nat):
  (Builtin.append_ #[t,t] ty #[v,.slice q 0 c]).run P w=.ok v w:=by
 have hf:(Builtin.firstCells i.size 0 (.slice q 0 c)).run P w=.ok #[] w:=by
  cases q with
  | none=>exact run_firstCells_none w _ _ _ _
  | some a=>exact run_firstCells_some w _ 0 a 0 c [] qs qs
 rcases j.2 with⟨rfl,rfl⟩ | ⟨g,A,l,rfl,_,_,k,_⟩
 .simp[Builtin.append_,run_underlying b,sizeOf,typeInfo,d,Builtin.lenOf,hf]
 simp[Builtin.append_,run_underlying b,sizeOf,typeInfo,d,Builtin.lenOf,hf,k,storeCells]
theorem wU{P:Program}{w:qW}{b:Array Oper}{rest:List Oper}{o:Oper}{a:Act}{Q:Exit->Act->qW->Prop}(d:o.guard=none)(s x:Operand)(t:TypeId)
  (f:o.op=.call {callee:=.builtin .append,args:= #[s,x],argTypes:= #[t,t]})
  (g:Nat) (e:TypeId) (i:TypeInfo) (j:Nat) (k:P.underlying t=some (.slice e)) (l:P.info? e=some i)
  (v:qv) (n:Nat) (xs:qV) (m:a.eval s=v) (p:w.ownsRow g e j v n xs) (q:qO) (c:Nat) (hx:a.eval x=.slice q 0 c)
  (h:wpList P b Q rest (a.put o.dst v) w):wpList P b Q (o::rest) a w:=by
 refine wpList_plain d fun _ r=>?_;have u:=EO (ty:=o.type) k l p q c;unfold Oper.wp execOp;simp only[f,resolve,invoke,builtin,Sem.run_bind,Sem.run_pure,Result.andThen_ok,List.map_toArray,List.map_cons,List.map_nil,m,hx,u];exact r _ _ h
def More(O:Nat->Prop)(w:World):Nat->Prop:=fun k=>O k\/w.heap.size<=k
def Pj(K O:Nat->Prop)(w0:World)(bb:Nat)(mp lv:Value)(x:Bd)(w:World)(v:Value):Prop:=v=.tuple #[]/\jJ K (More O w0) w bb mp lv x
theorem yS(a b:qM):kindCells (a++b)=kindCells a++kindCells b:=by simp[kindCells]
theorem put_any{K f ok:qD}{w:qW}{a:Nat}{r lv N n B:qv}{Z:Bd}{ks:qM}(h:jd K f w a r lv N n Z)(X:dG ok ks w B)(hs:Z.di.length<=1000000)(ag:ks.length<=50):
  qC 175 #[qP a,B] w (Says f w (.ok (gQ Z ks)) (Pj K f w a r lv)):=by
 obtain⟨C,D,O,Q,R⟩:=info_parts Tryz.DZ;obtain⟨-,-,⟨S,T⟩,-,-⟩:=h.blk.five;have t:=h.lt;have b:=hide h;have E:∀k,w.heap.size<=k->¬K k:=fun k ah c=>by have:=h.kb k c;omega
 obtain⟨p,cs,rfl⟩:=Row.shape h.stk;obtain⟨pk,V,rfl⟩:=Row.shape X;have i:=h.stk;clear h;by_cases v:ks=[]
 .subst v;go_enter func175,ntmps175;go_wp2_with (at_builtin;refine wU rfl _ _ 196 rfl 0 187 C 1 underlying196 D _ _ _ rfl i.own _ _ rfl ?_)
  go_wp2;go_end0;refine Says.dW rfl (qr.setCell (fun _=>b.o.own) _) ⟨rfl,.slice p Z.di.length cs,n,?_⟩;have W:jd K f (w.setCell (qA a 2) (.slice p Z.di.length cs)) a r lv (.slice p Z.di.length cs) n (gQ Z []):=by
   refine b.o.cells (qr.own _) (b.o.blk.set 2 _) ?_ b.o.zK;simpa [gQ] using b.o.stk
  exact W.more (fun k X=>.inl X) (fun k X=>X.elim (b.o.x8 k) (E k))
 have F:0<ks.length:=by
  have:ks.length≠0:=by simpa using v
  omega
 obtain⟨gk,ai,Y,-,aj,ak,hcells⟩:=Row.cells X F;cases Y;have G:∀j u,(kindCells ks)[j]?=some u->w.cell? ((⟨gk,0,none⟩:Addr).add j)=some u:=by
  exact agw
 have H:∀u∈kindCells ks,u.oneCell'=true:=by
  intro u I;simp[kindCells] at I;obtain⟨x,-,rfl⟩:=I;rfl
 have HN:=hide G;have HO:=hide H;clear G H hcells v;go_enter func175,ntmps175;go_wp2_with (at_builtin;refine wpList_append_lies _ rfl _ _ 196 rfl 0 187 C (qB 0) 1 1 underlying196 D O Q R rfl qx _ _ _ rfl i.own ⟨gk,0,none⟩ ks.length V (kindCells ks) rfl (by simp[kindCells]) HN.o HO.o F ?c3 ?c4 qZ w.heap.size rfl ?_)
 case c3=>unfold maxLen;omega
 case c4=>omega
 intro m A l J s M am;have y:some a≠(Value.slice p Z.di.length cs).ownBlock:=fun e=>(i.at_ a e.symm).2 rfl;have q2:l.cell? (qA a 2)=some (.slice p Z.di.length cs):=(s.cell_far ⟨a,2,none⟩ t y).trans S;have f2:l.frozen? (qA a 2)=false:=(s.frozen_far ⟨a,2,none⟩ t y).trans T;have aa:=hide J;have HA:=hide M;have q:=hide s;clear J M s;go_wp2;go_end0;have ab:Kept f w l:=(Kept.iB q.o).mono (fun k _ e=>(i.at_ k e).1);refine Says.dW rfl (ab.setCell (fun _=>b.o.own) _) ⟨rfl,.slice (some (qA m 0)) (Z.di.length+ks.length) A,n,?_⟩;have ac:More f w m/\m≠a:=by
  rcases HA.o with hh | hh
  .exact⟨.inl (i.at_ m hh).1,(i.at_ m hh).2⟩
  exact⟨.inr qo,qo⟩
 have ad:dG (fun g=>More f w g/\g≠a) (Z.di++ks) l (.slice (some (qA m 0)) (Z.di.length+ks.length) A):=by
  refine⟨?_,fun g d=>?_⟩
  .rw[yS,List.length_append];exact aa.o
  simp[Value.ownBlock] at d;subst d;exact ac
 have ae:kY l a [r,lv,.slice p Z.di.length cs,n,qJ Z.at_]:=b.o.blk.kept (Kept.iB q.o) t (fun e=>y e.symm);have af:gu 247 5 (fun _=>yo K) (fun g=>More f w g/\g≠a) Z.dh.reverse l n:=by
  obtain⟨css,U,L⟩:=b.o.zK.grown i.own qx q.o (fun x cs e=>e.kept (Kept.iB q.o) (fun g _ hK hS=>b.o.x8 g (i.at_ g hS).1 hK));exact⟨css,Row.mono U (fun g _ d=>⟨.inl d.1,d.2⟩),L⟩
 have z:Kept (only a) l (l.setCell (qA a 2) (.slice (some (qA m 0)) (Z.di.length+ks.length) A)):=qr.own _;refine⟨ae.set 2 _,.inl b.o.own,?_,?_,fun k X=>X.elim (b.o.x8 k) (E k),fun k X=>?_⟩
 .exact Row.kept ad z (fun g _ d (c:g=a)=>d.2 c)
 .exact af.kept z (fun g _ d (c:g=a)=>d.2 c) (fun _ _ e=>e.kept z (fun g _ d (c:g=a)=>b.o.x8 a b.o.own (c▸d)))
 have:=b.o.kb k X;have L:=q.o.size;simp;omega
def aeF(K O:Nat->Prop)(bb:Nat)(mp lv sv bv:Value)(Z:Bd)(_:Unit)(w:World)(v:Value):Prop:=v=.tuple #[]/\jd K O w bb mp lv sv bv Z
def rq(Z:Bd)(ks:List Nat):Except Err Unit:=match dP Z ks with
 | .error e=>.error e
 | .ok _=>.ok ()
theorem QV{K j ok:qD}{w:qW}{b c:Nat}{k lv l m:qv}{p:qO}{Z:Bd}{ks:qM}(h:jd K j w b k lv (.slice p Z.di.length c) l Z)(X:dG ok ks w m)(t:¬ok b)(hb:ks≠[]->Z.dh≠[])(u:Z.dh.length<=60)(hf:Z.dJ.dK<=Z.di.length)(x:Z.di.length<=1000000)(y:ks.length<=50):
  qC 232 #[qP b,m] w (Says (only b) w (rq Z ks) (aeF K j b k lv (.slice p Z.di.length c) l Z)):=by
 obtain⟨-,-,⟨z,A⟩,-,-⟩:=h.blk.five;obtain⟨D,E,rfl⟩:=Row.shape X;go_enter func232,ntmps232;go_wp2_with fail
 refine(take_any h X t hb u hf x y).mono ?_;rintro e F ⟨d,n,r⟩;have f:=hide h;clear h;rcases a:dP Z ks with⟨q,G⟩|st1
 .obtain rfl:=r _ _ a;exact⟨rfl,Says.dD (by simp[rq,a]) d⟩
 obtain⟨v,rfl,rfl,g⟩:=n _ a;have B:qh (rq Z ks=.ok ()):=by show _=_;simp[rq,a]
 have s:st1.at_=Z.at_:=(eH hf a).2.1;obtain⟨-,-,⟨H,I⟩,-,-⟩:=g.blk.five;have i:=g.blk;rw[s] at i;have C:=hide i;clear n r a g s i z A;go_wp2;go_end0;exact Says.dW B.o (d.own _) ⟨rfl,f.o.cells (d.own _) (C.o.set 2 _) f.o.stk f.o.zK⟩
theorem Each.Tv{c d:Type}{P:c->d->Prop}:∀{xs:List c} {x:c} {ys:List d},Each P (xs++[x]) ys->∃b y,ys=b++[y]/\Each P xs b/\P x y
 | [],x,[],h=>h.elim
 | [],x,[y],h=>⟨[],y,rfl,trivial,h.1⟩
 | [],x,y::z::ys,h=>h.2.elim
 | a::xs,x,[],h=>h.elim
 | a::xs,x,y::ys,h=>by
  obtain⟨b,f,e,U,L⟩:=Each.Tv (xs:=xs) h.2;exact⟨y::b,f,by rw[e];rfl,⟨h.1,U⟩,L⟩
theorem Each.JU{a:Type}{P:a->qV->Prop}{m:Nat}:∀{xs:List a} {css:List (qV)},Each (fun x c=>P x c/\c.length=m) xs css->css.flatten.length=xs.length*m
 | [],[],_=>qs
 | _::xs,c::css,h=>by
  have U:=h.1.2;have L:=Each.JU (xs:=xs) (css:=css) h.2;simp only[List.flatten_cons,List.length_append,List.length_cons,U,L,Nat.add_mul];omega
 | [],_::_,h=>h.elim
 | _::_,[],h=>h.elim
theorem Row.set{ok:qD}{w:qW}{E:TypeId}{b n i g c:Nat}{xs:qV}(h:Row ok w E b (.slice (some (qA g 0)) n c) n xs)(u:qv):Row ok (w.setCell (qA g i) u) E b (.slice (some (qA g 0)) n c) n (xs.set i u):=by
 refine⟨⟨by simp[h.own.1],?_⟩,h.at_⟩;rcases h.own.2 with⟨a,_⟩ | ⟨g',A,d,a,hb,e,f,j,k,l⟩
 .cases a
 cases a;refine .inr ⟨g,c,d.setIfInBounds i u,rfl,hb,?_,f,j,by simpa using k,?_⟩
 .simp[World.setCell,Array.getElem?_modify,e]
 rw[<-l];simp[List.take_set]
theorem Row.free{ok:qD}{w:qW}{E:TypeId}{a n g c:Nat}{xs:qV}(h:Row ok w E a (.slice (some (qA g 0)) n c) n xs)(i:Nat):w.frozen? (qA g i)=false:=by
 exact adQ
theorem Vi{K ok:qD}{w:qW}{g A n:Nat}{a:List uk}{b:uk}(h:gu 247 5 (fun _=>yo K) ok (b::a).reverse w (.slice (some (qA g 0)) n A))(l:¬K g)(c:Bool):
  gu 247 5 (fun _=>yo K) ok ({b with cut:=c}::a).reverse (w.setCell ⟨g,a.length*5+4,none⟩ (.bool c)) (.slice (some (qA g 0)) n A):=by
 have X:Kept (only g) w (w.setCell ⟨g,a.length*5+4,none⟩ (.bool c)):=qr.own _;obtain⟨css,o,p⟩:=h;simp only[List.reverse_cons] at p ⊢;obtain⟨m,cs,rfl,U,⟨⟨f,j,rfl,r,s⟩,-⟩⟩:=p.Tv;have q:=U.JU;obtain⟨p',c',t⟩:=Row.shape o;cases t;refine⟨m++[[qB b.word,f,j,qJ b.dK,.bool c]],?_,?_⟩
 .have hr:=Row.set (i:=a.length*5+4) o (.bool c);simp only[List.flatten_append,List.flatten_cons,List.flatten_nil,List.append_nil] at hr ⊢;have u:(a.reverse++[{b with cut:=c}]).length=(a.reverse++[b]).length:=qs;have v:(m.flatten++[Value.int .u8 b.word,f,j,qJ b.dK,.bool b.cut]).set (a.length*5+4) (.bool c)=m.flatten++[Value.int .u8 b.word,f,j,qJ b.dK,.bool c]:=by
   simp only[List.length_reverse] at q;rw[List.set_append_right _ _ qo,q];simp
  rw[v] at hr;rw[u];simpa using hr
 refine Each.snoc (U.to (fun x cs hh=>⟨hh.1.kept X (fun k _ d (e:k=g)=>l (e▸d)),hh.2⟩)) ⟨⟨f,j,rfl,Row.kept r X (fun k _ d (e:k=g)=>l (e▸d)),Row.kept s X (fun k _ d (e:k=g)=>l (e▸d))⟩,rfl⟩
theorem Row.apart{ok ok':qD}{w:qW}{E a:TypeId}{c d n e:Nat}{v b:qv}{xs f:qV}(h:Row ok w E c v n xs)(h':Row ok' w a d b e f)(hne:E≠a){g:Nat}(hg:v.ownBlock=some g):b.ownBlock≠some g:=by
 exact agz
theorem Row.only{ok ok':qD}{w:qW}{E:TypeId}{a n:Nat}{v:qv}{xs:qV}(h:Row ok w E a v n xs)(b:∀g,v.ownBlock=some g->ok' g):Row ok' w E a v n xs:=⟨h.own,b⟩
theorem PR{K l:qD}{w:qW}{i c g A:Nat}{m lv:qv}{p:qO}{Z:Bd}(h:jd K l w i m lv (.slice p Z.di.length c) (.slice (some (qA g 0)) Z.dh.length A) Z)(hb:Z.dh≠[])
  (hc:dG (fun g=>l g/\g≠i) (Z.di.take Z.dJ.dK) w (.slice p Z.dJ.dK c)) (k k':Nat):
  Says l w (.ok (gU Z)) (Pj K l w i m lv) (.returned (.tuple #[])) ((((w.drewN k).setCell (qA i 2) (.slice p Z.dJ.dK c)).drewN k').setCell ⟨g,(Z.dh.length - 1)*5+4,none⟩ (.bool true)):=by
 obtain⟨stk,d,a⟩:=Z;cases d with
 | nil=>exact absurd rfl hb
 | cons b d=>
  simp only[Bd.dJ,List.headD_cons] at hc ⊢;have n:∃css,Row (fun g=>l g/\g≠i) w 247 5 (.slice (some (qA g 0)) (b::d).length A) (b::d).reverse.length css:=by
   obtain⟨css,U,-⟩:=h.zK;exact⟨_,U⟩
  obtain⟨css,n⟩:=n;have o:=n.at_ g rfl;have U:jd K l (((w.drewN k).setCell (qA i 2) (.slice p b.dK c)).drewN k') i m lv (.slice p b.dK c) (.slice (some (qA g 0)) (b::d).length A) ⟨stk.take b.dK,b::d,a⟩:=
   (h.cells (J:=⟨stk.take b.dK,b::d,a⟩) ((qr.drewN _).own _) ((h.blk.drewN _).set 2 _) hc h.zK).drewN _
  generalize r:((w.drewN k).setCell (qA i 2) (.slice p b.dK c)).drewN k'=W at U ⊢;have s:Kept l w W:=by rw[<-r];exact((qr.drewN _).setCell (fun _=>h.own) _).drewN _
  have t:∀j,w.heap.size<=j->¬K j:=fun j f c=>by have:=h.kb j c;omega
  have u:((b::d).length - 1)*5+4=d.length*5+4:=qs;have q:Kept (only g) W (W.setCell ⟨g,((b::d).length - 1)*5+4,none⟩ (.bool true)):=qr.own _;refine Says.dW rfl (s.setCell (fun _=>o.1) _) ⟨rfl,.slice p b.dK c,.slice (some (qA g 0)) (b::d).length A,?_⟩;have v:jd K l (W.setCell ⟨g,((b::d).length - 1)*5+4,none⟩ (.bool true)) i m lv (.slice p b.dK c) (.slice (some (qA g 0)) (b::d).length A) ⟨stk.take b.dK,{b with cut:=true}::d,a⟩:=by
   have x:∃css,Row (fun g=>l g/\g≠i) W 247 5 (.slice (some (qA g 0)) (b::d).length A) (b::d).reverse.length css:=by
    obtain⟨css,L,-⟩:=U.zK;exact⟨_,L⟩
   obtain⟨z,y⟩:=x;refine⟨U.blk.kept q U.lt (fun(e:i=g)=>o.2 e.symm),U.own,?_,?_,U.x8,fun j f=>by have:=U.kb j f;simpa using this⟩
   .have L:dG (fun j=>(l j/\j≠i)/\j≠g) (stk.take b.dK) W (.slice p b.dK c):=Row.only U.stk (fun j f=>⟨U.stk.at_ j f,fun e=>Row.apart U.stk y qx f (by rw[e];rfl)⟩);exact Row.mono (Row.kept L q (fun j _ f (e:j=g)=>f.2 e)) (fun j _ f=>f.1)
   rw[u];exact Vi U.zK (U.x8 g o.1) true
  exact v.more (fun j f=>.inl f) (fun j f=>f.elim (h.x8 j) (t j))
theorem UR{K b:qD}{w:qW}{a c:Nat}{j lv t:qv}{p:qO}{Z:Bd}(h:jd K b w a j lv (.slice p Z.di.length c) t Z)(hb:Z.dh≠[])(k:Z.dh.length<=60)(hf:Z.dJ.dK<=Z.di.length):
  qC 202 #[qP a] w (Says b w (.ok (gU Z)) (Pj K b w a j lv)):=by
 obtain⟨g,A,z,B,rfl,l,C,D,m,-,-,E,F,G,H,I⟩:=h.Aj hb;obtain⟨-,-,⟨J,L⟩,⟨M,N⟩,⟨O,P⟩⟩:=h.blk.five;have d:=h.blk;have u:=hide h;have i:=h.stk;have v:=hide (dG.cut Z.dJ.dK i hf);have Q:Z.di.length<=c:=by
  rcases i.own.2 with⟨q,r⟩ | ⟨g,A,R,q,_,_,h3,_⟩
  .omega
  cases q;exact h3
 have S:w.frozen? ⟨g,(Z.dh.length - 1)*5+4,none⟩=false:=by
  obtain⟨css,s,-⟩:=h.zK;rw[show Z.dh.reverse.length=Z.dh.length by simp] at s;exact Row.free s _
 clear h i;have T:=l.2;have U:a≠g:=fun e=>l.2 e.symm;have V:=d.lt;generalize r:Z.dh.length=n at*;generalize x:Z.dJ.dK=fl at*;have W:(0:Int)<=(fl:Int):=qo;have X:(fl:Int)<=(c:Int):=qo;go_enter func202,ntmps202;go_wp2_with fail
 go_region_law (first
  | (refine eG (f:=230) (args:= #[qP a]) (by rfl) (by go_simp) (tY (d.drewN 1) m k) ?_;rintro e y ⟨rfl,Y,rfl⟩;refine⟨_,rfl,?_⟩))
 all_goals
  go_wp2_with fail
  refine(tY ((d.drewN _).set 2 _) m k).mono ?_;rintro e y ⟨rfl,k3,rfl⟩;go_wp2;go_end0;subst r x;exact PR u.o hb v.o _ _
theorem Vj{K ok:qD}{w:qW}{p:qO}{A:Nat}{a:List uk}{b:uk}(h:gu 247 5 (fun _=>yo K) ok (b::a).reverse w (.slice p (b::a).length A)):
  gu 247 5 (fun _=>yo K) ok a.reverse w (.slice p a.length A):=by
 obtain⟨css,d,e⟩:=h;simp only[List.reverse_cons] at e;obtain⟨c,cs,rfl,U,-⟩:=e.Tv;have f:=U.JU;have g:(b::a).reverse.length=(b::a).length:=qs;rw[g] at d;have hc:=Row.cut d (k:=a.length) qs;refine⟨c,?_,U⟩;have i:a.reverse.length=a.length:=qs;rw[i] at f ⊢;have j:(c++[cs]).flatten.take (a.length*5)=c.flatten:=by
  rw[List.flatten_append,List.take_append_of_le_length qo,List.take_of_length_le qo]
 rw[j] at hc;exact hc
theorem jd.narrow{K O:qD}{w:qW}{bb:Nat}{c lv d e:qv}{Z:Bd}(h:jd K O w bb c lv d e Z):jd K (fun k=>O k/\k<w.heap.size) w bb c lv d e Z:=
 ⟨h.blk,⟨h.own,h.lt⟩,Row.mono h.stk (fun g b a=>⟨⟨a.1,b⟩,a.2⟩),by
  obtain⟨css,U,L⟩:=h.zK;exact⟨css,Row.mono U (fun g b a=>⟨⟨a.1,b⟩,a.2⟩),L⟩,fun k X=>h.x8 k X.1,h.kb⟩
def isLeft(K O:Nat->Prop)(bb:Nat)(mp lv:Value)(x:uk×Bd)(w:World)(v:Value):Prop:=
 ∃tv gv,v=.agg #[qB x.1.word,tv,gv,qJ x.1.dK,.bool x.1.cut]/\dG K x.1.takes w tv/\dG K x.1.dH w gv/\jJ K O w bb mp lv x.2
section
variable {K O:qD} {w w2:qW} {bb R:Nat}
theorem Kept.five{S:qD}{W:qW}(h:Kept S w W)(f:S R)(a b c d e:qv):Kept S w (((((W.setCell (qA R 0) a).setCell (qA R 1) b).setCell (qA R 2) c).setCell (qA R 3) d).setCell (qA R 4) e):=
 ((((h.setCell (p:=(qA R 0)) (fun _=>f) _).setCell (p:=(qA R 1)) (fun _=>f) _).setCell (p:=(qA R 2)) (fun _=>f) _).setCell (p:=(qA R 3)) (fun _=>f) _).setCell (p:=(qA R 4)) (fun _=>f) _
theorem F9{ks:qM}{v:qv}(h:dG K ks w v)(X:Kept (only bb) w w2)(hb:¬K bb)(i:¬K R)(k:Nat)(u a b c d e:qv):
  dG K ks ((((((w2.drewN k).setCell (qA bb 3) u).setCell (qA R 0) a).setCell (qA R 1) b).setCell (qA R 2) c).setCell (qA R 3) d |>.setCell (qA R 4) e) v:=by
 have l:Kept (fun j=>j=bb\/j=R) w (((((((w2.drewN k).setCell (qA bb 3) u).setCell (qA R 0) a).setCell (qA R 1) b).setCell (qA R 2) c).setCell (qA R 3) d).setCell (qA R 4) e):=
  (((X.mono (fun _ _ c=>.inl c)).drewN k).setCell (p:=(qA bb 3)) (fun _=>.inl rfl) u).five (.inr rfl) _ _ _ _ _
 exact Row.kept h l (fun g _ f c=>c.elim (fun e=>hb (e▸f)) (fun e=>i (e▸f)))
theorem Uu{f lv g i:qv}{Z:Bd}(h:jd K O w bb f lv g i Z)(j:¬K R)(l:¬O R)(a b c d e:qv):
  jd K O (((((w.setCell (qA R 0) a).setCell (qA R 1) b).setCell (qA R 2) c).setCell (qA R 3) d).setCell (qA R 4) e) bb f lv g i Z:=
 h.kept (S:=only R) ((Kept.refl (only R) _).five (show R=R from rfl) _ _ _ _ _) (fun k _ (X:k=R)=>⟨fun c=>l (X▸c),fun c=>j (X▸c)⟩)
end
theorem XO{K O:qD}{w:qW}{bb:Nat}{B lv Q T:qv}{Z:Bd}(h:jd K O w bb B lv Q T Z)(hb:Z.dh≠[])(C:Z.dh.length<=60)(hf:Z.dJ.dK<=Z.di.length)(U:Z.di.length<=1000000)(V:Z.dJ.dH.length<=50):
  qC 204 #[qP bb] w (Says (only bb) w (jX Z) (isLeft K O bb B lv)):=by
 have W:=hide h.x8;replace h:=h.narrow
 obtain⟨ps,cs,rfl⟩:=Row.shape h.stk;obtain⟨g,A,tv,gv,rfl,Y,ag,ah,aa,l,m,B0,B1,B2,B3,B4⟩:=h.Aj hb;obtain⟨n,p,rfl⟩:=Row.shape l;obtain⟨pg,cg,rfl⟩:=Row.shape m;have r:¬K bb:=h.x8 bb h.own;have ab:=hide h.kb;have ac:=h.lt;have D:=hide h;have HT:=hide l;have E:=hide m;have F:=h.blk;have ai:=Y.2;clear h l m;go_enter func204,ntmps204;go_wp2_with fail
 refine(tY (F.alloc ac _) aa C).mono ?_;rintro e w1 ⟨rfl,G,rfl⟩;go_wp2_with fail
 refine(take_any (((D.o.alloc _).drewN _).alloc _) (ok:=K) (ks:=Z.dJ.dH) ?_ r (fun _=>hb) C hf U V).mono ?_
 .exact Row.alloc (Row.kept (S:=fun _=>False) (Row.alloc E.o _) (qr.drewN _) (fun _ _ _ c=>c)) _
 rintro e w2 ⟨f,H,I⟩;have d:Kept (only bb) w w2:=(((qr.alloc _).drewN _).alloc _).trans f;have ad:=f.size;have L:kY w2 (w.heap.size+1) [qB Z.dJ.word,.slice n Z.dJ.takes.length p,.slice pg Z.dJ.dH.length cg,qJ Z.dJ.dK,.bool Z.dJ.cut]:=
  (kY.new' (w:=(w.alloc _).drewN G) (c:= #[qB Z.dJ.word,.slice n Z.dJ.takes.length p,.slice pg Z.dJ.dH.length cg,qJ Z.dJ.dK,.bool Z.dJ.cut]) (t:=247) qs).kept f qs (fun(e:w.heap.size+1=bb)=>qo)
 have hR:kY w2 w.heap.size [qB 0,qN,qN,qJ 0,.bool false]:=
  ((((kY.new w #[qB 0,qN,qN,qJ 0,.bool false] 247).drewN G).alloc qs _)).kept f qt (fun(e:w.heap.size=bb)=>qo)
 rcases a:dP Z Z.dJ.dH with⟨q,pp⟩|st1
 .obtain rfl:=I _ _ a;exact⟨rfl,Says.dD (by simp[jX,a]) d⟩
 obtain⟨v,rfl,rfl,i⟩:=H _ a;have M:=eH hf a;have s:=i.blk;obtain⟨⟨L0,-⟩,⟨L1,-⟩,⟨L2,-⟩,⟨L3,-⟩,⟨L4,-⟩⟩:=L.five;obtain⟨⟨R0,S0⟩,⟨R1,S1⟩,⟨R2,S2⟩,⟨R3,S3⟩,⟨R4,S4⟩⟩:=hR.five;obtain⟨-,-,⟨I2,J2⟩,⟨I3,J3⟩,⟨I4,J4⟩⟩:=s.five;have u:=hide i;have N:=hide a;have P:=hide M;have aj:w.heap.size+2<=w2.heap.size:=by simp at ad;omega
 have ak:bb<w2.heap.size:=i.lt;clear H I a L M i B0 B1 B2 B3 B4 D F;by_cases hq:st1.di.length=Z.dJ.dK
 .have tq:((st1.di.length:Int) !=(Z.dJ.dK:Int))=false:=by simp[hq]
  have x:qh (jX Z=.ok (Z.dJ,{st1 with dh:=st1.dh.tail})):=by show _=_;simp[jX,N.o,hq]
  clear hq;have b1:(0:Int)<=(Z.dh.length:Int) - 1:=qo;have b2:(Z.dh.length:Int) - 1<=(A:Int):=qo;go_wp2;go_quiet (fail)
  go_wp2_with fail
  go_region
  all_goals
   have am:bb≠w.heap.size:=qo;have an:w.heap.size≠bb:=qo;have ao:w.heap.size+1≠bb:=qo;go_wp2;refine bodyPost_ret (v:=.agg #[qB Z.dJ.word,.slice n Z.dJ.takes.length p,.slice pg Z.dJ.dH.length cg,qJ Z.dJ.dK,.bool Z.dJ.cut]) ?_ rfl ?_
   .simp[results,results204,go_sem,R0,R1,R2,R3,R4]
   have y:¬K w.heap.size:=fun c=>by have:=ab.o _ c;omega
   refine Says.dW x.o ((((((((d.drewN _).own _).new qR _).new qR _).new qR _).new qR _).new qR _)) ⟨_,_,rfl,?_,?_,?_⟩
   .exact F9 HT.o d r y _ _ _ _ _ _ _
   .exact F9 E.o d r y _ _ _ _ _ _ _
   have ae:=u.o.cells (J:={st1 with dh:=st1.dh.tail}) ((qr.drewN (nq+1)).own _) ((s.drewN (nq+1)).set 3 (.slice (some (qA g 0)) (Z.dh.length - 1) A)) u.o.stk ?_
   .refine⟨_,_,jd.more (Uu ae y (fun c=>qo) _ _ _ _ _) (fun k X=>X.1) W.o⟩
   have z:=u.o.zK;rw[P.o.1] at z ⊢;obtain⟨b,j,af⟩:∃b j,Z.dh=b::j:=by
    cases hc:Z.dh with
    | nil=>exact absurd hc hb
    | cons b j=>exact⟨b,j,rfl⟩
   rw[af] at z ⊢;exact Vj z
 have tq:((st1.di.length:Int) !=(Z.dJ.dK:Int))=true:=by rw[bne_iff_ne];omega
 have x:qh (jX Z=.error (4,Z.at_)):=by show _=_;simp[jX,N.o,hq]
 clear hq;go_wp2;go_quiet (fail)
 go_wp2_with fail
 refine(sK (s.drewN _)).mono ?_;rintro e w3 ⟨rfl,rfl⟩;rw[P.o.2.1];exact⟨rfl,Says.dD x.o (d.drewN _)⟩
theorem JE(b:uk)(a pg:qO)(c ng d cg:Nat)(w:qW):
  qC 231 #[.agg #[qB b.word,.slice a c d,.slice pg ng cg,qJ b.dK,.bool b.cut]] w fun e w'=>e=.returned (if b.word=3 then .slice a c d else .slice pg ng cg)/\w'=w.alloc (.cells #[qB b.word,.slice a c d,.slice pg ng cg,qJ b.dK,.bool b.cut] 247):=by
 by_cases h3:b.word=3
 .have f:((b.word:Int)==3)=true:=by simp[h3]
  rw[if_pos h3];clear h3;go_enter func231,ntmps231;go_wp2;go_ret;exact⟨rfl,rfl⟩
 have f:((b.word:Int)==3)=false:=by simp;omega
 rw[if_neg h3];clear h3;go_enter func231,ntmps231;go_wp2;go_ret;exact⟨rfl,rfl⟩
attribute [local go_sem ↓] Go.wp_at_zero Go.wp_at_succ
theorem Tryz.acg:(prog.info? 247).map (fun i=>(i.zero,i.size,i.bytes))=some (some (.agg #[qB 0,qN,qN,qJ 0,.bool false]),5,72):=qk
theorem Yg{K j:qD}{w:qW}{a:Nat}{J lv sv bv vi vo:qv}{Z:Bd}{t:Ty}(l:Nat)(h:jd K j w a J lv sv bv Z)(D:dG K t.ins w vi)(P:dG K t.outs w vo)(hb:t.ins≠[]->Z.dh≠[])(hl:Z.dh.length<=59)(hf:Z.dJ.dK<=Z.di.length)(hs:Z.di.length<=900000)(Q:t.ins.length<=50):
  qC 130 #[qP a,qB l,.agg #[vi,vo]] w (Says j w (jR l t Z) (Pj K j w a J lv)):=by
 obtain⟨i0,ay,az,aA,aB⟩:=info_parts Tryz.acg;obtain⟨R,cs,rfl⟩:=Row.shape h.stk;obtain⟨m,n,rfl⟩:=Row.shape D;obtain⟨r,s,rfl⟩:=Row.shape P;have T:¬K a:=h.x8 a h.own;have af:qh (∀k,bv.ownBlock=some k->k<w.heap.size):=by
  obtain⟨css,V,-⟩:=h.zK;exact fun k X=>(V.own.lt k X).2
 have aP:=h.lt;go_enter func130,ntmps130;go_wp2_with fail
 refine(take_any (h.alloc _) (Row.alloc D _) T hb qo hf qo Q).mono ?_;rintro e i ⟨E,ag,ah⟩;have Y:Kept j w i:=(qr.alloc _).trans (E.mono (fun k _ (e:k=a)=>e▸h.own));rcases y:dP Z t.ins with⟨q,pp⟩|st1
 .obtain rfl:=ah _ _ y;exact⟨rfl,Says.dD (by simp[jR,y]) Y⟩
 obtain⟨v,rfl,rfl,F⟩:=ag _ y;have aa:=eH hf y;have HM:qh (jR l t Z=.ok {st1 with dh:=⟨l,t.ins,t.outs,st1.di.length,false⟩::st1.dh,di:=st1.di++t.ins}):=by show _=_;simp[jR,y]
 have hT:kY i w.heap.size [.slice m t.ins.length n,.slice r t.outs.length s]:=(kY.new w #[.slice m t.ins.length n,.slice r t.outs.length s] 198).kept E qs (fun(e:w.heap.size=a)=>qo);obtain⟨⟨T0,-⟩,⟨T1,-⟩⟩:=hT.two;obtain⟨-,-,⟨I2,J2⟩,⟨I3,J3⟩,⟨I4,J4⟩⟩:=F.blk.five;obtain⟨css,G,ai⟩:=F.zK;rw[List.length_reverse] at G;obtain⟨pb,cb,rfl⟩:=Row.shape G;have aC:qh (∀k o,((i.drewN k).alloc o).ownsRow 0 247 5 (.slice pb st1.dh.length cb) st1.dh.length css.flatten):=fun k o=>(Row.alloc (Row.kept G (S:=fun _=>False) (w':=i.drewN k) (qr.drewN k) (fun _ _ _ c=>c)) o).own;have aQ:st1.dh.length<=59:=by rw[aa.1];exact hl
 have aR:st1.di.length<=900000:=qo;have H:=hide F;have HF:=hide aa;have aj:=hide ai;have z:=hide G;have aD:=E.size;have ak:a<i.heap.size:=F.lt;have aE:w.heap.size<i.heap.size:=by simp at aD;omega
 have aS:a≠w.heap.size:=qo;have am:qh (some w.heap.size≠(Value.slice pb st1.dh.length cb).ownBlock):=by
  intro e;have:=af.o _ e.symm;omega
 clear ag ah y hT ai aa F G;go_wp2_with fail
 go_cut [27] from 10 to 29 (fun v W=>∃(f A:Nat) (d:qW),v=.slice (some (qA f 0)) (st1.dh.length+1) A/\W=d.setCell (qA a 3) (.slice (some (qA f 0)) (st1.dh.length+1) A)/\d.ownsRow 0 247 5 (.slice (some (qA f 0)) (st1.dh.length+1) A) (st1.dh.length+1) (css.flatten++[qB l,.slice m t.ins.length n,.slice r t.outs.length s,qJ st1.di.length,.bool false])/\
   ((i.drewN 1).alloc (.cells #[qB l,.slice m t.ins.length n,.slice r t.outs.length s,qJ st1.di.length,.bool false] 247)).grownBy d (Value.slice pb st1.dh.length cb).ownBlock/\((Value.slice pb st1.dh.length cb).ownBlock=some f\/f=i.heap.size+1))
 case first=>
  clear af am Y E D P h HM H HF aj T I4 J4 J2 hb hl hf hs Q;go_region_law (refine step_append_lies _ (by rfl) _ _ _ (by rfl) 0 247 i0 _ 5 72 underlying208 ay az aA aB rfl qo (.slice pb st1.dh.length cb) st1.dh.length css.flatten (by rfl) (aC.o 1 _) ⟨i.heap.size,0,none⟩ 1 1 [qB l,.slice m t.ins.length n,.slice r t.outs.length s,qJ st1.di.length,.bool false] (by rfl) (by rfl) (World.news_of_block (cs:= #[qB l,.slice m t.ins.length n,.slice r t.outs.length s,qJ st1.di.length,.bool false]) (t:=247) (fr:=(0,0)) (heap_alloc_new (i.drewN 1) _)) (by simp[Value.oneCell']) qo (by unfold maxLen;omega) qo qZ (i.heap.size+1) qs ?_;intro f A d I u B aT;have M:some a≠(Value.slice pb st1.dh.length cb).ownBlock:=(fun e=>(z.o.at_ a e.symm).2 rfl);have q3:d.cell? (qA a 3)=some (.slice pb st1.dh.length cb):=(u.cell_far ⟨a,3,none⟩ qt M).trans ((World.cell?_alloc_lt _ _ _ ak).trans I3);have f3:d.frozen? (qA a 3)=false:=(u.frozen_far ⟨a,3,none⟩ qt M).trans ((World.frozen?_alloc_old _ _ _ qt).trans J3))
  all_goals
   have ab:=hide I;have an:=hide u;have ao:=hide B;clear I u B;go_wp2;go_meet;exact⟨f,A,d,rfl,rfl,ab.o,an.o,ao.o⟩
 obtain⟨f,A,d,rfl,rfl,I,u,B⟩:=hcut;have ab:=hide I;have an:=hide u;have ao:=hide B;have ap:∀k,w.heap.size<=k->¬K k:=fun k aU c=>by have:=h.kb k c;omega
 have M:some a≠(Value.slice pb st1.dh.length cb).ownBlock:=fun e=>(z.o.at_ a e.symm).2 rfl;have C:Kept (fun k=>(Value.slice pb st1.dh.length cb).ownBlock=some k) i d:=((qr.drewN _).alloc _).trans (Kept.iB u);have aF:More j w f/\f≠a:=by
  rcases B with hh | hh
  .exact⟨.inl (z.o.at_ f hh).1,(z.o.at_ f hh).2⟩
  exact⟨.inr qo,qo⟩
 have aq:∀k,(Value.slice pb st1.dh.length cb).ownBlock=some k->j k:=fun k X=>(z.o.at_ k X).1;have N:Kept j w d:=Y.trans (C.mono (fun k _ e=>aq k e));have ar:kY d a [J,lv,.slice R st1.di.length cs,.slice pb st1.dh.length cb,qJ st1.at_]:=H.o.blk.kept C ak (fun e=>M e.symm);have ac:Kept (only a) d (d.setCell (qA a 3) (.slice (some (qA f 0)) (st1.dh.length+1) A)):=qr.own _;have au:∀g,K g->¬(Value.slice pb st1.dh.length cb).ownBlock=some g:=fun g b e=>h.x8 g (aq g e) b;have ad:∀g,K g->¬only a g:=fun g b (e:g=a)=>T (e▸b);have ae:Kept (fun k=>k=a\/(Value.slice pb st1.dh.length cb).ownBlock=some k) i (d.setCell (qA a 3) (.slice (some (qA f 0)) (st1.dh.length+1) A)):=(C.mono (fun _ _ e=>.inr e)).setCell (fun _=>.inl rfl) _;have O:∀{ks:qM} {v:qv},dG K ks w v->dG K ks (d.setCell (qA a 3) (.slice (some (qA f 0)) (st1.dh.length+1) A)) v:=fun hh=>
  Row.kept (Row.kept (Row.alloc hh _) E (fun g _ b=>ad g b)) ae (fun g _ b c=>c.elim (fun e=>ad g b e) (fun e=>au g b e))
 have av:jd K (More j w) (d.setCell (qA a 3) (.slice (some (qA f 0)) (st1.dh.length+1) A)) a J lv (.slice R st1.di.length cs) (.slice (some (qA f 0)) (st1.dh.length+1) A) {st1 with dh:=⟨l,t.ins,t.outs,st1.di.length,false⟩::st1.dh}:=by
  refine⟨ar.set 3 _,.inl h.own,?_,?_,fun k X=>X.elim (h.x8 k) (ap k),fun k X=>?_⟩
  .have hst:dG (fun g=>j g/\g≠a) st1.di d (.slice R st1.di.length cs):=Row.kept (Row.only H.o.stk (ok':=fun g=>(j g/\g≠a)/\(Value.slice pb st1.dh.length cb).ownBlock≠some g) (fun g b=>⟨H.o.stk.at_ g b,fun c=>Row.apart H.o.stk z.o qx b c⟩)) C (fun g _ b=>b.2) |>.mono (fun g _ b=>b.1);exact Row.mono (Row.kept hst ac (fun g _ b (c:g=a)=>b.2 c)) (fun g _ b=>⟨.inl b.1,b.2⟩)
  .simp only[List.reverse_cons];refine⟨css++[[qB l,.slice m t.ins.length n,.slice r t.outs.length s,qJ st1.di.length,.bool false]],?_,?_⟩
   .have V:Row (fun g=>More j w g/\g≠a) d 247 5 (.slice (some (qA f 0)) (st1.dh.length+1) A) (st1.dh.length+1) (css.flatten++[qB l,.slice m t.ins.length n,.slice r t.outs.length s,qJ st1.di.length,.bool false]):=⟨ab.o,fun g b=>by simp[Value.ownBlock] at b;subst b;exact aF⟩;have aG:=Row.kept V ac (fun g _ b (c:g=a)=>b.2 c);simpa using aG
   refine Each.snoc (aj.o.to (fun x cs hh=>⟨hh.1.kept ae (fun g _ b c=>c.elim (fun e=>ad g b e) (fun e=>au g b e)),hh.2⟩)) ⟨⟨_,_,rfl,O D,O P⟩,rfl⟩
  have U:=h.kb k X;have L:=N.size;simp;omega
 have aV:d.cell? (qA w.heap.size 0)=some (.slice m t.ins.length n):=(C.cell (p:=(qA w.heap.size 0)) aE (fun e=>am.o e.symm)).trans T0;have aH:=hide av;have aI:=hide (O D);have aJ:=hide N;have aK:st1.di.length<=1000000:=qo;have aW:w.heap.size<=d.heap.size:=N.size;clear av I u B O ae ac ar C N I2 J2 I3 J3 I4 J4 T0 T1;have aX:w.heap.size≠a:=qo;go_wp2_with fail
 refine(put_any aH.o aI.o aK Q).mono ?_;rintro e w5 ⟨aL,aw,-⟩;obtain⟨v,rfl,rfl,aM,aN,ax⟩:=aw _ rfl;have aO:=hide ax;clear aw ax;go_wp2;go_end0;refine Says.dW HM.o (((aJ.o.setCell (p:=(qA a 3)) (fun _=>h.own) _).fresh aL (fun k X hh=>hh.elim id (fun c=>qo)))) ⟨rfl,aM,aN,?_⟩;exact aO.o.more (fun k X=>X.elim id (fun c=>.inr (by simp at c;omega))) (fun k X=>X.elim (h.x8 k) (ap k))
theorem su{v:Int}{a many:Nat}(w:qW)(h:v<(many:Int))(b:0<=v)(U:v<=4294967295):
  qC 84 #[.agg #[.int .u32 v,qJ a],qJ many] w fun e w'=>e=.returned (qJ v)/\w'=w.alloc (.cells #[.int .u32 v,qJ a] 152):=by
 go_enter func84,ntmps84;go_wp2;go_ret;exact⟨rfl,rfl⟩
theorem pI{v:Int}{a many:Nat}(w:qW)(b:(many:Int)<=v)(c:0<=v)(U:v<=4294967295):
  qC 84 #[.agg #[.int .u32 v,qJ a],qJ many] w fun e w'=>e=iK 3 a/\w'=w.alloc (.cells #[.int .u32 v,qJ a] 152):=by
 go_enter func84,ntmps84;exact ae4
def MV(s:qS)(K:Nat->Prop)(w:World)(Y:Nat)(m:fE):Prop:=K Y/\∃f:Fields,kY w Y f.cells/\uO s K w f m
theorem MV.lt{s:qS}{K:qD}{w:qW}{Y:Nat}{m:fE}(h:MV s K w Y m):Y<w.heap.size:=by
 obtain⟨-,f,U,-⟩:=h;exact U.lt
theorem MV.kept{s:qS}{K S:qD}{w w':qW}{Y:Nat}{m:fE}(h:MV s K w Y m)(X:Kept S w w')(a:∀k,k<w.heap.size->K k->¬S k):MV s K w' Y m:=by
 have b:=h.lt;obtain⟨c,f,U,L⟩:=h;exact⟨c,f,U.kept X b (a Y b c),L.kept X a⟩
theorem Iu{K:qD}{w:qW}{ts:List Ty}{v:qv}(h:gu 198 2 yX K ts w v){k:Nat}(X:k<ts.length):
  ∃g A a b,v=.slice (some (qA g 0)) ts.length A/\g<w.heap.size/\ts.length<=A/\dG K ts[k].ins w a/\dG K ts[k].outs w b/\w.cell? ⟨g,k*2,none⟩=some a/\w.cell? ⟨g,k*2+1,none⟩=some b:=by
 obtain⟨css,f,c⟩:=h;obtain⟨g,A,i,-,j,hc,d⟩:=Row.cells f qo;have hy:ts[k]?=some ts[k]:=List.getElem?_eq_getElem X;obtain⟨cs,e,⟨⟨a,b,rfl,U,L⟩,-⟩⟩:=c.get hy;exact⟨g,A,a,b,i,j,hc,U,L,(d (k*2) qo).trans (Each.flat (o:=0) c e qo),(d (k*2+1) qo).trans (Each.flat (o:=1) c e qo)⟩
theorem Aq{w:qW}{p:Addr}(h:p.block<w.heap.size)(a b d:Obj):(((w.alloc a).alloc b).alloc d).drew.cell? p=w.cell? p:=
 ((((Kept.refl (fun _=>False) w).alloc a).alloc b).alloc d).drew.cell h (fun c=>c)
theorem ahx{w:qW}{g i:Nat}{c:Array qv}{t:TypeId}{v:qv}(h:g=w.heap.size)(a b:Obj)(d:c[i]?=some v):(((w.alloc (.cells c t)).alloc a).alloc b).drew.cell? (qA g i)=some v:=by
 subst h;have X:qK (w.alloc (.cells c t)) ((((w.alloc (.cells c t)).alloc a).alloc b).drew):=((qr.alloc _).alloc _).drew;rw[X.cell (p:=(qA w.heap.size i)) qs (fun c=>c),World.cell?_alloc_new];exact d
def isTypeOf(K:Nat->Prop)(t:Ty)(w:World)(v:Value):Prop:=∃vi vo,v=.agg #[vi,vo]/\dG K t.ins w vi/\dG K t.outs w vo
section
variable {P:Program} {md:Region.Mode} {Q:Exit->Act->qW->Prop} {S:qW->Prop}
theorem jK{l:List Oper}{b:Oper}{v:qv}{fuel:Nat}{d:Array Bool}{a e:Act}{w:qW}(i:Nat)(f:S w)(h:wpAnyH P md l.toArray Q S fuel (d.setIfInBounds i true) e w)
  (g:l[i]?=some b:=by rfl) (j:Region.noSelect l.toArray=true:=by kernel_rfl) (hf:Region.free md l.toArray d i=true:=by kernel_rfl) (k:(Region.ready md l.toArray d).contains i=true:=by kernel_rfl)
  (m:∀c a w,Q (.panic c) (a.put b.dst v) w->Q (.panic c) a w:=by exact fun _ _ _ h=>h) (hy:YieldsIf P l.toArray S b v a:=by(refine Or.inl ⟨by rfl,?_⟩;intro w n;(try dsimp only at n);go_simp;try with_reducible rfl))
  (o:a.put b.dst v=e:=by(dsimp only[Act.put,qy,qz,qw])):wpAnyH P md l.toArray Q S (fuel+1) d a w:=
 wpAnyH_take (by simpa using g) j hf k m hy f (o▸h)
end
theorem WY{s:qS}{K:qD}{w:qW}{i Y:Nat}{lv M N z:qv}{m:fE}{x:Int×Nat}(j:kY w i [qP Y,lv,M,N,z])(B:MV s K w Y m)(hx:0<=x.1/\x.1<=4294967295)(C:x.1<(m.dm.length:Int)):
  qC 210 #[qP i,.agg #[.int .u32 x.1,qJ x.2]] w (Says (fun _=>False) w (kG m x) (isTypeOf K)):=by
 obtain⟨⟨D,W⟩,-,-,-,-⟩:=j.five;have O:=j.lt;have P:=B.lt;obtain⟨Z,f,E,F⟩:=B;obtain⟨F0,Q⟩:=E.twelve.1.1;obtain⟨G,h⟩:=x;simp only at hx C ⊢;obtain⟨R,U⟩:=hx;obtain⟨k,rfl⟩:∃k:Nat,G=(k:Int):=⟨G.toNat,qo⟩;obtain⟨g,A,vi,vo,H,I,hc,l,n,J,L⟩:=Iu F.h0 (show k<m.dm.length by omega);obtain⟨q,r,rfl⟩:=Row.shape l;obtain⟨u,y,rfl⟩:=Row.shape n;rw[H] at F0;have S:qh (kG m ((k:Int),h)=.ok m.dm[k]):=by
  show _=_;have X:k<m.dm.length:=qo;simp[kG,fT,X]
 have T:=hide l;have V:=hide n;clear l n F E H Q j;generalize m.dm[k]=t at*;have e1:=fun a b d=>(Aq (p:=(qA i 0)) O a b d).trans D;have e2:=fun a b d=>(Aq (p:=(qA Y 0)) P a b d).trans F0;have e3:=fun a b d=>(Aq (p:=⟨g,k*2,none⟩) I a b d).trans J;have e4:=fun a b d=>(Aq (p:=⟨g,k*2+1,none⟩) I a b d).trans L;have n1:=World.new_ne w _ D;have n2:=World.new_ne w _ F0;have n3:=World.new_ne w _ J;have n4:=World.new_ne w _ L;go_enter func210,ntmps210;go_wp2_with fail
 go_region_held3 (fun w'=>w'.cell? (qA i 0)=some (qP Y)/\w'.cell? (qA Y 0)=some (.slice (some (qA g 0)) m.dm.length A)/\w'.cell? (qA w.heap.size 0)=some (.int .u32 (k:Int))/\w'.cell? (qA w.heap.size 1)=some (qJ h)/\w'.cell? ⟨g,k*2,none⟩=some (.slice q t.ins.length r)/\w'.cell? ⟨g,k*2+1,none⟩=some (.slice u t.outs.length y)) (go_keep) ((refine eG (f:=84) (args:= #[.agg #[.int .u32 (k:Int),qJ h],qJ m.dm.length]) (by rfl) (by go_simp) (su _ C R U) ?_;rintro e w' ⟨rfl,rfl⟩;refine⟨_,rfl,?_⟩))
 all_goals
  go_wp2;refine bodyPost_ret (v:=.agg #[.slice q t.ins.length r,.slice u t.outs.length y]) ?_ rfl ?_
  .simp[results,results210,go_sem]
  have X:=((((Kept.refl (fun _=>False) w).alloc (.cells #[.int .u32 (k:Int),qJ h] 152)).alloc (.cells #[.slice q t.ins.length r,.slice u t.outs.length y] 198)).alloc (.cells #[.int .u32 (k:Int),qJ h] 152)).drew;exact Says.dW S.o X ⟨_,_,rfl,Row.kept T.o X (fun _ _ _ c=>c),Row.kept V.o X (fun _ _ _ c=>c)⟩
theorem rH{P:Program}{b:Array Oper}{Q:Exit->Act->qW->Prop}{i:Nat}{K:Act->qW->Prop}{a:Act}{w:qW}{o:Oper}{f:FuncId}{args:Array qv}{R:Ending->qW->Prop}(d:b[i]?=some o)(g:o.guard=none)
  (j:(execOp a.eval o).run P w=.ok (.enter f args) w) (hc:Calls P f args w R) (h:∀e w',R e w'->∃c,e=.panicked c/\Q (.panic c) a w'):wpOp P b Q i K a w:=by
 have hw:Region.wanted o (yielded b a.tmps)=true:=by simp[Region.wanted,g]
 unfold wpOp;rw[d];simp only[hw,if_true];unfold Oper.wp;rw[j];refine .inl (hc.mono ?_);intro e w' k;obtain⟨c,rfl,hq⟩:=h e w' k;exact hq
theorem Tz{s:qS}{K:qD}{w:qW}{g Y:Nat}{lv y A z:qv}{m:fE}{x:Int×Nat}(j:kY w g [qP Y,lv,y,A,z])(k:MV s K w Y m)(hx:0<=x.1/\x.1<=4294967295)(l:¬x.1<(m.dm.length:Int)):
  qC 210 #[qP g,.agg #[.int .u32 x.1,qJ x.2]] w (Says (fun _=>False) w (kG m x) (isTypeOf K)):=by
 obtain⟨⟨I0,F⟩,-,-,-,-⟩:=j.five;have hbw:=j.lt;have hmw:=k.lt;obtain⟨B,f,n,q⟩:=k;obtain⟨F0,C⟩:=n.twelve.1.1;have r:=hide q;obtain⟨d,b⟩:=x;simp only at hx l ⊢;obtain⟨D,U⟩:=hx;have HR:qh (kG m (d,b)=.error (3,b)):=by
  show _=_;simp[kG,fT,l]
 clear q n C j;obtain⟨t,c0,u⟩:∃p c,f.v0=.slice p m.dm.length c:=by
  obtain⟨css,E,-⟩:=r.o.h0;exact Row.shape E
 rw[u] at F0;clear u r B;go_enter func210,ntmps210;go_wp2_with fail
 have a:(fun w':qW=>w'.cell? (qA g 0)=some (qP Y)/\w'.cell? (qA Y 0)=some (.slice t m.dm.length c0)/\w'.cell? (qA w.heap.size 0)=some (.int .u32 d)/\w'.cell? (qA w.heap.size 1)=some (qJ b)) (((w.alloc (.cells #[.int .u32 d,qJ b] 152)).alloc (.cells #[qN,qN] 198)).drew):=by
  exact agp
 refine wp_region_held_drew (S:=fun w':qW=>w'.cell? (qA g 0)=some (qP Y)/\w'.cell? (qA Y 0)=some (.slice t m.dm.length c0)/\w'.cell? (qA w.heap.size 0)=some (.int .u32 d)/\w'.cell? (qA w.heap.size 1)=some (qJ b)) qk a (fun _=>?_);refine jK 0 a ?_;refine jK 1 a ?_;refine jK 2 a ?_;refine jK 3 a ?_;refine jK 4 a ?_;refine jK 5 a ?_;refine jK 6 a ?_;refine jK 7 a ?_;refine jK 8 a ?_;refine jK 9 a ?_;refine jK 10 a ?_;refine jK 11 a ?_;refine jK 12 a ?_;refine jK 13 a ?_;refine jK 14 a ?_;refine jK 15 a ?_;refine wpAnyH_all (rs:=[16]) qk qs ?_;intro i v;rw[List.mem_singleton] at v;subst v;refine rH (f:=84) (args:= #[.agg #[.int .u32 d,qJ b],qJ m.dm.length]) rfl rfl qk (pI _ qo D U) ?_;exact aec
def isGlobal(g:MF)(_:World)(v:Value):Prop:=v=.agg #[qB g.kind,.bool g.xM,qJ g.first.at_,qB g.first.kind,qJ g.first.val]
theorem X8{s:qS}{K:qD}{w:qW}{j Y:Nat}{lv E F z:qv}{m:fE}{x:Int×Nat}(l:kY w j [qP Y,lv,E,F,z])(n:MV s K w Y m)(hx:0<=x.1/\x.1<=4294967295)(q:x.1<(m.dB.length:Int)):
  qC 212 #[qP j,.agg #[.int .u32 x.1,qJ x.2]] w (Says (fun _=>False) w (iw m x) isGlobal):=by
 obtain⟨⟨r,Q⟩,-,-,-,-⟩:=l.five;have G:=l.lt;have H:=n.lt;obtain⟨R,f,u,y⟩:=n;obtain⟨F0,I⟩:=u.twelve.1.2.2.2.2.1;obtain⟨B,h⟩:=x;simp only at hx q ⊢;obtain⟨J,U⟩:=hx;obtain⟨k,rfl⟩:∃k:Nat,B=(k:Int):=⟨B.toNat,qo⟩;have X:k<m.dB.length:=qo;obtain⟨g,A,C,-,i,hc,d⟩:=Row.cells y.h4 qo;have hy:m.dB[k]?=some m.dB[k]:=List.getElem?_eq_getElem X;have D:w.cell? ⟨g,k*5,none⟩=some (qB (m.dB[k].kind:Nat)):=(d (k*5) qo).trans (flat_get (m:=5) (o:=0) (fun _=>rfl) hy qo);have L:w.cell? ⟨g,k*5+1,none⟩=some (.bool m.dB[k].xM):=(d (k*5+1) qo).trans (flat_get (m:=5) (o:=1) (fun _=>rfl) hy qo);have M:w.cell? ⟨g,k*5+2,none⟩=some (qJ (m.dB[k].first.at_:Nat)):=(d (k*5+2) qo).trans (flat_get (m:=5) (o:=2) (fun _=>rfl) hy qo);have N:w.cell? ⟨g,k*5+3,none⟩=some (qB (m.dB[k].first.kind:Nat)):=(d (k*5+3) qo).trans (flat_get (m:=5) (o:=3) (fun _=>rfl) hy qo);have O:w.cell? ⟨g,k*5+4,none⟩=some (qJ m.dB[k].first.val):=(d (k*5+4) qo).trans (flat_get (m:=5) (o:=4) (fun _=>rfl) hy qo);rw[C] at F0;have P:qh (iw m ((k:Int),h)=.ok m.dB[k]):=by
  show _=_;simp[iw,fT,X]
 clear y u C I l d hy;generalize m.dB[k]=t at*;have S:=fun a b c=>(Aq (p:=(qA j 0)) G a b c).trans r;have T:=fun a b c=>(Aq (p:=(qA Y 4)) H a b c).trans F0;have V:=fun a b c=>(Aq (p:=⟨g,k*5,none⟩) i a b c).trans D;have W:=fun a b c=>(Aq (p:=⟨g,k*5+1,none⟩) i a b c).trans L;have Z:=fun a b c=>(Aq (p:=⟨g,k*5+2,none⟩) i a b c).trans M;have d3:=fun a b c=>(Aq (p:=⟨g,k*5+3,none⟩) i a b c).trans N;have d4:=fun a b c=>(Aq (p:=⟨g,k*5+4,none⟩) i a b c).trans O;have n1:=World.new_ne w _ r;have n2:=World.new_ne w _ F0;have n3:=World.new_ne w _ D;go_enter func212,ntmps212;go_wp2_with fail
 go_region_held3 (fun w'=>w'.cell? (qA j 0)=some (qP Y)/\w'.cell? (qA Y 4)=some (.slice (some (qA g 0)) m.dB.length A)/\w'.cell? (qA w.heap.size 0)=some (.int .u32 (k:Int))/\w'.cell? (qA w.heap.size 1)=some (qJ h)/\w'.cell? ⟨g,k*5,none⟩=some (qB t.kind)/\w'.cell? ⟨g,k*5+1,none⟩=some (.bool t.xM)/\w'.cell? ⟨g,k*5+2,none⟩=some (qJ t.first.at_)/\w'.cell? ⟨g,k*5+3,none⟩=some (qB t.first.kind)/\w'.cell? ⟨g,k*5+4,none⟩=some (qJ t.first.val)) (go_keep) ((refine eG (f:=84) (args:= #[.agg #[.int .u32 (k:Int),qJ h],qJ m.dB.length]) (by rfl) (by go_simp) (su _ q J U) ?_;rintro e w' ⟨rfl,rfl⟩;refine⟨_,rfl,?_⟩))
 all_goals
  go_wp2;refine bodyPost_ret (v:=.agg #[qB t.kind,.bool t.xM,qJ t.first.at_,qB t.first.kind,qJ t.first.val]) ?_ rfl ?_
  .simp[results,results212,go_sem]
  have X:=((((Kept.refl (fun _=>False) w).alloc (.cells #[.int .u32 (k:Int),qJ h] 152)).alloc (.cells #[qB t.kind,.bool t.xM,qJ t.first.at_,qB t.first.kind,qJ t.first.val] 191)).alloc (.cells #[.int .u32 (k:Int),qJ h] 152)).drew;exact Says.dW P.o X rfl
theorem UG{s:qS}{K:qD}{w:qW}{g Y:Nat}{lv u v z:qv}{m:fE}{x:Int×Nat}(j:kY w g [qP Y,lv,u,v,z])(k:MV s K w Y m)(hx:0<=x.1/\x.1<=4294967295)(l:¬x.1<(m.dB.length:Int)):
  qC 212 #[qP g,.agg #[.int .u32 x.1,qJ x.2]] w (Says (fun _=>False) w (iw m x) isGlobal):=by
 obtain⟨⟨I0,C⟩,-,-,-,-⟩:=j.five;have hbw:=j.lt;have hmw:=k.lt;obtain⟨y,f,n,o⟩:=k;obtain⟨F0,A⟩:=n.twelve.1.2.2.2.2.1;obtain⟨d,b⟩:=x;simp only at hx l ⊢;obtain⟨B,U⟩:=hx;have HR:qh (iw m (d,b)=.error (3,b)):=by
  show _=_;simp[iw,fT,l]
 obtain⟨q,c0,r⟩:∃p c,f.v4=.slice p m.dB.length c:=Row.shape o.h4;rw[r] at F0;clear r y o n A j;go_enter func212,ntmps212;go_wp2_with fail
 have a:(fun w':qW=>w'.cell? (qA g 0)=some (qP Y)/\w'.cell? (qA Y 4)=some (.slice q m.dB.length c0)/\w'.cell? (qA w.heap.size 0)=some (.int .u32 d)/\w'.cell? (qA w.heap.size 1)=some (qJ b)) (((w.alloc (.cells #[.int .u32 d,qJ b] 152)).alloc (.cells #[qB 0,.bool false,qJ 0,qB 0,qJ 0] 191)).drew):=by
  exact agp
 refine wp_region_held_drew (S:=fun w':qW=>w'.cell? (qA g 0)=some (qP Y)/\w'.cell? (qA Y 4)=some (.slice q m.dB.length c0)/\w'.cell? (qA w.heap.size 0)=some (.int .u32 d)/\w'.cell? (qA w.heap.size 1)=some (qJ b)) qk a (fun _=>?_);refine jK 0 a ?_;refine jK 1 a ?_;refine jK 2 a ?_;refine jK 3 a ?_;refine jK 4 a ?_;refine jK 5 a ?_;refine jK 6 a ?_;refine jK 7 a ?_;refine jK 8 a ?_;refine jK 9 a ?_;refine jK 10 a ?_;refine jK 11 a ?_;refine jK 12 a ?_;refine jK 13 a ?_;refine jK 14 a ?_;refine jK 15 a ?_;refine wpAnyH_all (rs:=[16]) qk qs ?_;intro i t;rw[List.mem_singleton] at t;subst t;refine rH (f:=84) (args:= #[.agg #[.int .u32 d,qJ b],qJ m.dB.length]) rfl rfl qk (pI _ qo B U) ?_;exact aec
theorem ZU{w:qW}{c a:Nat}{d lv f g:qv}(many:Nat)(h:kY w c [d,lv,f,g,qJ a]):
  qC 209 #[qP c,qJ many] w fun e w'=>w'=w/\e=(if many=0 then iK 3 a else .returned (.tuple #[])):=by
 obtain⟨-,-,-,-,⟨i,j⟩⟩:=h.five;by_cases b:many=0
 .subst b;go_enter func209,ntmps209;exact ae4
 have k:((many:Int)==0)=false:=qe;rw[if_neg b];clear b;go_enter func209,ntmps209;go_wp2;go_end0;exact⟨rfl,rfl⟩
theorem BU{s:qS}{K:qD}{w:qW}{Y:Nat}{m:fE}(fn:Nat)(i:MV s K w Y m)(hf:fn<m.funcs.length)(hx:0<=(m.funcs[fn]).1/\(m.funcs[fn]).1<(m.dm.length:Int)):
  qC 128 #[qP Y,qJ fn] w fun e w'=>qK w w'/\∃v,e=.returned v/\isTypeOf K (fM m fn) w' v:=by
 have I:=i.lt;obtain⟨J,f,j,a⟩:=i;obtain⟨⟨F0,B⟩,⟨C,D⟩,-⟩:=j.twelve.1;obtain⟨E,c1,l,-,L,M,n⟩:=Row.cells a.U qo;have b:m.funcs[fn]?=some m.funcs[fn]:=List.getElem?_eq_getElem hf;have N:w.cell? ⟨E,fn*2,none⟩=some (.int .u32 m.funcs[fn].1):=(n (fn*2) qo).trans (flat_get (m:=2) (o:=0) (fun _=>rfl) b qo);have p:qh (fM m fn=m.dm.getD (m.funcs[fn]).1.toNat ⟨[],[]⟩):=by show _=_;simp[fM,b]
 rw[l] at C;generalize m.funcs[fn].1=q at*;obtain⟨k,rfl⟩:∃k:Nat,q=(k:Int):=⟨q.toNat,qo⟩;have X:k<m.dm.length:=qo;obtain⟨g,A,O,P,r,Q,hc,d,h,R,S⟩:=Iu a.h0 X;obtain⟨u,x,rfl⟩:=Row.shape d;obtain⟨y,z,rfl⟩:=Row.shape h;rw[r] at F0;have F:qh (fM m fn=m.dm[k]):=by show _=_;rw[p.o];simp[X]
 have G:=hide d;have H:=hide h;have T:(k:Int)<(m.dm.length:Int):=qo;have V:(fn:Int)<(m.funcs.length:Int):=qo;clear d h a j r B D n b l p hx;generalize m.dm[k]=t at*;go_enter func128,ntmps128;go_wp2_with fail
 go_region
 all_goals
  go_wp2;refine bodyPost_ret (v:=.agg #[.slice u t.ins.length x,.slice y t.outs.length z]) ?_ rfl ?_
  .simp[results,results128,go_sem]
  have X:=((Kept.refl (fun _=>False) w).alloc (.cells #[.slice u t.ins.length x,.slice y t.outs.length z] 198)).drew;rw[F.o];exact⟨X,_,rfl,_,_,rfl,Row.kept G.o X (fun _ _ _ c=>c),Row.kept H.o X (fun _ _ _ c=>c)⟩
theorem XQ{K C:qD}{w:qW}{l:Nat}{D lv E F:qv}{Z:Bd}{x:Int×Nat}(h:jd K C w l D lv E F Z)(hx:0<=x.1/\x.1<=4294967295)(N:Z.dh.length<=60):
  qC 206 #[qP l,.agg #[.int .u32 x.1,qJ x.2]] w (Says (fun _=>False) w (jB Z x) (fun ks w' v=>dG K ks w' v)):=by
 obtain⟨-,-,-,⟨G,O⟩,-⟩:=h.blk.five;have P:=h.lt;obtain⟨j,a⟩:=x;simp only at hx ⊢;obtain⟨s,U⟩:=hx;by_cases t:j<(Z.dh.length:Int)
 .obtain⟨k,rfl⟩:∃k:Nat,j=(k:Int):=⟨j.toNat,qo⟩;have X:k<Z.dh.length:=qo;obtain⟨g,A,Q,R,rfl,S,T,V,m,p,H,Y,C2,C3,C4⟩:=Au h.zK X;obtain⟨d,i,rfl⟩:=Row.shape m;obtain⟨pg,cg,rfl⟩:=Row.shape p;have q:qh (jB Z ((k:Int),a)=.ok (eU Z.dh[k])):=by show _=_;simp[jB,fT,X]
  have u:=hide m;have y:=hide p;clear m p h;generalize Z.dh[k]=b at*;obtain⟨pl,cl,z,B⟩:∃pl cl,(if b.word=3 then Value.slice d b.takes.length i else Value.slice pg b.dH.length cg)=Value.slice pl (eU b).length cl/\dG K (eU b) w (.slice pl (eU b).length cl):=by
   unfold eU;by_cases h3:b.word=3
   .rw[if_pos h3,if_pos h3];exact⟨d,i,rfl,u.o⟩
   rw[if_neg h3,if_neg h3];exact⟨pg,cg,rfl,y.o⟩
  have I:=hide z;have J:=hide B;clear z B u y;have L:qh (∀W:qW,qC 231 #[.agg #[qB b.word,.slice d b.takes.length i,.slice pg b.dH.length cg,qJ b.dK,.bool b.cut]] W fun e w'=>e=.returned (.slice pl (eU b).length cl)/\w'=W.alloc (.cells #[qB b.word,.slice d b.takes.length i,.slice pg b.dH.length cg,qJ b.dK,.bool b.cut] 247)):=fun W=>by
   rw[<-I.o];exact JE b d pg b.takes.length b.dH.length i cg W
  generalize eU b=ls at*;generalize Z.dh.length=n at*;have b1:(0:Int)<=(n:Int) - 1 - (k:Int):=qo;have b2:(n:Int) - 1 - (k:Int)<(n:Int):=qo;have w1:IntKind.i64.wrap ((n:Int) - 1)=(n:Int) - 1:=IntWalk.i64_in _ qo;have M:IntKind.i64.wrap ((n:Int) - 1 - (k:Int))=(n:Int) - 1 - (k:Int):=IntWalk.i64_in _ qo;have b5:(k:Int)<=(n:Int) - 1:=qo;have n1:=World.new_ne w _ G;have n2:=World.new_ne w _ H;go_enter func206,ntmps206;go_wp2_with fail
  go_region_held3 (fun w'=>w'.cell? (qA l 3)=some (.slice (some (qA g 0)) n A)/\w'.cell? (qA w.heap.size 0)=some (.int .u32 (k:Int))/\w'.cell? (qA w.heap.size 1)=some (qJ a)) (go_keep) ((refine eG (f:=84) (args:= #[.agg #[.int .u32 (k:Int),qJ a],qJ n]) (by rfl) (by go_simp) (su _ t s U) ?_;rintro e w' ⟨rfl,rfl⟩;refine⟨_,rfl,?_⟩))
  all_goals
   go_wp2_with fail
   go_region_law (refine eG (f:=231) (args:= #[.agg #[qB b.word,.slice d b.takes.length i,.slice pg b.dH.length cg,qJ b.dK,.bool b.cut]]) (by rfl) (by go_simp) (L.o _) ?_;rintro e w' ⟨rfl,rfl⟩;refine⟨_,rfl,?_⟩)
   all_goals
    go_wp2;go_ret;have X:=((((Kept.refl (fun _=>False) w).alloc (.cells #[.int .u32 (k:Int),qJ a] 152)).alloc (.cells #[.int .u32 (k:Int),qJ a] 152)).alloc (.cells #[qB b.word,.slice d b.takes.length i,.slice pg b.dH.length cg,qJ b.dK,.bool b.cut] 247)).drewN 2;exact Says.dW q.o X (Row.kept J.o X (fun _ _ _ c=>c))
 obtain⟨css,r,-⟩:=h.zK;rw[List.length_reverse] at r;obtain⟨pb,cb,rfl⟩:=Row.shape r;have q:qh (jB Z (j,a)=.error (3,a)):=by show _=_;simp[jB,fT,t]
 clear r h;go_enter func206,ntmps206;go_wp2_with fail
 go_region_dies
 all_goals
  refine(pI _ qo s U).mono ?_;rintro e M ⟨rfl,rfl⟩;refine⟨rfl,Says.dD q.o ?_⟩;exact((qr.alloc _).drew.alloc _)
end Go.Proofs.YtdaafkmhfedkiaaGreat
