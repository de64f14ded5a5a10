import Derived.Test.YtfkcodlceoghpaaGreatDoorX28
namespace Go.Proofs.YtfkcodlceoghpaaGreatDoor
set_option maxHeartbeats 6400000
set_option maxRecDepth 100000
set_option linter.unusedSimpArgs false
set_option linter.unusedVariables false
open Go.RowKit Go.Proofs.Tryz
section
variable {K:qD}{w:qW}{Y:Nat}{s:qS}{m:dX}
theorem MV.four(h:MV s K w Y m):∃b c1 p2 c2 c c3 d c4,w.cell? (qA Y 1)=some (qX b m.funcs c1)/\w.cell? (qA Y 2)=some (qX p2 m.tables c2)/\w.cell? (qA Y 3)=some (qX c m.fP c3)/\w.cell? (qA Y 4)=some (qX d m.dI c4):=by
 obtain⟨-,f,k,a⟩:=h;obtain⟨-,⟨e,-⟩,⟨g,-⟩,⟨i,-⟩,⟨j,-⟩,-⟩:=k.twelve.1;obtain⟨b,c1,U⟩:=Row.shape a.U;obtain⟨p2,c2,l⟩:=Row.shape a.L;obtain⟨c,c3,n⟩:=Row.shape a.h3;obtain⟨d,c4,o⟩:=Row.shape a.h4;rw[U]at e;rw[l]at g;rw[n]at i;rw[o]at j;exact⟨b,c1,p2,c2,c,c3,d,c4,e,g,i,j⟩
theorem GL(hm:MV s K w Y m)(x:Nat):
  qC 129 #[qP Y,qB x] w λe w'=>e=.returned (qJ (mO m x:Nat))/\w'=w:=by
 have f:=hm.lt;obtain⟨g,c1,p2,c2,i,c3,j,c4,k,l,n,o⟩:=hm.four;clear hm;by_cases h0:x=0
 .have b:((x:Int)==0)=true:=by simp;omega
  have HH:qh (mO m x=m.funcs.length):=by show _=_;simp[mO,h0]
  clear h0;go_enter func129,ntmps129;exact xZ
 have b:((x:Int)==0)=false:=by simp;omega
 by_cases U:x=1
 .have c:((x:Int)==1)=true:=by simp;omega
  have HH:qh (mO m x=m.tables.length):=by show _=_;simp[mO,U]
  clear h0 U;go_enter func129,ntmps129;exact xZ
 have c:((x:Int)==1)=false:=by simp;omega
 by_cases a:x=2
 .have d:((x:Int)==2)=true:=by simp;omega
  have HH:qh (mO m x=m.fP.length):=by show _=_;simp[mO,a]
  clear h0 U a;go_enter func129,ntmps129;exact xZ
 have d:((x:Int)==2)=false:=by simp;omega
 have HH:qh (mO m x=m.dI.length):=by show _=_;simp[mO,h0,U,a]
 clear h0 U a;go_enter func129,ntmps129;exact xZ
theorem V7(x:Nat)(U:m.funcs.length<=20)(a:m.tables.length<=20)(b:m.fP.length<=20)(c:m.dI.length<=20):mO m x<=20:=by
 unfold mO;split
 .exact U
 split
 .exact a
 split
 .exact b
 exact c
def oU(m:dX)(k:Nat)(t:qS):Bool:=(m.dw.take k).any (λe'=>decide (e'.name.data.toList=t.data.toList))
theorem Je{t:qS}{i:Nat}(hi:i<m.dw.length):oU m (i+1) t=(oU m i t||(m.dw[i].name.toList==t.toList)):=by
 unfold oU;rw[qbg hi,List.any_append];simp only[List.any_cons,List.any_nil,Bool.or_false,ByteArray.toList_eq];congr 1
 rw[Bool.eq_iff_iff];simp
theorem Jf{t:qS}{i k:Nat}(a:i<=k)(h:oU m i t=true):oU m k t=true:=by
 unfold oU at*;rw[List.any_eq_true]at*;obtain⟨x,hx,hp⟩:=h;exact⟨x,(List.take_subset_take_left _ a) hx,hp⟩
theorem zD{k:Nat}(X:k<m.dw.length)(h:oU m k m.dw[k].name=true):fM m k=.error (6,m.dw[k].nameAt):=by
 unfold fM;rw[qab X];exact qac h
theorem BF{k:Nat}(X:k<m.dw.length)(h:oU m k m.dw[k].name=false):fM m k=gV (mO m m.dw[k].AX) m.dw[k].idx:=by
 unfold fM;rw[qab X];exact qaa (λc=>by unfold oU at h;rw[h]at c;cases c)
theorem yQ(hm:MV s K w Y m)(hl:m.dw.length<=50)(hx:∀x∈m.dw,0<=x.idx.1/\x.idx.1<=4294967295):
  qC 70 #[qP Y] w (Looks w (dV (fM m) (List.range m.dw.length))):=by
 have ab:=hm.lt;have ak:=qH hm;obtain⟨hK,f,hM,T⟩:=hm;obtain⟨F,G⟩:=hM.twelve.1.2.2.2.2.2;obtain⟨p,c,hf⟩:=Row.shape T.h5;have hr:=T.h5;rw[hf]at F hr;have HX:=qH hx;clear T hM hf hx hK;have H0:qh (dV (fM m) (List.range m.dw.length)=dV (fM m) ((List.range m.dw.length).drop 0)):=by show _=_;simp
 go_enter func70,ntmps70;go_wp2;go_loopw [11] (λq a=>∃k:Nat,k<=m.dw.length/\q=qJ k/\qK w a/\dV (fM m) (List.range m.dw.length)=dV (fM m) ((List.range m.dw.length).drop k)) (λq _=>m.dw.length - (intOf q).toNat)
 case atStart=>exact⟨0,qZ,rfl,Kept.refl _ _,H0.o⟩
 obtain⟨k,X,rfl,n,ac⟩:=hrel;obtain⟨a,al⟩:∃x,x=wr:=⟨wr,rfl⟩;subst al;have r:=qH ac;clear ac H0;by_cases u:k<m.dw.length
 .have hlt':(k:Int)<(m.dw.length:Int):=qo;have U:isRow 120 5 CB.cells K m.dw a (qX p m.dw c):=Row.kept hr n (λ_ _ _ hc=>hc);have O:=qH U;obtain⟨g,A,hv,-,ap,aq,B⟩:=Row.cells U qo;cases hv;have hy:m.dw[k]?=some m.dw[k]:=qab u;have V:(List.range m.dw.length)[k]'(by simpa using u)=k:=qs;have C:qh (∀e,fM m k=.error e->dV (fM m) (List.range m.dw.length)=.error e):=λe W=>r.o.trans (kZ (by simpa using u) (by rw[V];exact W));have M:qh (fM m k=.ok ()->dV (fM m) (List.range m.dw.length)=dV (fM m) ((List.range m.dw.length).drop (k+1))):=λW=>r.o.trans (mX (by simpa using u) (by rw[V];exact W));have c0:a.cell? ⟨g,k*5,none⟩=some (qJ (m.dw[k].nameAt:Nat)):=(B (k*5) qo).trans (flat_get (m:=5) (o:=0) (λ_=>rfl) hy qo);have c1:a.cell? ⟨g,k*5+1,none⟩=some (.string m.dw[k].name):=(B (k*5+1) qo).trans (flat_get (m:=5) (o:=1) (λ_=>rfl) hy qo);have c2:a.cell? ⟨g,k*5+2,none⟩=some (qB (m.dw[k].AX:Nat)):=(B (k*5+2) qo).trans (flat_get (m:=5) (o:=2) (λ_=>rfl) hy qo);have c3:a.cell? ⟨g,k*5+3,none⟩=some (qI m.dw[k].idx.1):=(B (k*5+3) qo).trans (flat_get (m:=5) (o:=3) (λ_=>rfl) hy qo);have c4:a.cell? ⟨g,k*5+4,none⟩=some (qJ (m.dw[k].idx.2:Nat)):=(B (k*5+4) qo).trans (flat_get (m:=5) (o:=4) (λ_=>rfl) hy qo);have D:=qH (zD u);have E:=qH (BF u);have ad:=HX.o _ (qaw u);have Fr:=(n.cell (p:=(qA Y 5)) ab (λc=>c)).trans F;have ar:Y<a.heap.size:=qad ab n.size;have au:(k:Int)<=(c:Int):=qo;have n1:=World.new_ne a _ Fr;clear B U hy V F;generalize m.dw[k]=x at*;obtain⟨P,y,d,h,j⟩:=x;simp only at c0 c1 c2 c3 c4 E D ad;obtain⟨ae,af⟩:=ad;go_wp2;go_loopw [23] (λq wr=>∃i:Nat,i<=k/\q=qJ i/\qK (a.alloc (.cells #[qJ P,.string y,qB d,qI h,qJ j] 120)) wr/\oU m i y=false) (λq _=>k - (intOf q).toNat)
  case atStart=>exact⟨0,qZ,rfl,Kept.refl _ _,rfl⟩
  obtain⟨i,hi,rfl,v,ag⟩:=hrel;have H:=qH ag;clear ag;have I:a.heap.size<(a.alloc (.cells #[qJ P,.string y,qB d,qI h,qJ j] 120)).heap.size:=qs;have Z:a.heap.size<wr.heap.size:=qad I v.size;have V0:wr.cell? (qA a.heap.size 0)=some (qJ P):=(v.cell (p:=(qA a.heap.size 0)) I (λc=>c)).trans qs;have V1:wr.cell? (qA a.heap.size 1)=some (.string y):=(v.cell (p:=(qA a.heap.size 1)) I (λc=>c)).trans qs;have V2:wr.cell? (qA a.heap.size 2)=some (qB d):=(v.cell (p:=(qA a.heap.size 2)) I (λc=>c)).trans qs;have V3:wr.cell? (qA a.heap.size 3)=some (qI h):=(v.cell (p:=(qA a.heap.size 3)) I (λc=>c)).trans qs;have V4:wr.cell? (qA a.heap.size 4)=some (qJ j):=(v.cell (p:=(qA a.heap.size 4)) I (λc=>c)).trans qs;have N:qK a wr:=(qr.alloc _).trans v;by_cases aw:i<k
  .have hik':(i:Int)<(k:Int):=qo;have ah:i<m.dw.length:=qo;have ai:isRow 120 5 CB.cells K m.dw wr (qL g m.dw.length c):=Row.kept O.o N (λ_ _ _ hc=>hc);obtain⟨g',ax,am,-,ay,aA,J⟩:=Row.cells ai qo;cases am;have L:m.dw[i]?=some m.dw[i]:=qab ah;have d0:wr.cell? ⟨g,i*5,none⟩=some (qJ (m.dw[i].nameAt:Nat)):=(J (i*5) qo).trans (flat_get (m:=5) (o:=0) (λ_=>rfl) L qo);have d1:wr.cell? ⟨g,i*5+1,none⟩=some (.string m.dw[i].name):=(J (i*5+1) qo).trans (flat_get (m:=5) (o:=1) (λ_=>rfl) L qo);have d2:wr.cell? ⟨g,i*5+2,none⟩=some (qB (m.dw[i].AX:Nat)):=(J (i*5+2) qo).trans (flat_get (m:=5) (o:=2) (λ_=>rfl) L qo);have d3:wr.cell? ⟨g,i*5+3,none⟩=some (qI m.dw[i].idx.1):=(J (i*5+3) qo).trans (flat_get (m:=5) (o:=3) (λ_=>rfl) L qo);have d4:wr.cell? ⟨g,i*5+4,none⟩=some (qJ (m.dw[i].idx.2:Nat)):=(J (i*5+4) qo).trans (flat_get (m:=5) (o:=4) (λ_=>rfl) L qo);have Q:=qH (Je (t:=y) ah);clear J ai L;generalize m.dw[i]=z at*;cases hz:(z.name.toList==y.toList) with
   | true=>
    have l:qh (dV (fM m) (List.range m.dw.length)=.error (6,P)):=C.o _ (D.o (Jf (i:=i+1) qo (by rw[Q.o,hz,Bool.or_true])));clear C M E D Q H r O;go_wp2_with fail
    refine(iK _ _ _).mono ?_;rintro e w3⟨rfl,rfl⟩;exact⟨rfl,Says.dG l.o ((n.trans N).alloc _)⟩
   | false=>
    have l:qh (oU m (i+1) y=false):=by show _=_;rw[Q.o,H.o,hz];rfl
    clear C M E D Q H r;go_wp2;go_roundw
    case rel=>exact⟨i+1,qo,by go_num,v.alloc _,l.o⟩
    simp[intOf];omega
  have an:i=k:=qo;subst an;have R:=E.o H.o;have b:qh ((λw':qW=>w'.cell? (qA a.heap.size 2)=some (qB d)/\w'.cell? (qA a.heap.size 3)=some (qI h)/\w'.cell? (qA a.heap.size 4)=some (qJ j)) wr.drew):=⟨V2,V3,V4⟩;have aj:=qH (ak.o.kept ((n.trans N).drew) (λ_ _ _ c=>c));by_cases aa:h<(mO m d:Int)
  .have l:qh (dV (fM m) (List.range m.dw.length)=dV (fM m) ((List.range m.dw.length).drop (i+1))):=M.o (by rw[R];simp[gV,aa]);clear C M E D H r O R;go_wp2_with fail
   refine wp_region_held_drew (S:=λw':qW=>w'.cell? (qA a.heap.size 2)=some (qB d)/\w'.cell? (qA a.heap.size 3)=some (qI h)/\w'.cell? (qA a.heap.size 4)=some (qJ j)) qk b.o (λ_=>?_);refine ic 0 b.o ?_;refine ic 1 b.o ?_;refine ic 2 b.o ?_;refine ic 3 b.o ?_;refine ic 4 b.o ?_;refine wpAnyH_all (rs:=[5]) qk qs ?_;intro i hi;rw[qak]at hi;subst hi;refine gY (f:=129) (args:= #[qP Y,qB d]) rfl rfl qk (GL aj.o d) ?_;rintro ee w2⟨rfl,rfl⟩;refine .inl ⟨_,rfl,b.o,?_⟩;refine wpAnyH_all (rs:=[6]) qk qs ?_;intro i hi;rw[qak]at hi;subst hi;refine gY (f:=67) (args:= #[.agg #[qI h,qJ j],qJ (mO m d:Nat)]) rfl rfl qk (lG _ aa ae af) ?_;rintro ee w2⟨rfl,rfl⟩;refine .inl ⟨_,rfl,?_,?_⟩
   .obtain⟨q0,q1,q2⟩:=b.o;exact⟨(qat _ _ _ Z).trans q0,(qat _ _ _ Z).trans q1,(qat _ _ _ Z).trans q2⟩
   refine wpAnyH_done qk ?_ _;dsimp only[Act.put,qy,qz,qw];go_wp2;go_roundw
   case rel=>exact⟨i+1,qo,by go_num,(n.trans N).drew.alloc _,l.o⟩
   simp[intOf];omega
  have l:qh (dV (fM m) (List.range m.dw.length)=.error (3,j)):=C.o _ (by rw[R];simp[gV,aa]);have ao:(mO m d:Int)<=h:=qo;clear C M E D H r O R;go_wp2_with fail
  refine wp_region_held_drew (S:=λw':qW=>w'.cell? (qA a.heap.size 2)=some (qB d)/\w'.cell? (qA a.heap.size 3)=some (qI h)/\w'.cell? (qA a.heap.size 4)=some (qJ j)) qk b.o (λ_=>?_);refine ic 0 b.o ?_;refine ic 1 b.o ?_;refine ic 2 b.o ?_;refine ic 3 b.o ?_;refine ic 4 b.o ?_;refine wpAnyH_all (rs:=[5]) qk qs ?_;intro i hi;rw[qak]at hi;subst hi;refine gY (f:=129) (args:= #[qP Y,qB d]) rfl rfl qk (GL aj.o d) ?_;rintro ee w2⟨rfl,rfl⟩;refine .inl ⟨_,rfl,b.o,?_⟩;refine wpAnyH_all (rs:=[6]) qk qs ?_;intro i hi;rw[qak]at hi;subst hi;refine kU (f:=67) (args:= #[.agg #[qI h,qJ j],qJ (mO m d:Nat)]) rfl rfl qk (jY _ ao ae af) ?_;rintro e w2⟨rfl,rfl⟩;refine⟨_,rfl,?_⟩;exact⟨rfl,Says.dG l.o ((n.trans N).drew.alloc _)⟩
 have l:=qH (r.o.trans (o9 (by simpa using u)));clear r;go_wp2;go_end0;exact Says.dN l.o n rfl
end
theorem lV{P:Program}{b:Array Oper}{Q:Exit->Act->qW->Prop}{i:Nat}{K:Act->qW->Prop}{a:Act}{w:qW}{o:Oper}(ho:b[i]?=some o)(c:o.guard=none)(h:o.wp P a w K Q):wpOp P b Q i K a w:=by
 have hw:Region.wanted o (yielded b a.tmps)=true:=by simp[Region.wanted,c]
 unfold wpOp;rw[ho];simp only[hw,qda];exact .inl h
section
variable {K:qD}{w:qW}{Y:Nat}{s:qS}{m:dX}
theorem ED{a:Int}{b:Nat}(h:¬a<(m.funcs.length:Int)):ig m (a,b)=.error (3,b):=by
 simp[ig,fE,h]
theorem F7{f a:Nat}(h:f<m.funcs.length):ig m ((f:Int),a)=if(dM m f).ins.length=0/\(dM m f).outs.length=0 then .ok () else .error (4,a):=by
 simp[ig,fE,h]
theorem BK(hm:MV s K w Y m)(hl:m.starts.length<=50)(hx:∀x∈m.starts,0<=x.1/\x.1<=4294967295)(ab:∀x∈m.funcs,0<=x.1/\x.1<(m.dx.length:Int)):
  qC 71 #[qP Y] w (Looks w (dV (ig m) m.starts)):=by
 have ac:=hm.lt;have ak:=qH hm;obtain⟨hK,fl,M,D⟩:=hm;obtain⟨F,G⟩:=M.twelve.2.1;obtain⟨F1,G1⟩:=M.twelve.1.2.1;obtain⟨p,c,hf⟩:=Row.shape D.h6;obtain⟨N,c1,ad⟩:=Row.shape D.U;have hr:=D.h6;rw[hf]at F hr;rw[ad]at F1;have HX:=qH hx;have al:=qH ab;clear D M hf ad hx ab hK G G1;have H0:qh (dV (ig m) m.starts=dV (ig m) (m.starts.drop 0)):=by show _=_;simp
 go_enter func71,ntmps71;go_wp2;go_loopw [10] (λq wr=>∃k:Nat,k<=m.starts.length/\q=qJ k/\qK w wr/\dV (ig m) m.starts=dV (ig m) (m.starts.drop k)) (λq _=>m.starts.length - (intOf q).toNat)
 case atStart=>exact⟨0,qZ,rfl,Kept.refl _ _,H0.o⟩
 obtain⟨k,X,rfl,hkp,ae⟩:=hrel;have HE:=qH ae;clear ae H0;by_cases hlt:k<m.starts.length
 .have hlt':(k:Int)<(m.starts.length:Int):=qo;have af:isRow 93 2 numCells K m.starts wr (qX p m.starts c):=Row.kept hr hkp (λ_ _ _ hc=>hc);obtain⟨g,A,hv,-,ar,au,O⟩:=Row.cells af qo;cases hv;have hy:m.starts[k]?=some m.starts[k]:=qab hlt;have HB:=qH (λe=>kZ (f:=ig m) (e:=e) hlt);have HO:=qH (mX (f:=ig m) hlt);have d0:wr.cell? ⟨g,k*2,none⟩=some (qI m.starts[k].1):=(O (k*2) qo).trans (flat_get (m:=2) (o:=0) (λ_=>rfl) hy qo);have d1:wr.cell? ⟨g,k*2+1,none⟩=some (qJ (m.starts[k].2:Nat)):=(O (k*2+1) qo).trans (flat_get (m:=2) (o:=1) (λ_=>rfl) hy qo);have ag:=HX.o _ (qaw hlt);have am:=(hkp.cell (p:=(qA Y 1)) ac (λc=>c)).trans F1;have E:Y<wr.heap.size:=qad ac hkp.size;clear O af hy;generalize m.starts[k]=x at*;obtain⟨j,xp⟩:=x;simp only at d0 d1 ag HB HO;obtain⟨H,I⟩:=ag;have Ut:qK w (wr.alloc (.cells #[qI j,qJ xp] 93)):=hkp.alloc _;have aw:Y<wr.heap.size+1:=qo;have ax:Y<wr.heap.size+1+1:=qo;have ay:=hkp.size;have J:qK wr (wr.alloc (.cells #[qI j,qJ xp] 93)):=qr.alloc _;have B:wr.heap.size<(wr.alloc (.cells #[qI j,qJ xp] 93)).heap.size:=qs;have n:qh (∀w',qK (wr.alloc (.cells #[qI j,qJ xp] 93)) w'->(λw':qW=>w'.cell? (qA wr.heap.size 0)=some (qI j)/\w'.cell? (qA wr.heap.size 1)=some (qJ xp)/\w'.cell? (qA Y 1)=some (qX N m.funcs c1)) w'):=λw' X=>⟨(X.cell (p:=(qA wr.heap.size 0)) B (λc=>c)).trans qs,(X.cell (p:=(qA wr.heap.size 1)) B (λc=>c)).trans qs,((J.trans X).cell (p:=(qA Y 1)) E (λc=>c)).trans am⟩;have a:=qH (n.o _ (qr.drew));by_cases Q:j<(m.funcs.length:Int)
  .obtain⟨f,rfl⟩:∃f:Nat,j=(f:Int):=⟨j.toNat,qo⟩;have R:f<m.funcs.length:=qo;have an:=qH (al.o _ (qaw R));have Sg:qh (∀W,qK (wr.alloc (.cells #[qI (f:Int),qJ xp] 93)) W->qC 130 #[qP Y,qJ f] W λe w'=>qK W w'/\∃t u y z,e=.returned (.agg #[.slice t (dM m f).ins.length u,.slice y (dM m f).outs.length z])):=λW X=>by
    refine(vS f (ak.o.kept (Ut.trans X) (λ_ _ _ c=>c)) R an.o).mono ?_;rintro e w'⟨ao,v,rfl,vi,vo,rfl,k1,r⟩;obtain⟨t,u,rfl⟩:=Row.shape k1;obtain⟨y,z,rfl⟩:=Row.shape r;exact⟨ao,t,u,y,z,rfl⟩
   have O3:qh (ig m ((f:Int),xp)=if(dM m f).ins.length=0/\(dM m f).outs.length=0 then .ok () else .error (4,xp)):=F7 R;generalize (dM m f).ins.length=T at*;generalize (dM m f).outs.length=V at*;go_wp2_with fail
   refine wp_region_held_drew (S:=λw':qW=>w'.cell? (qA wr.heap.size 0)=some (qI (f:Int))/\w'.cell? (qA wr.heap.size 1)=some (qJ xp)/\w'.cell? (qA Y 1)=some (qX N m.funcs c1)) qk a.o (λ_=>?_);refine ic 0 a.o ?_;refine ic 1 a.o ?_;refine ic 2 a.o ?_;refine ic 3 a.o ?_;refine ic 4 a.o ?_;refine ic 5 a.o ?_;refine ic 6 a.o ?_;refine wpAnyH_all (rs:=[7,9]) qk qs ?_;intro i hi;have C:i=7\/i=9:=by simpa using hi
   clear hi;obtain rfl | rfl:=C
   .refine gY (f:=67) (args:= #[.agg #[qI (f:Int),qJ xp],qJ m.funcs.length]) rfl rfl qk (lG _ Q H I) ?_;rintro L Z⟨rfl,rfl⟩;have r:qK (wr.alloc (.cells #[qI (f:Int),qJ xp] 93)) (((wr.alloc (.cells #[qI (f:Int),qJ xp] 93)).drew).alloc (.cells #[qI (f:Int),qJ xp] 93)):=(qr.drew).alloc _;refine .inl ⟨_,rfl,n.o _ r,?_⟩;refine wpAnyH_all (rs:=[8,9]) qk qs ?_;intro i hi;have C:i=8\/i=9:=by simpa using hi
    clear hi;obtain rfl | rfl:=C
    .refine gY (f:=130) (args:= #[qP Y,qJ f]) rfl rfl qk (Sg.o _ r) ?_;rintro L l⟨d,t,u,y,z,rfl⟩;have k3:=r.trans d;have ah:=qad B k3.size;have ai:=qad (qad E J.size) k3.size;obtain⟨q0,q1,q2⟩:=n.o _ k3;refine .inl ⟨_,rfl,n.o _ k3,?_⟩;refine wpAnyH_all (rs:=[9]) qk qs ?_;intro i hi;rw[qak]at hi;subst hi;refine lV rfl rfl ?_;go_wp2;refine wpAnyH_all (rs:=[10]) qk qs ?_;intro i hi;rw[qak]at hi;subst hi;refine lV rfl rfl ?_;go_wp2;refine wpAnyH_done qk ?_ _;cases T with
     | zero=>
      cases V with
      | zero=>
       have HN:=qH (HE.o.trans (HO.o (by rw[O3.o,qac ⟨rfl,rfl⟩])));clear HB HO HE O3 Sg;go_wp2;go_roundw
       case rel=>exact⟨k+1,qo,by go_num,(Ut.trans k3).alloc _,HN.o⟩
       simp[intOf];omega
      | succ b=>exact Xg
     | succ b=>exact Xg
    refine lV rfl rfl ?_;go_wp2;refine wpAnyH_all (rs:=[8]) qk qs ?_;intro i hi;rw[qak]at hi;subst hi;refine gY (f:=130) (args:= #[qP Y,qJ f]) rfl rfl qk (Sg.o _ (((qr.alloc _).alloc _).drew)) ?_;rintro L l⟨d,t,u,y,z,rfl⟩;have kA:qK (wr.alloc (.cells #[qI (f:Int),qJ xp] 93)) l:=(((qr.alloc _).alloc _).drew).trans d;have ah:=qad B kA.size;have ai:=qad (qad E J.size) kA.size;obtain⟨q0,q1,q2⟩:=n.o _ kA;have aa:=d.size;simp at aa;have T0:l.cell? ⟨wr.heap.size+1+1,0,none⟩=some (qN):=(d.cell (p:=⟨wr.heap.size+1+1,0,none⟩) qs (λc=>c)).trans (by simp[go_sem]);have T1:l.cell? ⟨wr.heap.size+1+1,1,none⟩=some (qN):=(d.cell (p:=⟨wr.heap.size+1+1,1,none⟩) qs (λc=>c)).trans (by simp[go_sem]);have U0:l.frozen? ⟨wr.heap.size+1+1,0,none⟩=false:=(d.frozen (p:=⟨wr.heap.size+1+1,0,none⟩) qs (λc=>c)).trans (by simp[go_sem]);have U1:l.frozen? ⟨wr.heap.size+1+1,1,none⟩=false:=(d.frozen (p:=⟨wr.heap.size+1+1,1,none⟩) qs (λc=>c)).trans (by simp[go_sem]);have ap:¬wr.heap.size+1+1=wr.heap.size:=qo;have aq:¬wr.heap.size+1+1=Y:=qo;refine .inl ⟨_,rfl,n.o _ kA,?_⟩;refine wpAnyH_all (rs:=[10]) qk qs ?_;intro i hi;rw[qak]at hi;subst hi;refine lV rfl rfl ?_;go_wp2;refine wpAnyH_done qk ?_ _;cases T with
    | zero=>
     cases V with
     | zero=>
      have HN:=qH (HE.o.trans (HO.o (by rw[O3.o,qac ⟨rfl,rfl⟩])));clear HB HO HE O3 Sg;go_wp2;go_roundw
      case rel=>exact⟨k+1,qo,by go_num,((Ut.trans kA).setCell (p:=⟨wr.heap.size+1+1,0,none⟩) (λh=>absurd h qt) _).setCell (p:=⟨wr.heap.size+1+1,1,none⟩) (λh=>absurd h qt) _,HN.o⟩
      simp[intOf];omega
     | succ b=>exact Xk
    | succ b=>exact Xk
   refine lV rfl rfl ?_;go_wp2;refine wpAnyH_all (rs:=[7]) qk qs ?_;intro i hi;rw[qak]at hi;subst hi;refine gY (f:=67) (args:= #[.agg #[qI (f:Int),qJ xp],qJ m.funcs.length]) rfl rfl qk (lG _ Q H I) ?_;rintro L Z⟨rfl,rfl⟩;have r:qK (wr.alloc (.cells #[qI (f:Int),qJ xp] 93)) ((((wr.alloc (.cells #[qI (f:Int),qJ xp] 93)).alloc (.cells #[qN,qN] 100)).drew).alloc (.cells #[qI (f:Int),qJ xp] 93)):=((qr.alloc _).drew).alloc _;refine .inl ⟨_,rfl,n.o _ r,?_⟩;refine wpAnyH_all (rs:=[8]) qk qs ?_;intro i hi;rw[qak]at hi;subst hi;refine gY (f:=130) (args:= #[qP Y,qJ f]) rfl rfl qk (Sg.o _ r) ?_;rintro L l⟨d,t,u,y,z,rfl⟩;have kA:=r.trans d;have ah:=qad B kA.size;have ai:=qad (qad E J.size) kA.size;obtain⟨q0,q1,q2⟩:=n.o _ kA;have aa:=d.size;simp at aa;have T0:l.cell? ⟨wr.heap.size+1,0,none⟩=some (qN):=(d.cell (p:=⟨wr.heap.size+1,0,none⟩) qs (λc=>c)).trans (by simp[go_sem]);have T1:l.cell? ⟨wr.heap.size+1,1,none⟩=some (qN):=(d.cell (p:=⟨wr.heap.size+1,1,none⟩) qs (λc=>c)).trans (by simp[go_sem]);have U0:l.frozen? ⟨wr.heap.size+1,0,none⟩=false:=(d.frozen (p:=⟨wr.heap.size+1,0,none⟩) qs (λc=>c)).trans (by simp[go_sem]);have U1:l.frozen? ⟨wr.heap.size+1,1,none⟩=false:=(d.frozen (p:=⟨wr.heap.size+1,1,none⟩) qs (λc=>c)).trans (by simp[go_sem]);have ap:¬wr.heap.size+1=wr.heap.size:=qo;have aq:¬wr.heap.size+1=Y:=qo;refine .inl ⟨_,rfl,n.o _ kA,?_⟩;refine wpAnyH_all (rs:=[10]) qk qs ?_;intro i hi;rw[qak]at hi;subst hi;refine lV rfl rfl ?_;go_wp2;refine wpAnyH_done qk ?_ _;cases T with
   | zero=>
    cases V with
    | zero=>
     have HN:=qH (HE.o.trans (HO.o (by rw[O3.o,qac ⟨rfl,rfl⟩])));clear HB HO HE O3 Sg;go_wp2;go_roundw
     case rel=>exact⟨k+1,qo,by go_num,((Ut.trans kA).setCell (p:=⟨wr.heap.size+1,0,none⟩) (λh=>absurd h qt) _).setCell (p:=⟨wr.heap.size+1,1,none⟩) (λh=>absurd h qt) _,HN.o⟩
     simp[intOf];omega
    | succ b=>exact Xj
   | succ b=>exact Xj
  have HN:=qH (HE.o.trans (HB.o _ (ED Q)));have aj:(m.funcs.length:Int)<=j:=qo;clear HB HO HE;go_wp2_with fail
  refine wp_region_held_drew (S:=λw':qW=>w'.cell? (qA wr.heap.size 0)=some (qI j)/\w'.cell? (qA wr.heap.size 1)=some (qJ xp)/\w'.cell? (qA Y 1)=some (qX N m.funcs c1)) qk a.o (λ_=>?_);refine ic 0 a.o ?_;refine ic 1 a.o ?_;refine ic 2 a.o ?_;refine ic 3 a.o ?_;refine ic 4 a.o ?_;refine ic 5 a.o ?_;refine ic 6 a.o ?_;refine wpAnyH_all (rs:=[7,9]) qk qs ?_;intro i hi;have C:i=7\/i=9:=by simpa using hi
  clear hi;obtain rfl | rfl:=C
  .refine kU (f:=67) (args:= #[.agg #[qI j,qJ xp],qJ m.funcs.length]) rfl rfl qk (jY _ aj H I) ?_;rintro e Z⟨rfl,rfl⟩;refine⟨_,rfl,?_⟩;exact⟨rfl,Says.dG HN.o (Ut.drew.alloc _)⟩
  refine lV rfl rfl ?_;go_wp2;refine wpAnyH_all (rs:=[7]) qk qs ?_;intro i hi;rw[qak]at hi;subst hi;refine kU (f:=67) (args:= #[.agg #[qI j,qJ xp],qJ m.funcs.length]) rfl rfl qk (jY _ aj H I) ?_;rintro e Z⟨rfl,rfl⟩;refine⟨_,rfl,?_⟩;exact⟨rfl,Says.dG HN.o ((((hkp.alloc _).alloc _).drew).alloc _)⟩
 exact RV
theorem Kj{ts:List Cm}{v:qv}(h:gI 125 5 kS K ts w v){k:Nat}(X:k<ts.length):
  ∃g A d,v=qL g ts.length A/\g<w.heap.size/\ts.length<=A/\isRow 93 2 numCells K ts[k].funcs w d/\w.cell? ⟨g,k*5,none⟩=some (qJ (ts[k].at_:Nat))/\w.cell? ⟨g,k*5+1,none⟩=some (qJ (ts[k].place.at_:Nat))/\
   w.cell? ⟨g,k*5+2,none⟩=some (qB (ts[k].place.kind:Nat))/\w.cell? ⟨g,k*5+3,none⟩=some (qJ ts[k].place.val)/\w.cell? ⟨g,k*5+4,none⟩=some d:=by
 obtain⟨css,e,a⟩:=h;obtain⟨g,A,hv,-,f,hc,b⟩:=Row.cells e qo;have hy:ts[k]?=some ts[k]:=qab X;obtain⟨cs,c,⟨⟨d,rfl,U⟩,-⟩⟩:=a.get hy;exact⟨g,A,d,hv,f,hc,U,(b (k*5) qo).trans (Each.flat (o:=0) a c qo),(b (k*5+1) qo).trans (Each.flat (o:=1) a c qo),(b (k*5+2) qo).trans (Each.flat (o:=2) a c qo),(b (k*5+3) qo).trans (Each.flat (o:=3) a c qo),(b (k*5+4) qo).trans (Each.flat (o:=4) a c qo)⟩
theorem Ff{e:Cm}(h:m.tables.length=0):jd m e=.error (3,e.at_):=by simp[jd,h]
theorem Ik{e:Cm}{q:Err}(h:¬m.tables.length=0)(hc:jc 127 e.place=.error q):jd m e=.error q:=by simp[jd,h,hc]
theorem Fg{e:Cm}{u:Unit}(h:¬m.tables.length=0)(hc:jc 127 e.place=.ok u):jd m e=dV (gV m.funcs.length) e.funcs:=by simp[jd,h,hc]
theorem xW{N:Nat}(hm:MV s K w Y m)(hl:m.elems.length<=50)(hx:∀x∈m.elems,Ii N x):
  qC 72 #[qP Y] w (Looks w (dV (jd m) m.elems)):=by
 have R:=hm.lt;obtain⟨T,c1,p2,c2,-,-,-,-,F1,F2,-,-⟩:=hm.four;obtain⟨hK,fl,hM,hH⟩:=hm;obtain⟨F,-⟩:=hM.twelve.2.2.1;have C:=hH.h7;obtain⟨p,c,hf⟩:∃p c,fl.v7=qX p m.elems c:=by
  obtain⟨css,h,-⟩:=C;exact Row.shape h
 rw[hf]at F C;have HR:=qH C;have HX:=qH hx;clear hH hM hf hx hK C;have H0:qh (dV (jd m) m.elems=dV (jd m) (m.elems.drop 0)):=by show _=_;simp
 go_enter func72,ntmps72;go_wp2;go_loopw [11] (λq l=>∃k:Nat,k<=m.elems.length/\q=qJ k/\qK w l/\dV (jd m) m.elems=dV (jd m) (m.elems.drop k)) (λq _=>m.elems.length - (intOf q).toNat)
 case atStart=>exact⟨0,qZ,rfl,Kept.refl _ _,H0.o⟩
 obtain⟨k,X,rfl,hkp,ad⟩:=hrel;obtain⟨l,aq⟩:∃x,x=wr:=⟨wr,rfl⟩;subst aq;have HE:=qH ad;clear ad H0;by_cases hlt:k<m.elems.length
 .have hlt':(k:Int)<(m.elems.length:Int):=qo;obtain⟨g,A,lv,hv,aF,aG,U,d0,d1,d2,d3,d4⟩:=Kj (HR.o.kept hkp (λ_ _ _ c=>c) (λ_ _ e=>e.kept hkp (λ_ _ _ c=>c))) hlt;cases hv;obtain⟨D,cf,rfl⟩:=Row.shape U;have n:=qH (λe=>kZ (f:=jd m) (e:=e) hlt);have E:=qH (mX (f:=jd m) hlt);have G:=HX.o _ (qaw hlt);have ar:=(hkp.cell (p:=(qA Y 1)) R (λc=>c)).trans F1;have aH:=(hkp.cell (p:=(qA Y 2)) R (λc=>c)).trans F2;have ae:Y<l.heap.size:=qad R hkp.size;have af:=qH U;clear U;generalize m.elems[k]=x at*;obtain⟨V,⟨H,I,J⟩,a⟩:=x;simp only at d0 d1 d2 d3 d4 af;have aI:a.length<=20:=G.2.2.1;have au:qh (∀y∈a,0<=y.1/\y.1<=4294967295):=λy hy=>⟨(G.2.2.2 y hy).1,(G.2.2.2 y hy).2.1⟩;clear G;by_cases t:m.tables.length=0
  .have tz:((m.tables.length:Int)==0)=true:=by rw[t];rfl
   have HN:=qH (HE.o.trans (n.o _ (Ff t)));clear HE E n t;go_wp2_with fail
   refine(iK _ _ _).mono ?_;rintro e w3⟨rfl,rfl⟩;exact⟨rfl,Says.dG HN.o (hkp.alloc _)⟩
  have tz:((m.tables.length:Int)==0)=false:=qe;have HZ:=qH t;clear t;go_wp2_with fail
  refine(mZ _ _ 127 _ _ rfl).mono ?_;rintro e L⟨W,ag,ah⟩;have ai:=(hkp.alloc (.cells #[qJ V,qJ H,qB I,qJ J,qX D a cf] 125)).trans W;have Z:qK l L:=(qr.alloc _).trans W;rcases ho:jc 127 ⟨H,I,J⟩ with⟨q,pp⟩|u
  .obtain rfl:=ah _ _ ho;exact⟨rfl,Says.dG (HE.o.trans (n.o _ (Ik HZ.o ho))) ai⟩
  obtain⟨v,rfl,rfl⟩:=ag u ho;have M:=qH (Fg (e:=⟨V,⟨H,I,J⟩,a⟩) HZ.o ho);have aw:l.heap.size<(l.alloc (.cells #[qJ V,qJ H,qB I,qJ J,qX D a cf] 125)).heap.size:=qs;have V4:L.cell? (qA l.heap.size 4)=some (qX D a cf):=(W.cell (p:=(qA l.heap.size 4)) aw (λc=>c)).trans qs;have H1:qh (dV (gV m.funcs.length) a=dV (gV m.funcs.length) (a.drop 0)):=by show _=_;simp
  clear ag ah ho;go_wp2;go_loopw [30] (λq wr=>∃i:Nat,i<=a.length/\q=qJ i/\qK L wr/\dV (gV m.funcs.length) a=dV (gV m.funcs.length) (a.drop i)) (λq _=>a.length - (intOf q).toNat)
  case atStart=>exact⟨0,qZ,rfl,Kept.refl _ _,H1.o⟩
  obtain⟨i,hi,rfl,z,aj⟩:=hrel;have r:=qH aj;clear aj H1;have ak:=ai.trans z;by_cases B:i<a.length
  .have Yy:(i:Int)<(a.length:Int):=qo;have al:isRow 93 2 numCells K a wr (qX D a cf):=Row.kept af.o (Z.trans z) (λ_ _ _ hc=>hc);obtain⟨g',aJ,ax,-,aK,aL,aa⟩:=Row.cells al qo;cases ax;have ab:a[i]?=some a[i]:=qab B;have O:=qH (λe=>kZ (f:=gV m.funcs.length) (e:=e) B);have Q:=qH (mX (f:=gV m.funcs.length) B);have e0:wr.cell? ⟨g',i*2,none⟩=some (qI a[i].1):=(aa (i*2) qo).trans (flat_get (m:=2) (o:=0) (λ_=>rfl) ab qo);have e1:wr.cell? ⟨g',i*2+1,none⟩=some (qJ (a[i].2:Nat)):=(aa (i*2+1) qo).trans (flat_get (m:=2) (o:=1) (λ_=>rfl) ab qo);have am:=au.o _ (qaw B);have ay:=((Z.trans z).cell (p:=(qA Y 1)) ae (λc=>c)).trans ar;have aA:Y<wr.heap.size:=qad ae (Z.trans z).size;clear aa al ab;generalize a[i]=y at*;obtain⟨d,j⟩:=y;simp only at e0 e1 am O Q;obtain⟨an,ao⟩:=am;have aB:qK w ((wr.alloc (.cells #[qI d,qJ j] 93)).drew):=(ak.alloc _).drew;have aC:qK L ((wr.alloc (.cells #[qI d,qJ j] 93)).drew):=(z.alloc _).drew;have aD:qK wr ((wr.alloc (.cells #[qI d,qJ j] 93)).drew):=(qr.alloc _).drew;have ap:wr.heap.size<((wr.alloc (.cells #[qI d,qJ j] 93)).drew).heap.size:=qs;have HS:qh (∀w',qK ((wr.alloc (.cells #[qI d,qJ j] 93)).drew) w'->(λw':qW=>w'.cell? (qA wr.heap.size 0)=some (qI d)/\w'.cell? (qA wr.heap.size 1)=some (qJ j)/\w'.cell? (qA Y 1)=some (qX T m.funcs c1)) w'):=λw' X=>⟨(X.cell (p:=(qA wr.heap.size 0)) ap (λc=>c)).trans qs,(X.cell (p:=(qA wr.heap.size 1)) ap (λc=>c)).trans qs,((aD.trans X).cell (p:=(qA Y 1)) aA (λc=>c)).trans ay⟩;have b:=qH (HS.o _ qr);by_cases ac:d<(m.funcs.length:Int)
   .have HN:=qH (r.o.trans (Q.o (by simp[gV,ac])));clear O Q r;go_wp2_with fail
    refine wp_region_held_drew (S:=λw':qW=>w'.cell? (qA wr.heap.size 0)=some (qI d)/\w'.cell? (qA wr.heap.size 1)=some (qJ j)/\w'.cell? (qA Y 1)=some (qX T m.funcs c1)) qk b.o (λ_=>?_);refine ic 0 b.o ?_;refine ic 1 b.o ?_;refine ic 2 b.o ?_;refine ic 3 b.o ?_;refine ic 4 b.o ?_;refine ic 5 b.o ?_;refine wpAnyH_all (rs:=[6]) qk qs ?_;intro i hi;rw[qak]at hi;subst hi;refine gY (f:=67) (args:= #[.agg #[qI d,qJ j],qJ m.funcs.length]) rfl rfl qk (lG _ ac an ao) ?_;rintro ee w4⟨rfl,rfl⟩;refine .inl ⟨_,rfl,HS.o _ (qr.alloc _),?_⟩;refine wpAnyH_done qk ?_ _;dsimp only[Act.put,qy,qz,qw];clear b HS;go_wp2;go_roundw
    case rel=>exact⟨i+1,qo,by go_num,aC.alloc _,HN.o⟩
    simp[intOf];omega
   have HN:=qH (HE.o.trans (n.o _ (M.o.trans (r.o.trans (O.o (3,j) (by simp[gV,ac]))))));have aE:(m.funcs.length:Int)<=d:=qo;clear n E O Q r HE M;go_wp2_with fail
   refine wp_region_held_drew (S:=λw':qW=>w'.cell? (qA wr.heap.size 0)=some (qI d)/\w'.cell? (qA wr.heap.size 1)=some (qJ j)/\w'.cell? (qA Y 1)=some (qX T m.funcs c1)) qk b.o (λ_=>?_);refine ic 0 b.o ?_;refine ic 1 b.o ?_;refine ic 2 b.o ?_;refine ic 3 b.o ?_;refine ic 4 b.o ?_;refine ic 5 b.o ?_;refine wpAnyH_all (rs:=[6]) qk qs ?_;intro i hi;rw[qak]at hi;subst hi;refine kU (f:=67) (args:= #[.agg #[qI d,qJ j],qJ m.funcs.length]) rfl rfl qk (jY _ aE an ao) ?_;rintro e w4⟨rfl,rfl⟩;refine⟨_,rfl,?_⟩;exact⟨rfl,Says.dG HN.o (aB.alloc _)⟩
  have HN:=qH (HE.o.trans (E.o (M.o.trans (r.o.trans (o9 B)))));clear n E r HE M;go_wp2;go_roundw
  case rel=>exact⟨k+1,qo,by go_num,ak,HN.o⟩
  simp[intOf];omega
 exact RV
end
theorem Eb{a:Type}{f:a->Except Err Unit}:∀{xs:List a},dV f xs=.ok ()->∀x∈xs,f x=.ok ()
 | [],_,x,hx=>by simp at hx
 | y::ys,h,x,hx=>by
  simp only[dV]at h;rcases hy:f y with e|u
  .rw[hy]at h;cases h
  rw[hy]at h;obtain rfl | hx:=qav.1 hx
  .exact hy
  exact Eb h x hx
section
variable {K:qD}{w:qW}{Y:Nat}{s:qS}{m:dX}
def EJ(s:qS)(m:dX):Except Err Unit:=
 lq (dV (jQ 20) m.tables) <|
 lq (dV (jQ 16) m.fP) <|
 lq (dV (λg=>jc g.kind g.first) m.dI) <|
 lq (dV (fM m) (List.range m.dw.length)) <|
 lq (dV (ig m) m.starts) <|
 lq (dV (jd m) m.elems) <|
 lq (dV (gJ s m) (List.range m.dF.length)) <|
 dV (jB m) m.data
theorem Ea:zC s m=lq (dV (gV m.dx.length) m.funcs) (EJ s m):=rfl
theorem mD{a b:Except Err Unit}{e:Err}(h:a=.error e):lq a b=.error e:=by rw[h];rfl
theorem kF{a b:Except Err Unit}(h:a=.ok ()):lq a b=b:=by rw[h];rfl
theorem MV.Us(h:MV s K w Y m):iF s K w (Y+1) Y m:=by
 have hl:=h.lt;obtain⟨-,f,U,a⟩:=h;exact⟨f,⟨U,hl,qo⟩,a⟩
theorem MV.lists(h:MV s K w Y m):∃d c0 b c1 p2 c2 c c3 e g,w.cell? (qA Y 0)=some (qX d m.dx c0)/\w.cell? (qA Y 1)=some (qX b m.funcs c1)/\w.cell? (qA Y 2)=some (qX p2 m.tables c2)/\w.cell? (qA Y 3)=some (qX c m.fP c3)/\w.cell? (qA Y 8)=some (qX e m.dF g)/\
  isRow 93 2 numCells K m.funcs w (qX b m.funcs c1)/\isRow 87 4 tZ.cells K m.tables w (qX p2 m.tables c2)/\isRow 87 4 tZ.cells K m.fP w (qX c m.fP c3):=by
 obtain⟨-,f,i,a⟩:=h;obtain⟨⟨F0,-⟩,⟨j,-⟩,⟨k,-⟩,⟨l,-⟩,-,-⟩:=i.twelve.1;obtain⟨n,-⟩:=i.twelve.2.2.2.1;obtain⟨A,r,-⟩:=a.h0;obtain⟨B,t,-⟩:=a.h8;obtain⟨d,c0,u⟩:=Row.shape r;obtain⟨b,c1,v⟩:=Row.shape a.U;obtain⟨p2,c2,x⟩:=Row.shape a.L;obtain⟨c,c3,y⟩:=Row.shape a.h3;obtain⟨e,g,z⟩:=Row.shape t;have o:=a.U;have p:=a.L;have q:=a.h3;rw[u]at F0;rw[v]at j o;rw[x]at k p;rw[y]at l q;rw[z]at n;exact⟨d,c0,b,c1,p2,c2,c,c3,e,g,F0,j,k,l,n,o,p,q⟩
theorem Fa(hm:MV s K w Y m)(ho:iX s.size m)(hs:s.size<=5000)(al:je s m)(hc:m.dF.length=m.funcs.length):
  qC 23 #[qP Y] w (Looks w (zC s m)):=by
 have E:=hm.lt;have H:=qH hm;obtain⟨W,c0,p1,c1,p2,c2,p3,c3,p8,c8,F0,F1,F2,F3,F8,hr,r2,r3⟩:=hm.lists;have aD:=qH r2;have aE:=qH r3;have n:=qH ho;have aF:=qH al;have am:=qH hc;have aM:=ho.funcs.1;have aN:m.dF.length<=20:=qo;have HX:qh (∀x∈m.funcs,0<=x.1/\x.1<=4294967295):=λx hx=>⟨(ho.funcs.2 x hx).1,(ho.funcs.2 x hx).2.1⟩;clear hm r2 r3 ho al hc;have J:qh (dV (gV m.dx.length) m.funcs=dV (gV m.dx.length) (m.funcs.drop 0)):=by show _=_;simp
 go_enter func23,ntmps23;go_wp2;go_loopw [10] (λq j=>∃k:Nat,k<=m.funcs.length/\q=qJ k/\qK w j/\dV (gV m.dx.length) m.funcs=dV (gV m.dx.length) (m.funcs.drop k)) (λq _=>m.funcs.length - (intOf q).toNat)
 case atStart=>exact⟨0,qZ,rfl,Kept.refl _ _,J.o⟩
 obtain⟨k,X,rfl,B,L⟩:=hrel;obtain⟨j,aG⟩:∃x,x=wr:=⟨wr,rfl⟩;subst aG;have r:=qH L;clear L J;by_cases M:k<m.funcs.length
 .have hlt':(k:Int)<(m.funcs.length:Int):=qo;have an:isRow 93 2 numCells K m.funcs j (qX p1 m.funcs c1):=Row.kept hr B (λ_ _ _ hc=>hc);obtain⟨g,A,hv,-,aO,aP,Z⟩:=Row.cells an qo;cases hv;have hy:m.funcs[k]?=some m.funcs[k]:=qab M;have F:=qH (λe=>kZ (f:=gV m.dx.length) (e:=e) M);have G:=qH (mX (f:=gV m.dx.length) M);have d0:j.cell? ⟨g,k*2,none⟩=some (qI m.funcs[k].1):=(Z (k*2) qo).trans (flat_get (m:=2) (o:=0) (λ_=>rfl) hy qo);have d1:j.cell? ⟨g,k*2+1,none⟩=some (qJ (m.funcs[k].2:Nat)):=(Z (k*2+1) qo).trans (flat_get (m:=2) (o:=1) (λ_=>rfl) hy qo);have ao:=HX.o _ (qaw M);have aH:=(B.cell (p:=(qA Y 0)) E (λc=>c)).trans F0;have ap:Y<j.heap.size:=qad E B.size;clear Z an hy;generalize m.funcs[k]=x at*;obtain⟨t,y⟩:=x;simp only at d0 d1 ao F G;obtain⟨aq,ar⟩:=ao;have C:qK w ((j.alloc (.cells #[qI t,qJ y] 93)).drew):=(B.alloc _).drew;have aI:qK j ((j.alloc (.cells #[qI t,qJ y] 93)).drew):=(qr.alloc _).drew;have au:j.heap.size<((j.alloc (.cells #[qI t,qJ y] 93)).drew).heap.size:=qs;have HS:qh (∀w',qK ((j.alloc (.cells #[qI t,qJ y] 93)).drew) w'->(λw':qW=>w'.cell? (qA j.heap.size 0)=some (qI t)/\w'.cell? (qA j.heap.size 1)=some (qJ y)/\w'.cell? (qA Y 0)=some (qX W m.dx c0)) w'):=λw' X=>⟨(X.cell (p:=(qA j.heap.size 0)) au (λc=>c)).trans qs,(X.cell (p:=(qA j.heap.size 1)) au (λc=>c)).trans qs,((aI.trans X).cell (p:=(qA Y 0)) ap (λc=>c)).trans aH⟩;have l:=qH (HS.o _ qr);by_cases aa:t<(m.dx.length:Int)
  .have D:=qH (r.o.trans (G.o (by simp[gV,aa])));clear F G r;go_wp2_with fail
   refine wp_region_held_drew (S:=λw':qW=>w'.cell? (qA j.heap.size 0)=some (qI t)/\w'.cell? (qA j.heap.size 1)=some (qJ y)/\w'.cell? (qA Y 0)=some (qX W m.dx c0)) qk l.o (λ_=>?_);refine ic 0 l.o ?_;refine ic 1 l.o ?_;refine ic 2 l.o ?_;refine ic 3 l.o ?_;refine ic 4 l.o ?_;refine ic 5 l.o ?_;refine wpAnyH_all (rs:=[6]) qk qs ?_;intro i hi;rw[qak]at hi;subst hi;refine gY (f:=67) (args:= #[.agg #[qI t,qJ y],qJ m.dx.length]) rfl rfl qk (lG _ aa aq ar) ?_;rintro ee w2⟨rfl,rfl⟩;refine .inl ⟨_,rfl,HS.o _ (qr.alloc _),?_⟩;refine wpAnyH_done qk ?_ _;dsimp only[Act.put,qy,qz,qw];clear l HS;go_wp2;go_roundw
   case rel=>exact⟨k+1,qo,by go_num,C.alloc _,D.o⟩
   simp[intOf];omega
  have D:=qH (Ea.trans (mD (b:=EJ s m) (r.o.trans (F.o (3,y) (by simp[gV,aa])))));have aJ:(m.dx.length:Int)<=t:=qo;clear F G r;go_wp2_with fail
  refine wp_region_held_drew (S:=λw':qW=>w'.cell? (qA j.heap.size 0)=some (qI t)/\w'.cell? (qA j.heap.size 1)=some (qJ y)/\w'.cell? (qA Y 0)=some (qX W m.dx c0)) qk l.o (λ_=>?_);refine ic 0 l.o ?_;refine ic 1 l.o ?_;refine ic 2 l.o ?_;refine ic 3 l.o ?_;refine ic 4 l.o ?_;refine ic 5 l.o ?_;refine wpAnyH_all (rs:=[6]) qk qs ?_;intro i hi;rw[qak]at hi;subst hi;refine kU (f:=67) (args:= #[.agg #[qI t,qJ y],qJ m.dx.length]) rfl rfl qk (jY _ aJ aq ar) ?_;rintro e w2⟨rfl,rfl⟩;refine⟨_,rfl,?_⟩;exact⟨rfl,Says.dG D.o (C.alloc _)⟩
 have D:=r.o.trans (o9 M);have aw:qh (∀x∈m.funcs,0<=x.1/\x.1<(m.dx.length:Int)):=λx hx=>⟨(HX.o x hx).1,by
  have:=Eb D x hx;unfold gV at this;split at this
  .assumption
  cases this⟩
 have ab:=qH (Ea.trans (kF (b:=EJ s m) D));clear r D hr;have aQ:=(B.cell (p:=(qA Y 2)) E (λc=>c)).trans F2;have ap:Y<j.heap.size:=qad E B.size;go_wp2_with fail
 refine(tV 20 (Row.kept aD.o B (λ_ _ _ c=>c)) (by have:=n.o.tables.1;omega)).mono ?_;rintro e w1⟨ax,d,h⟩;have C:=B.trans ax;rcases a:dV (jQ 20) m.tables with⟨q,p⟩|u
 .obtain rfl:=h _ _ a;exact⟨rfl,Says.dG (ab.o.trans (mD a)) C⟩
 obtain⟨v,rfl,rfl⟩:=d u a;have ac:=qH (ab.o.trans (kF a));clear d h a ab ax;have aR:=(C.cell (p:=(qA Y 3)) E (λc=>c)).trans F3;have aS:Y<w1.heap.size:=qad E C.size;go_wp2_with fail
 refine(tV 16 (Row.kept aE.o C (λ_ _ _ c=>c)) (by have:=n.o.fP.1;omega)).mono ?_;rintro e w2⟨ad,d,h⟩;have Q:=C.trans ad;rcases a:dV (jQ 16) m.fP with⟨q,p⟩|u
 .obtain rfl:=h _ _ a;exact⟨rfl,Says.dG (ac.o.trans (mD a)) Q⟩
 obtain⟨v,rfl,rfl⟩:=d u a;have ae:=qH (ac.o.trans (kF a));clear d h a ac ad;go_wp2_with fail
 refine(yP (H.o.kept Q (λ_ _ _ c=>c)).Us (by have:=n.o.dI.1;omega)).mono ?_;rintro e w3⟨ay,d,h⟩;have R:=Q.trans ay;rcases a:dV (λg=>jc g.kind g.first) m.dI with⟨q,p⟩|u
 .obtain rfl:=h _ _ a;exact⟨rfl,Says.dG (ae.o.trans (mD a)) R⟩
 obtain⟨v,rfl,rfl⟩:=d u a;have af:=qH (ae.o.trans (kF a));clear d h a ae ay;go_wp2_with fail
 refine(yQ (H.o.kept R (λ_ _ _ c=>c)) (by have:=n.o.dw.1;omega) (λx hx=>⟨(n.o.dw.2 x hx).2.1.1,(n.o.dw.2 x hx).2.1.2.1⟩)).mono ?_;rintro e w4⟨aA,d,h⟩;have T:=R.trans aA;rcases a:dV (fM m) (List.range m.dw.length) with⟨q,p⟩|u
 .obtain rfl:=h _ _ a;exact⟨rfl,Says.dG (af.o.trans (mD a)) T⟩
 obtain⟨v,rfl,rfl⟩:=d u a;have ag:=qH (af.o.trans (kF a));clear d h a af aA;go_wp2_with fail
 refine(BK (H.o.kept T (λ_ _ _ c=>c)) (by have:=n.o.starts.1;omega) (λx hx=>⟨(n.o.starts.2 x hx).1,(n.o.starts.2 x hx).2.1⟩) aw.o).mono ?_;rintro e w5⟨aB,d,h⟩;have U:=T.trans aB;rcases a:dV (ig m) m.starts with⟨q,p⟩|u
 .obtain rfl:=h _ _ a;exact⟨rfl,Says.dG (ag.o.trans (mD a)) U⟩
 obtain⟨v,rfl,rfl⟩:=d u a;have ah:=qH (ag.o.trans (kF a));clear d h a ag aB;go_wp2_with fail
 refine(xW (H.o.kept U (λ_ _ _ c=>c)) (by have:=n.o.elems.1;omega) (λx hx=>n.o.elems.2 x hx)).mono ?_;rintro e w6⟨aC,d,h⟩;have N:=U.trans aC;rcases a:dV (jd m) m.elems with⟨q,p⟩|u
 .obtain rfl:=h _ _ a;exact⟨rfl,Says.dG (ah.o.trans (mD a)) N⟩
 obtain⟨v,rfl,rfl⟩:=d u a;have ai:=qH (ah.o.trans (kF a));clear d h a ah aC;have aK:=(N.cell (p:=(qA Y 8)) E (λc=>c)).trans F8;have aT:Y<w6.heap.size:=qad E N.size;have J:qh (dV (gJ s m) (List.range m.dF.length)=dV (gJ s m) ((List.range m.dF.length).drop 0)):=by show _=_;simp
 go_wp2;go_loopw [45] (λq wr=>∃k:Nat,k<=m.dF.length/\q=qJ k/\qK w wr/\dV (gJ s m) (List.range m.dF.length)=dV (gJ s m) ((List.range m.dF.length).drop k)) (λq _=>m.dF.length - (intOf q).toNat)
 case atStart=>exact⟨0,qZ,rfl,N,J.o⟩
 obtain⟨z,ad,rfl,I,L⟩:=hrel;have r:=qH L;clear L J aK N U T R Q C B;by_cases V:z<m.dF.length
 .have Wj:(z:Int)<(m.dF.length:Int):=qo;have aj:(List.range m.dF.length)[z]'(by simpa using V)=z:=qs;have F:qh (∀e,gJ s m z=.error e->dV (gJ s m) (List.range m.dF.length)=.error e):=λe he=>r.o.trans (kZ (by simpa using V) (by rw[aj];exact he));have G:qh (gJ s m z=.ok ()->dV (gJ s m) (List.range m.dF.length)=dV (gJ s m) ((List.range m.dF.length).drop (z+1))):=λhe=>r.o.trans (mX (by simpa using V) (by rw[aj];exact he));clear aj r;go_wp2_with fail
  refine(Dj (f:=z) (H.o.kept I (λ_ _ _ c=>c)) n.o hs aF.o aw.o (by have:=am.o;omega) am.o).mono ?_;rintro e w7⟨O,d,h⟩;have P:=I.trans O;rcases a:gJ s m z with⟨q,p⟩|u
  .obtain rfl:=h _ _ a;exact⟨rfl,Says.dG (ai.o.trans (mD (F.o _ a))) P⟩
  obtain⟨v,rfl,rfl⟩:=d u a;have D:=qH (G.o a);clear d h a G F O I;go_wp2;go_roundw
  case rel=>exact⟨z+1,qo,by go_num,P,D.o⟩
  simp[intOf];omega
 have ak:=qH (ai.o.trans (kF (r.o.trans (o9 (by simpa using V)))));clear r ai;go_wp2_with fail
 refine(Di (H.o.kept I (λ_ _ _ c=>c)).Us (by have:=n.o.data.1;omega)).mono ?_;rintro e w7⟨O,d,h⟩;have P:=I.trans O;rcases a:dV (jB m) m.data with⟨q,p⟩|u
 .obtain rfl:=h _ _ a;exact⟨rfl,Says.dG (ak.o.trans a) P⟩
 obtain⟨v,rfl,rfl⟩:=d u a;have aL:=qH (ak.o.trans a);clear d h a ak O I;go_wp2;go_end0;exact Says.dN aL.o P rfl
end
theorem y9{F:Nat}{A:Array qv}{w:qW}{V:qW->Prop}{r:Except Err Unit}(B:Enters F)
  (i:∀W,qK w W->w.heap.size+1<W.heap.size->jf W w.heap.size [qJ 0]->jf W (w.heap.size+1) [qJ 0]->qC F A W λe a=>(jf a w.heap.size [qJ 0]/\jf a (w.heap.size+1) [qJ 0])/\V a/\(∀x,r=.ok x->qU e)/\∀q p,r=.error (q,p)->e=fo q p)
  (j:∀W a,V W->Kept (λk=>k=w.heap.size\/k=w.heap.size+1) W a->V a):
  qC 12 #[.func (.func F) #[] A] w λe w'=>V w'/\(∀x,r=.ok x->e=.returned (.tuple #[qJ 0,qJ 0]))/\∀q p:Nat,r=.error (q,p)->e=.returned (.tuple #[qJ q,qJ p]):=by
 have O:∀(fn:Fn)(first A:Array qv)(w:qW),(Instr.makeFunc fn first A).run prog w=.ok (.func fn first A) w:=λ_ _ _ _=>rfl;have P:∀(args:Array qv)(w:qW),(callFunc F args).run prog w=.ok (.enter F args) w:=B;have C:∀D E,qK w ((w.alloc D).alloc E):=λ_ _=>(qr.alloc _).alloc _;have l:=jf.new w #[qJ 0] 25;have c:=jf.new (w.alloc (.cells #[qJ 0] 25)) #[qJ 0] 3;have m:=l.alloc qs (.cells #[qJ 0] 3);rw[qbn]at c;have G:=qH (i _ (C (.cells #[qJ 0] 25) (.cells #[qJ 0] 3)) qs m c);have n:=qH j;clear i j l m c;go_enter_defers func12,ntmps12
 go_wp2_with fail
 refine G.o.mono ?_;rintro e W⟨⟨t,u⟩,hv,v,y⟩;rcases b:r with⟨q,p⟩|x
 .obtain rfl:=y q p b;refine leaves_cons (f:=24) (args:= #[qP w.heap.size,.pointer (some ⟨w.heap.size+1,0,none⟩)]) qs (by simp[go_sem]) ?_;refine(zf w.heap.size (w.heap.size+1) q p [] W _ _ t u qo).mono ?_;rintro e H z⟨rfl,rfl,c1,c2,d⟩;have g:V z:=n.o _ _ hv d;simp[Leaves,settle,results,results12,go_sem,c1,c2];exact⟨g,λx h=>by(rw[b]at h;cases h),λI J h=>by rw[b]at h;cases h;exact⟨rfl,rfl⟩⟩
 obtain rfl:=v x b;obtain⟨K,Q⟩:=t.GH;obtain⟨L,R⟩:=u.GH;have M:=qH b;have N:=qH hv;clear b v y hv;go_wp2;refine leaves_cons (f:=24) (args:= #[qP w.heap.size,.pointer (some ⟨w.heap.size+1,0,none⟩)]) qs (by simp[go_sem]) ?_;refine(catch_idle ⟨w.heap.size,0,none⟩ ⟨w.heap.size+1,0,none⟩ _).mono ?_;rintro e H z⟨rfl,rfl,rfl⟩;have d:Kept (λk=>k=w.heap.size\/k=w.heap.size+1) W ((W.setCell (qA w.heap.size 0) (qJ 0)).setCell ⟨w.heap.size+1,0,none⟩ (qJ 0)):=((Kept.refl _ W).setCell (p:=(qA w.heap.size 0)) (λ_=>.inl rfl) _).setCell (p:=⟨w.heap.size+1,0,none⟩) (λ_=>.inr rfl) _;have g:=n.o _ _ N.o d;simp[Leaves,settle,results,results12,go_sem,K,L];exact⟨g,λI J h=>by(rw[M.o]at h;cases h)⟩
theorem nA.mono{s:qS}{K K':qD}{w:qW}{f:Fields}{m:dX}(H:nA s K w f m)(hm:∀g,g<w.heap.size->K g->K' g):nA s K' w f m:=by
 refine⟨H.h0.mono hm ?_,Row.mono H.U hm,Row.mono H.L hm,Row.mono H.h3 hm,Row.mono H.h4 hm,Row.mono H.h5 hm,Row.mono H.h6 hm,H.h7.mono hm ?_,H.h8.mono hm ?_,Row.mono H.h9 hm,Row.mono H.h10 hm,H.h11.mono hm ?_,H.wC,H.wB,H.o6⟩
 .rintro x cs⟨a,b,e,c,d⟩;exact⟨a,b,e,Row.mono c hm,Row.mono d hm⟩
 .exact TU
 .rintro x cs⟨a,b,e,c,d⟩;exact⟨a,b,e,Row.mono c hm,d.mono hm⟩
 exact TU
def Fits(s:qS)(m:dX):Prop:=(∃j,kH s=.ok (m,j))/\zC s m=.ok ()
def fitAll(s:qS):Except Err Unit:=match kH s with
 | .error e=>.error e
 | .ok (m,_)=>zC s m
section
variable {w:qW}{s:qS}
theorem CY{bx mx:Nat}{o:qO}(hb:w.cell? (qA bx 0)=some (.string s))(hm:jf w mx [.pointer o])(E:s.size<=5000):
  qC 21 #[qP bx,qP mx] w λe w'=>Kept (only mx) w w'/\((∃o,w'.cell? (qA mx 0)=some (.pointer o))/\∀x,fitAll s=.ok x->∃a m,w'.cell? (qA mx 0)=some (qP a)/\Fits s m/\MV s (λk=>w.heap.size<=k) w' a m)/\(∀x,fitAll s=.ok x->qU e)/\∀q p,fitAll s=.error (q,p)->e=fo q p:=by
 have z:=hm.lt;obtain⟨F,Q⟩:=hm.GH;go_enter func21,ntmps21;go_wp2_with fail
 refine(PM s _ E).mono ?_;rintro e r⟨l,t,y⟩;rcases d:kH s with⟨q,p⟩|⟨m,j⟩
 .obtain rfl:=y _ _ d;have n:fitAll s=.error (q,p):=by unfold fitAll;rw[d]
  exact⟨rfl,l.mono (λ_ _ c=>c.elim),⟨⟨o,(l.cell (p:=(qA mx 0)) z (λc=>c)).trans F⟩,λx h=>by(rw[n]at h;cases h)⟩,λx h=>by(rw[n]at h;cases h),λG H h=>by rw[n]at h;cases h;rfl⟩
 have n:fitAll s=zC s m:=by unfold fitAll;rw[d]
 obtain⟨b,a,B,rfl,U,ae,h3,h4,f,I,J⟩:=t _ _ d;obtain⟨R,T⟩:=xg d;have V:=yV d;have W:=(l.cell (p:=(qA mx 0)) z (λc=>c)).trans F;have C1:=(l.frozen (p:=(qA mx 0)) z (λc=>c)).trans Q;have K:MV s (λk=>w.heap.size<=k) r a m:=⟨U,f,I.blk,J.mono (λg _ X=>qo)⟩;have L:MV s (λk=>w.heap.size<=k) (r.setCell (qA mx 0) (qP a)) a m:=K.kept (S:=only mx) (qr.own _) (λg _ X (e:g=mx)=>qo);have M:=qH L;have A:=qH n;have Y:=qH d;have N:Kept (only mx) w (r.setCell (qA mx 0) (qP a)):=(l.mono (λ_ _ c=>c.elim)).own _;have O:(r.setCell (qA mx 0) (qP a)).cell? (qA mx 0)=some (qP a):=qce _ _ _ W;have Z:mx<(r.setCell (qA mx 0) (qP a)).heap.size:=by simpa using qad z l.size
 have aa:=qH O;have ab:=qH N;clear t y d J I K L l O N n;go_wp2_with fail
 refine(Fa M.o R E V T).mono ?_;rintro e w2⟨C,t,y⟩;have P:Kept (only mx) w w2:=ab.o.trans (C.mono (λ_ _ c=>c.elim));have D:=(C.cell (p:=(qA mx 0)) Z (λc=>c)).trans aa.o;rcases i:zC s m with⟨q,p⟩|u
 .obtain rfl:=y _ _ i;exact⟨rfl,P,⟨⟨_,D⟩,λx h=>by(rw[A.o,i]at h;cases h)⟩,λx h=>by(rw[A.o,i]at h;cases h),λG H h=>by rw[A.o,i]at h;cases h;rfl⟩
 obtain⟨v,rfl,rfl⟩:=t u i;have HQ:=qH (A.o.trans i);have ac:qh (Fits s m):=⟨⟨j,Y.o⟩,i⟩;have ad:=qH (M.o.kept C (λ_ _ _ c=>c));clear t y i;go_wp2;go_end0;exact⟨P,⟨⟨_,D⟩,λ_ _=>⟨a,m,D,ac.o,ad.o⟩⟩,λ_ _=>rfl,λG H h=>by(rw[HQ.o]at h;cases h)⟩
theorem xS:Enters 21:=enters_of func21 qk qk
def nR(s:qS):Except Err Unit:=if 5000<s.size then .error (1,0) else fitAll s
theorem Ht(Y:s.size<=9223372036854775807):
  qC 11 #[.string s] w λe w'=>qK w w'/\(∀x,nR s=.ok x->∃a m,e=.returned (.tuple #[qP a,qJ 0,qJ 0])/\Fits s m/\s.size<=5000/\MV s (λk=>w.heap.size<=k) w' a m)/\∀q p:Nat,nR s=.error (q,p)->∃o,e=.returned (.tuple #[.pointer o,qJ q,qJ p]):=by
 have Z:∀(fn:Fn)(first A:Array qv)(w:qW),(Instr.makeFunc fn first A).run prog w=.ok (.func fn first A) w:=λ_ _ _ _=>rfl;by_cases hl:5000<s.size
 .have J:decide ((5000:Int)<(s.size:Int))=true:=decide_eq_true qo;have b:qh (nR s=.error (1,0)):=by show _=_;unfold nR;rw[qac hl]
  clear hl;go_enter func11,ntmps11;go_wp2;go_ret3
  exact⟨qr.alloc _,λx h=>by(rw[b.o]at h;cases h),λq p h=>by(rw[b.o]at h;cases h;exact⟨none,rfl⟩)⟩
 have J:decide ((5000:Int)<(s.size:Int))=false:=qd;have b:qh (nR s=fitAll s):=by show _=_;unfold nR;rw[qaa hl]
 have E:s.size<=5000:=qo;have F:=qH E;clear hl E;go_enter func11,ntmps11;go_wp2_with fail
 refine(y9 (V:=λW=>qK w W/\w.heap.size+1<W.heap.size/\(∃o,W.cell? ⟨w.heap.size+1,0,none⟩=some (.pointer o))/\∀x,fitAll s=.ok x->∃a m,W.cell? ⟨w.heap.size+1,0,none⟩=some (qP a)/\Fits s m/\MV s (λk=>w.heap.size+4<=k) W a m) (r:=fitAll s) xS ?_ ?_).mono ?_
 .intro W X hsz hb1 hb2;have G:=(jf.new' (w:=w.alloc (.cells #[.string s] 9)) (g:=w.heap.size+1) (c:= #[.pointer none]) (t:=41) qs).kept X qs (λc=>c);simp at hsz;refine(CY (bx:=w.heap.size) (mx:=w.heap.size+1) (s:=s) ?_ G F.o).mono ?_
  .exact(X.cell (p:=(qA w.heap.size 0)) qt (λc=>c)).trans (by simp[go_sem])
  rintro e K⟨U,⟨L,M⟩,N,O⟩;have n:qK w W:=((qr.alloc _).alloc _).trans X;refine⟨⟨hb1.kept U qt (λ(c:_=_)=>by simp at c<;>omega),hb2.kept U qt (λ(c:_=_)=>by simp at c<;>omega)⟩,⟨n.fresh U (λi hi (c:i=_)=>qo),qad G.lt U.size,L,λx hx=>?_⟩,N,O⟩;obtain⟨a,m,v,j,l⟩:=M x hx;obtain⟨H,f,z,B⟩:=l;have z2:W.heap.size<=a:=H;exact⟨a,m,v,j,(show w.heap.size+4<=a by omega),f,z,B.mono (λg _ P=>qo)⟩
 .rintro W K⟨hk0,hl,⟨o,ho⟩,hx⟩ X;have aa:∀k,(k=(w.alloc (.cells #[.string s] 9)).heap.size+1\/k=(w.alloc (.cells #[.string s] 9)).heap.size+1+1)->w.heap.size+2<=k/\k<w.heap.size+4:=λk c=>by simp at c;omega
  refine⟨hk0.fresh X (λi hi c=>by simp at c;omega),qad hl X.size,⟨o,(X.cell (p:=⟨w.heap.size+1,0,none⟩) hl (λc=>by simp at c)).trans ho⟩,λx Q=>?_⟩;obtain⟨a,m,v,j,l⟩:=hx x Q;exact⟨a,m,(X.cell (p:=⟨w.heap.size+1,0,none⟩) hl (λc=>by simp at c)).trans v,j,l.kept X (λk _ ab c=>by simp at c;omega)⟩
 rintro e R⟨⟨n,hl,⟨o,ho⟩,hx⟩,C,D⟩;rcases d:fitAll s with⟨q,p⟩|u
 .obtain rfl:=D q p d;have y:qh (nR s=.error (q,p)):=by show _=_;rw[b.o,d]
  clear C D d b hx;go_wp2;go_ret3
  exact⟨n,λx h=>by(rw[y.o]at h;cases h),λS T h=>by(rw[y.o]at h;cases h;exact⟨o,rfl⟩)⟩
 obtain rfl:=C u d;obtain⟨a,m,v,j,l⟩:=hx u d;have y:qh (nR s=.ok u):=by show _=_;rw[b.o,d]
 have I:qh (Fits s m/\MV s (λk=>w.heap.size<=k) R a m):=⟨j,by obtain⟨H,f,z,B⟩:=l;exact⟨qo,f,z,B.mono (λg _ P=>qo)⟩⟩;clear C D d b hx j l ho;go_wp2;go_ret3
 exact⟨n,λx _=>⟨a,m,rfl,I.o.1,F.o,I.o.2⟩,λS T h=>by(rw[y.o]at h;cases h)⟩
end
end Go.Proofs.YtfkcodlceoghpaaGreatDoor
