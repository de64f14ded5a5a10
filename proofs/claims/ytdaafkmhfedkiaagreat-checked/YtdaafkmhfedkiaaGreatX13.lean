import Derived.Test.YtdaafkmhfedkiaaGreatX11
namespace Go.Proofs.YtdaafkmhfedkiaaGreat
set_option maxHeartbeats 6400000
set_option maxRecDepth 100000
open Go.RowKit Go.Proofs.Tryz
section
variable {K:qD} {w:qW} {Y:Nat} {s:qS} {m:fE}
theorem MV.four(h:MV s K w Y m):∃b c1 c c2 d c3 e c4,w.cell? (qA Y 1)=some (.slice b m.funcs.length c1)/\w.cell? (qA Y 2)=some (.slice c m.tables.length c2)/\w.cell? (qA Y 3)=some (.slice d m.jT.length c3)/\w.cell? (qA Y 4)=some (.slice e m.dB.length c4):=by
 obtain⟨-,f,l,a⟩:=h;obtain⟨-,⟨g,-⟩,⟨i,-⟩,⟨j,-⟩,⟨k,-⟩,-⟩:=l.twelve.1;obtain⟨b,c1,U⟩:=Row.shape a.U;obtain⟨c,c2,L⟩:=Row.shape a.L;obtain⟨d,c3,h3⟩:=Row.shape a.h3;obtain⟨e,c4,h4⟩:=Row.shape a.h4;rw[U] at g;rw[L] at i;rw[h3] at j;rw[h4] at k;exact⟨b,c1,c,c2,d,c3,e,c4,g,i,j,k⟩
theorem QU(b:MV s K w Y m)(x:Nat):
  qC 127 #[qP Y,qB x] w fun e w'=>e=.returned (qJ (uV m x:Nat))/\w'=w:=by
 have g:=b.lt;obtain⟨i,c1,j,c2,k,c3,l,c4,n,o,p,q⟩:=b.four;clear b;by_cases a:x=0
 .have c:((x:Int)==0)=true:=by simp;omega
  have HH:qh (uV m x=m.funcs.length):=by show _=_;simp[uV,a]
  clear a;go_enter func127,ntmps127;exact Ey
 have c:((x:Int)==0)=false:=by simp;omega
 by_cases U:x=1
 .have d:((x:Int)==1)=true:=by simp;omega
  have HH:qh (uV m x=m.tables.length):=by show _=_;simp[uV,U]
  clear a U;go_enter func127,ntmps127;exact Ey
 have d:((x:Int)==1)=false:=by simp;omega
 by_cases L:x=2
 .have f:((x:Int)==2)=true:=by simp;omega
  have HH:qh (uV m x=m.jT.length):=by show _=_;simp[uV,L]
  clear a U L;go_enter func127,ntmps127;exact Ey
 have f:((x:Int)==2)=false:=by simp;omega
 have HH:qh (uV m x=m.dB.length):=by show _=_;simp[uV,a,U,L]
 clear a U L;go_enter func127,ntmps127;exact Ey
theorem afO(x:Nat)(U:m.funcs.length<=20)(L:m.tables.length<=20)(h3:m.jT.length<=20)(h4:m.dB.length<=20):uV m x<=20:=by
 unfold uV;split
 .exact U
 split
 .exact L
 split
 .exact h3
 exact h4
def xJ(m:fE)(k:Nat)(t:qS):Bool:=(m.dw.take k).any (fun e'=>decide (e'.name.data.toList=t.data.toList))
theorem TA{t:qS}{i:Nat}(a:i<m.dw.length):xJ m (i+1) t=(xJ m i t||(m.dw[i].name.toList==t.toList)):=by
 unfold xJ;rw[List.take_succ_eq_append_getElem a,List.any_append];simp only[List.any_cons,List.any_nil,Bool.or_false,ByteArray.toList_eq];congr 1
 rw[Bool.eq_iff_iff];simp
theorem TB{t:qS}{i k:Nat}(a:i<=k)(h:xJ m i t=true):xJ m k t=true:=by
 unfold xJ at*;rw[List.any_eq_true] at*;obtain⟨x,hx,hp⟩:=h;exact⟨x,(List.take_subset_take_left _ a) hx,hp⟩
theorem GR{k:Nat}(X:k<m.dw.length)(h:xJ m k m.dw[k].name=true):gJ m k=.error (6,m.dw[k].nameAt):=by
 unfold gJ;rw[List.getElem?_eq_getElem X];exact if_pos h
theorem Ka{k:Nat}(X:k<m.dw.length)(h:xJ m k m.dw[k].name=false):gJ m k=iT (uV m m.dw[k].Tc) m.dw[k].idx:=by
 unfold gJ;rw[List.getElem?_eq_getElem X];exact if_neg (fun c=>by unfold xJ at h;rw[h] at c;cases c)
theorem FJ(T:MV s K w Y m)(hl:m.dw.length<=50)(hx:∀x∈m.dw,0<=x.idx.1/\x.idx.1<=4294967295):
  qC 87 #[qP Y] w (Looks w (dV (gJ m) (List.range m.dw.length))):=by
 have ac:=T.lt;have am:=hide T;obtain⟨hK,f,hM,U⟩:=T;obtain⟨F,G⟩:=hM.twelve.1.2.2.2.2.2;obtain⟨p,c,hf⟩:=Row.shape U.h5;have hr:=U.h5;rw[hf] at F hr;have HX:=hide hx;clear U hM hf hx hK;have H0:qh (dV (gJ m) (List.range m.dw.length)=dV (gJ m) ((List.range m.dw.length).drop 0)):=by show _=_;simp
 go_enter func87,ntmps87;go_wp2;go_loopw [11] (fun q a=>∃k:Nat,k<=m.dw.length/\q=qJ k/\qK w a/\dV (gJ m) (List.range m.dw.length)=dV (gJ m) ((List.range m.dw.length).drop k)) (fun q _=>m.dw.length - (intOf q).toNat)
 case atStart=>exact⟨0,qZ,rfl,Kept.refl _ _,H0.o⟩
 obtain⟨k,X,rfl,r,ad⟩:=hrel;obtain⟨a,an⟩:∃x,x=wr:=⟨wr,rfl⟩;subst an;have u:=hide ad;clear ad H0;by_cases v:k<m.dw.length
 .have hlt':(k:Int)<(m.dw.length:Int):=qo;have V:isRow 194 5 Ql.cells K m.dw a (.slice p m.dw.length c):=Row.kept hr r (fun _ _ _ hc=>hc);have O:=hide V;obtain⟨g,A,hv,-,ar,au,B⟩:=Row.cells V qo;cases hv;have hy:m.dw[k]?=some m.dw[k]:=List.getElem?_eq_getElem v;have W:(List.range m.dw.length)[k]'(by simpa using v)=k:=qs;have C:qh (∀e,gJ m k=.error e->dV (gJ m) (List.range m.dw.length)=.error e):=fun e Z=>u.o.trans (rP (by simpa using v) (by rw[W];exact Z));have M:qh (gJ m k=.ok ()->dV (gJ m) (List.range m.dw.length)=dV (gJ m) ((List.range m.dw.length).drop (k+1))):=fun Z=>u.o.trans (uG (by simpa using v) (by rw[W];exact Z));have c0:a.cell? ⟨g,k*5,none⟩=some (qJ (m.dw[k].nameAt:Nat)):=(B (k*5) qo).trans (flat_get (m:=5) (o:=0) (fun _=>rfl) hy qo);have c1:a.cell? ⟨g,k*5+1,none⟩=some (.string m.dw[k].name):=(B (k*5+1) qo).trans (flat_get (m:=5) (o:=1) (fun _=>rfl) hy qo);have c2:a.cell? ⟨g,k*5+2,none⟩=some (qB (m.dw[k].Tc:Nat)):=(B (k*5+2) qo).trans (flat_get (m:=5) (o:=2) (fun _=>rfl) hy qo);have c3:a.cell? ⟨g,k*5+3,none⟩=some (.int .u32 m.dw[k].idx.1):=(B (k*5+3) qo).trans (flat_get (m:=5) (o:=3) (fun _=>rfl) hy qo);have c4:a.cell? ⟨g,k*5+4,none⟩=some (qJ (m.dw[k].idx.2:Nat)):=(B (k*5+4) qo).trans (flat_get (m:=5) (o:=4) (fun _=>rfl) hy qo);have D:=hide (GR v);have E:=hide (Ka v);have ae:=HX.o _ (List.getElem_mem v);have Fr:=(r.cell (p:=(qA Y 5)) ac (fun c=>c)).trans F;have av:Y<a.heap.size:=Nat.lt_of_lt_of_le ac r.size;have aw:(k:Int)<=(c:Int):=qo;have n1:=World.new_ne a _ Fr;clear B V hy W F;generalize m.dw[k]=x at*;obtain⟨P,xn,d,j,l⟩:=x;simp only at c0 c1 c2 c3 c4 E D ae;obtain⟨af,ag⟩:=ae;go_wp2;go_loopw [23] (fun q wr=>∃i:Nat,i<=k/\q=qJ i/\qK (a.alloc (.cells #[qJ P,.string xn,qB d,.int .u32 j,qJ l] 194)) wr/\xJ m i xn=false) (fun q _=>k - (intOf q).toNat)
  case atStart=>exact⟨0,qZ,rfl,Kept.refl _ _,rfl⟩
  obtain⟨i,h,rfl,y,ah⟩:=hrel;have H:=hide ah;clear ah;have I:a.heap.size<(a.alloc (.cells #[qJ P,.string xn,qB d,.int .u32 j,qJ l] 194)).heap.size:=qs;have aa:a.heap.size<wr.heap.size:=Nat.lt_of_lt_of_le I y.size;have V0:wr.cell? (qA a.heap.size 0)=some (qJ P):=(y.cell (p:=(qA a.heap.size 0)) I (fun c=>c)).trans qs;have V1:wr.cell? (qA a.heap.size 1)=some (.string xn):=(y.cell (p:=(qA a.heap.size 1)) I (fun c=>c)).trans qs;have V2:wr.cell? (qA a.heap.size 2)=some (qB d):=(y.cell (p:=(qA a.heap.size 2)) I (fun c=>c)).trans qs;have V3:wr.cell? (qA a.heap.size 3)=some (.int .u32 j):=(y.cell (p:=(qA a.heap.size 3)) I (fun c=>c)).trans qs;have V4:wr.cell? (qA a.heap.size 4)=some (qJ l):=(y.cell (p:=(qA a.heap.size 4)) I (fun c=>c)).trans qs;have N:qK a wr:=(qr.alloc _).trans y;by_cases ax:i<k
  .have hik':(i:Int)<(k:Int):=qo;have ai:i<m.dw.length:=qo;have aj:isRow 194 5 Ql.cells K m.dw wr (.slice (some (qA g 0)) m.dw.length c):=Row.kept O.o N (fun _ _ _ hc=>hc);obtain⟨g',ay,ao,-,az,aA,J⟩:=Row.cells aj qo;cases ao;have L:m.dw[i]?=some m.dw[i]:=List.getElem?_eq_getElem ai;have d0:wr.cell? ⟨g,i*5,none⟩=some (qJ (m.dw[i].nameAt:Nat)):=(J (i*5) qo).trans (flat_get (m:=5) (o:=0) (fun _=>rfl) L qo);have d1:wr.cell? ⟨g,i*5+1,none⟩=some (.string m.dw[i].name):=(J (i*5+1) qo).trans (flat_get (m:=5) (o:=1) (fun _=>rfl) L qo);have d2:wr.cell? ⟨g,i*5+2,none⟩=some (qB (m.dw[i].Tc:Nat)):=(J (i*5+2) qo).trans (flat_get (m:=5) (o:=2) (fun _=>rfl) L qo);have d3:wr.cell? ⟨g,i*5+3,none⟩=some (.int .u32 m.dw[i].idx.1):=(J (i*5+3) qo).trans (flat_get (m:=5) (o:=3) (fun _=>rfl) L qo);have d4:wr.cell? ⟨g,i*5+4,none⟩=some (qJ (m.dw[i].idx.2:Nat)):=(J (i*5+4) qo).trans (flat_get (m:=5) (o:=4) (fun _=>rfl) L qo);have Q:=hide (TA (t:=xn) ai);clear J aj L;generalize m.dw[i]=z at*;cases hz:(z.name.toList==xn.toList) with
   | true=>
    have n:qh (dV (gJ m) (List.range m.dw.length)=.error (6,P)):=C.o _ (D.o (TB (i:=i+1) qo (by rw[Q.o,hz,Bool.or_true])));clear C M E D Q H u O;go_wp2_with fail
    refine(mD _ _ _).mono ?_;rintro e w3 ⟨rfl,rfl⟩;exact⟨rfl,Says.dD n.o ((r.trans N).alloc _)⟩
   | false=>
    have n:qh (xJ m (i+1) xn=false):=by show _=_;rw[Q.o,H.o,hz];rfl
    clear C M E D Q H u;go_wp2;go_roundw
    case rel=>exact⟨i+1,qo,by go_num,y.alloc _,n.o⟩
    simp[intOf];omega
  have ap:i=k:=qo;subst ap;have R:=E.o H.o;have b:qh ((fun w':qW=>w'.cell? (qA a.heap.size 2)=some (qB d)/\w'.cell? (qA a.heap.size 3)=some (.int .u32 j)/\w'.cell? (qA a.heap.size 4)=some (qJ l)) wr.drew):=⟨V2,V3,V4⟩;have ak:=hide (am.o.kept ((r.trans N).drew) (fun _ _ _ c=>c));by_cases ab:j<(uV m d:Int)
  .have n:qh (dV (gJ m) (List.range m.dw.length)=dV (gJ m) ((List.range m.dw.length).drop (i+1))):=M.o (by rw[R];simp[iT,ab]);clear C M E D H u O R;go_wp2_with fail
   refine wp_region_held_drew (S:=fun w':qW=>w'.cell? (qA a.heap.size 2)=some (qB d)/\w'.cell? (qA a.heap.size 3)=some (.int .u32 j)/\w'.cell? (qA a.heap.size 4)=some (qJ l)) qk b.o (fun _=>?_);refine jK 0 b.o ?_;refine jK 1 b.o ?_;refine jK 2 b.o ?_;refine jK 3 b.o ?_;refine jK 4 b.o ?_;refine wpAnyH_all (rs:=[5]) qk qs ?_;intro i h;rw[List.mem_singleton] at h;subst h;refine jH (f:=127) (args:= #[qP Y,qB d]) rfl rfl qk (QU ak.o d) ?_;rintro ee w2 ⟨rfl,rfl⟩;refine .inl ⟨_,rfl,b.o,?_⟩;refine wpAnyH_all (rs:=[6]) qk qs ?_;intro i h;rw[List.mem_singleton] at h;subst h;refine jH (f:=84) (args:= #[.agg #[.int .u32 j,qJ l],qJ (uV m d:Nat)]) rfl rfl qk (su _ ab af ag) ?_;rintro ee w2 ⟨rfl,rfl⟩;refine .inl ⟨_,rfl,?_,?_⟩
   .obtain⟨q0,q1,q2⟩:=b.o;exact⟨(World.cell?_alloc_lt _ _ _ aa).trans q0,(World.cell?_alloc_lt _ _ _ aa).trans q1,(World.cell?_alloc_lt _ _ _ aa).trans q2⟩
   refine wpAnyH_done qk ?_ _;dsimp only[Act.put,qy,qz,qw];go_wp2;go_roundw
   case rel=>exact⟨i+1,qo,by go_num,(r.trans N).drew.alloc _,n.o⟩
   simp[intOf];omega
  have n:qh (dV (gJ m) (List.range m.dw.length)=.error (3,l)):=C.o _ (by rw[R];simp[iT,ab]);have aq:(uV m d:Int)<=j:=qo;clear C M E D H u O R;go_wp2_with fail
  refine wp_region_held_drew (S:=fun w':qW=>w'.cell? (qA a.heap.size 2)=some (qB d)/\w'.cell? (qA a.heap.size 3)=some (.int .u32 j)/\w'.cell? (qA a.heap.size 4)=some (qJ l)) qk b.o (fun _=>?_);refine jK 0 b.o ?_;refine jK 1 b.o ?_;refine jK 2 b.o ?_;refine jK 3 b.o ?_;refine jK 4 b.o ?_;refine wpAnyH_all (rs:=[5]) qk qs ?_;intro i h;rw[List.mem_singleton] at h;subst h;refine jH (f:=127) (args:= #[qP Y,qB d]) rfl rfl qk (QU ak.o d) ?_;rintro ee w2 ⟨rfl,rfl⟩;refine .inl ⟨_,rfl,b.o,?_⟩;refine wpAnyH_all (rs:=[6]) qk qs ?_;intro i h;rw[List.mem_singleton] at h;subst h;refine rH (f:=84) (args:= #[.agg #[.int .u32 j,qJ l],qJ (uV m d:Nat)]) rfl rfl qk (pI _ aq af ag) ?_;rintro e w2 ⟨rfl,rfl⟩;refine⟨_,rfl,?_⟩;exact⟨rfl,Says.dD n.o ((r.trans N).drew.alloc _)⟩
 have n:=hide (u.o.trans (xX (by simpa using v)));clear u;go_wp2;go_end0;exact Says.dW n.o r rfl
end
theorem sW{P:Program}{b:Array Oper}{Q:Exit->Act->qW->Prop}{i:Nat}{K:Act->qW->Prop}{a:Act}{w:qW}{o:Oper}(c:b[i]?=some o)(d:o.guard=none)(h:o.wp P a w K Q):wpOp P b Q i K a w:=by
 have hw:Region.wanted o (yielded b a.tmps)=true:=by simp[Region.wanted,d]
 unfold wpOp;rw[c];simp only[hw,if_true];exact .inl h
section
variable {K:qD} {w:qW} {Y:Nat} {s:qS} {m:fE}
theorem OT{a:Int}{b:Nat}(h:¬a<(m.funcs.length:Int)):jk m (a,b)=.error (3,b):=by
 simp[jk,fT,h]
theorem Qv{f a:Nat}(h:f<m.funcs.length):jk m ((f:Int),a)=if(fM m f).ins.length=0/\(fM m f).outs.length=0 then .ok () else .error (4,a):=by
 simp[jk,fT,h]
theorem Km(N:MV s K w Y m)(hl:m.starts.length<=50)(hx:∀x∈m.starts,0<=x.1/\x.1<=4294967295)(ab:∀x∈m.funcs,0<=x.1/\x.1<(m.dm.length:Int)):
  qC 88 #[qP Y] w (Looks w (dV (jk m) m.starts)):=by
 have ac:=N.lt;have ak:=hide N;obtain⟨hK,fl,O,E⟩:=N;obtain⟨F,G⟩:=O.twelve.2.1;obtain⟨F1,G1⟩:=O.twelve.1.2.1;obtain⟨p,c,hf⟩:=Row.shape E.h6;obtain⟨Q,c1,ad⟩:=Row.shape E.U;have hr:=E.h6;rw[hf] at F hr;rw[ad] at F1;have HX:=hide hx;have am:=hide ab;clear E O hf ad hx ab hK G G1;have H0:qh (dV (jk m) m.starts=dV (jk m) (m.starts.drop 0)):=by show _=_;simp
 go_enter func88,ntmps88;go_wp2;go_loopw [10] (fun q wr=>∃k:Nat,k<=m.starts.length/\q=qJ k/\qK w wr/\dV (jk m) m.starts=dV (jk m) (m.starts.drop k)) (fun q _=>m.starts.length - (intOf q).toNat)
 case atStart=>exact⟨0,qZ,rfl,Kept.refl _ _,H0.o⟩
 obtain⟨k,X,rfl,hkp,ae⟩:=hrel;have HE:=hide ae;clear ae H0;by_cases hlt:k<m.starts.length
 .have hlt':(k:Int)<(m.starts.length:Int):=qo;have af:isRow 152 2 numCells K m.starts wr (.slice p m.starts.length c):=Row.kept hr hkp (fun _ _ _ hc=>hc);obtain⟨g,A,hv,-,au,av,R⟩:=Row.cells af qo;cases hv;have hy:m.starts[k]?=some m.starts[k]:=List.getElem?_eq_getElem hlt;have HB:=hide (fun e=>rP (f:=jk m) (e:=e) hlt);have HO:=hide (uG (f:=jk m) hlt);have d0:wr.cell? ⟨g,k*2,none⟩=some (.int .u32 m.starts[k].1):=(R (k*2) qo).trans (flat_get (m:=2) (o:=0) (fun _=>rfl) hy qo);have d1:wr.cell? ⟨g,k*2+1,none⟩=some (qJ (m.starts[k].2:Nat)):=(R (k*2+1) qo).trans (flat_get (m:=2) (o:=1) (fun _=>rfl) hy qo);have ag:=HX.o _ (List.getElem_mem hlt);have an:=(hkp.cell (p:=(qA Y 1)) ac (fun c=>c)).trans F1;have H:Y<wr.heap.size:=Nat.lt_of_lt_of_le ac hkp.size;clear R af hy;generalize m.starts[k]=x at*;obtain⟨l,xp⟩:=x;simp only at d0 d1 ag HB HO;obtain⟨I,J⟩:=ag;have kp1:qK w (wr.alloc (.cells #[.int .u32 l,qJ xp] 152)):=hkp.alloc _;have aw:Y<wr.heap.size+1:=qo;have ax:Y<wr.heap.size+1+1:=qo;have ay:=hkp.size;have L:qK wr (wr.alloc (.cells #[.int .u32 l,qJ xp] 152)):=qr.alloc _;have C:wr.heap.size<(wr.alloc (.cells #[.int .u32 l,qJ xp] 152)).heap.size:=qs;have r:qh (∀w',qK (wr.alloc (.cells #[.int .u32 l,qJ xp] 152)) w'->(fun w':qW=>w'.cell? (qA wr.heap.size 0)=some (.int .u32 l)/\w'.cell? (qA wr.heap.size 1)=some (qJ xp)/\w'.cell? (qA Y 1)=some (.slice Q m.funcs.length c1)) w'):=fun w' X=>⟨(X.cell (p:=(qA wr.heap.size 0)) C (fun c=>c)).trans qs,(X.cell (p:=(qA wr.heap.size 1)) C (fun c=>c)).trans qs,((L.trans X).cell (p:=(qA Y 1)) H (fun c=>c)).trans an⟩;have d:=hide (r.o _ (qr.drew));by_cases T:l<(m.funcs.length:Int)
  .obtain⟨f,rfl⟩:∃f:Nat,l=(f:Int):=⟨l.toNat,qo⟩;have V:f<m.funcs.length:=qo;have ao:=hide (am.o _ (List.getElem_mem V));have HTY:qh (∀W,qK (wr.alloc (.cells #[.int .u32 (f:Int),qJ xp] 152)) W->qC 128 #[qP Y,qJ f] W fun e w'=>qK W w'/\∃u y z B,e=.returned (.agg #[.slice u (fM m f).ins.length y,.slice z (fM m f).outs.length B])):=fun W X=>by
    refine(BU f (ak.o.kept (kp1.trans X) (fun _ _ _ c=>c)) V ao.o).mono ?_;rintro e w' ⟨ap,v,rfl,vi,vo,rfl,k1,t⟩;obtain⟨u,y,rfl⟩:=Row.shape k1;obtain⟨z,B,rfl⟩:=Row.shape t;exact⟨ap,u,y,z,B,rfl⟩
   have YU:qh (jk m ((f:Int),xp)=if(fM m f).ins.length=0/\(fM m f).outs.length=0 then .ok () else .error (4,xp)):=Qv V;generalize (fM m f).ins.length=Z at*;generalize (fM m f).outs.length=a2 at*;go_wp2_with fail
   refine wp_region_held_drew (S:=fun w':qW=>w'.cell? (qA wr.heap.size 0)=some (.int .u32 (f:Int))/\w'.cell? (qA wr.heap.size 1)=some (qJ xp)/\w'.cell? (qA Y 1)=some (.slice Q m.funcs.length c1)) qk d.o (fun _=>?_);refine jK 0 d.o ?_;refine jK 1 d.o ?_;refine jK 2 d.o ?_;refine jK 3 d.o ?_;refine jK 4 d.o ?_;refine jK 5 d.o ?_;refine jK 6 d.o ?_;refine wpAnyH_all (rs:=[7,9]) qk qs ?_;intro i a;have D:i=7\/i=9:=by simpa using a
   clear a;rcases D with rfl | rfl
   .refine jH (f:=84) (args:= #[.agg #[.int .u32 (f:Int),qJ xp],qJ m.funcs.length]) rfl rfl qk (su _ T I J) ?_;rintro M w2 ⟨rfl,rfl⟩;have t:qK (wr.alloc (.cells #[.int .u32 (f:Int),qJ xp] 152)) (((wr.alloc (.cells #[.int .u32 (f:Int),qJ xp] 152)).drew).alloc (.cells #[.int .u32 (f:Int),qJ xp] 152)):=(qr.drew).alloc _;refine .inl ⟨_,rfl,r.o _ t,?_⟩;refine wpAnyH_all (rs:=[8,9]) qk qs ?_;intro i a;have D:i=8\/i=9:=by simpa using a
    clear a;rcases D with rfl | rfl
    .refine jH (f:=128) (args:= #[qP Y,qJ f]) rfl rfl qk (HTY.o _ t) ?_;rintro M n ⟨j,u,y,z,B,rfl⟩;have k3:=t.trans j;have ah:=Nat.lt_of_lt_of_le C k3.size;have ai:=Nat.lt_of_lt_of_le (Nat.lt_of_lt_of_le H L.size) k3.size;obtain⟨q0,q1,q2⟩:=r.o _ k3;refine .inl ⟨_,rfl,r.o _ k3,?_⟩;refine wpAnyH_all (rs:=[9]) qk qs ?_;intro i a;rw[List.mem_singleton] at a;subst a;refine sW rfl rfl ?_;go_wp2;refine wpAnyH_all (rs:=[10]) qk qs ?_;intro i a;rw[List.mem_singleton] at a;subst a;refine sW rfl rfl ?_;go_wp2;refine wpAnyH_done qk ?_ _;cases Z with
     | zero=>
      cases a2 with
      | zero=>
       have HN:=hide (HE.o.trans (HO.o (by rw[YU.o,if_pos ⟨rfl,rfl⟩])));clear HB HO HE YU HTY;go_wp2;go_roundw
       case rel=>exact⟨k+1,qo,by go_num,(kp1.trans k3).alloc _,HN.o⟩
       simp[intOf];omega
      | succ b=>exact agB
     | succ b=>exact agB
    refine sW rfl rfl ?_;go_wp2;refine wpAnyH_all (rs:=[8]) qk qs ?_;intro i a;rw[List.mem_singleton] at a;subst a;refine jH (f:=128) (args:= #[qP Y,qJ f]) rfl rfl qk (HTY.o _ (((qr.alloc _).alloc _).drew)) ?_;rintro M n ⟨j,u,y,z,B,rfl⟩;have kA:qK (wr.alloc (.cells #[.int .u32 (f:Int),qJ xp] 152)) n:=(((qr.alloc _).alloc _).drew).trans j;have ah:=Nat.lt_of_lt_of_le C kA.size;have ai:=Nat.lt_of_lt_of_le (Nat.lt_of_lt_of_le H L.size) kA.size;obtain⟨q0,q1,q2⟩:=r.o _ kA;have aa:=j.size;simp at aa;have T0:n.cell? ⟨wr.heap.size+1+1,0,none⟩=some (qN):=(j.cell (p:=⟨wr.heap.size+1+1,0,none⟩) qs (fun c=>c)).trans (by simp[go_sem]);have T1:n.cell? ⟨wr.heap.size+1+1,1,none⟩=some (qN):=(j.cell (p:=⟨wr.heap.size+1+1,1,none⟩) qs (fun c=>c)).trans (by simp[go_sem]);have U0:n.frozen? ⟨wr.heap.size+1+1,0,none⟩=false:=(j.frozen (p:=⟨wr.heap.size+1+1,0,none⟩) qs (fun c=>c)).trans (by simp[go_sem]);have U1:n.frozen? ⟨wr.heap.size+1+1,1,none⟩=false:=(j.frozen (p:=⟨wr.heap.size+1+1,1,none⟩) qs (fun c=>c)).trans (by simp[go_sem]);have aq:¬wr.heap.size+1+1=wr.heap.size:=qo;have ar:¬wr.heap.size+1+1=Y:=qo;refine .inl ⟨_,rfl,r.o _ kA,?_⟩;refine wpAnyH_all (rs:=[10]) qk qs ?_;intro i a;rw[List.mem_singleton] at a;subst a;refine sW rfl rfl ?_;go_wp2;refine wpAnyH_done qk ?_ _;cases Z with
    | zero=>
     cases a2 with
     | zero=>
      have HN:=hide (HE.o.trans (HO.o (by rw[YU.o,if_pos ⟨rfl,rfl⟩])));clear HB HO HE YU HTY;go_wp2;go_roundw
      case rel=>exact⟨k+1,qo,by go_num,((kp1.trans kA).setCell (p:=⟨wr.heap.size+1+1,0,none⟩) (fun h=>absurd h qt) _).setCell (p:=⟨wr.heap.size+1+1,1,none⟩) (fun h=>absurd h qt) _,HN.o⟩
      simp[intOf];omega
     | succ b=>exact agJ
    | succ b=>exact agJ
   refine sW rfl rfl ?_;go_wp2;refine wpAnyH_all (rs:=[7]) qk qs ?_;intro i a;rw[List.mem_singleton] at a;subst a;refine jH (f:=84) (args:= #[.agg #[.int .u32 (f:Int),qJ xp],qJ m.funcs.length]) rfl rfl qk (su _ T I J) ?_;rintro M w2 ⟨rfl,rfl⟩;have t:qK (wr.alloc (.cells #[.int .u32 (f:Int),qJ xp] 152)) ((((wr.alloc (.cells #[.int .u32 (f:Int),qJ xp] 152)).alloc (.cells #[qN,qN] 198)).drew).alloc (.cells #[.int .u32 (f:Int),qJ xp] 152)):=((qr.alloc _).drew).alloc _;refine .inl ⟨_,rfl,r.o _ t,?_⟩;refine wpAnyH_all (rs:=[8]) qk qs ?_;intro i a;rw[List.mem_singleton] at a;subst a;refine jH (f:=128) (args:= #[qP Y,qJ f]) rfl rfl qk (HTY.o _ t) ?_;rintro M n ⟨j,u,y,z,B,rfl⟩;have kA:=t.trans j;have ah:=Nat.lt_of_lt_of_le C kA.size;have ai:=Nat.lt_of_lt_of_le (Nat.lt_of_lt_of_le H L.size) kA.size;obtain⟨q0,q1,q2⟩:=r.o _ kA;have aa:=j.size;simp at aa;have T0:n.cell? ⟨wr.heap.size+1,0,none⟩=some (qN):=(j.cell (p:=⟨wr.heap.size+1,0,none⟩) qs (fun c=>c)).trans (by simp[go_sem]);have T1:n.cell? ⟨wr.heap.size+1,1,none⟩=some (qN):=(j.cell (p:=⟨wr.heap.size+1,1,none⟩) qs (fun c=>c)).trans (by simp[go_sem]);have U0:n.frozen? ⟨wr.heap.size+1,0,none⟩=false:=(j.frozen (p:=⟨wr.heap.size+1,0,none⟩) qs (fun c=>c)).trans (by simp[go_sem]);have U1:n.frozen? ⟨wr.heap.size+1,1,none⟩=false:=(j.frozen (p:=⟨wr.heap.size+1,1,none⟩) qs (fun c=>c)).trans (by simp[go_sem]);have aq:¬wr.heap.size+1=wr.heap.size:=qo;have ar:¬wr.heap.size+1=Y:=qo;refine .inl ⟨_,rfl,r.o _ kA,?_⟩;refine wpAnyH_all (rs:=[10]) qk qs ?_;intro i a;rw[List.mem_singleton] at a;subst a;refine sW rfl rfl ?_;go_wp2;refine wpAnyH_done qk ?_ _;cases Z with
   | zero=>
    cases a2 with
    | zero=>
     have HN:=hide (HE.o.trans (HO.o (by rw[YU.o,if_pos ⟨rfl,rfl⟩])));clear HB HO HE YU HTY;go_wp2;go_roundw
     case rel=>exact⟨k+1,qo,by go_num,((kp1.trans kA).setCell (p:=⟨wr.heap.size+1,0,none⟩) (fun h=>absurd h qt) _).setCell (p:=⟨wr.heap.size+1,1,none⟩) (fun h=>absurd h qt) _,HN.o⟩
     simp[intOf];omega
    | succ b=>exact agI
   | succ b=>exact agI
  have HN:=hide (HE.o.trans (HB.o _ (OT T)));have aj:(m.funcs.length:Int)<=l:=qo;clear HB HO HE;go_wp2_with fail
  refine wp_region_held_drew (S:=fun w':qW=>w'.cell? (qA wr.heap.size 0)=some (.int .u32 l)/\w'.cell? (qA wr.heap.size 1)=some (qJ xp)/\w'.cell? (qA Y 1)=some (.slice Q m.funcs.length c1)) qk d.o (fun _=>?_);refine jK 0 d.o ?_;refine jK 1 d.o ?_;refine jK 2 d.o ?_;refine jK 3 d.o ?_;refine jK 4 d.o ?_;refine jK 5 d.o ?_;refine jK 6 d.o ?_;refine wpAnyH_all (rs:=[7,9]) qk qs ?_;intro i a;have D:i=7\/i=9:=by simpa using a
  clear a;rcases D with rfl | rfl
  .refine rH (f:=84) (args:= #[.agg #[.int .u32 l,qJ xp],qJ m.funcs.length]) rfl rfl qk (pI _ aj I J) ?_;rintro e w2 ⟨rfl,rfl⟩;refine⟨_,rfl,?_⟩;exact⟨rfl,Says.dD HN.o (kp1.drew.alloc _)⟩
  refine sW rfl rfl ?_;go_wp2;refine wpAnyH_all (rs:=[7]) qk qs ?_;intro i a;rw[List.mem_singleton] at a;subst a;refine rH (f:=84) (args:= #[.agg #[.int .u32 l,qJ xp],qJ m.funcs.length]) rfl rfl qk (pI _ aj I J) ?_;rintro e w2 ⟨rfl,rfl⟩;refine⟨_,rfl,?_⟩;exact⟨rfl,Says.dD HN.o ((((hkp.alloc _).alloc _).drew).alloc _)⟩
 exact aaZ
end
section
variable {K:qD} {w:qW} {Y:Nat} {s:qS} {m:fE}
theorem UQ{ts:List Qi}{v:qv}(h:gu 201 5 uh K ts w v){k:Nat}(X:k<ts.length):
  ∃g A lv,v=.slice (some (qA g 0)) ts.length A/\g<w.heap.size/\ts.length<=A/\isRow 152 2 numCells K ts[k].funcs w lv/\w.cell? ⟨g,k*5,none⟩=some (qJ (ts[k].at_:Nat))/\w.cell? ⟨g,k*5+1,none⟩=some (qJ (ts[k].place.at_:Nat))/\
   w.cell? ⟨g,k*5+2,none⟩=some (qB (ts[k].place.kind:Nat))/\w.cell? ⟨g,k*5+3,none⟩=some (qJ ts[k].place.val)/\w.cell? ⟨g,k*5+4,none⟩=some lv:=by
 obtain⟨css,d,a⟩:=h;obtain⟨g,A,e,-,f,hc,b⟩:=Row.cells d qo;have hy:ts[k]?=some ts[k]:=List.getElem?_eq_getElem X;obtain⟨cs,c,⟨⟨lv,rfl,U⟩,-⟩⟩:=a.get hy;exact⟨g,A,lv,e,f,hc,U,(b (k*5) qo).trans (Each.flat (o:=0) a c qo),(b (k*5+1) qo).trans (Each.flat (o:=1) a c qo),(b (k*5+2) qo).trans (Each.flat (o:=2) a c qo),(b (k*5+3) qo).trans (Each.flat (o:=3) a c qo),(b (k*5+4) qo).trans (Each.flat (o:=4) a c qo)⟩
theorem PL{e:Qi}(h:m.tables.length=0):lC m e=.error (3,e.at_):=by simp[lC,h]
theorem RY{e:Qi}{q:Err}(h:¬m.tables.length=0)(hc:kE 127 e.place=.error q):lC m e=.error q:=by simp[lC,h,hc]
theorem PM{e:Qi}{u:Unit}(h:¬m.tables.length=0)(hc:kE 127 e.place=.ok u):lC m e=dV (iT m.funcs.length) e.funcs:=by simp[lC,h,hc]
theorem Ep{N:Nat}(U:MV s K w Y m)(hl:m.elems.length<=50)(hx:∀x∈m.elems,aav N x):
  qC 89 #[qP Y] w (Looks w (dV (lC m) m.elems)):=by
 have V:=U.lt;obtain⟨W,c1,p2,c2,-,-,-,-,F1,F2,-,-⟩:=U.four;obtain⟨hK,fl,hM,hH⟩:=U;obtain⟨F,-⟩:=hM.twelve.2.2.1;have D:=hH.h7;obtain⟨p,c,hf⟩:∃p c,fl.v7=.slice p m.elems.length c:=by
  obtain⟨css,h,-⟩:=D;exact Row.shape h
 rw[hf] at F D;have HR:=hide D;have HX:=hide hx;clear hH hM hf hx hK D;have H0:qh (dV (lC m) m.elems=dV (lC m) (m.elems.drop 0)):=by show _=_;simp
 go_enter func89,ntmps89;go_wp2;go_loopw [11] (fun q j=>∃k:Nat,k<=m.elems.length/\q=qJ k/\qK w j/\dV (lC m) m.elems=dV (lC m) (m.elems.drop k)) (fun q _=>m.elems.length - (intOf q).toNat)
 case atStart=>exact⟨0,qZ,rfl,Kept.refl _ _,H0.o⟩
 obtain⟨k,X,rfl,hkp,af⟩:=hrel;obtain⟨j,av⟩:∃x,x=wr:=⟨wr,rfl⟩;subst av;have HE:=hide af;clear af H0;by_cases hlt:k<m.elems.length
 .have hlt':(k:Int)<(m.elems.length:Int):=qo;obtain⟨g,A,lv,hv,aG,aH,Z,d0,d1,d2,d3,d4⟩:=UQ (HR.o.kept hkp (fun _ _ _ c=>c) (fun _ _ e=>e.kept hkp (fun _ _ _ c=>c))) hlt;cases hv;obtain⟨E,G,rfl⟩:=Row.shape Z;have l:=hide (fun e=>rP (f:=lC m) (e:=e) hlt);have H:=hide (uG (f:=lC m) hlt);have I:=HX.o _ (List.getElem_mem hlt);have aw:=(hkp.cell (p:=(qA Y 1)) V (fun c=>c)).trans F1;have aI:=(hkp.cell (p:=(qA Y 2)) V (fun c=>c)).trans F2;have ag:Y<j.heap.size:=Nat.lt_of_lt_of_le V hkp.size;have ah:=hide Z;clear Z;generalize m.elems[k]=x at*;obtain⟨xa,⟨J,L,M⟩,fs⟩:=x;simp only at d0 d1 d2 d3 d4 ah;have aJ:fs.length<=20:=I.2.2.1;have ax:qh (∀y∈fs,0<=y.1/\y.1<=4294967295):=fun y hy=>⟨(I.2.2.2 y hy).1,(I.2.2.2 y hy).2.1⟩;clear I;by_cases t:m.tables.length=0
  .have tz:((m.tables.length:Int)==0)=true:=by rw[t];rfl
   have HN:=hide (HE.o.trans (l.o _ (PL t)));clear HE H l t;go_wp2_with fail
   refine(mD _ _ _).mono ?_;rintro e w3 ⟨rfl,rfl⟩;exact⟨rfl,Says.dD HN.o (hkp.alloc _)⟩
  have tz:((m.tables.length:Int)==0)=false:=qe;have HZ:=hide t;clear t;go_wp2_with fail
  refine(uH _ _ 127 _ _ rfl).mono ?_;rintro e O ⟨aa,ai,aj⟩;have ak:=(hkp.alloc (.cells #[qJ xa,qJ J,qB L,qJ M,.slice E fs.length G] 201)).trans aa;have ab:qK j O:=(qr.alloc _).trans aa;rcases z:kE 127 ⟨J,L,M⟩ with⟨q,pp⟩|u
  .obtain rfl:=aj _ _ z;exact⟨rfl,Says.dD (HE.o.trans (l.o _ (RY HZ.o z))) ak⟩
  obtain⟨v,rfl,rfl⟩:=ai u z;have Q:=hide (PM (e:=⟨xa,⟨J,L,M⟩,fs⟩) HZ.o z);have ay:j.heap.size<(j.alloc (.cells #[qJ xa,qJ J,qB L,qJ M,.slice E fs.length G] 201)).heap.size:=qs;have V4:O.cell? (qA j.heap.size 4)=some (.slice E fs.length G):=(aa.cell (p:=(qA j.heap.size 4)) ay (fun c=>c)).trans qs;have H1:qh (dV (iT m.funcs.length) fs=dV (iT m.funcs.length) (fs.drop 0)):=by show _=_;simp
  clear ai aj z;go_wp2;go_loopw [30] (fun q wr=>∃i:Nat,i<=fs.length/\q=qJ i/\qK O wr/\dV (iT m.funcs.length) fs=dV (iT m.funcs.length) (fs.drop i)) (fun q _=>fs.length - (intOf q).toNat)
  case atStart=>exact⟨0,qZ,rfl,Kept.refl _ _,H1.o⟩
  obtain⟨i,n,rfl,B,am⟩:=hrel;have r:=hide am;clear am H1;have an:=ak.trans B;by_cases C:i<fs.length
  .have ah4:(i:Int)<(fs.length:Int):=qo;have ao:isRow 152 2 numCells K fs wr (.slice E fs.length G):=Row.kept ah.o (ab.trans B) (fun _ _ _ hc=>hc);obtain⟨g',aK,az,-,aL,aM,ac⟩:=Row.cells ao qo;cases az;have ad:fs[i]?=some fs[i]:=List.getElem?_eq_getElem C;have R:=hide (fun e=>rP (f:=iT m.funcs.length) (e:=e) C);have T:=hide (uG (f:=iT m.funcs.length) C);have e0:wr.cell? ⟨g',i*2,none⟩=some (.int .u32 fs[i].1):=(ac (i*2) qo).trans (flat_get (m:=2) (o:=0) (fun _=>rfl) ad qo);have e1:wr.cell? ⟨g',i*2+1,none⟩=some (qJ (fs[i].2:Nat)):=(ac (i*2+1) qo).trans (flat_get (m:=2) (o:=1) (fun _=>rfl) ad qo);have ap:=ax.o _ (List.getElem_mem C);have aA:=((ab.trans B).cell (p:=(qA Y 1)) ag (fun c=>c)).trans aw;have aB:Y<wr.heap.size:=Nat.lt_of_lt_of_le ag (ab.trans B).size;clear ac ao ad;generalize fs[i]=y at*;obtain⟨b,d⟩:=y;simp only at e0 e1 ap R T;obtain⟨aq,ar⟩:=ap;have aC:qK w ((wr.alloc (.cells #[.int .u32 b,qJ d] 152)).drew):=(an.alloc _).drew;have aD:qK O ((wr.alloc (.cells #[.int .u32 b,qJ d] 152)).drew):=(B.alloc _).drew;have aE:qK wr ((wr.alloc (.cells #[.int .u32 b,qJ d] 152)).drew):=(qr.alloc _).drew;have au:wr.heap.size<((wr.alloc (.cells #[.int .u32 b,qJ d] 152)).drew).heap.size:=qs;have HS:qh (∀w',qK ((wr.alloc (.cells #[.int .u32 b,qJ d] 152)).drew) w'->(fun w':qW=>w'.cell? (qA wr.heap.size 0)=some (.int .u32 b)/\w'.cell? (qA wr.heap.size 1)=some (qJ d)/\w'.cell? (qA Y 1)=some (.slice W m.funcs.length c1)) w'):=fun w' X=>⟨(X.cell (p:=(qA wr.heap.size 0)) au (fun c=>c)).trans qs,(X.cell (p:=(qA wr.heap.size 1)) au (fun c=>c)).trans qs,((aE.trans X).cell (p:=(qA Y 1)) aB (fun c=>c)).trans aA⟩;have a:=hide (HS.o _ qr);by_cases ae:b<(m.funcs.length:Int)
   .have HN:=hide (r.o.trans (T.o (by simp[iT,ae])));clear R T r;go_wp2_with fail
    refine wp_region_held_drew (S:=fun w':qW=>w'.cell? (qA wr.heap.size 0)=some (.int .u32 b)/\w'.cell? (qA wr.heap.size 1)=some (qJ d)/\w'.cell? (qA Y 1)=some (.slice W m.funcs.length c1)) qk a.o (fun _=>?_);refine jK 0 a.o ?_;refine jK 1 a.o ?_;refine jK 2 a.o ?_;refine jK 3 a.o ?_;refine jK 4 a.o ?_;refine jK 5 a.o ?_;refine wpAnyH_all (rs:=[6]) qk qs ?_;intro i n;rw[List.mem_singleton] at n;subst n;refine jH (f:=84) (args:= #[.agg #[.int .u32 b,qJ d],qJ m.funcs.length]) rfl rfl qk (su _ ae aq ar) ?_;rintro ee w4 ⟨rfl,rfl⟩;refine .inl ⟨_,rfl,HS.o _ (qr.alloc _),?_⟩;refine wpAnyH_done qk ?_ _;dsimp only[Act.put,qy,qz,qw];clear a HS;go_wp2;go_roundw
    case rel=>exact⟨i+1,qo,by go_num,aD.alloc _,HN.o⟩
    simp[intOf];omega
   have HN:=hide (HE.o.trans (l.o _ (Q.o.trans (r.o.trans (R.o (3,d) (by simp[iT,ae]))))));have aF:(m.funcs.length:Int)<=b:=qo;clear l H R T r HE Q;go_wp2_with fail
   refine wp_region_held_drew (S:=fun w':qW=>w'.cell? (qA wr.heap.size 0)=some (.int .u32 b)/\w'.cell? (qA wr.heap.size 1)=some (qJ d)/\w'.cell? (qA Y 1)=some (.slice W m.funcs.length c1)) qk a.o (fun _=>?_);refine jK 0 a.o ?_;refine jK 1 a.o ?_;refine jK 2 a.o ?_;refine jK 3 a.o ?_;refine jK 4 a.o ?_;refine jK 5 a.o ?_;refine wpAnyH_all (rs:=[6]) qk qs ?_;intro i n;rw[List.mem_singleton] at n;subst n;refine rH (f:=84) (args:= #[.agg #[.int .u32 b,qJ d],qJ m.funcs.length]) rfl rfl qk (pI _ aF aq ar) ?_;rintro e w4 ⟨rfl,rfl⟩;refine⟨_,rfl,?_⟩;exact⟨rfl,Says.dD HN.o (aC.alloc _)⟩
  have HN:=hide (HE.o.trans (H.o (Q.o.trans (r.o.trans (xX C)))));clear l H r HE Q;go_wp2;go_roundw
  case rel=>exact⟨k+1,qo,by go_num,an,HN.o⟩
  simp[intOf];omega
 exact aaZ
end
end Go.Proofs.YtdaafkmhfedkiaaGreat
