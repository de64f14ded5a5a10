import Derived.Test.YtfkcodlceoghpaaGreatDoorX16
namespace Go.Proofs.YtfkcodlceoghpaaGreatDoor
set_option maxHeartbeats 1600000
set_option linter.unusedSimpArgs false
set_option linter.unusedVariables false
open Go.RowKit Go.Proofs.Tryz
def oC{α:Type}(s:qS)(Pr:α->Prop)(f:qS->Nat->Nat->Except Err (α×Nat)):Prop:=∀⦃n i x j⦄,f s n i=.ok (x,j)->Pr x
theorem oC.within{a:Type}{s:qS}{b:a->Prop}{f:qS->Nat->Nat->Except Err (a×Nat)}(h:oC s b f):oC s b (eX f):=by
 intro n i x j hx;unfold eX at hx;split at hx
 .cases hx
 split at hx
 .split at hx<;>cases hx
 split at hx
 .cases hx
 rename_i ho;split at hx<;>cases hx;exact h ho
theorem oC.eT{a:Type}{s:qS}{b:a->Prop}{f:qS->Nat->Nat->Except Err (a×Nat)}(h:oC s b f){n:Nat}:∀(k:Nat)(M:List a)(j:Nat){xs:List a}{d:Nat},(∀x∈M,b x)->eT f s n k M j=.ok (xs,d)->∀x∈xs,b x:=by
 intro k;induction k with
 | zero=>intro M j xs d e hx;unfold Go.Proofs.YtfkcodlceoghpaaGreatDoor.eT at hx;cases hx;exact e
 | succ k g=>
  intro M j xs d e hx;unfold Go.Proofs.YtfkcodlceoghpaaGreatDoor.eT at hx;split at hx
  .cases hx
  rename_i ho;refine g _ _ (λx i=>?_) hx;obtain c | c:=qar.1 i
  .exact e x c
  simp at c;subst c;exact h ho
def je(s:qS)(m:dX):Prop:=∀c∈m.dF,∃j,o8 s c.2.2 c.2.1=.ok j
theorem OI(s:qS):oC s (λc:O4=>∃j,o8 s c.2.2 c.2.1=.ok j) pR:=by
 refine oC.within (f:=lg) ?_;intro n i x j h;unfold lg at h;split at h
 .cases h
 split at h
 .cases h
 rename_i ho;cases h;exact⟨_,ho⟩
theorem uZ{a:Type}{s:qS}{b:a->Prop}{f:qS->Nat->Nat->Except Err (a×Nat)}(which:Nat)(c:a)(h0:b c)(h:oC s b f):oC s b (kK which c f):=by
 intro n i x j hx;unfold kK at hx;split at hx
 .split at hx
  .exact h.within hx
  cases hx;exact h0
 cases hx;exact h0
theorem Bt{s:qS}{m:dX}(hm:je s m):oC s (je s) (gq m):=by
 intro n i x j h;unfold gq at h;split at h<;>cases h;exact hm
theorem zq{s:qS}{m:dX}(hm:je s m):oC s (je s) (fC m):=by
 intro n i x j h;unfold fC at h;split at h
 .cases h
 split at h<;>cases h;exact hm
theorem JH{s:qS}{m:dX}(hm:je s m):oC s (je s) (kL m):=by
 intro n i x j h;unfold kL at h;split at h
 .cases h
 split at h
 .cases h
 rename_i ho;have U:=uZ 1 m hm (Bt hm) ho;exact uZ 2 _ U (zq U) h
theorem KD{s:qS}(m:dX):oC s (je s) (lF m):=by
 intro n i x j h;unfold lF at h;split at h
 .cases h
 split at h
 .split at h
  .cases h
  rename_i ho;cases h;exact(OI s).eT _ _ _ qs ho
 cases h
theorem OG{s:qS}{m:dX}(hm:je s m)(which:Nat):oC s (je s) (oo m which):=by
 intro n i x j h;unfold oo at h;split at h
 .exact JH hm h
 .unfold pQ at h;split at h<;>cases h;exact hm
 .unfold pO at h;split at h<;>cases h;exact hm
 .unfold pM at h;split at h<;>cases h;exact hm
 .unfold pK at h;split at h<;>cases h;exact hm
 .unfold pJ at h;split at h<;>cases h;exact hm
 .unfold pI at h;split at h<;>cases h;exact hm
 .unfold pG at h;split at h<;>cases h;exact hm
 .unfold pF at h;split at h<;>cases h;exact hm
 .exact KD m h
 .unfold mY at h;split at h<;>cases h;exact hm
 cases h;exact hm
theorem Pn{s:qS}{m:dX}(hm:je s m)(last:Nat):oC s (λx:dX×Nat=>je s x.1) (lH m last):=by
 intro n i x j h;unfold lH at h;split at h
 .cases h
 split at h
 .cases h
 split at h
 .cases h
 split at h
 .cases h
 rename_i ho;cases h;exact(OG hm _).within ho
theorem Gq{s:qS}{n:Nat}:∀(k:Nat)(m:dX)(last i:Nat){a:dX}{j:Nat},je s m->iJ s n k m last i=.ok (a,j)->je s a:=by
 intro k;induction k with
 | zero=>intro m last i a j hm h;simp[iJ]at h
 | succ k b=>
  intro m last i a j hm h;unfold iJ at h;split at h
  .split at h<;>cases h;exact hm
  split at h
  .cases h
  rename_i ho;exact b _ _ _ (Pn hm last ho) h
theorem yV{s:qS}{m:dX}{j:Nat}(h:kH s=.ok (m,j)):je s m:=by
 unfold kH at h;split at h
 .cases h
 exact Gq _ _ _ _ (by intro c hc;simp[dX.new]at hc) h
theorem mZ(a b k:Nat)(z:Int)(w:qW){d:Int}(f:d=(k:Int)):
  qC 128 #[.agg #[qJ a,qB b,qJ z],qB d] w (Looks w (jc k ⟨a,b,z⟩)):=by
 subst f;by_cases c:b=k
 .have g:(((b:Nat):Int) !=((k:Nat):Int))=false:=by simp[c]
  subst c;go_enter func128,ntmps128;go_wp2;go_end0;exact Says.dN (x:=()) (by simp[jc]) (qr.alloc _) rfl
 have g:(((b:Nat):Int) !=((k:Nat):Int))=true:=by simp;omega
 go_enter func128,ntmps128;go_wp2_with fail
 refine(iK _ _ _).mono ?_;rintro e h⟨rfl,rfl⟩;exact⟨rfl,Says.dG (by simp[jc,c]) (qr.alloc _)⟩
theorem yP{w:qW}{b j:Nat}{s:qS}{ok:qD}{m:dX}(hm:iF s ok w b j m)(hl:m.dI.length<=50):
  qC 69 #[qP j] w (Looks w (dV (λg=>jc g.kind g.first) m.dI)):=by
 obtain⟨f,l,d⟩:=hm;obtain⟨F,G⟩:=l.blk.twelve.1.2.2.2.2.1;obtain⟨p,c,hf⟩:=Row.shape d.h4;have i:=d.h4;rw[hf]at F i;clear d l;have n:qh (dV (λg=>jc g.kind g.first) m.dI=dV (λg=>jc g.kind g.first) (m.dI.drop 0)):=by show _=_;simp
 go_enter func69,ntmps69;go_wp2;go_loopw [9] (λq wr=>∃k:Nat,k<=m.dI.length/\q=qJ k/\qK w wr/\dV (λg=>jc g.kind g.first) m.dI=dV (λg=>jc g.kind g.first) (m.dI.drop k)) (λq _=>m.dI.length - (intOf q).toNat)
 case atStart=>exact⟨0,qZ,rfl,Kept.refl _ _,n.o⟩
 obtain⟨k,X,rfl,hkp,r⟩:=hrel;have HE:=qH r;clear r n;by_cases hlt:k<m.dI.length
 .have hlt':(k:Int)<(m.dI.length:Int):=qo;have t:isRow 84 5 Cn.cells ok m.dI wr (qX p m.dI c):=Row.kept i hkp (λ_ _ _ hc=>hc);obtain⟨g,A,hv,-,z,B,a⟩:=Row.cells t qo;cases hv;have hx:m.dI[k]?=some m.dI[k]:=qab hlt;have HB:=qH (λe=>kZ (f:=λg:Cn=>jc g.kind g.first) (e:=e) hlt);have HO:=qH (mX (f:=λg:Cn=>jc g.kind g.first) hlt);have c0:wr.cell? ⟨g,k*5,none⟩=some (qB (m.dI[k].kind:Nat)):=(a (k*5) qo).trans (flat_get (m:=5) (o:=0) (λ_=>rfl) hx qo);have c1:wr.cell? ⟨g,k*5+1,none⟩=some (.bool m.dI[k].sO):=(a (k*5+1) qo).trans (flat_get (m:=5) (o:=1) (λ_=>rfl) hx qo);have c2:wr.cell? ⟨g,k*5+2,none⟩=some (qJ (m.dI[k].first.at_:Nat)):=(a (k*5+2) qo).trans (flat_get (m:=5) (o:=2) (λ_=>rfl) hx qo);have c3:wr.cell? ⟨g,k*5+3,none⟩=some (qB (m.dI[k].first.kind:Nat)):=(a (k*5+3) qo).trans (flat_get (m:=5) (o:=3) (λ_=>rfl) hx qo);have c4:wr.cell? ⟨g,k*5+4,none⟩=some (qJ m.dI[k].first.val):=(a (k*5+4) qo).trans (flat_get (m:=5) (o:=4) (λ_=>rfl) hx qo);clear a t i hx;generalize m.dI[k]=x at*;go_wp2_with fail
  refine(mZ _ _ x.kind _ _ rfl).mono ?_;rintro e C⟨y,hok,iC⟩;have hk3:=(hkp.alloc _).trans y;cases ho:jc x.kind x.first with
  | ok u=>obtain⟨v,rfl,rfl⟩:=hok u ho;have HN:=qH (HE.o.trans (HO.o ho));exact UO
  | error qp=>obtain⟨q,D⟩:=qp;obtain rfl:=iC _ _ ho;exact⟨rfl,Says.dG (HE.o.trans (HB.o _ ho)) hk3⟩
 exact RV
theorem Di{w:qW}{b j:Nat}{s:qS}{ok:qD}{m:dX}(hm:iF s ok w b j m)(hl:m.data.length<=50):
  qC 74 #[qP j] w (Looks w (dV (jB m) m.data)):=by
 obtain⟨f,l,n⟩:=hm;obtain⟨y,J⟩:=l.blk.twelve.1.2.2.2.1;obtain⟨K,L,z⟩:=Row.shape n.h3;rw[z]at y;obtain⟨F,G⟩:=l.blk.twelve.2.2.2.2.1;have B:=l.lt;obtain⟨p,c,hf⟩:=Row.shape n.h9;have t:=n.h9;rw[hf]at F t;clear n l z;have C:qh (dV (jB m) m.data=dV (jB m) (m.data.drop 0)):=by show _=_;simp
 go_enter func74,ntmps74;go_wp2;go_loopw [9] (λq wr=>∃k:Nat,k<=m.data.length/\q=qJ k/\qK w wr/\dV (jB m) m.data=dV (jB m) (m.data.drop k)) (λq _=>m.data.length - (intOf q).toNat)
 case atStart=>exact⟨0,qZ,rfl,Kept.refl _ _,C.o⟩
 obtain⟨k,X,rfl,hkp,D⟩:=hrel;have HE:=qH D;clear D C;by_cases hlt:k<m.data.length
 .have hlt':(k:Int)<(m.data.length:Int):=qo;have M:=(hkp.cell (p:=(qA j 3)) B (λc=>c)).trans y;have N:j<wr.heap.size:=qad B hkp.size;have E:isRow 135 5 Dat.cells ok m.data wr (qX p m.data c):=Row.kept t hkp (λ_ _ _ hc=>hc);obtain⟨g,A,hv,-,O,Q,a⟩:=Row.cells E qo;cases hv;have hx:m.data[k]?=some m.data[k]:=qab hlt;have HB:=qH (λe=>kZ (f:=jB m) (e:=e) hlt);have HO:=qH (mX (f:=jB m) hlt);have c0:wr.cell? ⟨g,k*5,none⟩=some (qJ (m.data[k].at_:Nat)):=(a (k*5) qo).trans (flat_get (m:=5) (o:=0) (λ_=>rfl) hx qo);have c1:wr.cell? ⟨g,k*5+1,none⟩=some (qJ (m.data[k].place.at_:Nat)):=(a (k*5+1) qo).trans (flat_get (m:=5) (o:=1) (λ_=>rfl) hx qo);have c2:wr.cell? ⟨g,k*5+2,none⟩=some (qB (m.data[k].place.kind:Nat)):=(a (k*5+2) qo).trans (flat_get (m:=5) (o:=2) (λ_=>rfl) hx qo);have c3:wr.cell? ⟨g,k*5+3,none⟩=some (qJ m.data[k].place.val):=(a (k*5+3) qo).trans (flat_get (m:=5) (o:=3) (λ_=>rfl) hx qo);have c4:wr.cell? ⟨g,k*5+4,none⟩=some (.string m.data[k].bytes):=(a (k*5+4) qo).trans (flat_get (m:=5) (o:=4) (λ_=>rfl) hx qo);clear a E t hx;generalize m.data[k]=x at*;by_cases d:m.fP.length=0
  .have H:((m.fP.length:Int)==0)=true:=by rw[d];rfl
   have i:jB m x=.error (3,x.at_):=by simp[jB,d]
   have r:=qH (HE.o.trans (HB.o _ i));clear HE HO HB i d;go_wp2_with fail
   refine(iK _ _ _).mono ?_;rintro e R⟨rfl,rfl⟩;exact⟨rfl,Says.dG r.o (hkp.alloc _)⟩
  have H:((m.fP.length:Int)==0)=false:=qe;have i:jB m x=jc 127 x.place:=by simp[jB,d]
  have r:=qH i;clear i d;go_wp2_with fail
  refine(mZ _ _ 127 _ _ rfl).mono ?_;rintro e S⟨I,hok,iC⟩;have hk3:=(hkp.alloc _).trans I;cases ho:jc 127 x.place with
  | ok u=>obtain⟨v,rfl,rfl⟩:=hok u ho;have HN:=qH (HE.o.trans (HO.o (r.o.trans ho)));exact UO
  | error qp=>obtain⟨q,T⟩:=qp;obtain rfl:=iC _ _ ho;exact⟨rfl,Says.dG (HE.o.trans (HB.o _ (r.o.trans ho))) hk3⟩
 exact RV
theorem tV{w:qW}{ok:qD}{ls:List tZ}{v:qv}(most:Int)(b:isRow 87 4 tZ.cells ok ls w v)(hl:ls.length<=50):
  qC 68 #[v,qI most] w (Looks w (dV (jQ most) ls)):=by
 obtain⟨p,c,rfl⟩:=Row.shape b;have d:qh (dV (jQ most) ls=dV (jQ most) (ls.drop 0)):=by show _=_;simp
 go_enter func68,ntmps68;go_wp2;go_loopw [8] (λq wr=>∃k:Nat,k<=ls.length/\q=qJ k/\qK w wr/\dV (jQ most) ls=dV (jQ most) (ls.drop k)) (λq _=>ls.length - (intOf q).toNat)
 case atStart=>exact⟨0,qZ,rfl,Kept.refl _ _,d.o⟩
 obtain⟨k,X,rfl,hkp,i⟩:=hrel;have HE:=qH i;clear i d;by_cases hlt:k<ls.length
 .have hlt':(k:Int)<(ls.length:Int):=qo;have j:isRow 87 4 tZ.cells ok ls wr (qX p ls c):=Row.kept b hkp (λ_ _ _ hc=>hc);obtain⟨g,A,hv,-,C,D,a⟩:=Row.cells j qo;cases hv;have hx:ls[k]?=some ls[k]:=qab hlt;have u:=qH (λe=>kZ (f:=jQ most) (e:=e) hlt);have y:=qH (mX (f:=jQ most) hlt);have c0:wr.cell? ⟨g,k*4,none⟩=some (qJ (ls[k].at_:Nat)):=(a (k*4) qo).trans (flat_get (m:=4) (o:=0) (λ_=>rfl) hx qo);have c1:wr.cell? ⟨g,k*4+1,none⟩=some (qI ls[k].least):=(a (k*4+1) qo).trans (flat_get (m:=4) (o:=1) (λ_=>rfl) hx qo);have c2:wr.cell? ⟨g,k*4+2,none⟩=some (qI ls[k].most):=(a (k*4+2) qo).trans (flat_get (m:=4) (o:=2) (λ_=>rfl) hx qo);have c3:wr.cell? ⟨g,k*4+3,none⟩=some (.bool ls[k].has):=(a (k*4+3) qo).trans (flat_get (m:=4) (o:=3) (λ_=>rfl) hx qo);clear a j b hx;generalize ls[k]=x at*;obtain⟨z,l,n,B⟩:=x;simp only at c0 c1 c2 c3;cases B<;>cases r:decide (most<l)<;>cases s:decide (n<l)<;>cases t:decide (most<n);all_goals
   first
   | (have HN:=qH (HE.o.trans (u.o (5,z) (by unfold jQ;rw[qac];simp at r s t ⊢;omega)))
      go_wp2_with fail
      refine(iK _ _ _).mono ?_;rintro e E⟨rfl,rfl⟩;exact⟨rfl,Says.dG HN.o (hkp.alloc _)⟩)
   | (have HN:=qH (HE.o.trans (y.o (by unfold jQ;rw[qaa];simp at r s t ⊢;omega)))
      go_wp2_with fail
      go_roundw
      case rel=>exact⟨k+1,qo,by go_num,hkp.alloc _,HN.o⟩
      simp[intOf];omega)
 exact RV
end Go.Proofs.YtfkcodlceoghpaaGreatDoor
