import Derived.Test.YtdaafkmhfedkiaaGreatX21
namespace Go.Proofs.YtdaafkmhfedkiaaGreat
set_option maxHeartbeats 6400000
set_option maxRecDepth 100000
open Go.RowKit Go.Proofs.Tryz
section
variable {S ok ok':qD} {w w':qW} {x Y fb:Nat} {s:qS} {Z:RS} {ms cs cs':qV} {m:RM} {p:qO} {A nx:Nat}
theorem DY:∀(k:Nat) (M:qS) (Z:RS),(kI s k M Z).1.size<=M.size+k
 | 0,M,Z=>qR
 | k+1,M,Z=>by
  unfold kI;split
  .exact Nat.le_add_right _ _
  refine Nat.le_trans (DY k _ _) ?_;rw[ByteArray.size_append,strOfNums_size];simp;omega
theorem Rm(most:Nat):(nU s most Z).1.size<=most:=by
 have:=DY (s:=s) (dU s most Z).1 ⟨#[]⟩ (dU s most Z).2;have L:=qX (s:=s) (Z:=Z) most;have a:(⟨#[]⟩:qS).size=0:=rfl;rw[a] at this;exact Nat.le_trans this qo
theorem Dj:∀(k:Nat) (M:List (qS×qS)) (Z:RS),(∀t∈M,t.1.size<=8)->∀t∈(mX s k M Z).1,t.1.size<=8
 | 0,_,_,ha=>ha
 | k+1,M,Z,ha=>by
  unfold mX;split
  .exact ha
  refine Dj k _ _ ?_;intro t a;rw[List.mem_append,List.mem_singleton] at a;rcases a with a | rfl
  .exact ha t a
  exact Rm 8
theorem QX:(kH s Z).1.size<=50:=by
 have h:∀(k:Nat) (M:qS) (Z:RS),M.size<=50->(jh s k M Z).1.size<=50:=by
  intro k;induction k with
  | zero=>intro M Z a;exact a
  | succ k b=>
   intro M Z a;unfold jh;split
   .exact a
   split
   .exact a
   refine b _ _ ?_;rw[AY];omega
 exact h _ _ _ qx
theorem En:∀(k:Nat) (M:List xY) (Z:RS),(∀d∈M,d.locals.size<=50)->∀d∈(jC s k M Z).1,d.locals.size<=50
 | 0,_,_,ha=>ha
 | k+1,M,Z,ha=>by
  unfold jC;split
  .exact ha
  refine En k _ _ ?_;intro d a;rw[List.mem_append,List.mem_singleton] at a;rcases a with a | rfl
  .exact ha d a
  exact QX
theorem Gl:∀(k:Nat) (M:List xY) (Z:RS),(jC s k M Z).1.length<=M.length+k/\((jC s k M Z).2.bad=none->(jC s k M Z).1.length=M.length+k)
 | 0,M,Z=>⟨qR,fun _=>rfl⟩
 | k+1,M,Z=>by
  unfold jC;split
  .rename_i h;exact⟨Nat.le_add_right _ _,fun c=>absurd c h⟩
  have:=Gl k (M++[(Kj s Z).1]) (Kj s Z).2;simp only[List.length_append,List.length_cons,List.length_nil] at this;exact⟨qo,fun c=>by have:=this.2 c;omega⟩
theorem SE:∀(k:Nat) (M:List xY) (Z:RS),(jC s k M Z).2.bad=none->Z.bad=none
 | 0,_,_,h=>h
 | k+1,M,Z,h=>by
  unfold jC at h;split at h
  .rename_i hc;exact absurd h hc
  rename_i hc;simpa using hc
theorem Ym{nf:Nat}(h:(mP s nf Z).2.bad=none):(mP s nf Z).1.length=nf:=by
 have U:=SE _ _ _ h;have L:=(Gl _ _ _).2 h;by_cases hc:(dU s 20 Z).1=nf
 .exact(show(mP s nf Z).1.length=0+(dU s 20 Z).1 from L).trans qo
 rw[if_neg hc] at U;exact absurd U (jO _)
theorem afS{dm:List (qS×qS)}{tys:List (Nat×Nat)}{ds:List xY}(U:∀t∈dm,t.1.size<=8)(L:∀d∈ds,d.locals.size<=50)(f:Nat):nT dm tys ds f<=100:=by
 unfold nT;have a:(gy dm (tys.getD f (0,0)).1).1.size<=8:=by
  unfold gy;rw[List.getD_eq_getElem?_getD];cases hc:dm[(tys.getD f (0,0)).1]? with
  | none=>exact qZ
  | some t=>exact U t (List.mem_of_getElem? hc)
 have b:(ds.getD f ⟨⟨#[]⟩,[],0⟩).locals.size<=50:=by
  rw[List.getD_eq_getElem?_getD];cases hc:ds[f]? with
  | none=>exact qZ
  | some t=>exact L t (List.mem_of_getElem? hc)
 omega
theorem Row.ahz{ok:qD}{E:TypeId}{a n g c:Nat}{xs:qV}(h:Row ok w E a (.slice (some (qA g 0)) n c) n xs)(b:0<n):kY w g xs:=by
 obtain⟨g',A,hv,-,-,-,d⟩:=Row.cells h b;cases hv;have e:=h.own.1;intro k X;refine⟨?_,?_⟩
 .rw[d k qo,List.getElem?_eq_getElem X,List.getD_eq_getElem?_getD,List.getElem?_eq_getElem X];rfl
 exact adQ
theorem iA.agb{tys:List (Nat×Nat)}(h:iA w ok cs tys []):iA w' ok' cs tys []:=
 ⟨h.len,fun i ty a=>⟨(h.each i ty a).1,(h.each i ty a).2.1,fun d b=>by simp at b,(h.each i ty a).2.2.2⟩,h.nm⟩
theorem zx{tys:List (Nat×Nat)}:∀(i o:Nat) (ty:Nat×Nat),tys[i]?=some ty->o<7->(tys.flatMap xh).getD (i*7+o) undef=(xh ty).getD o undef:=by
 induction tys with
 | nil=>intro i o ty h;simp at h
 | cons r l a=>
  intro i o ty h b;cases i with
  | zero=>simp at h;subst h;rw[List.flatMap_cons,List.getD_eq_getElem?_getD,List.getElem?_append_left (by simp[xh];omega),<-List.getD_eq_getElem?_getD];simp
  | succ i=>
   rw[List.flatMap_cons,List.getD_eq_getElem?_getD,List.getElem?_append_right (by simp[xh];omega)];have:(i+1)*7+o - (xh r).length=i*7+o:=by simp[xh];omega
   rw[this,<-List.getD_eq_getElem?_getD];exact a i o ty (by simpa using h) b
theorem Vm(tys:List (Nat×Nat)):iA w ok (tys.flatMap xh) tys []:=by
 have b:(tys.flatMap xh).length=tys.length*7:=by
  induction tys with
  | nil=>rfl
  | cons r l g=>rw[List.flatMap_cons,List.length_append,g];simp[xh];omega
 refine⟨b,fun i ty a=>?_,fun k X=>?_⟩
 .refine⟨?_,?_,fun d h=>by simp at h,fun _=>⟨?_,?_,?_⟩⟩
  .exact zx i 0 ty a qo
  .exact zx i 1 ty a qo
  .exact zx i 2 ty a qo
  .exact zx i 3 ty a qo
  exact zx i 4 ty a qo
 rw[b] at X;obtain⟨ty,c⟩:∃ty,tys[k / 7]?=some ty:=⟨_,List.getElem?_eq_getElem qo⟩;have h5:=zx (k / 7) 5 ty c qo;have f:=zx (k / 7) 6 ty c qo;refine⟨fun e=>?_,fun e=>?_⟩
 .rw[show k / 7*7+5=k by omega] at h5;exact⟨_,h5⟩
 rw[show k / 7*7+6=k by omega] at f;exact⟨_,_,_,f⟩
def oP(w:World)(x Y fb:Nat)(s:qS)(m:RM)(i:Nat)(Z:RS)(e:Ending)(w':World):Prop:=
 qU e/\eu w' x s (pR s i m Z).2 Y/\(∃fb' ms' cs' p' cap',oU w' x Y fb' ms' cs' p' cap' (pR s i m Z).1 (i+1)/\((pR s i m Z).1.tys≠[]->(m.tys≠[]/\fb'=fb)\/(w.heap.size<=fb'/\fb'<w'.heap.size)))/\Kept (fun k=>k=x\/k=Y\/(m.tys≠[]/\k=fb)) w w'
theorem gB(o:Option zA):(wh o).length=5:=by cases o<;>rfl
theorem jV(o:Option (Nat×Nat)):(qm o).length=3:=by cases o<;>rfl
theorem Xi(h:eu w x s Z Y)(a:oU w x Y fb ms cs p A m nx)(f:nx<=0):qC 61 #[qP x,qJ (1:Nat)] w (oP w x Y fb s m 0 Z):=by
 have hx:=h.lt;have o:=a.ob.lt;have q:¬Y=x:=a.ob.ne;have i:m.tys≠[]->fb<w.heap.size:=fun c=>(a.fp c).2.1.lt;have r:=a.len;refine(Jf h a.ob qo (a.z0 f)).mono ?_;rintro e w' ⟨rfl,hI,⟨lv,j,l⟩,X⟩;have b:∀g,g<w.heap.size->Aa x Y fb m.tys g->¬(g=x\/g=Y)/\Aa x Y fb m.tys g:=fun g _ c=>⟨fun e=>e.elim (fun e=>c.1 e) (fun e=>c.2.1 e),c⟩;have n:∀g,w.heap.size<=g->Aa x Y fb m.tys g:=fun g d=>⟨qo,qo,fun c=>by have:=i c;omega⟩;have hc:=a.c.move X b;refine⟨rfl,hI,⟨fb,ms.set 0 lv,cs,p,A,⟨j,by rw[List.length_set];exact a.len,⟨by rw[fB qo];exact vV l (Kept.refl (fun _=>False) _) (fun g _ d=>⟨fun c=>c,n g d⟩),hc.table.set (by rw[gB];omega) _,hc.memory.set (by rw[gB];omega) _,by rw[getD_set_ne qx];exact hc.dB,by rw[getD_set_ne qx];exact hc.dw,hc.start.set (by rw[jV];omega) _,by rw[getD_set_ne qx];exact hc.elems,by rw[getD_set_ne qx];exact hc.data⟩,by rw[getD_set_ne qx];exact a.fv,fun c=>⟨(a.fp c).1,(a.fp c).2.1.kept X (fun e=>e.elim (fun e=>(a.fp c).2.1.ne e) (fun e=>(a.fp c).2.2 e)),(a.fp c).2.2⟩,a.fc.move X b,fun c=>absurd c qo,fun _=>⟨by rw[getD_set_ne qx];exact(a.z1 qo).1,(a.z1 qo).2⟩,fun _=>a.z2 qo,fun _=>a.z3 qo,fun _=>by rw[getD_set_ne qx];exact a.z4 qo,fun _=>by rw[getD_set_ne qx];exact a.z5 qo,fun _=>by rw[getD_set_ne qx];exact a.z7 qo,fun _=>a.z8 qo,fun _=>by rw[getD_set_ne qx];exact a.z9 qo,a.f20,Dj _ _ _ qs,a.wZ⟩,fun c=>.inl ⟨c,rfl⟩⟩,X.mono (fun k _ c=>c.elim Or.inl (fun e=>Or.inr (Or.inl e)))⟩
theorem Qx(h:eu w x s Z Y)(a:oU w x Y fb ms cs p A m nx)(f:nx<=4):qC 61 #[qP x,qJ (6:Nat)] w (oP w x Y fb s m 4 Z):=by
 have hx:=h.lt;have o:=a.ob.lt;have q:¬Y=x:=a.ob.ne;have i:m.tys≠[]->fb<w.heap.size:=fun c=>(a.fp c).2.1.lt;have r:=a.len;refine(ES h a.ob qo (a.z4 f)).mono ?_;rintro e w' ⟨rfl,hI,⟨lv,j,l⟩,X⟩;have b:∀g,g<w.heap.size->Aa x Y fb m.tys g->¬(g=x\/g=Y)/\Aa x Y fb m.tys g:=fun g _ c=>⟨fun e=>e.elim (fun e=>c.1 e) (fun e=>c.2.1 e),c⟩;have n:∀g,w.heap.size<=g->Aa x Y fb m.tys g:=fun g d=>⟨qo,qo,fun c=>by have:=i c;omega⟩;have hc:=a.c.move X b;refine⟨rfl,hI,⟨fb,ms.set 12 lv,cs,p,A,⟨j,by rw[List.length_set];exact a.len,⟨by rw[getD_set_ne qx];exact hc.dm,hc.table.set (by rw[gB];omega) _,hc.memory.set (by rw[gB];omega) _,by rw[fB qo];exact vV l (Kept.refl (fun _=>False) _) (fun g _ d=>⟨fun c=>c,n g d⟩),by rw[getD_set_ne qx];exact hc.dw,hc.start.set (by rw[jV];omega) _,by rw[getD_set_ne qx];exact hc.elems,by rw[getD_set_ne qx];exact hc.data⟩,by rw[getD_set_ne qx];exact a.fv,fun c=>⟨(a.fp c).1,(a.fp c).2.1.kept X (fun e=>e.elim (fun e=>(a.fp c).2.1.ne e) (fun e=>(a.fp c).2.2 e)),(a.fp c).2.2⟩,a.fc.move X b,fun c=>absurd c qo,fun c=>absurd c qo,fun c=>absurd c qo,fun c=>absurd c qo,fun c=>absurd c qo,fun _=>by rw[getD_set_ne qx];exact a.z5 qo,fun _=>by rw[getD_set_ne qx];exact a.z7 qo,fun _=>a.z8 qo,fun _=>by rw[getD_set_ne qx];exact a.z9 qo,a.f20,a.good,a.wZ⟩,fun c=>.inl ⟨c,rfl⟩⟩,X.mono (fun k _ c=>c.elim Or.inl (fun e=>Or.inr (Or.inl e)))⟩
theorem Qy(h:eu w x s Z Y)(a:oU w x Y fb ms cs p A m nx)(f:nx<=5):qC 61 #[qP x,qJ (7:Nat)] w (oP w x Y fb s m 5 Z):=by
 have hx:=h.lt;have o:=a.ob.lt;have q:¬Y=x:=a.ob.ne;have i:m.tys≠[]->fb<w.heap.size:=fun c=>(a.fp c).2.1.lt;have r:=a.len;refine(ET h a.ob qo (a.z5 f)).mono ?_;rintro e w' ⟨rfl,hI,⟨lv,j,l⟩,X⟩;have b:∀g,g<w.heap.size->Aa x Y fb m.tys g->¬(g=x\/g=Y)/\Aa x Y fb m.tys g:=fun g _ c=>⟨fun e=>e.elim (fun e=>c.1 e) (fun e=>c.2.1 e),c⟩;have n:∀g,w.heap.size<=g->Aa x Y fb m.tys g:=fun g d=>⟨qo,qo,fun c=>by have:=i c;omega⟩;have hc:=a.c.move X b;refine⟨rfl,hI,⟨fb,ms.set 13 lv,cs,p,A,⟨j,by rw[List.length_set];exact a.len,⟨by rw[getD_set_ne qx];exact hc.dm,hc.table.set (by rw[gB];omega) _,hc.memory.set (by rw[gB];omega) _,by rw[getD_set_ne qx];exact hc.dB,by rw[fB qo];exact vV l (Kept.refl (fun _=>False) _) (fun g _ d=>⟨fun c=>c,n g d⟩),hc.start.set (by rw[jV];omega) _,by rw[getD_set_ne qx];exact hc.elems,by rw[getD_set_ne qx];exact hc.data⟩,by rw[getD_set_ne qx];exact a.fv,fun c=>⟨(a.fp c).1,(a.fp c).2.1.kept X (fun e=>e.elim (fun e=>(a.fp c).2.1.ne e) (fun e=>(a.fp c).2.2 e)),(a.fp c).2.2⟩,a.fc.move X b,fun c=>absurd c qo,fun c=>absurd c qo,fun c=>absurd c qo,fun c=>absurd c qo,fun c=>absurd c qo,fun c=>absurd c qo,fun _=>by rw[getD_set_ne qx];exact a.z7 qo,fun _=>a.z8 qo,fun _=>by rw[getD_set_ne qx];exact a.z9 qo,a.f20,a.good,a.wZ⟩,fun c=>.inl ⟨c,rfl⟩⟩,X.mono (fun k _ c=>c.elim Or.inl (fun e=>Or.inr (Or.inl e)))⟩
theorem Xn(h:eu w x s Z Y)(a:oU w x Y fb ms cs p A m nx)(f:nx<=7):qC 61 #[qP x,qJ (9:Nat)] w (oP w x Y fb s m 7 Z):=by
 have hx:=h.lt;have o:=a.ob.lt;have q:¬Y=x:=a.ob.ne;have i:m.tys≠[]->fb<w.heap.size:=fun c=>(a.fp c).2.1.lt;have r:=a.len;refine(Jk h a.ob qo (a.z7 f)).mono ?_;rintro e w' ⟨rfl,hI,⟨lv,j,l⟩,X⟩;have b:∀g,g<w.heap.size->Aa x Y fb m.tys g->¬(g=x\/g=Y)/\Aa x Y fb m.tys g:=fun g _ c=>⟨fun e=>e.elim (fun e=>c.1 e) (fun e=>c.2.1 e),c⟩;have n:∀g,w.heap.size<=g->Aa x Y fb m.tys g:=fun g d=>⟨qo,qo,fun c=>by have:=i c;omega⟩;have hc:=a.c.move X b;refine⟨rfl,hI,⟨fb,ms.set 17 lv,cs,p,A,⟨j,by rw[List.length_set];exact a.len,⟨by rw[getD_set_ne qx];exact hc.dm,hc.table.set (by rw[gB];omega) _,hc.memory.set (by rw[gB];omega) _,by rw[getD_set_ne qx];exact hc.dB,by rw[getD_set_ne qx];exact hc.dw,hc.start.set (by rw[jV];omega) _,by rw[fB qo];exact xP l (Kept.refl (fun _=>False) _) (fun g _ d=>⟨fun c=>c,n g d⟩),by rw[getD_set_ne qx];exact hc.data⟩,by rw[getD_set_ne qx];exact a.fv,fun c=>⟨(a.fp c).1,(a.fp c).2.1.kept X (fun e=>e.elim (fun e=>(a.fp c).2.1.ne e) (fun e=>(a.fp c).2.2 e)),(a.fp c).2.2⟩,a.fc.move X b,fun c=>absurd c qo,fun c=>absurd c qo,fun c=>absurd c qo,fun c=>absurd c qo,fun c=>absurd c qo,fun c=>absurd c qo,fun c=>absurd c qo,fun _=>a.z8 qo,fun _=>by rw[getD_set_ne qx];exact a.z9 qo,a.f20,a.good,a.wZ⟩,fun c=>.inl ⟨c,rfl⟩⟩,X.mono (fun k _ c=>c.elim Or.inl (fun e=>Or.inr (Or.inl e)))⟩
theorem Zv(h:eu w x s Z Y)(a:oU w x Y fb ms cs p A m nx)(f:nx<=9):qC 61 #[qP x,qJ (11:Nat)] w (oP w x Y fb s m 9 Z):=by
 have hx:=h.lt;have o:=a.ob.lt;have q:¬Y=x:=a.ob.ne;have i:m.tys≠[]->fb<w.heap.size:=fun c=>(a.fp c).2.1.lt;have r:=a.len;refine(Ll h a.ob qo (a.z9 f)).mono ?_;rintro e w' ⟨rfl,hI,⟨lv,j,l⟩,X⟩;have b:∀g,g<w.heap.size->Aa x Y fb m.tys g->¬(g=x\/g=Y)/\Aa x Y fb m.tys g:=fun g _ c=>⟨fun e=>e.elim (fun e=>c.1 e) (fun e=>c.2.1 e),c⟩;have n:∀g,w.heap.size<=g->Aa x Y fb m.tys g:=fun g d=>⟨qo,qo,fun c=>by have:=i c;omega⟩;have hc:=a.c.move X b;refine⟨rfl,hI,⟨fb,ms.set 18 lv,cs,p,A,⟨j,by rw[List.length_set];exact a.len,⟨by rw[getD_set_ne qx];exact hc.dm,hc.table.set (by rw[gB];omega) _,hc.memory.set (by rw[gB];omega) _,by rw[getD_set_ne qx];exact hc.dB,by rw[getD_set_ne qx];exact hc.dw,hc.start.set (by rw[jV];omega) _,by rw[getD_set_ne qx];exact hc.elems,by rw[fB qo];exact xP l (Kept.refl (fun _=>False) _) (fun g _ d=>⟨fun c=>c,n g d⟩)⟩,by rw[getD_set_ne qx];exact a.fv,fun c=>⟨(a.fp c).1,(a.fp c).2.1.kept X (fun e=>e.elim (fun e=>(a.fp c).2.1.ne e) (fun e=>(a.fp c).2.2 e)),(a.fp c).2.2⟩,a.fc.move X b,fun c=>absurd c qo,fun c=>absurd c qo,fun c=>absurd c qo,fun c=>absurd c qo,fun c=>absurd c qo,fun c=>absurd c qo,fun c=>absurd c qo,fun c=>absurd c qo,fun c=>absurd c qo,a.f20,a.good,a.wZ⟩,fun c=>.inl ⟨c,rfl⟩⟩,X.mono (fun k _ c=>c.elim Or.inl (fun e=>Or.inr (Or.inl e)))⟩
theorem Xj(h:eu w x s Z Y)(a:oU w x Y fb ms cs p A m nx)(t:nx<=2):qC 61 #[qP x,qJ (4:Nat)] w (oP w x Y fb s m 2 Z):=by
 have hx:=h.lt;have u:=a.ob.lt;have v:¬Y=x:=a.ob.ne;have y:m.tys≠[]->fb<w.heap.size:=fun c=>(a.fp c).2.1.lt;have z:=a.len;refine(Jg h a.ob qo).mono ?_;rintro e w' ⟨rfl,hI,d,X⟩;have f:∀g,g<w.heap.size->Aa x Y fb m.tys g->¬(g=x\/g=Y)/\Aa x Y fb m.tys g:=fun g _ c=>⟨fun e=>e.elim (fun e=>c.1 e) (fun e=>c.2.1 e),c⟩;have hc:=a.c.move X f;have i:=X.mono (S':=fun k=>k=x\/k=Y\/(m.tys≠[]/\k=fb)) (fun k _ c=>c.elim Or.inl (fun e=>Or.inr (Or.inl e)));have j:m.tys≠[]->p=some (qA fb 0)/\OB w' x fb cs/\fb≠Y:=fun c=>⟨(a.fp c).1,(a.fp c).2.1.kept X (fun e=>e.elim (fun e=>(a.fp c).2.1.ne e) (fun e=>(a.fp c).2.2 e)),(a.fp c).2.2⟩;have n:pR s 2 m Z=({m with table:=(qj s Z).1},(qj s Z).2):=rfl;unfold oP;rw[n];obtain⟨⟨o,B⟩,q⟩:=qF (qj s Z);rw[q] at hI d ⊢;simp only at hI d ⊢;cases o with
 | none=>
  have r:({m with table:=none}:RM)=m:=by have:=a.z2 qo;cases m;simp only at this;subst this;rfl
  rw[r];exact⟨trivial,hI,⟨fb,ms,cs,p,A,⟨d,a.len,hc,a.fv,j,a.fc.move X f,fun c=>absurd c qo,fun c=>absurd c qo,fun c=>absurd c qo,fun _=>a.z3 qo,fun _=>a.z4 qo,fun _=>a.z5 qo,fun _=>a.z7 qo,fun _=>a.z8 qo,fun _=>a.z9 qo,a.f20,a.good,a.wZ⟩,fun c=>.inl ⟨c,rfl⟩⟩,i⟩
 | some l=>have b:l.cells.length=5:=rfl;exact⟨trivial,hI,⟨fb,wH ms 2 l.cells,cs,p,A,⟨d,by rw[vP];exact a.len,⟨by rw[gW (by rw[b];omega) (by rw[b];omega)];exact hc.dm,uu.self (by rw[b];omega),hc.memory.all (by rw[b];omega) (by rw[b,gB];omega),by rw[gW (by rw[b];omega) (by rw[b];omega)];exact hc.dB,by rw[gW (by rw[b];omega) (by rw[b];omega)];exact hc.dw,hc.start.all (by rw[b];omega) (by rw[b,jV];omega),by rw[gW (by rw[b];omega) (by rw[b];omega)];exact hc.elems,by rw[gW (by rw[b];omega) (by rw[b];omega)];exact hc.data⟩,by rw[gW (by rw[b];omega) (by rw[b];omega)];exact a.fv,j,a.fc.move X f,fun c=>absurd c qo,fun c=>absurd c qo,fun c=>absurd c qo,fun _=>a.z3 qo,fun _=>by rw[gW (by rw[b];omega) (by rw[b];omega)];exact a.z4 qo,fun _=>by rw[gW (by rw[b];omega) (by rw[b];omega)];exact a.z5 qo,fun _=>by rw[gW (by rw[b];omega) (by rw[b];omega)];exact a.z7 qo,fun _=>a.z8 qo,fun _=>by rw[gW (by rw[b];omega) (by rw[b];omega)];exact a.z9 qo,a.f20,a.good,a.wZ⟩,fun c=>.inl ⟨c,rfl⟩⟩,i⟩
theorem TN(h:eu w x s Z Y)(a:oU w x Y fb ms cs p A m nx)(t:nx<=3):qC 61 #[qP x,qJ (5:Nat)] w (oP w x Y fb s m 3 Z):=by
 have hx:=h.lt;have u:=a.ob.lt;have v:¬Y=x:=a.ob.ne;have y:m.tys≠[]->fb<w.heap.size:=fun c=>(a.fp c).2.1.lt;have z:=a.len;refine(Gv h a.ob qo).mono ?_;rintro e w' ⟨rfl,hI,d,X⟩;have f:∀g,g<w.heap.size->Aa x Y fb m.tys g->¬(g=x\/g=Y)/\Aa x Y fb m.tys g:=fun g _ c=>⟨fun e=>e.elim (fun e=>c.1 e) (fun e=>c.2.1 e),c⟩;have hc:=a.c.move X f;have i:=X.mono (S':=fun k=>k=x\/k=Y\/(m.tys≠[]/\k=fb)) (fun k _ c=>c.elim Or.inl (fun e=>Or.inr (Or.inl e)));have j:m.tys≠[]->p=some (qA fb 0)/\OB w' x fb cs/\fb≠Y:=fun c=>⟨(a.fp c).1,(a.fp c).2.1.kept X (fun e=>e.elim (fun e=>(a.fp c).2.1.ne e) (fun e=>(a.fp c).2.2 e)),(a.fp c).2.2⟩;have n:pR s 3 m Z=({m with memory:=(ni s Z).1},(ni s Z).2):=rfl;unfold oP;rw[n];obtain⟨⟨o,B⟩,q⟩:=qF (ni s Z);rw[q] at hI d ⊢;simp only at hI d ⊢;cases o with
 | none=>
  have r:({m with memory:=none}:RM)=m:=by have:=a.z3 qo;cases m;simp only at this;subst this;rfl
  rw[r];exact⟨trivial,hI,⟨fb,ms,cs,p,A,⟨d,a.len,hc,a.fv,j,a.fc.move X f,fun c=>absurd c qo,fun c=>absurd c qo,fun c=>absurd c qo,fun c=>absurd c qo,fun _=>a.z4 qo,fun _=>a.z5 qo,fun _=>a.z7 qo,fun _=>a.z8 qo,fun _=>a.z9 qo,a.f20,a.good,a.wZ⟩,fun c=>.inl ⟨c,rfl⟩⟩,i⟩
 | some l=>have b:l.cells.length=5:=rfl;exact⟨trivial,hI,⟨fb,wH ms 7 l.cells,cs,p,A,⟨d,by rw[vP];exact a.len,⟨by rw[gW (by rw[b];omega) (by rw[b];omega)];exact hc.dm,hc.table.all (by rw[b];omega) (by rw[b,gB];omega),uu.self (by rw[b];omega),by rw[gW (by rw[b];omega) (by rw[b];omega)];exact hc.dB,by rw[gW (by rw[b];omega) (by rw[b];omega)];exact hc.dw,hc.start.all (by rw[b];omega) (by rw[b,jV];omega),by rw[gW (by rw[b];omega) (by rw[b];omega)];exact hc.elems,by rw[gW (by rw[b];omega) (by rw[b];omega)];exact hc.data⟩,by rw[gW (by rw[b];omega) (by rw[b];omega)];exact a.fv,j,a.fc.move X f,fun c=>absurd c qo,fun c=>absurd c qo,fun c=>absurd c qo,fun c=>absurd c qo,fun _=>by rw[gW (by rw[b];omega) (by rw[b];omega)];exact a.z4 qo,fun _=>by rw[gW (by rw[b];omega) (by rw[b];omega)];exact a.z5 qo,fun _=>by rw[gW (by rw[b];omega) (by rw[b];omega)];exact a.z7 qo,fun _=>a.z8 qo,fun _=>by rw[gW (by rw[b];omega) (by rw[b];omega)];exact a.z9 qo,a.f20,a.good,a.wZ⟩,fun c=>.inl ⟨c,rfl⟩⟩,i⟩
theorem Xk(h:eu w x s Z Y)(b:oU w x Y fb ms cs p A m nx)(i:nx<=6):qC 61 #[qP x,qJ (8:Nat)] w (oP w x Y fb s m 6 Z):=by
 have hx:=h.lt;have j:=b.ob.lt;have l:¬Y=x:=b.ob.ne;have n:m.tys≠[]->fb<w.heap.size:=fun c=>(b.fp c).2.1.lt;have o:=b.len;refine(Jh h b.ob qo).mono ?_;rintro e w' ⟨rfl,hI,f,X⟩;have d:∀g,g<w.heap.size->Aa x Y fb m.tys g->¬(g=x\/g=Y)/\Aa x Y fb m.tys g:=fun g _ c=>⟨fun e=>e.elim (fun e=>c.1 e) (fun e=>c.2.1 e),c⟩;have hc:=b.c.move X d;have a:[Value.bool true,qJ ((uS s Z).1:Nat),qJ Z.at_].length=3:=rfl;exact⟨rfl,hI,⟨fb,_,cs,p,A,⟨f,by rw[vP];exact b.len,⟨by rw[gW (by rw[a];omega) (by rw[a];omega)];exact hc.dm,hc.table.all (by rw[a];omega) (by rw[a,gB];omega),hc.memory.all (by rw[a];omega) (by rw[a,gB];omega),by rw[gW (by rw[a];omega) (by rw[a];omega)];exact hc.dB,by rw[gW (by rw[a];omega) (by rw[a];omega)];exact hc.dw,uu.self (by rw[a];omega),by rw[gW (by rw[a];omega) (by rw[a];omega)];exact hc.elems,by rw[gW (by rw[a];omega) (by rw[a];omega)];exact hc.data⟩,by rw[gW (by rw[a];omega) (by rw[a];omega)];exact b.fv,fun c=>⟨(b.fp c).1,(b.fp c).2.1.kept X (fun e=>e.elim (fun e=>(b.fp c).2.1.ne e) (fun e=>(b.fp c).2.2 e)),(b.fp c).2.2⟩,b.fc.move X d,fun c=>absurd c qo,fun c=>absurd c qo,fun c=>absurd c qo,fun c=>absurd c qo,fun c=>absurd c qo,fun c=>absurd c qo,fun _=>by rw[gW (by rw[a];omega) (by rw[a];omega)];exact b.z7 qo,fun _=>b.z8 qo,fun _=>by rw[gW (by rw[a];omega) (by rw[a];omega)];exact b.z9 qo,b.f20,b.good,b.wZ⟩,fun c=>.inl ⟨c,rfl⟩⟩,X.mono (fun k _ c=>c.elim Or.inl (fun e=>Or.inr (Or.inl e)))⟩
theorem Xm(h:eu w x s Z Y)(a:oU w x Y fb ms cs p A m nx)(j:nx<=1):qC 61 #[qP x,qJ (3:Nat)] w (oP w x Y fb s m 1 Z):=by
 have hx:=h.lt;have G:=a.ob.lt;have H:¬Y=x:=a.ob.ne;have I:m.tys≠[]->fb<w.heap.size:=fun c=>(a.fp c).2.1.lt;have J:=a.len;have K:=(a.z1 j).2;have q:=a.z8 qo;refine(Jj h a.ob qo (a.z1 j).1).mono ?_;rintro e w' ⟨rfl,hI,⟨lv,r,d⟩,X⟩;have n:=DF (s:=s) (Z:=Z) 20;have B:pR s 1 m Z=({m with tys:=(lQ s 20 Z).1},(lQ s 20 Z).2):=rfl;unfold oP;rw[B];obtain⟨⟨l,L⟩,C⟩:=qF (lQ s 20 Z);rw[C] at hI d n ⊢;simp only at hI d n ⊢;obtain⟨p',f,rfl⟩:=Row.form d;have t:=X.mono (S':=fun k=>k=x\/k=Y\/(m.tys≠[]/\k=fb)) (fun k _ c=>c.elim Or.inl (fun e=>Or.inr (Or.inl e)));by_cases u:l=[]
 .subst u;have o:∀g,g<w.heap.size->Aa x Y fb m.tys g->¬(g=x\/g=Y)/\Aa x Y fb [] g:=fun g _ c=>⟨fun e=>e.elim (fun e=>c.1 e) (fun e=>c.2.1 e),c.1,c.2.1,fun e=>absurd rfl e⟩;have hc:=a.c.move X o;refine⟨trivial,hI,⟨fb,ms.set 1 (.slice p' 0 f),[],p',f,⟨r,by rw[List.length_set];exact a.len,⟨by rw[getD_set_ne qx];exact hc.dm,hc.table.set (by rw[gB];omega) _,hc.memory.set (by rw[gB];omega) _,by rw[getD_set_ne qx];exact hc.dB,by rw[getD_set_ne qx];exact hc.dw,hc.start.set (by rw[jV];omega) _,by rw[getD_set_ne qx];exact hc.elems,by rw[getD_set_ne qx];exact hc.data⟩,fB qo,fun c=>absurd rfl c,?_,fun c=>absurd c qo,fun c=>absurd c qo,fun _=>a.z2 qo,fun _=>a.z3 qo,fun _=>by rw[getD_set_ne qx];exact a.z4 qo,fun _=>by rw[getD_set_ne qx];exact a.z5 qo,fun _=>by rw[getD_set_ne qx];exact a.z7 qo,fun _=>a.z8 qo,fun _=>by rw[getD_set_ne qx];exact a.z9 qo,qs,a.good,a.wZ⟩,fun c=>absurd rfl c⟩,t⟩;show iA _ _ _ _ m.ds;rw[q];exact⟨rfl,fun i ty j=>by simp at j,fun k X=>absurd X (Nat.not_lt_zero _)⟩
 have v:0<l.length:=by cases l with | nil=>exact absurd rfl u | cons _ _=>simp
 obtain⟨b,D,E,y,z,-,-⟩:=Row.cells d v;obtain⟨rfl,rfl⟩:p'=some ⟨b,0,none⟩/\f=D:=by cases E;exact⟨rfl,rfl⟩
 have o:∀g,g<w.heap.size->Aa x Y fb m.tys g->¬(g=x\/g=Y)/\Aa x Y b l g:=fun g M c=>⟨fun e=>e.elim (fun e=>c.1 e) (fun e=>c.2.1 e),c.1,c.2.1,fun _ e=>by have:w.heap.size<=b:=y;omega⟩;have hc:=a.c.move X o;have F:w.heap.size<=b:=y;refine⟨trivial,hI,⟨b,ms.set 1 (.slice (some ⟨b,0,none⟩) l.length f),l.flatMap xh,some ⟨b,0,none⟩,f,⟨r,by rw[List.length_set];exact a.len,⟨by rw[getD_set_ne qx];exact hc.dm,hc.table.set (by rw[gB];omega) _,hc.memory.set (by rw[gB];omega) _,by rw[getD_set_ne qx];exact hc.dB,by rw[getD_set_ne qx];exact hc.dw,hc.start.set (by rw[jV];omega) _,by rw[getD_set_ne qx];exact hc.elems,by rw[getD_set_ne qx];exact hc.data⟩,fB qo,fun _=>⟨rfl,⟨Row.ahz d v,z,qo⟩,qo⟩,?_,fun c=>absurd c qo,fun c=>absurd c qo,fun _=>a.z2 qo,fun _=>a.z3 qo,fun _=>by rw[getD_set_ne qx];exact a.z4 qo,fun _=>by rw[getD_set_ne qx];exact a.z5 qo,fun _=>by rw[getD_set_ne qx];exact a.z7 qo,fun _=>a.z8 qo,fun _=>by rw[getD_set_ne qx];exact a.z9 qo,n,a.good,a.wZ⟩,fun _=>.inr ⟨F,z⟩⟩,t⟩;show iA _ _ _ _ m.ds;rw[q];exact Vm l
theorem Xo(h:eu w x s Z Y)(a:oU w x Y fb ms cs p A m nx)(f:nx<=8):qC 61 #[qP x,qJ (10:Nat)] w (oP w x Y fb s m 8 Z):=by
 have hx:=h.lt;have t:=a.ob.lt;have i:¬Y=x:=a.ob.ne;have j:m.tys≠[]->fb<w.heap.size:=fun c=>(a.fp c).2.1.lt;have u:=a.len;have l:=a.z8 f;have b:=a.fc;rw[l] at b;refine(Jl h a.ob qo a.fv a.fp b.agb a.f20).mono ?_;rintro e w' ⟨rfl,hI,⟨cs',n,o⟩,X⟩;have q:∀g,g<w.heap.size->Aa x Y fb m.tys g->¬(g=x\/(m.tys≠[]/\g=fb))/\Aa x Y fb m.tys g:=fun g _ c=>⟨fun e=>e.elim (fun e=>c.1 e) (fun e=>c.2.2 e.1 e.2),c⟩;have r:∀g,w.heap.size<=g->Aa x Y fb m.tys g:=fun g d=>⟨qo,qo,fun c=>by have:=j c;omega⟩;have hc:=a.c.move X q;exact⟨rfl,hI,⟨fb,ms,cs',p,A,⟨a.ob.kept X (fun e=>e.elim (fun e=>i e) (fun e=>(a.fp e.1).2.2 e.2.symm)),a.len,⟨hc.dm,hc.table,hc.memory,hc.dB,hc.dw,hc.start,hc.elems,hc.data⟩,a.fv,fun c=>⟨(a.fp c).1,n c,(a.fp c).2.2⟩,o.move (Kept.refl (fun _=>False) _) (fun g _ d=>⟨fun c=>c,r g d⟩),fun c=>absurd c qo,fun c=>absurd c qo,fun c=>absurd c qo,fun c=>absurd c qo,fun c=>absurd c qo,fun c=>absurd c qo,fun c=>absurd c qo,fun c=>absurd c qo,fun _=>a.z9 qo,a.f20,a.good,En _ _ _ qs⟩,fun c=>.inl ⟨c,rfl⟩⟩,X.mono (fun k _ c=>c.elim Or.inl (fun e=>Or.inr (Or.inr e)))⟩
theorem Xl(h:eu w x s Z Y)(a:oU w x Y fb ms cs p A m nx)(i:m.ds.length=m.tys.length):qC 61 #[qP x,qJ (0:Nat)] w (oP w x Y fb s m 10 Z):=by
 have hx:=h.lt;have r:=a.ob.lt;have j:¬Y=x:=a.ob.ne;have t:m.tys≠[]->fb<w.heap.size:=fun c=>(a.fp c).2.1.lt;have u:=a.len;obtain⟨F,v,b⟩:∃F,F≠Y/\(m.tys≠[]->F=fb)/\(∀g,g<w.heap.size->Aa x Y fb m.tys g->g≠F):=by
  by_cases hc:m.tys=[]
  .exact⟨w.heap.size,qo,fun c=>absurd hc c,fun g d _=>qo⟩
  exact⟨fb,(a.fp hc).2.2,fun _=>rfl,fun g _ c=>c.2.2 hc⟩
 have l:isRow 83 2 iG (fun g=>g≠x/\g≠F) m.dm w (ms.getD 0 undef):=Row.mono a.c.dm (fun g d c=>⟨c.1,b.2 g d c⟩);refine(Ji (fb:=F) h a.ob qo rfl l a.fv (fun c=>by rw[b.1 c];exact a.fp c) a.fc i a.f20 (afS a.good a.wZ)).mono ?_;rintro e w' ⟨rfl,hI,⟨cs',n,o⟩,q⟩;have X:Kept (fun k=>k=x\/(m.tys≠[]/\k=fb)) w w':=q.mono (fun k _ c=>c.elim Or.inl (fun e=>Or.inr ⟨e.1,e.2.trans (b.1 e.1)⟩));have f:∀g,g<w.heap.size->Aa x Y fb m.tys g->¬(g=x\/(m.tys≠[]/\g=fb))/\Aa x Y fb m.tys g:=fun g _ c=>⟨fun e=>e.elim (fun e=>c.1 e) (fun e=>c.2.2 e.1 e.2),c⟩;have hc:=a.c.move X f;exact⟨rfl,hI,⟨fb,ms,cs',p,A,⟨a.ob.kept X (fun e=>e.elim (fun e=>j e) (fun e=>(a.fp e.1).2.2 e.2.symm)),a.len,hc,a.fv,fun c=>⟨(a.fp c).1,by have:=o c;rw[b.1 c] at this;exact this,(a.fp c).2.2⟩,(a.fc.move X f).agr n,fun c=>absurd c qo,fun c=>absurd c qo,fun c=>absurd c qo,fun c=>absurd c qo,fun c=>absurd c qo,fun c=>absurd c qo,fun c=>absurd c qo,fun c=>absurd c qo,fun c=>absurd c qo,a.f20,a.good,a.wZ⟩,fun c=>.inl ⟨c,rfl⟩⟩,X.mono (fun k _ c=>c.elim Or.inl (fun e=>Or.inr (Or.inr e)))⟩
theorem abL{i:Nat}(b:8<=i)(h11:i<11)(hb:(pR s i m Z).2.bad=none)(a:8<i->m.ds.length=m.tys.length):(pR s i m Z).1.ds.length=(pR s i m Z).1.tys.length:=by
 have:i=8\/i=9\/i=10:=qo;rcases this with rfl | rfl | rfl
 .exact Ym hb
 .exact a qo
 exact a qo
theorem OY{i:Nat}(h:eu w x s Z Y)(a:oU w x Y fb ms cs p A m nx)(b:nx<=i)(h11:i<11)(c:i=10->m.ds.length=m.tys.length):qC 61 #[qP x,qJ ((uq.getD i 0:Nat):Int)] w (oP w x Y fb s m i Z):=by
 have:i=0\/i=1\/i=2\/i=3\/i=4\/i=5\/i=6\/i=7\/i=8\/i=9\/i=10:=qo;rcases this with rfl | rfl | rfl | rfl | rfl | rfl | rfl | rfl | rfl | rfl | rfl
 .exact Xi h a b
 .exact Xm h a b
 .exact Xj h a b
 .exact TN h a b
 .exact Qx h a b
 .exact Qy h a b
 .exact Xk h a b
 .exact Xn h a b
 .exact Xo h a b
 .exact Zv h a b
 exact Xl h a (c rfl)
end
def magic:List Nat:=[0,97,115,109,1,0,0,0]
def zm(b:Nat):Nat->Nat->Nat
 | 0,i=>i
 | f+1,i=>if i<11/\uq.getD i 0≠b then zm b f (i+1) else i
def lq(b nx:Nat):Nat:=zm b (11 - nx) nx
def jZ(s:qS):Nat->Nat->RM->RS->Nat×RM×RS
 | 0,nx,m,Z=>(nx,m,Z)
 | f+1,nx,m,Z=>if Z.bad≠none\/s.size<=Z.at_ then(nx,m,Z)
  else if lq (dO s Z).1 nx=11\/(nx<=8/\8<lq (dO s Z).1 nx/\0<m.tys.length) then(nx,m,dL (dO s Z).2 Z.at_)
  else jZ s f (lq (dO s Z).1 nx+1) (pR s (lq (dO s Z).1 nx) m (eP s (dO s Z).2).2).1 (gV (eP s (dO s Z).2).1.1 (eP s (dO s Z).2).1.2 (pR s (lq (dO s Z).1 nx) m (eP s (dO s Z).2).2).2)
def pW(s:qS):Nat×RM×RS:=jZ s 12 0 RM.none (lV s magic ⟨0,s.size,none⟩)
def dR(s:qS):RM×RS:=
 ((pW s).2.1,if(pW s).1<=8/\0<(pW s).2.1.tys.length then dL (pW s).2.2 s.size else(pW s).2.2)
section
variable {s:qS} {Z:RS}
theorem Ke(b:Nat):(gY s b Z).end_=Z.end_:=(Az b).1
theorem NV:∀(k:Nat) (M:qS) (Z:RS),(kI s k M Z).2.end_=Z.end_
 | 0,_,_=>rfl
 | k+1,M,Z=>by
  unfold kI;split
  .rfl
  exact(NV k _ _).trans AA.1
theorem Wv(most:Nat):(nU s most Z).2.end_=Z.end_:=(NV _ _ _).trans (mG most).1
theorem NU:∀(k:Nat) (M:List (qS×qS)) (Z:RS),(mX s k M Z).2.end_=Z.end_
 | 0,_,_=>rfl
 | k+1,M,Z=>by
  unfold mX;split
  .rfl
  exact(NU k _ _).trans ((Wv 4).trans ((Wv 8).trans (Ke 96)))
theorem RZ:(jG s Z).2.end_=Z.end_:=by
 have L:(if 1<(dO s Z).1 then dL (dO s Z).2 Z.at_ else(dO s Z).2).end_=Z.end_:=by
  split
  .exact(tZ _).trans vX
  exact vX
 unfold jG;simp only;split
 .exact qa.1.trans (qa.1.trans L)
 exact qa.1.trans L
theorem e_table:(qj s Z).2.end_=Z.end_:=by
 unfold qj;split
 .exact RZ.trans ((Ke 112).trans (mG 1).1)
 exact(mG 1).1
theorem aay:(ni s Z).2.end_=Z.end_:=by
 unfold ni;split
 .exact RZ.trans (mG 1).1
 exact(mG 1).1
theorem PO:(jS s Z).2.end_=Z.end_:=by
 unfold jS;repeat(first | exact(Az _).1.trans ((SA _ _ _ _).1.trans oN.1) | exact(Az _).1.trans ((tZ _).trans oN.1) | split)
theorem Gi:∀(k:Nat) (M:List sJ) (Z:RS),(lK s k M Z).2.end_=Z.end_
 | 0,_,_=>rfl
 | k+1,M,Z=>by
  unfold lK;split
  .rfl
  refine(Gi k _ _).trans ?_;unfold BL;simp only;refine PO.trans ?_;split
  .exact(tZ _).trans (vX.trans AA.1)
  exact vX.trans AA.1
theorem Gj:∀(k:Nat) (M:List qc) (Z:RS),(lN s k M Z).2.end_=Z.end_
 | 0,_,_=>rfl
 | k+1,M,Z=>by
  unfold lN;split
  .rfl
  refine(Gj k _ _).trans ?_;unfold LK;simp only;refine qa.1.trans ?_;have h4:(if kF (fH s 0 20 Z).1 0=true then(fH s 0 20 Z).2 else dL (fH s 0 20 Z).2 Z.at_).end_=Z.end_:=by
   split
   .exact(y7 0 20).1
   exact(tZ _).trans (y7 0 20).1
  generalize (if kF (fH s 0 20 Z).1 0=true then(fH s 0 20 Z).2 else dL (fH s 0 20 Z).2 Z.at_)=KU at*;split
  .exact(tZ _).trans (vX.trans h4)
  exact vX.trans h4
theorem NW:∀(k:Nat) (M:List lJ) (Z:RS),(pF s k M Z).2.end_=Z.end_
 | 0,_,_=>rfl
 | k+1,M,Z=>by
  unfold pF;split
  .rfl
  exact(NW k _ _).trans ((KG 20).1.trans (PO.trans (Ke 0)))
theorem R5:∀(k:Nat) (M:List lJ) (Z:RS),(sU s k M Z).2.end_=Z.end_
 | 0,_,_=>rfl
 | k+1,M,Z=>by
  unfold sU;split
  .rfl
  exact(R5 k _ _).trans ((y7 0 100).1.trans (PO.trans (Ke 0)))
theorem NY:∀(k:Nat) (M:List xY) (Z:RS),(jC s k M Z).2.end_=Z.end_
 | 0,_,_=>rfl
 | k+1,M,Z=>by
  unfold jC;split
  .rfl
  refine(NY k _ _).trans ?_;show(eP s Z).1.1=Z.end_;exact rE
theorem acN(nf:Nat):(mP s nf Z).2.end_=Z.end_:=by
 refine(NY _ _ _).trans ?_;split
 .exact(mG 20).1
 exact(tZ _).trans (mG 20).1
theorem PN:∀(l:qM) (Z:RS),(lV s l Z).end_=Z.end_
 | [],_=>rfl
 | b::l,Z=>(PN l (gY s b Z)).trans (Ke b)
theorem acM(nf:Nat)(kn:Nat->Nat):(oC s nf kn Z).end_=Z.end_:=by
 have a:∀Z:RS,(sQ s nf Z).end_=Z.end_:=by
  intro Z;unfold sQ;split
  .show(eP s {Z with at_:=Z.at_+1}).1.1=Z.end_;exact rE
  rfl
 have b:∀Z:RS,(xm s nf kn Z).end_=Z.end_:=by
  intro Z;unfold xm;split
  .show(eP s {Z with at_:=Z.at_+1}).1.1=Z.end_;exact rE
  rfl
 exact(b _).trans ((a _).trans (PN _ _))
theorem af8(i:Nat)(m:RM):(pR s i m Z).2.end_=Z.end_:=by
 unfold pR;split
 .exact(NU _ _ _).trans (mG 20).1
 split
 .exact(KG 20).1
 split
 .exact e_table
 split
 .exact aay
 split
 .exact(Gi _ _ _).trans (mG 10).1
 split
 .exact(Gj _ _ _).trans (mG 20).1
 split
 .exact qa.1
 split
 .exact(NW _ _ _).trans (mG 5).1
 split
 .exact acN _
 split
 .exact(R5 _ _ _).trans (mG 10).1
 exact acM _ _
theorem NQ(b:Nat):∀(f i:Nat),i<=11->i<=zm b f i/\zm b f i<=11
 | 0,i,h=>⟨qR,h⟩
 | f+1,i,h=>by
  unfold zm;split
  .rename_i hc;have:=NQ b f (i+1) qo;omega
  exact⟨qR,h⟩
theorem Ua{W:qW}{g j:Nat}(h:kY W g [qJ 1,qJ 3,qJ 4,qJ 5,qJ 6,qJ 7,qJ 8,qJ 9,qJ 10,qJ 11,qJ 0])(X:j<11):W.cell? (qA g j)=some (qJ ((uq.getD j 0:Nat):Int)):=by
 have:j=0\/j=1\/j=2\/j=3\/j=4\/j=5\/j=6\/j=7\/j=8\/j=9\/j=10:=qo;rcases this with rfl | rfl | rfl | rfl | rfl | rfl | rfl | rfl | rfl | rfl | rfl<;>exact(h _ qs).1
theorem Uo{W:qW}{g k:Nat}(h:kY W g [qJ 0,qJ 97,qJ 115,qJ 109,qJ 1,qJ 0,qJ 0,qJ 0])(X:k<8):W.cell? (qA g k)=some (qJ ((magic.getD k 0:Nat):Int)):=by
 have:k=0\/k=1\/k=2\/k=3\/k=4\/k=5\/k=6\/k=7:=qo;rcases this with rfl | rfl | rfl | rfl | rfl | rfl | rfl | rfl<;>exact(h _ qs).1
theorem Un{k:Nat}(X:k<8):lV s (magic.take (k+1)) Z=gY s (magic.getD k 0) (lV s (magic.take k) Z):=by
 have:k=0\/k=1\/k=2\/k=3\/k=4\/k=5\/k=6\/k=7:=qo;rcases this with rfl | rfl | rfl | rfl | rfl | rfl | rfl | rfl<;>rfl
theorem UH{a b:Nat}(h:(gV a b Z).bad=none):Z.bad=none:=by
 unfold gV at h;simp only at h;split at h
 .exact h
 exact absurd h (jO _)
end
section
variable {w w':qW} {x Y fb:Nat} {s:qS} {Z:RS}
theorem mod_zero{b:Nat}(d:OB w x Y [qN,qN,.bool false,.bool false,qJ 0,qJ 0,qJ 0,.bool false,.bool false,qJ 0,qJ 0,qJ 0,qN,qN,.bool false,qJ 0,qJ 0,qN,qN]):oU w x Y b [qN,qN,.bool false,.bool false,qJ 0,qJ 0,qJ 0,.bool false,.bool false,qJ 0,qJ 0,qJ 0,qN,qN,.bool false,qJ 0,qJ 0,qN,qN] [] none 0 RM.none 0:=by
 refine⟨d,rfl,⟨Row.nil _ _ _ _,?_,?_,Row.nil _ _ _ _,Row.nil _ _ _ _,?_,⟨[],Row.nil _ _ _ _,trivial⟩,⟨[],Row.nil _ _ _ _,trivial⟩⟩,rfl,fun c=>absurd rfl c,⟨rfl,fun i ty e=>by simp[RM.none] at e,fun k X=>absurd X (Nat.not_lt_zero _)⟩,fun _=>rfl,fun _=>⟨rfl,rfl⟩,fun _=>rfl,fun _=>rfl,fun _=>rfl,fun _=>rfl,fun _=>rfl,fun _=>rfl,fun _=>rfl,by simp[RM.none],fun t a=>by simp[RM.none] at a,fun t a=>by simp[RM.none] at a⟩
 .exact ad8
 .exact ad8
 intro j hj;have:j=0\/j=1\/j=2:=by simp[RM.none,qm] at hj;omega
 rcases this with rfl | rfl | rfl<;>rfl
theorem oU.kept'{S:qD}{a cs:qV}{p:qO}{A b:Nat}{m:RM}(h:oU w x Y fb a cs p A m b)(X:Kept S w w')(d:∀g,S g->g=x\/w.heap.size<=g):oU w' x Y fb a cs p A m b:=by
 have f:∀g,g<w.heap.size->Aa x Y fb m.tys g->¬S g/\Aa x Y fb m.tys g:=fun g j c=>⟨fun e=>(d g e).elim (fun e=>c.1 e) (fun e=>qo),c⟩;have i:∀g,g<w.heap.size->g≠x->¬S g:=fun g j hx e=>(d g e).elim (fun e=>hx e) (fun e=>qo);exact⟨h.ob.kept X (i Y h.ob.lt h.ob.ne),h.len,h.c.move X f,h.fv,fun c=>⟨(h.fp c).1,(h.fp c).2.1.kept X (i fb (h.fp c).2.1.lt (h.fp c).2.1.ne),(h.fp c).2.2⟩,h.fc.move X f,h.z0,h.z1,h.z2,h.z3,h.z4,h.z5,h.z7,h.z8,h.z9,h.f20,h.good,h.wZ⟩
end
section
variable {w w':qW} {s:qS}
theorem Kg:∀(f a:Nat) (m:RM) {g:Nat} {Z:RS},12 - a<=f/\a<=11->12 - a<=g->jZ s f a m Z=jZ s g a m Z
 | 0,a,m,g,Z,hf,hg=>qo
 | f+1,a,m,g,Z,hf,hg=>by
  obtain⟨g,rfl⟩:∃g',g=g'+1:=⟨g - 1,qo⟩;rw[jZ,jZ];split
  .rfl
  split
  .rfl
  rename_i hc;have U:=NQ (dO s Z).1 (11 - a) a hf.2;have L:lq (dO s Z).1 a≠11:=fun c=>hc (.inl c);unfold lq at L ⊢;exact Kg f _ _ qo qo
theorem QJ(hs:s.size<=5000):qC 36 #[.string s] w fun e w'=>∃x Y fb ms cs p A nx,e=.returned (.tuple #[qP Y,qJ (gX (dR s).2.bad)])/\oU w' x Y fb ms cs p A (dR s).1 nx/\((dR s).2.bad=none->(dR s).1.ds.length=(dR s).1.tys.length)/\qK w w':=by
 go_enter func36,ntmps36;have aA:OB (w.alloc (.cells #[qN,qN,.bool false,.bool false,qJ 0,qJ 0,qJ 0,.bool false,.bool false,qJ 0,qJ 0,qJ 0,qN,qN,.bool false,qJ 0,qJ 0,qN,qN] 40)) (w.heap.size+1) w.heap.size [qN,qN,.bool false,.bool false,qJ 0,qJ 0,qJ 0,.bool false,.bool false,qJ 0,qJ 0,qJ 0,qN,qN,.bool false,qJ 0,qJ 0,qN,qN]:=⟨kY.new' rfl,qs,qo⟩;have aB:kY ((w.alloc (.cells #[qN,qN,.bool false,.bool false,qJ 0,qJ 0,qJ 0,.bool false,.bool false,qJ 0,qJ 0,qJ 0,qN,qN,.bool false,qJ 0,qJ 0,qN,qN] 40)).alloc (.cells #[.string s,qJ 0,qJ s.size,qJ (-1),qP w.heap.size] 114)) (w.heap.size+1) [.string s,qJ 0,qJ s.size,qJ (-1),qP w.heap.size]:=kY.new' qs;have aC:eu ((w.alloc (.cells #[qN,qN,.bool false,.bool false,qJ 0,qJ 0,qJ 0,.bool false,.bool false,qJ 0,qJ 0,qJ 0,qN,qN,.bool false,qJ 0,qJ 0,qN,qN] 40)).alloc (.cells #[.string s,qJ 0,qJ s.size,qJ (-1),qP w.heap.size] 114)) (w.heap.size+1) s ⟨0,s.size,none⟩ w.heap.size:=⟨aB,qZ,qR,hs,fun p hp=>by cases hp⟩;have B:=aA.alloc (.cells #[.string s,qJ 0,qJ s.size,qJ (-1),qP w.heap.size] 114);have aD:qK w ((w.alloc (.cells #[qN,qN,.bool false,.bool false,qJ 0,qJ 0,qJ 0,.bool false,.bool false,qJ 0,qJ 0,qJ 0,qN,qN,.bool false,qJ 0,qJ 0,qN,qN] 40)).alloc (.cells #[.string s,qJ 0,qJ s.size,qJ (-1),qP w.heap.size] 114)):=(qr.alloc _).alloc _;have C:=hide aC;have G:=hide B;have ae:=hide aD;have H:((w.alloc (.cells #[qN,qN,.bool false,.bool false,qJ 0,qJ 0,qJ 0,.bool false,.bool false,qJ 0,qJ 0,qJ 0,qN,qN,.bool false,qJ 0,qJ 0,qN,qN] 40)).alloc (.cells #[.string s,qJ 0,qJ s.size,qJ (-1),qP w.heap.size] 114)).heap.size=w.heap.size+2:=qs;clear aA aB aC B aD;go_wp2;obtain⟨Y,af⟩:=qE w.heap.size;obtain⟨x,ag⟩:=qE (Y+1);obtain⟨I,ah⟩:=qE (Y+2);rw[<-af] at C G ae H ⊢;rw[<-ag] at C G ⊢;rw[<-ah] at H ⊢;have aE:=hide af;have aF:=hide ag;have br:=hide ah;clear af ag ah;generalize ((w.alloc (.cells #[qN,qN,.bool false,.bool false,qJ 0,qJ 0,qJ 0,.bool false,.bool false,qJ 0,qJ 0,qJ 0,qN,qN,.bool false,qJ 0,qJ 0,qN,qN] 40)).alloc (.cells #[.string s,qJ 0,qJ s.size,qJ (-1),qP Y] 114))=w2 at*;have oH:OB (w2.alloc (.cells #[qJ 0,qJ 97,qJ 115,qJ 109,qJ 1,qJ 0,qJ 0,qJ 0] 3)) x I [qJ 0,qJ 97,qJ 115,qJ 109,qJ 1,qJ 0,qJ 0,qJ 0]:=OB.new (c:= #[qJ 0,qJ 97,qJ 115,qJ 109,qJ 1,qJ 0,qJ 0,qJ 0]) (t:=3) C.o.lt H.symm;have aG:=C.o.alloc (.cells #[qJ 0,qJ 97,qJ 115,qJ 109,qJ 1,qJ 0,qJ 0,qJ 0] 3);have B:=G.o.alloc (.cells #[qJ 0,qJ 97,qJ 115,qJ 109,qJ 1,qJ 0,qJ 0,qJ 0] 3);have aH:=ae.o.alloc (.cells #[qJ 0,qJ 97,qJ 115,qJ 109,qJ 1,qJ 0,qJ 0,qJ 0] 3);have bX:w.heap.size<x:=by have a1:=aE.o;have a2:=aF.o;omega
 have bY:w.heap.size<=Y:=by have a1:=aE.o;omega
 have bZ:x<I/\Y<I:=by have a1:=aF.o;have a2:=br.o;omega
 clear C G ae H;go_loopw [6] (fun q wr=>∃k:Nat,k<=8/\q=qJ k/\eu wr x s (lV s (magic.take k) ⟨0,s.size,none⟩) Y/\OB wr x Y [qN,qN,.bool false,.bool false,qJ 0,qJ 0,qJ 0,.bool false,.bool false,qJ 0,qJ 0,qJ 0,qN,qN,.bool false,qJ 0,qJ 0,qN,qN]/\OB wr x I [qJ 0,qJ 97,qJ 115,qJ 109,qJ 1,qJ 0,qJ 0,qJ 0]/\qK w wr) (fun q _=>8 - (intOf q).toNat)
 case atStart=>exact⟨0,qo,rfl,aG,B,oH,aH⟩
 obtain⟨k,b0,rfl,hI,K,L,X⟩:=hrel;clear oH aG B aH;have lH:=L.lt;by_cases M:k<8
 .have ai:(k:Int)<8:=qo;have N:=Uo L.blk M;have D:=hide (Un (s:=s) (Z:=⟨0,s.size,none⟩) M);generalize magic.getD k 0=nb at*;go_wp2_with fail
  refine(nP hI nb).mono ?_;rintro e w3 ⟨rfl,aI,aj⟩;have bs:qh (eu w3 x s (lV s (magic.take (k+1)) ⟨0,s.size,none⟩) Y):=by show eu _ _ _ _ _;rw[D.o];exact aI
  clear aI D N;go_wp2;go_roundw
  case rel=>exact⟨k+1,qo,by go_num,bs.o,K.call aj,L.call aj,X.fresh aj (fun i hi (c:i=x)=>absurd hi qo)⟩
  simp[intOf];omega
 have aJ:k=8:=qo;have HE:qh (pW s=jZ s 12 0 RM.none (lV s (magic.take k) ⟨0,s.size,none⟩)):=by rw[aJ];rfl
 have aK:qh ((lV s (magic.take k) ⟨0,s.size,none⟩).end_=s.size):=PN _ _;have ai:¬(k:Int)<8:=qo;generalize lV s (magic.take k) ⟨0,s.size,none⟩=bu at*;clear aJ M L lH;have aL:=mod_zero (b:=0) K;have oO:OB (wr.alloc (.cells #[qJ 1,qJ 3,qJ 4,qJ 5,qJ 6,qJ 7,qJ 8,qJ 9,qJ 10,qJ 11,qJ 0] 3)) x wr.heap.size [qJ 1,qJ 3,qJ 4,qJ 5,qJ 6,qJ 7,qJ 8,qJ 9,qJ 10,qJ 11,qJ 0]:=OB.new (c:= #[qJ 1,qJ 3,qJ 4,qJ 5,qJ 6,qJ 7,qJ 8,qJ 9,qJ 10,qJ 11,qJ 0]) (t:=3) hI.lt rfl;have aM:=hI.alloc (.cells #[qJ 1,qJ 3,qJ 4,qJ 5,qJ 6,qJ 7,qJ 8,qJ 9,qJ 10,qJ 11,qJ 0] 3);have aN:=aL.kept' ((Kept.refl (fun _=>False) wr).alloc (.cells #[qJ 1,qJ 3,qJ 4,qJ 5,qJ 6,qJ 7,qJ 8,qJ 9,qJ 10,qJ 11,qJ 0] 3)) (fun _ c=>c.elim);have aO:=X.alloc (.cells #[qJ 1,qJ 3,qJ 4,qJ 5,qJ 6,qJ 7,qJ 8,qJ 9,qJ 10,qJ 11,qJ 0] 3);have bv:Y<wr.heap.size:=K.lt;have aP:=X.size;have aQ:=hide aN;clear aL hI K X aN;go_wp2;obtain⟨E,ak⟩:=qE wr.heap.size;rw[<-ak] at bv oO aP ⊢;have b1:=hide ak;clear ak;go_loopw [8] (fun q O=>∃(nx:Nat) (m:RM) (J:RS) (fb:Nat) (ms cs:qV) (p:qO) (A:Nat),nx<=11/\q=qJ nx/\eu O x s J Y/\oU O x Y fb ms cs p A m nx/\OB O x E [qJ 1,qJ 3,qJ 4,qJ 5,qJ 6,qJ 7,qJ 8,qJ 9,qJ 10,qJ 11,qJ 0]/\(m.tys≠[]->E<fb)/\qK w O/\J.end_=s.size/\pW s=jZ s (12 - nx) nx m J/\(J.bad=none->8<nx->m.ds.length=m.tys.length)) (fun q _=>12 - (intOf q).toNat)
 case atStart=>exact⟨0,RM.none,bu,0,[qN,qN,.bool false,.bool false,qJ 0,qJ 0,qJ 0,.bool false,.bool false,qJ 0,qJ 0,qJ 0,qN,qN,.bool false,qJ 0,qJ 0,qN,qN],[],none,0,qo,rfl,aM,aQ.o,oO,fun c=>absurd rfl c,aO,aK.o,HE.o,fun _ c=>absurd c qo⟩
 obtain⟨nx,m,J,fb,ms,cs,p,A,bw,rfl,a,aR,aS,aT,f,aU,aV,aW⟩:=hrel;have F:=hide aV;have aX:=hide aU;have Q:=hide aW;have R:=hide aR;have am:=hide aT;have bz:=HE;clear aV aU aW aR aT HE aK aQ oO aM aO bz;have b2:=a.lt;have hat:=fP a;obtain⟨-,⟨I1,J1⟩,-,⟨I3,J3⟩,-⟩:=a.blk.five;by_cases hb:J.bad=none
 .rw[show gX J.bad= -1 by rw[hb];rfl] at I3;by_cases M:J.at_<s.size
  .have ai:(J.at_:Int)<(s.size:Int):=qo;have D:qh (pW s=if lq (dO s J).1 nx=11\/(nx<=8/\8<lq (dO s J).1 nx/\0<m.tys.length) then(nx,m,dL (dO s J).2 J.at_) else jZ s (12 - (nx+1)) (lq (dO s J).1 nx+1) (pR s (lq (dO s J).1 nx) m (eP s (dO s J).2).2).1 (gV (eP s (dO s J).2).1.1 (eP s (dO s J).2).1.2 (pR s (lq (dO s J).1 nx) m (eP s (dO s J).2).2).2)):=by
    show _=_;rw[F.o,show 12 - nx=12 - (nx+1)+1 by omega,jZ,if_neg (by rintro(c | c);exact c hb;omega)]
   have bA:qh (8<nx->m.ds.length=m.tys.length):=Q.o hb;clear F hb Q;go_wp2_with fail
   refine(o5 a).mono ?_;rintro e w4 ⟨rfl,LC,S⟩;have oO4:=aS.call S;have HM4:=hide (R.o.kept' S (fun g (c:g=x)=>.inl c));have hK4:=f.fresh S (fun i hi (c:i=x)=>absurd hi qo);obtain⟨⟨b,st1⟩,T⟩:=qF (dO s J);have agU:qh (st1.end_=s.size):=by show _=_;rw[<-show(dO s J).2=st1 by rw[T],vX];exact aX.o
   rw[T] at LC ⊢;have U:qh (pW s=if lq b nx=11\/(nx<=8/\8<lq b nx/\0<m.tys.length) then(nx,m,dL st1 J.at_) else jZ s (12 - (nx+1)) (lq b nx+1) (pR s (lq b nx) m (eP s st1).2).1 (gV (eP s st1).1.1 (eP s st1).1.2 (pR s (lq b nx) m (eP s st1).2).2)):=by show _=_;rw[D.o,T]
   simp only at LC ⊢;clear T D aX a I1 J1 I3 J3 S aS R f;have b3:=oO4.lt;go_wp2;go_loop [11] (fun q=>∃j:Nat,nx<=j/\j<=11/\q=qJ j/\lq b nx=zm b (11 - j) j) (fun q=>11 - (intOf q).toNat)
   case atStart=>exact⟨nx,qR,bw,rfl,rfl⟩
   obtain⟨j,bB,b4,rfl,aY⟩:=hrel;have r:=hide aY;clear aY;by_cases V:j<11
   .have bC:(j:Int)<11:=qo;have N:=Ua oO4.blk V;by_cases v:uq.getD j 0=b
    .have y:qh (lq b nx=j):=by
      show _=_;rw[r.o,show 11 - j=11 - (j+1)+1 by omega,zm,if_neg (by simp only[v];omega)]
     have aa:qh (pW s=if nx<=8/\8<j/\0<m.tys.length then(nx,m,dL st1 J.at_) else jZ s (12 - (nx+1)) (j+1) (pR s j m (eP s st1).2).1 (gV (eP s st1).1.1 (eP s st1).1.2 (pR s j m (eP s st1).2).2)):=by
      show _=_;rw[U.o,y.o];by_cases hc:nx<=8/\8<j/\0<m.tys.length
      .rw[if_pos (.inr hc),if_pos hc]
      rw[if_neg (fun c=>c.elim (fun e=>qo) hc),if_neg hc]
     have an:=hide v;rw[v] at N;have aZ:((j:Int)==11)=false:=by simp;omega
     have ab:=HM4.o;have ao:=ab.ob;obtain⟨T1,U1⟩:=ao.cell (k:=1) (by rw[ab.len];omega) ab.fv;have bD:=ao.lt;obtain⟨-,-,-,-,⟨T4,U4⟩⟩:=LC.blk.five;have bE:=LC.lt;clear v r U y ab ao;go_upto_region 15 with fail
     go_cut [92] from 70 to 92 (fun u W=>u=.bool (decide (nx<=8/\8<j/\0<m.tys.length))/\w4=W)
     case first=>
      by_cases c1:nx<=8
      .have bF:(nx:Int)<=8:=qo;by_cases c2:8<j
       .have bG:(8:Int)<(j:Int):=qo;by_cases c3:0<m.tys.length
        .have n:qh (decide (nx<=8/\8<j/\0<m.tys.length)=true):=by show _=_;rw[decide_eq_true_iff];exact⟨c1,c2,c3⟩
         clear c1 c2;go_wp2;go_meet;exact⟨by rw[n.o],rfl⟩
        have b5:decide (0<m.tys.length)=false:=by rw[decide_eq_false_iff_not];exact c3
        have n:qh (decide (nx<=8/\8<j/\0<m.tys.length)=false):=by show _=_;rw[decide_eq_false_iff_not];exact fun c=>c3 c.2.2
        clear c1 c2 c3;go_wp2;go_meet;exact⟨by rw[n.o],rfl⟩
       have bG:¬(8:Int)<(j:Int):=qo;have n:qh (decide (nx<=8/\8<j/\0<m.tys.length)=false):=by show _=_;rw[decide_eq_false_iff_not];exact fun c=>c2 c.2.1
       clear c1 c2;go_wp2;go_meet;exact⟨by rw[n.o],rfl⟩
      have bF:¬(nx:Int)<=8:=qo;have n:qh (decide (nx<=8/\8<j/\0<m.tys.length)=false):=by show _=_;rw[decide_eq_false_iff_not];exact fun c=>c1 c.1
      clear c1;go_wp2;go_meet;exact⟨by rw[n.o],rfl⟩
     case rest=>
     obtain⟨rfl,rfl⟩:=hcut;obtain⟨bb,ap⟩:=qF (decide (nx<=8/\8<j/\0<m.tys.length));rw[ap];have ac:=hide ap;clear ap N aZ T1 U1 T4 U4 bD bE;cases bb with
     | true=>
      have Hg:qh (pW s=(nx,m,dL st1 J.at_)):=by show _=_;rw[aa.o,if_pos (of_decide_eq_true ac.o)]
      clear aa ac an;exact Zz3
     | false=>
      have aq:=of_decide_eq_false ac.o;have a0:qh (pW s=jZ s (12 - (nx+1)) (j+1) (pR s j m (eP s st1).2).1 (gV (eP s st1).1.1 (eP s st1).1.2 (pR s j m (eP s st1).2).2)):=by show _=_;rw[aa.o,if_neg aq]
      have a5:8<j->m.ds.length=m.tys.length:=by
       intro bH;by_cases c8:8<nx
       .exact bA.o c8
       have a1:=HM4.o.z8 qo;have a2:¬0<m.tys.length:=fun c=>aq ⟨qo,bH,c⟩;rw[a1];simp only[List.length_nil];omega
      have ar:=hide a5;have a6:=Bo (s:=s) (Z:=st1);have a7:=rE (s:=s) (Z:=st1);have a8:=af8 (s:=s) (Z:=(eP s st1).2) j m;have a9:=hide a6;have ba:=hide a7;have bc:=hide a8;clear aa ac aq a5 a6 a7 a8;go_wp2_with fail
      refine(ze LC).mono ?_;rintro e w5 ⟨rfl,HY,hk5⟩;have hm5:=HM4.o.kept' hk5 (fun g (c:g=x)=>.inl c);have hK5:=hK4.fresh hk5 (fun i hi (c:i=x)=>absurd hi qo);have au:=oO4.call hk5;obtain⟨⟨⟨l,en⟩,d⟩,ad⟩:=qF (eP s st1);have y:qh ((pR s j m d).2.end_<=l/\l=s.size):=by
       have a1:=a9.o;have a2:=ba.o;have a3:=bc.o;have a4:=agU.o;rw[ad] at a1 a2 a3;simp only at a1 a2 a3;exact⟨qo,qo⟩
      have bd:qh (pW s=jZ s (12 - (nx+1)) (j+1) (pR s j m d).1 (gV l en (pR s j m d).2)):=by show _=_;rw[a0.o,ad]
      rw[ad] at HY ⊢;simp only at HY ⊢;have av:=OY (i:=j) HY hm5 bB V (fun c=>ar.o qo);rw[an.o] at av;have be:=hide av;have b6:=hide hm5;clear av ad a0 a9 ba bc LC HM4 oO4 hk5 hm5 an;go_wp2_with fail
      refine be.o.mono ?_;rintro e w6 ⟨rfl,bf,⟨bg,bI,bJ,p',bK,bh,bi⟩,bj⟩;have bk:=bf.le;have bL:qh ((pR s j m d).2.at_<=l):=Nat.le_trans bk y.o.1;have bM:qh (l<=s.size):=Nat.le_of_eq y.o.2;have bm:=hide bh;have bn:=hide bi;have aw:=hide bj;have b7:w.heap.size<=E:=aP;have b8:=au.lt;have bN:=au.ne;clear be bk bh bi bj;go_wp2_with fail
      refine(vW bf l en bL.o bM.o).mono ?_;rintro e w7 ⟨rfl,bO,ax⟩;have bP:OB w7 x E [qJ 1,qJ 3,qJ 4,qJ 5,qJ 6,qJ 7,qJ 8,qJ 9,qJ 10,qJ 11,qJ 0]:=(au.kept aw.o (fun c=>by
       rcases c with c | c | c
       .exact bN c
       .omega
       have:=am.o c.1;omega)).call ax
      have bo:=bm.o.kept' ax (fun g (c:g=x)=>.inl c);have b9:=hK5.size;have bQ:=(hK5.fresh aw.o (fun i hi c=>by
       rcases c with c | c | c
       .omega
       .omega
       have:=am.o c.1;omega)).fresh ax (fun i hi (c:i=x)=>absurd hi qo)
      have bR:qh ((pR s j m d).1.tys≠[]->E<bg):=by
       intro c;rcases bn.o c with⟨c1,rfl⟩ | ⟨c1,-⟩
       .exact am.o c1
       omega
      have bS:=hide bo;have bT:qh (pW s=jZ s (12 - (j+1)) (j+1) (pR s j m d).1 (gV l en (pR s j m d).2)):=by
       show _=_;rw[bd.o];exact Kg _ _ _ qo qo
      have bU:qh ((gV l en (pR s j m d).2).bad=none->8<j+1->(pR s j m d).1.ds.length=(pR s j m d).1.tys.length):=fun c c8=>abL qo V (UH c) ar.o;clear bo bd ar bm aw bn;go_wp2;go_roundw
      case rel=>exact⟨j+1,_,_,bg,bI,bJ,p',bK,qo,by go_num,bO,bS.o,bP,bR.o,bQ,y.o.2,bT.o,bU.o⟩
      simp[intOf];omega
    have bV:qh (lq b nx=zm b (11 - (j+1)) (j+1)):=by
     show _=_;rw[r.o,show 11 - j=11 - (j+1)+1 by omega,zm,if_pos ⟨V,v⟩]
    have cc:(((uq.getD j 0:Nat):Int) !=(b:Int))=true:=by simp only[bne_iff_ne,ne_eq];omega
    generalize uq.getD j 0=ov at*;clear v r;go_wp2;go_round
    case rel=>exact⟨j+1,qo,qo,by go_num,bV.o⟩
    simp[intOf];omega
   have bp:j=11:=qo;have Hg:qh (pW s=(nx,m,dL st1 J.at_)):=by
    show _=_;rw[U.o,if_pos (.inl (by rw[r.o,bp];rfl))]
   have bC:¬(j:Int)<11:=qo;have aZ:((j:Int)==11)=true:=by simp;omega
   clear bp r U;exact Zz3
  have ai:¬(J.at_:Int)<(s.size:Int):=qo;have Hg:qh (pW s=(nx,m,J)):=by
   show _=_;rw[F.o,show 12 - nx=12 - (nx+1)+1 by omega,jZ,if_pos (.inr qo)]
  have bW:qh (J.bad=none->8<nx->m.ds.length=m.tys.length):=Q.o;have zD:=R.o;have ay:=hide hb;clear hb F;have oMt:=zD.ob;obtain⟨T1,U1⟩:=oMt.cell (k:=1) (by rw[zD.len];omega) zD.fv;have lMt:=oMt.lt;obtain⟨-,-,-,-,⟨T4,U4⟩⟩:=a.blk.five;by_cases hq1:nx<=8
  .have aai:(nx:Int)<=8:=qo;by_cases hq2:0<m.tys.length
   .have HQ:qh ((dR s).2=dL J s.size):=by show _=_;rw[dR,Hg.o];simp only;rw[if_pos ⟨hq1,hq2⟩]
    clear hq1;go_wp2_with fail
    refine(gH a s.size hs).mono ?_;rintro e wF ⟨rfl,hIF,hkF⟩;have hMF:=zD.kept' hkF (fun g (c:g=x)=>.inl c);have hKF:=(f).fresh hkF (fun i hi (c:i=x)=>absurd hi qo);have agT:=Hg;clear T1 U1 T4 U4;go_wp2_with fail
    obtain⟨-,-,-,⟨Y3,V3⟩,⟨Y4,V4⟩⟩:=hIF.blk.five;go_quiet (fail)
    go_wp2;go_ret2
    refine⟨x,Y,fb,ms,cs,p,A,nx,by rw[show(dR s).2=dL J s.size from HQ.o];first | rfl | (rw[ay.o];rfl),?_,?_,(hKF).drewN _⟩
    .exact agE
    rw[HQ.o];exact fun c=>absurd c (jO _)
   have JI:m.tys.length=0:=qo;have hz:decide (0<m.tys.length)=false:=by simp[JI]
   have HQ:qh ((dR s).2=J):=by show _=_;rw[dR,Hg.o];simp only;rw[if_neg (fun c=>hq2 c.2)]
   have HZ:=hide JI;have HQ1:=hide hq1;clear JI hq2 hq1;go_wp2_with fail
   obtain⟨-,-,-,⟨Y3,V3⟩,⟨Y4,V4⟩⟩:=a.blk.five;go_quiet (fail)
   go_wp2;go_ret2
   refine⟨x,Y,fb,ms,cs,p,A,nx,by rw[show(dR s).2=J from HQ.o];first | rfl | (rw[ay.o];rfl),?_,?_,(f).drewN _⟩
   .exact ac1
   exact adY
  have aai:¬(nx:Int)<=8:=qo;have HQ:qh ((dR s).2=J):=by show _=_;rw[dR,Hg.o];simp only;rw[if_neg (fun c=>hq1 c.1)]
  have HQ1:=hide hq1;clear hq1;go_wp2_with fail
  obtain⟨-,-,-,⟨Y3,V3⟩,⟨Y4,V4⟩⟩:=a.blk.five;go_quiet (fail)
  go_wp2;go_ret2
  refine⟨x,Y,fb,ms,cs,p,A,nx,by rw[show(dR s).2=J from HQ.o];first | rfl | (rw[ay.o];rfl),?_,?_,(f).drewN _⟩
  .exact ac1
  rw[show(dR s).1=m by rw[dR,Hg.o],HQ.o];exact fun c=>bW.o c (Nat.lt_of_not_le HQ1.o)
 have hz:=fO hb;have Hg:qh (pW s=(nx,m,J)):=by
  show _=_;rw[F.o,show 12 - nx=12 - (nx+1)+1 by omega,jZ,if_pos (.inl hb)]
 have zD:=R.o;generalize bq:gX J.bad=z at*;have cd:¬z<0:=qo;have az:=hide bq;clear hb bq;have oMt:=zD.ob;obtain⟨T1,U1⟩:=oMt.cell (k:=1) (by rw[zD.len];omega) zD.fv;have lMt:=oMt.lt;obtain⟨-,-,-,-,⟨T4,U4⟩⟩:=a.blk.five;by_cases hq1:nx<=8
 .have aai:(nx:Int)<=8:=qo;by_cases hq2:0<m.tys.length
  .have HQ:qh ((dR s).2=dL J s.size):=by show _=_;rw[dR,Hg.o];simp only;rw[if_pos ⟨hq1,hq2⟩]
   clear hq1;go_wp2_with fail
   refine(gH a s.size hs).mono ?_;rintro e wF ⟨rfl,hIF,hkF⟩;have hMF:=zD.kept' hkF (fun g (c:g=x)=>.inl c);have hKF:=(f).fresh hkF (fun i hi (c:i=x)=>absurd hi qo);have agT:=Hg;clear T1 U1 T4 U4;go_wp2_with fail
   obtain⟨-,-,-,⟨Y3,V3⟩,⟨Y4,V4⟩⟩:=hIF.blk.five;go_quiet (fail)
   go_wp2;go_ret2
   refine⟨x,Y,fb,ms,cs,p,A,nx,by rw[show(dR s).2=dL J s.size from HQ.o];first | rfl | (rw[az.o];rfl),?_,?_,(hKF).drewN _⟩
   .exact agE
   rw[HQ.o];exact fun c=>absurd c (jO _)
  have JI:m.tys.length=0:=qo;have hz:decide (0<m.tys.length)=false:=by simp[JI]
  have HQ:qh ((dR s).2=J):=by show _=_;rw[dR,Hg.o];simp only;rw[if_neg (fun c=>hq2 c.2)]
  have HZ:=hide JI;have HQ1:=hide hq1;clear JI hq2 hq1;go_wp2_with fail
  obtain⟨-,-,-,⟨Y3,V3⟩,⟨Y4,V4⟩⟩:=a.blk.five;go_quiet (fail)
  go_wp2;go_ret2
  refine⟨x,Y,fb,ms,cs,p,A,nx,by rw[show(dR s).2=J from HQ.o];first | rfl | (rw[az.o];rfl),?_,?_,(f).drewN _⟩
  .exact ac1
  exact adY
 have aai:¬(nx:Int)<=8:=qo;have HQ:qh ((dR s).2=J):=by show _=_;rw[dR,Hg.o];simp only;rw[if_neg (fun c=>hq1 c.1)]
 have HQ1:=hide hq1;clear hq1;go_wp2_with fail
 obtain⟨-,-,-,⟨Y3,V3⟩,⟨Y4,V4⟩⟩:=a.blk.five;go_quiet (fail)
 go_wp2;go_ret2
 refine⟨x,Y,fb,ms,cs,p,A,nx,by rw[show(dR s).2=J from HQ.o];first | rfl | (rw[az.o];rfl),?_,?_,(f).drewN _⟩
 .exact ac1
 rw[show(dR s).1=m by rw[dR,Hg.o],HQ.o];exact fun c=>Q.o c (Nat.lt_of_not_le HQ1.o)
end
structure kX where
 word:qS
 l7:qS
 fo:qS
 high:Nat
 dead:Bool
def kX.cells(b:kX):List Value:=[.string b.word,.string b.l7,.string b.fo,qJ b.high,.bool b.dead]
structure Bk where
 di:qS
 opn:List kX
 err:Option (Nat×Nat)
 now:Nat
def lu:Option (Nat×Nat)->Nat
 | none=>0
 | some e=>e.1
def pz:Option (Nat×Nat)->Nat
 | none=>0
 | some e=>e.2
def fF(c p:Nat)(Z:Bk):Bk:=match Z.err with
 | none=>{Z with err:=some (c,p)}
 | some _=>Z
def jg(Z:Bk):Nat×Bk:=match Z.opn with
 | []=>(63,Z)
 | b::_=>if Z.di.size=b.high then(63,if b.dead then Z else fF 4 Z.now Z) else(bt Z.di (Z.di.size - 1),{Z with di:=Z.di.extract 0 (Z.di.size - 1)})
structure FC where
 Y:Nat
 f:Nat
 kinds:qS
 dH:qS
def D8(c:FC)(Z:Bk)(ov:Value):List Value:=[qP c.Y,qJ c.f,.string Z.di,ov,qJ (lu Z.err:Nat),qJ (pz Z.err:Nat),qJ Z.now,.string c.kinds,.string c.dH]
def NI:Nat->List kX->Prop
 | _,[]=>True
 | n,b::bs=>b.high<=n/\NI b.high bs
structure dZ(w:World)(x:Nat)(c:FC)(p:Option Addr)(A:Nat)(Z:Bk):Prop where
 blk:kY w x (D8 c Z (.slice p Z.opn.length A))
 row:isRow 170 5 kX.cells (fun g=>g≠x) Z.opn.reverse w (.slice p Z.opn.length A)
 hi:NI Z.di.size Z.opn
 big:Z.di.size<=1000000
 code:∀e,Z.err=some e->e.1≠0
section
variable {S:qD} {w w':qW} {x A:Nat} {c:FC} {p:qO} {Z:Bk}
theorem dZ.lt(h:dZ w x c p A Z):x<w.heap.size:=h.blk.lt
theorem dZ.kept(h:dZ w x c p A Z)(X:Kept S w w')(hx:¬S x)(b:∀g,(Value.slice p Z.opn.length A).ownBlock=some g->¬S g):dZ w' x c p A Z:=by
 refine⟨h.blk.kept X h.lt hx,?_,h.hi,h.big,h.code⟩;have L:Row (fun g=>(Value.slice p Z.opn.length A).ownBlock=some g) w 170 5 (.slice p Z.opn.length A) Z.opn.reverse.length (Z.opn.reverse.flatMap kX.cells):=Row.DN h.row (fun g a=>a);exact Row.DN (Row.kept L X (fun g _ a=>b g a)) (fun g a=>h.row.at_ g a)
theorem dZ.alloc(h:dZ w x c p A Z)(o:Obj):dZ (w.alloc o) x c p A Z:=h.kept (S:=fun _=>False) (qr.alloc o) (fun c=>c) (fun _ _ c=>c)
theorem dZ.drew(h:dZ w x c p A Z):dZ w.drew x c p A Z:=h.kept (S:=fun _=>False) (qr.drew) (fun c=>c) (fun _ _ c=>c)
theorem dZ.drewN(h:dZ w x c p A Z)(k:Nat):dZ (w.drewN k) x c p A Z:=h.kept (S:=fun _=>False) (qr.drewN k) (fun c=>c) (fun _ _ c=>c)
theorem Ed(h:∀e,Z.err=some e->e.1≠0):Z.err=none↔lu Z.err=0:=by
 cases a:Z.err with
 | none=>simp[lu]
 | some e=>simp[lu,h e a]
theorem uf(a b:Nat):(fF a b Z).di=Z.di:=by unfold fF;split<;>rfl
theorem vD(a b:Nat):(fF a b Z).opn=Z.opn:=by unfold fF;split<;>rfl
theorem Bi(a b:Nat):(fF a b Z).now=Z.now:=by unfold fF;split<;>rfl
theorem Fh(a b:Nat):(fF a b Z).err≠none:=by
 unfold fF;split
 .simp
 rename_i e h;rw[h];simp
theorem kY.gI{g:Nat}{a b d e f i j k l:qv}(h:kY w g [a,b,d,e,f,i,j,k,l]):(w.cell? (qA g 0)=some a/\w.frozen? (qA g 0)=false)/\(w.cell? (qA g 1)=some b/\w.frozen? (qA g 1)=false)/\(w.cell? (qA g 2)=some d/\w.frozen? (qA g 2)=false)/\(w.cell? (qA g 3)=some e/\w.frozen? (qA g 3)=false)/\(w.cell? (qA g 4)=some f/\w.frozen? (qA g 4)=false)/\(w.cell? (qA g 5)=some i/\w.frozen? (qA g 5)=false)/\(w.cell? (qA g 6)=some j/\w.frozen? (qA g 6)=false)/\(w.cell? (qA g 7)=some k/\w.frozen? (qA g 7)=false)/\(w.cell? (qA g 8)=some l/\w.frozen? (qA g 8)=false):=
 ⟨h 0 qs,h 1 qs,h 2 qs,h 3 qs,h 4 qs,h 5 qs,h 6 qs,h 7 qs,h 8 qs⟩
theorem dZ.EX{J:Bk}(h:dZ w x c p A Z)(X:Kept (only x) w w')(hb:kY w' x (D8 c J (.slice p J.opn.length A)))(a:J.opn=Z.opn)(hh:NI J.di.size J.opn)(b:J.di.size<=1000000)(hc:∀e,J.err=some e->e.1≠0):dZ w' x c p A J:=by
 refine⟨hb,?_,hh,b,hc⟩;rw[a];exact Row.kept h.row X (fun g _ d (e:g=x)=>d e)
theorem nW(h:dZ w x c p A Z)(a b:Nat)(k:a≠0):qC 137 #[qP x,qJ a,qJ b] w fun e w'=>qU e/\dZ w' x c p A (fF a b Z)/\Kept (only x) w w':=by
 obtain⟨-,-,-,-,⟨i,m⟩,⟨j,n⟩,-,-,-⟩:=h.blk.gI;have f:=hide h;have hx:=h.lt;by_cases d:Z.err=none
 .have g:qh (fF a b Z={Z with err:=some (a,b)}):=by show _=_;unfold fF;rw[d]
  rw[d] at i j;simp only[lu,pz] at i j;have q:=hide d;clear d h;go_enter func137,ntmps137;go_wp2;go_end0;rw[g.o];refine⟨rfl,f.o.EX ?_ ?_ rfl f.o.hi f.o.big (fun e h=>by cases h;exact k),?_⟩
  .exact(qr.own _).own _
  .exact(f.o.blk.set 4 (qJ a)).set 5 (qJ b)
  exact(qr.own _).own _
 have g:qh (fF a b Z=Z):=by
  show _=_;unfold fF;split
  .rename_i hc;exact absurd hc d
  rfl
 have l:lu Z.err≠0:=fun e=>d ((Ed h.code).2 e);have r:¬((lu Z.err:Nat):Int)=0:=qo;generalize lu Z.err=z at*;clear d h l;go_enter func137,ntmps137;go_wp2;go_end0;rw[g.o];exact⟨rfl,f.o,Kept.refl _ _⟩
def fu(r:Nat×Nat)(many:Nat)(Z:Bk):Bk:=if many<=r.1 then fF 3 r.2 Z else Z
theorem ry(h:dZ w x c p A Z)(r:Nat×Nat)(many:Nat):qC 136 #[qP x,.agg #[qJ r.1,qJ r.2],qJ many] w fun e w'=>qU e/\dZ w' x c p A (fu r many Z)/\Kept (only x) w w':=by
 have b:=hide h;have hx:=h.lt;have hp:=h.row.own.lt;by_cases hc:many<=r.1
 .have d:(many:Int)<=(r.1:Int):=qo;have a:qh (fu r many Z=fF 3 r.2 Z):=by show _=_;unfold fu;rw[if_pos hc]
  clear h hc hp;go_enter func136,ntmps136;go_wp2_with fail
  refine(nW (b.o.alloc _) 3 r.2 qx).mono ?_;rintro e i ⟨rfl,f,g⟩;go_wp2;go_end0;rw[a.o];exact⟨rfl,f,(qr.alloc _).trans g⟩
 have d:¬(many:Int)<=(r.1:Int):=qo;have a:qh (fu r many Z=Z):=by show _=_;unfold fu;rw[if_neg hc]
 clear h hc hp;go_enter func136,ntmps136;go_wp2;go_end0;rw[a.o];exact⟨rfl,b.o.alloc _,qr.alloc _⟩
end
end Go.Proofs.YtdaafkmhfedkiaaGreat
