import Derived.Test.YtkmofapihggjgaaGreatDoorX21
namespace Go.Proofs.YtkmofapihggjgaaGreatDoor
section
open Go.RowKit
set_option linter.unusedSimpArgs false
def mv (φ:Nat→Nat) (t:Tok):Tok:=(t.1,φ t.2.1,t.2.2)
def mvT (φ:Nat→Nat) (T:List Tok):List Tok:=T.map (mv φ)
def mvE (φ:Nat→Nat) (e:Nat×Nat):Nat×Nat:=(if e.1=1 then 2 else e.1,φ e.2)
def mvN (φ:Nat→Nat) (l:List (Nat×Nat)):List (Nat×Nat):=l.map (mvE φ)
def mvS (φ:Nat→Nat) (s:MS):MS:={s with no:=mvN φ s.no}
def mvF (φ:Nat→Nat) (f:Bk):Bk:={f with m:=mvS φ f.m}
def EM {α β:Type} (φ:Nat→Nat) (g:α→β) (m:Except Err α):Except Err β:=match m with
 | .error e=>.error (mvE φ e)
 | .ok x=>.ok (g x)
section
variable {φ:Nat→Nat} {T:List Tok}
@[simp] theorem EM_error {α β:Type} (g:α→β) (e:Err):EM φ g (.error e)=.error (mvE φ e):=rfl
@[simp] theorem EM_ok {α β:Type} (g:α→β) (x:α):EM φ g (.ok x:Except Err α)=.ok (g x):=rfl
@[simp] theorem EM_ite {α β:Type} (g:α→β) (c:Prop) [Decidable c] (a b:Except Err α):EM φ g (if c then a else b)=if c then EM φ g a else EM φ g b:=by split<;>rfl
@[simp] theorem mv_1 (t:Tok):(mv φ t).1=t.1:=rfl
@[simp] theorem mv_2 (t:Tok):(mv φ t).2.1=φ t.2.1:=rfl
@[simp] theorem mv_3 (t:Tok):(mv φ t).2.2=t.2.2:=rfl
@[simp] theorem mvE_7 (p:Nat):mvE φ (7,p)=(7,φ p):=rfl
@[simp] theorem mvE_8 (p:Nat):mvE φ (8,p)=(8,φ p):=rfl
@[simp] theorem mvE_9 (p:Nat):mvE φ (9,p)=(9,φ p):=rfl
@[simp] theorem mvE_6 (p:Nat):mvE φ (6,p)=(6,φ p):=rfl
theorem mvE_0 (h0:φ 0=0):mvE φ (0,0)=(0,0):=by unfold mvE;simp[h0]
@[simp] theorem mvN_nil:mvN φ []=[]:=rfl
@[simp] theorem mvN_app (a b:List (Nat×Nat)):mvN φ (a++b)=mvN φ a++mvN φ b:=by unfold mvN;simp
@[simp] theorem mvN_one (x:Nat×Nat):mvN φ [x]=[mvE φ x]:=rfl
@[simp] theorem mvT_len:(mvT φ T).length=T.length:=by unfold mvT;simp
@[simp] theorem mvT_nx (i:Nat):nx (mvT φ T) i=nx T i:=by unfold nx;simp
@[simp] theorem mvT_get (i:Nat):(mvT φ T)[i]?=T[i]?.map (mv φ):=by unfold mvT;simp
@[simp] theorem mv_isW (t:Tok) (q:ByteArray):isW (mv φ t) q=isW t q:=rfl
@[simp] theorem mv_idA (t:Tok):idA (mv φ t)=idA t:=rfl
@[simp] theorem mv_idRest (t:Tok):idRest (mv φ t)=idRest t:=rfl
@[simp] theorem mv_uT (t:Tok):uT (mv φ t)=uT t:=rfl
@[simp] theorem mv_sT32 (t:Tok):sT32 (mv φ t)=sT32 t:=rfl
@[simp] theorem mv_sT64 (t:Tok):sT64 (mv φ t)=sT64 t:=rfl
@[simp] theorem mv_setM (t:Tok) (a:ByteArray):setM (mv φ t) a=setM t a:=rfl
@[simp] theorem mv_labelB (t:Tok):labelB (mv φ t)=labelB t:=rfl
@[simp] theorem mvS_i (s:MS):(mvS φ s).i=s.i:=rfl
@[simp] theorem mvS_kF (s:MS):(mvS φ s).kF=s.kF:=rfl
@[simp] theorem mvF_i (f:Bk):(mvF φ f).m.i=f.m.i:=rfl
theorem takeT_mv (h0:φ 0=0) (k i:Nat):takeT (mvT φ T) k i=EM φ (fun x=>(mv φ x.1,x.2)) (takeT T k i):=by
 unfold takeT
 rw[mvT_get]
 cases T[i]? with
 | none=>simp[mvE_0 h0]
 | some t=>simp
theorem takeW_mv (h0:φ 0=0) (q:ByteArray) (i:Nat):takeW (mvT φ T) q i=EM φ (fun x=>(mv φ x.1,x.2)) (takeW T q i):=by
 unfold takeW
 rw[mvT_get]
 cases T[i]? with
 | none=>simp[mvE_0 h0]
 | some t=>simp
theorem takeO_mv (h0:φ 0=0) (q:ByteArray) (i:Nat):takeO (mvT φ T) q i=EM φ (fun x=>(mv φ x.1,x.2)) (takeO T q i):=by
 unfold takeO
 rw[takeT_mv h0]
 rcases takeT T 2 i with e | ⟨t,j⟩
 ·rfl
 ·simp[takeW_mv h0]
theorem numberM_mv (h0:φ 0=0) (i:Nat):numberM (mvT φ T) i=EM φ id (numberM T i):=by
 unfold numberM
 rw[takeT_mv h0]
 rcases takeT T 5 i with e | ⟨t,j⟩
 ·rfl
 ·simp only[EM_ok,mv_uT,mv_2]
  cases uT t<;>simp
theorem kindT_mv (h0:φ 0=0) (i:Nat):kindT (mvT φ T) i=EM φ id (kindT T i):=by
 unfold kindT
 rw[takeT_mv h0]
 rcases takeT T 5 i with e | ⟨t,j⟩
 ·rfl
 ·simp only[EM_ok,mv_3,mv_2,EM_ite,EM_error,mvE_7,id]<;>rfl
theorem signedM_mv (h0:φ 0=0) (b i:Nat):signedM b (mvT φ T) i=EM φ id (signedM b T i):=by
 unfold signedM
 rw[takeT_mv h0]
 rcases takeT T 5 i with e | ⟨t,j⟩
 ·rfl
 ·simp only[EM_ok,mv_sT32,mv_sT64,mv_2]
  cases(if b=32 then sT32 t else sT64 t)<;>simp
theorem limitsM_mv (h0:φ 0=0) (i:Nat):limitsM (mvT φ T) i=EM φ id (limitsM T i):=by
 unfold limitsM
 rw[numberM_mv h0]
 rcases numberM T i with e | ⟨a,j⟩
 ·rfl
 ·simp only[EM_ok,id,mvT_get]
  cases T[j]? with
  | none=>simp[mvE_0 h0]
  | some t=>
   simp only[Option.map_some,mv_1,EM_ite,numberM_mv h0]
   rcases numberM T j with e | ⟨b,k⟩<;>rfl
theorem indexT_mv (h0:φ 0=0) (ns:List Nam) (i:Nat):indexT (mvT φ T) ns i=EM φ (fun x=>(x.1,x.2.1,mvN φ x.2.2)) (indexT T ns i):=by
 unfold indexT
 rw[mvT_get,numberM_mv h0]
 cases T[i]? with
 | none=>simp[mvE_0 h0]
 | some t=>
  simp only[Option.map_some,mv_idA,mv_idRest,EM_ite,mvT_nx,mv_2]
  congr 1
  ·cases idxO ns (idRest t)<;>simp
  ·rcases numberM T i with e | ⟨b,k⟩<;>simp
theorem declT_mv (ns:List Nam) (n i:Nat):declT (mvT φ T) ns n i=((declT T ns n i).1,(declT T ns n i).2.1,(declT T ns n i).2.2.1,mvN φ (declT T ns n i).2.2.2):=by
 unfold declT
 rw[mvT_get]
 cases T[i]? with
 | none=>rfl
 | some t=>
  simp only[Option.map_some,mv_idA,mv_idRest,mvT_nx,mv_2]
  split
  ·cases idxO ns (idRest t)<;>simp
  ·rfl
theorem closeM_mv (h0:φ 0=0) (i:Nat):closeM (mvT φ T) i=EM φ id (closeM T i):=by
 unfold closeM
 simp only[mvT_get,mvT_nx]
 cases T[i]? with
 | none=>simp[mvE_0 h0]
 | some t=>
  simp only[Option.map_some,mv_1,mv_2,EM_ite,EM_ok,EM_error,id,mvE_7]
  congr 1
  cases T[nx T i]?<;>simp[mvE_0 h0]
theorem constT_mv (h0:φ 0=0) (i:Nat):constT (mvT φ T) i=EM φ id (constT T i):=by
 unfold constT
 rw[takeT_mv h0]
 rcases takeT T 2 i with e | ⟨t,j⟩
 ·rfl
 ·simp only[EM_ok]
  rw[takeT_mv h0]
  rcases takeT T 5 j with e | ⟨t,k⟩
  ·rfl
  ·simp only[EM_ok,mv_3,mv_2,EM_ite,EM_error,mvE_7]
   congr 1
   ·rw[signedM_mv h0]
    rcases signedM 32 T k with e | ⟨n,l⟩
    ·rfl
    ·simp only[EM_ok,id]
     rw[takeT_mv h0]
     rcases takeT T 3 l with e | ⟨t,m⟩<;>rfl
   ·congr 1
    rw[signedM_mv h0]
    rcases signedM 64 T k with e | ⟨n,l⟩
    ·rfl
    ·simp only[EM_ok,id]
     rw[takeT_mv h0]
     rcases takeT T 3 l with e | ⟨t,m⟩<;>rfl
theorem opensT_mv (q:ByteArray) (i:Nat):opensT (mvT φ T) q i=opensT T q i:=by
 unfold opensT
 simp only[mvT_get,mvT_nx]
 cases T[i]?<;>cases T[nx T i]?<;>rfl
theorem tok0_mv (h0:φ 0=0) (i:Nat):(mvT φ T)[i]?.getD (0,0,⟨#[]⟩)=mv φ (T[i]?.getD (0,0,⟨#[]⟩)):=by
 rw[mvT_get]
 cases T[i]? with
 | none=>simp[mv,h0]
 | some t=>rfl
end
end
section
open Go.RowKit
set_option linter.unusedSimpArgs false
section
variable {φ:Nat→Nat} {T:List Tok}
theorem startT_mv (h0:φ 0=0) (s:MS):startT (mvT φ T) (mvS φ s)=EM φ (mvS φ) (startT T s):=by
 unfold startT
 rw[indexT_mv h0]
 rw[mvS_kF,mvS_i]
 rcases indexT T s.kF s.i with e | ⟨x,j,ns⟩
 ·rfl
 ·simp[mvS]
theorem taT_mv (h0:φ 0=0) (s:MS):taT (mvT φ T) (mvS φ s)=EM φ (mvS φ) (taT T s):=by
 unfold taT
 rw[limitsM_mv h0,mvS_i]
 rcases limitsM T s.i with e | ⟨x,j⟩<;>rfl
theorem meT_mv (h0:φ 0=0) (s:MS):meT (mvT φ T) (mvS φ s)=EM φ (mvS φ) (meT T s):=by
 unfold meT
 rw[limitsM_mv h0,mvS_i]
 rcases limitsM T s.i with e | ⟨x,j⟩<;>rfl
theorem dataT_mv (h0:φ 0=0) (s:MS):dataT (mvT φ T) (mvS φ s)=EM φ (mvS φ) (dataT T s):=by
 unfold dataT
 rw[constT_mv h0,mvS_i]
 rcases constT T s.i with e | ⟨x,j⟩<;>rfl
theorem gkindT_mv (h0:φ 0=0) (j:Nat):gkindT (mvT φ T) j=EM φ id (gkindT T j):=by
 unfold gkindT
 rw[mvT_get]
 cases T[j]? with
 | none=>simp[mvE_0 h0]
 | some t=>
  simp only[Option.map_some,mv_1,EM_ite]
  congr 1
  ·rw[takeO_mv h0]
   rcases takeO T _ j with e | ⟨t,k⟩
   ·rfl
   ·simp only[EM_ok]
    rw[kindT_mv h0]
    rcases kindT T k with e | ⟨kd,l⟩
    ·rfl
    ·simp only[EM_ok,id]
     rw[takeT_mv h0]
     rcases takeT T 3 l with e | ⟨t,m⟩<;>rfl
  ·rw[kindT_mv h0]
   rcases kindT T j with e | ⟨kd,l⟩<;>rfl
theorem globT_mv (h0:φ 0=0) (s:MS):globT (mvT φ T) (mvS φ s)=EM φ (mvS φ) (globT T s):=by
 unfold globT
 simp only[declT_mv]
 show(match gkindT (mvT φ T) (declT T s.fG s.gl.length s.i).2.2.1 with | .error e=>_ | .ok (kd,m)=>_)=_
 rw[gkindT_mv h0]
 rcases hd:declT T s.fG s.gl.length s.i with⟨a,b,c,d⟩
 simp only
 rcases gkindT T c with e | ⟨kd,m⟩
 ·rfl
 ·simp only[EM_ok,id]
  rw[constT_mv h0]
  rcases constT T m with e | ⟨x,n⟩
  ·rfl
  ·simp only[EM_ok,id]
   simp only[mvS,hd,mvN_app]
theorem elemL_mv (h0:φ 0=0) (kF:List Nam):∀k j no fs,elemL (mvT φ T) kF k j (mvN φ no) fs=EM φ (fun x=>(x.1,x.2.1,mvN φ x.2.2)) (elemL T kF k j no fs)
 | 0,j,no,fs=>by simp[elemL,mvE_0 h0]
 | k+1,j,no,fs=>by
  unfold elemL
  rw[mvT_get]
  cases T[j]? with
  | none=>simp[mvE_0 h0]
  | some t=>
   simp only[Option.map_some,mv_1,mv_2,EM_ite,EM_error,mvE_7,EM_ok]
   congr 2
   rw[indexT_mv h0]
   rcases indexT T kF j with e | ⟨x,j',ns⟩
   ·rfl
   ·simp only[EM_ok]
    rw[←mvN_app,elemL_mv h0 kF k]
theorem elemT_mv (h0:φ 0=0) (s:MS):elemT (mvT φ T) (mvS φ s)=EM φ (fun x=>(x.1,mvS φ x.2)) (elemT T s):=by
 unfold elemT
 rw[constT_mv h0,mvS_i]
 rcases constT T s.i with e | ⟨c,j⟩
 ·rfl
 ·simp only[EM_ok,id,mvT_len]
  show(match elemL (mvT φ T) s.kF (T.length - j) j (mvN φ s.no) [] with | .error e=>_ | .ok (fs,j',no)=>_)=_
  rw[elemL_mv h0]
  rcases elemL T s.kF (T.length - j) j s.no [] with e | ⟨fs,j',no⟩<;>rfl
theorem exportT_mv (h0:φ 0=0) (s:MS):exportT (mvT φ T) (mvS φ s)=EM φ (mvS φ) (exportT T s):=by
 unfold exportT
 rw[mvT_get,mvS_i]
 cases T[s.i]? with
 | none=>simp[mvE_0 h0]
 | some t=>
  simp only[Option.map_some,mv_1,mv_2,EM_ite,EM_error,mvE_7]
  congr 1
  rw[indexT_mv h0]
  rw[mvS_kF]
  rcases indexT T s.kF (s.i+3) with e | ⟨x,j,ns⟩
  ·rfl
  ·simp[mvS]
def Nat' (φ:Nat→Nat) (f' f:MS→Except Err MS):Prop:=∀s,f' (mvS φ s)=EM φ (mvS φ) (f s)
theorem perhapsT_mv (h0:φ 0=0) (q:ByteArray) {f' f:MS→Except Err MS} (hf:Nat' φ f' f) (s:MS):perhapsT (mvT φ T) q f' (mvS φ s)=EM φ (mvS φ) (perhapsT T q f s):=by
 unfold perhapsT
 simp only[opensT_mv,mvS_i,mvT_nx,EM_ite,EM_ok]
 congr 1
 have:=hf {s with i:=nx T (nx T s.i)}
 rw[show({mvS φ s with i:=nx T (nx T s.i)}:MS)=mvS φ {s with i:=nx T (nx T s.i)} from rfl,this]
 rcases f {s with i:=nx T (nx T s.i)} with e | s'
 ·rfl
 ·simp only[EM_ok,mvS_i]
  rw[takeT_mv h0]
  rcases takeT T 3 s'.i with e | ⟨t,j⟩<;>rfl
theorem itemsT_mv (h0:φ 0=0) (q:ByteArray) (most:Nat) {f' f:MS→Except Err MS} (hf:Nat' φ f' f):∀k many s,itemsT (mvT φ T) q most f' k many (mvS φ s)=EM φ (mvS φ) (itemsT T q most f k many s)
 | 0,many,s=>by simp[itemsT,mvE_0 h0]
 | k+1,many,s=>by
  unfold itemsT
  simp only[opensT_mv,mvS_i,EM_ite,EM_ok,tok0_mv h0,EM_error,mvE_7,mv_2]
  congr 2
  rw[perhapsT_mv h0 q hf]
  rcases perhapsT T q f s with e | s'
  ·rfl
  ·simp only[EM_ok]
   exact itemsT_mv h0 q most hf k (many+1) s'
theorem gkT_mv (h0:φ 0=0) (most:Nat) (ks:List Nat) (i:Nat):gkT (mvT φ T) most ks i=EM φ id (gkT T most ks i):=by
 unfold gkT
 rw[mvT_get]
 cases T[i]? with
 | none=>simp[mvE_0 h0]
 | some t=>
  simp only[Option.map_some,mv_2,EM_ite,EM_error,mvE_7]
  congr 1
  rw[kindT_mv h0]
  rcases kindT T i with e | ⟨k,j⟩<;>rfl
theorem gwT_mv (h0:φ 0=0) (most:Nat):∀k ks i,gwT (mvT φ T) most k ks i=EM φ id (gwT T most k ks i)
 | 0,ks,i=>by simp[gwT,mvE_0 h0]
 | k+1,ks,i=>by
  unfold gwT
  rw[mvT_get]
  cases T[i]? with
  | none=>simp[mvE_0 h0]
  | some t=>
   simp only[Option.map_some,mv_1,EM_ite,EM_ok,id]
   congr 1
   rw[gkT_mv h0]
   rcases gkT T most ks i with e | ⟨k',j⟩
   ·rfl
   ·simp only[EM_ok,id]
    exact gwT_mv h0 most k k' j
theorem groT_mv (h0:φ 0=0) (q:ByteArray) (most:Nat):∀k ks i,groT (mvT φ T) q most k ks i=EM φ id (groT T q most k ks i)
 | 0,ks,i=>by simp[groT,mvE_0 h0]
 | k+1,ks,i=>by
  unfold groT
  simp only[opensT_mv,mvT_nx,mvT_len,EM_ite,EM_ok,id]
  congr 1
  rw[gwT_mv h0]
  rcases gwT T most (T.length - nx T (nx T i)) ks (nx T (nx T i)) with e | ⟨ks',j⟩
  ·rfl
  ·simp only[EM_ok,id]
   rw[takeT_mv h0]
   rcases takeT T 3 j with e | ⟨t,m⟩
   ·rfl
   ·simp only[EM_ok]
    exact groT_mv h0 q most k ks' m
theorem kindsT_mv (h0:φ 0=0) (i:Nat):kindsT (mvT φ T) i=EM φ id (kindsT T i):=by
 unfold kindsT seqT
 rw[groT_mv h0,mvT_len]
 rcases groT T _ 8 (T.length - i) [] i with e | ⟨ks,j⟩
 ·rfl
 ·simp only[EM_ok,id]
  rw[groT_mv h0]
  rcases groT T _ 4 (T.length - j) [] j with e | ⟨ks',j'⟩<;>rfl
theorem typeT_mv (h0:φ 0=0) (s:MS):typeT (mvT φ T) (mvS φ s)=EM φ (fun x=>(x.1,mvS φ x.2)) (typeT T s):=by
 unfold typeT
 simp only[declT_mv]
 show(match takeO (mvT φ T) _ (declT T s.fT s.ty.length s.i).2.2.1 with | .error e=>_ | .ok (_,j)=>_)=_
 rw[takeO_mv h0]
 rcases hd:declT T s.fT s.ty.length s.i with⟨a,b,c,d⟩
 simp only
 rcases takeO T _ c with e | ⟨t,j⟩
 ·rfl
 ·simp only[EM_ok]
  rw[kindsT_mv h0]
  rcases kindsT T j with e | x
  ·rfl
  ·simp only[EM_ok,id]
   rw[closeM_mv h0]
   rcases closeM T x.2.2 with e | m
   ·rfl
   ·simp only[EM_ok,id]
    simp only[mvS,hd,mvN_app]
theorem wordT_mv (h0:φ 0=0) (i:Nat):wordT (mvT φ T) i=EM φ id (wordT T i):=by
 unfold wordT
 rw[takeT_mv h0]
 rcases takeT T 5 i with e | ⟨t,j⟩
 ·rfl
 ·simp only[EM_ok,mv_3,mv_2,EM_ite,EM_error,mvE_7,id]<;>rfl
theorem offsetT_mv (h0:φ 0=0) (i:Nat):offsetT (mvT φ T) i=EM φ id (offsetT T i):=by
 unfold offsetT
 rw[mvT_get]
 cases T[i]? with
 | none=>simp[mvE_0 h0]
 | some t=>
  simp only[Option.map_some,mv_setM,mvT_nx]
  cases setM t _<;>rfl
theorem alignT_mv (h0:φ 0=0) (word i:Nat):alignT (mvT φ T) word i=EM φ id (alignT T word i):=by
 unfold alignT
 rw[mvT_get]
 cases T[i]? with
 | none=>simp[mvE_0 h0]
 | some t=>
  simp only[Option.map_some,mv_setM,mvT_nx]
  cases setM t _ with
  | none=>rfl
  | some n=>simp only[EM_ite,EM_ok,id]
end
end
section
open Go.RowKit
set_option linter.unusedSimpArgs false
section
variable {φ:Nat→Nat} {T:List Tok}
theorem gnT_mv (h0:φ 0=0) (q:ByteArray) (most fr:Nat):∀k ks nm no i,gnT (mvT φ T) q most fr k ks nm (mvN φ no) i=EM φ (fun x=>((x.1.1,x.1.2.1,mvN φ x.1.2.2),x.2)) (gnT T q most fr k ks nm no i)
 | 0,ks,nm,no,i=>by simp[gnT,mvE_0 h0]
 | k+1,ks,nm,no,i=>by
  unfold gnT
  simp only[opensT_mv,mvT_nx,mvT_len,EM_ite,EM_ok,declT_mv]
  congr 1
  rcases declT T nm (fr+ks.length) (nx T (nx T i)) with⟨a,b,c,d⟩
  simp only[gkT_mv h0,gwT_mv h0]
  rw[←EM_ite]
  rcases(if a=true then gkT T most ks c else gwT T most (T.length - c) ks c) with e | ⟨ks',j⟩
  ·rfl
  ·simp only[EM_ok,id]
   rw[takeT_mv h0]
   rcases takeT T 3 j with e | ⟨t,m⟩
   ·rfl
   ·simp only[EM_ok]
    rw[←mvN_app]
    exact gnT_mv h0 q most fr k ks' b (no++d) m
theorem labT_mv (h0:φ 0=0) (lb:List ByteArray) (i:Nat):labT (mvT φ T) lb i=EM φ (fun x=>(x.1,x.2.1,mvN φ x.2.2)) (labT T lb i):=by
 unfold labT
 rw[mvT_get,numberM_mv h0]
 cases T[i]? with
 | none=>simp[mvE_0 h0]
 | some t=>
  simp only[Option.map_some,mv_idA,mv_idRest,EM_ite,mvT_nx,mv_2]
  congr 1
  ·cases outO (idRest t) lb.reverse 0<;>simp
  ·rcases numberM T i with e | ⟨b,k⟩<;>simp
theorem tixT_mv (h0:φ 0=0) (s:MS) (x:List Nat×List Nat):tixT (mvT φ T) (mvS φ s) x=EM φ (fun x=>(x.1,mvS φ x.2)) (tixT T s x):=by
 unfold tixT
 rw[show(mvS φ s).ty=s.ty from rfl]
 cases tyIx x s.ty 0 with
 | some n=>rfl
 | none=>
  simp only[mvS_i,tok0_mv h0,EM_ite,EM_error,EM_ok,mvE_7,mv_2]
  rfl
theorem kinF_mv (h0:φ 0=0) (b:Bool) (f:Bk):kinF b (mvT φ T) (mvF φ f)=EM φ (fun x=>(x.1,mvF φ x.2)) (kinF b T f):=by
 unfold kinF seqT
 rw[kindsT_mv h0,mvF_i,mvT_len,show(mvF φ f).nm=f.nm from rfl,show(mvF φ f).m.no=mvN φ f.m.no from rfl,gnT_mv h0,EM_ite]
 congr 1
 ·rcases gnT T _ 8 0 (T.length - f.m.i) [] f.nm f.m.no f.m.i with e | ⟨x,j⟩
  ·rfl
  ·simp only[EM_ok]
   rw[groT_mv h0]
   rcases groT T _ 4 (T.length - j) [] j with e | ⟨y,m⟩<;>rfl
 ·rcases kindsT T f.m.i with e | x<;>rfl
theorem tokAt_mv (h0:φ 0=0) (i:Nat):tokAt (mvT φ T) i=φ (tokAt T i):=by
 unfold tokAt
 rw[tok0_mv h0]
 rfl
theorem useT_mv (h0:φ 0=0) (b:Bool) (f:Bk):useT b (mvT φ T) (mvF φ f)=EM φ (fun x=>(x.1,mvF φ x.2)) (useT b T f):=by
 unfold useT
 rw[opensT_mv,mvF_i,EM_ite]
 congr 1
 ·rw[indexT_mv h0,mvT_nx,mvT_nx,show(mvF φ f).m.fT=f.m.fT from rfl]
  rcases indexT T f.m.fT (nx T (nx T f.m.i)) with e | ⟨x,j,ns⟩
  ·rfl
  ·simp only[EM_ok]
   rw[takeT_mv h0]
   rcases takeT T 3 j with e | ⟨t,j2⟩
   ·rfl
   ·simp only[EM_ok]
    have hq:({mvF φ f with m:={(mvF φ f).m with i:=j2,no:=(mvF φ f).m.no++mvN φ ns}}:Bk)=mvF φ {f with m:={f.m with i:=j2,no:=f.m.no++ns}}:=by
     simp only[mvF,mvS,mvN_app]
    rw[hq,kinF_mv h0]
    rcases kinF b T {f with m:={f.m with i:=j2,no:=f.m.no++ns}} with e | ⟨kk,f2⟩
    ·rfl
    ·simp only[EM_ok,opensT_mv,tokAt_mv h0]
     rw[show(mvF φ f).m.ty=f.m.ty from rfl]
     congr 2
     rw[apply_ite (mvF φ)]
     congr 1
     simp only[mvF,mvS,mvN_app,mvN_one,mvE_8]
 ·rw[kinF_mv h0]
  rcases kinF b T f with e | ⟨kk,f2⟩<;>rfl
theorem btT_mv (h0:φ 0=0) (lb:List ByteArray):∀k ls no i,btT (mvT φ T) lb k ls (mvN φ no) i=EM φ (fun x=>(x.1,mvN φ x.2.1,x.2.2)) (btT T lb k ls no i)
 | 0,ls,no,i=>by simp[btT,mvE_0 h0]
 | k+1,ls,no,i=>by
  unfold btT
  rw[mvT_nx,mvT_get]
  cases T[nx T i]? with
  | none=>simp[mvE_0 h0]
  | some t=>
   simp only[Option.map_some,mv_labelB,EM_ite,EM_ok]
   congr 1
   rw[labT_mv h0]
   rcases labT T lb i with e | ⟨n,j,ns⟩
   ·rfl
   ·simp only[EM_ok]
    rw[←mvN_app]
    exact btT_mv h0 lb k (ls++[n]) (no++ns) j
theorem behT_mv (h0:φ 0=0) (f:Bk) (word:Nat):behT (mvT φ T) (mvF φ f) word=EM φ (fun x=>(x.1,mvF φ x.2)) (behT T f word):=by
 unfold behT
 simp only[EM_ite]
 congr 1
 ·rw[mvF_i,mvT_len,show(mvF φ f).m.no=mvN φ f.m.no from rfl,show(mvF φ f).lb=f.lb from rfl,btT_mv h0]
  rcases btT T f.lb (T.length - f.m.i) [] f.m.no f.m.i with e | ⟨ls,no,j⟩
  ·rfl
  ·simp only[EM_ok]
   rw[labT_mv h0]
   rcases labT T f.lb j with e | ⟨n,j2,ns⟩
   ·rfl
   ·simp only[EM_ok,mvF,mvS,mvN_app]
 congr 1
 ·rw[mvF_i,show(mvF φ f).lb=f.lb from rfl,labT_mv h0]
  rcases labT T f.lb f.m.i with e | ⟨n,j2,ns⟩
  ·rfl
  ·simp only[EM_ok,mvF,mvS,mvN_app]
 congr 1
 ·rw[mvF_i,show(mvF φ f).m.kF=f.m.kF from rfl,indexT_mv h0]
  rcases indexT T f.m.kF f.m.i with e | ⟨n,j2,ns⟩
  ·rfl
  ·simp only[EM_ok,mvF,mvS,mvN_app]
 congr 1
 ·rw[mvF_i,show(mvF φ f).nm=f.nm from rfl,indexT_mv h0]
  rcases indexT T f.nm f.m.i with e | ⟨n,j2,ns⟩
  ·rfl
  ·simp only[EM_ok,mvF,mvS,mvN_app]
 congr 1
 ·rw[mvF_i,show(mvF φ f).m.kG=f.m.kG from rfl,indexT_mv h0]
  rcases indexT T f.m.kG f.m.i with e | ⟨n,j2,ns⟩
  ·rfl
  ·simp only[EM_ok,mvF,mvS,mvN_app]
 congr 1
 ·rw[useT_mv h0]
  rcases useT false T f with e | ⟨u,f2⟩
  ·rfl
  ·simp only[EM_ok,EM_ite]
   congr 1
   rw[show(mvF φ f2).m=mvS φ f2.m from rfl,tixT_mv h0]
   rcases tixT T f2.m (u.a,u.b) with e | ⟨n,m⟩<;>rfl
 congr 1
 ·rw[mvF_i,offsetT_mv h0]
  rcases offsetT T f.m.i with e | ⟨n,j⟩
  ·rfl
  ·simp only[EM_ok,id]
   rw[alignT_mv h0]
   rcases alignT T word j with e | ⟨a,j2⟩<;>rfl
 congr 1
 ·rw[mvF_i,signedM_mv h0]
  rcases signedM 32 T f.m.i with e | ⟨n,j⟩<;>rfl
 congr 1
 ·rw[mvF_i,signedM_mv h0]
  rcases signedM 64 T f.m.i with e | ⟨n,j⟩<;>rfl
theorem bnT_mv (i:Nat):bnT (mvT φ T) i=bnT T i:=by
 unfold bnT
 rw[mvT_get]
 cases T[i]? with
 | none=>rfl
 | some t=>simp only[Option.map_some,mv_idA,mv_idRest,mvT_nx]
theorem opnT_mv (h0:φ 0=0) (p:Nat) (f:Bk) (word:Nat):opnT (mvT φ T) (φ p) (mvF φ f) word=EM φ (fun x=>(x.1,mvF φ x.2)) (opnT T p f word):=by
 unfold opnT
 rw[bnT_mv,mvF_i]
 by_cases hb:f.lb.length=50
 ·rw[if_pos hb,if_pos (show(mvF φ f).lb.length=50 from hb)]
  rfl
 rw[if_neg hb,if_neg (show ¬(mvF φ f).lb.length=50 from hb)]
 show(match useT false (mvT φ T) (mvF φ (setI f (bnT T f.m.i).2)) with | .error e=>_ | .ok (u,f2)=>_)=EM φ _ (match useT false T (setI f (bnT T f.m.i).2) with | .error e=>_ | .ok (u,f2)=>_)
 rw[useT_mv h0]
 rcases useT false T (setI f (bnT T f.m.i).2) with e | ⟨u,f2⟩
 ·rfl
 ·simp only[EM_ok,EM_ite]
  congr 2
  rw[show(mvF φ f2).m=mvS φ f2.m from rfl,tixT_mv h0]
  rcases tixT T f2.m (u.a,u.b) with e | ⟨n,m⟩<;>rfl
def NatF (φ:Nat→Nat) (f' f:Bk→Except Err Bk):Prop:=∀s,f' (mvF φ s)=EM φ (mvF φ) (f s)
theorem blkT_mv (x:InsT) (nm:ByteArray) {m' m:Bk→Except Err Bk} (hm:NatF φ m' m):NatF φ (blkT x nm m') (blkT x nm m):=by
 intro f
 unfold blkT
 have:=hm {f with al:=f.al++[x],lb:=f.lb++[nm]}
 rw[show({mvF φ f with al:=(mvF φ f).al++[x],lb:=(mvF φ f).lb++[nm]}:Bk)=mvF φ {f with al:=f.al++[x],lb:=f.lb++[nm]} from rfl,this]
 rcases m {f with al:=f.al++[x],lb:=f.lb++[nm]} with e | f'<;>rfl
theorem bnd_mv {α β α' β':Type} {g:α→α'} {h:β→β'} {m':Except Err α'} {m:Except Err α} {k':α'→Except Err β'} {k:α→Except Err β} (hm:m'=EM φ g m) (hk:∀x,k' (g x)=EM φ h (k x)):bnd m' k'=EM φ h (bnd m k):=by
 subst hm
 cases m with
 | error e=>rfl
 | ok x=>exact hk x
theorem setI_mv (f:Bk) (j:Nat):setI (mvF φ f) j=mvF φ (setI f j):=rfl
theorem closeF_mv (h0:φ 0=0):NatF φ (closeF (mvT φ T)) (closeF T):=fun _=>bnd_mv (takeT_mv h0 _ _) fun _=>rfl
theorem wordF_mv (h0:φ 0=0) (q:ByteArray):NatF φ (wordF (mvT φ T) q) (wordF T q):=fun _=>bnd_mv (takeW_mv h0 _ _) fun _=>rfl
theorem openF_mv (h0:φ 0=0) (q:ByteArray):NatF φ (openF (mvT φ T) q) (openF T q):=fun _=>bnd_mv (takeO_mv h0 _ _) fun _=>rfl
theorem RT_mv (h0:φ 0=0):∀k m w,NatF φ (RT (mvT φ T) k m w) (RT T k m w)
 | 0,m,w,f=>by simp[RT,mvE_0 h0]
 | k+1,m,w,f=>by
  have IH:=RT_mv h0 k
  unfold RT
  rw[mvF_i,mvT_get]
  cases T[f.m.i]? with
  | none=>simp[mvE_0 h0]
  | some t=>
   simp only[Option.map_some,mv_1,mv_2,mv_isW,opensT_mv]
   rw[EM_ite]
   congr 1
   ·rw[EM_ite,EM_ite]
    congr 1
    ·exact bnd_mv (IH _ _ f) (IH _ _)
    ·congr 1
     exact bnd_mv (IH _ _ f) (IH _ _)
   rw[EM_ite]
   congr 1
   ·refine bnd_mv (takeT_mv h0 _ _) fun x=>bnd_mv (wordT_mv h0 _) fun y=>?_
    simp only[id,setI_mv,mv_2]
    rw[EM_ite,EM_ite]
    congr 1
    ·exact bnd_mv (opnT_mv h0 _ _ _) fun z=>bnd_mv (blkT_mv _ _ (IH 0 0) _) (closeF_mv h0)
    ·congr 1
     ·exact bnd_mv (opnT_mv h0 _ _ _) fun z=>bnd_mv (IH _ _ _) fun f3=>bnd_mv (blkT_mv _ _ (IH 6 0) _) (closeF_mv h0)
     ·exact bnd_mv (behT_mv h0 _ _) fun z=>bnd_mv (IH _ _ _) fun f3=>closeF_mv h0 (putF f3 z.1)
   rw[EM_ite]
   congr 1
   ·refine bnd_mv (wordT_mv h0 _) fun y=>?_
    simp only[id,setI_mv]
    rw[EM_ite]
    congr 1
    ·exact bnd_mv (opnT_mv h0 _ _ _) fun z=>blkT_mv _ _ (IH 3 y.1) _
    ·exact bnd_mv (behT_mv h0 _ _) fun z=>rfl
   rw[EM_ite]
   congr 1
   ·refine bnd_mv (IH _ _ f) fun f2=>?_
    simp only[mvF_i,tok0_mv h0,mv_isW]
    rw[EM_ite]
    congr 1
    ·exact bnd_mv (wordF_mv h0 _ _) fun f3=>bnd_mv (IH 0 0 (putF f3 (insB 5))) (wordF_mv h0 _)
    ·exact wordF_mv h0 _ _
   rw[EM_ite]
   congr 1
   ·rw[EM_ite]
    congr 1
    exact bnd_mv (IH _ _ f) (IH _ _)
   rw[EM_ite]
   congr 1
   ·rw[EM_ite]
    congr 1
    exact bnd_mv (IH _ _ f) (IH _ _)
   ·refine bnd_mv (openF_mv h0 _ f) fun f1=>bnd_mv (IH _ _ f1) fun f2=>bnd_mv (closeF_mv h0 f2) fun f3=>?_
    simp only[mvF_i,tok0_mv h0,mv_1]
    rw[EM_ite]
    congr 1
    exact bnd_mv (openF_mv h0 _ f3) fun f4=>bnd_mv (IH 0 0 (putF f4 (insB 5))) (closeF_mv h0)
theorem fnT_mv (h0:φ 0=0):Nat' φ (fnT (mvT φ T)) (fnT T):=by
 intro s
 unfold fnT
 simp only[declT_mv]
 rw[mvT_len,show(mvS φ s).fu=s.fu from rfl,show(mvS φ s).fF=s.fF from rfl,mvS_i]
 rcases declT T s.fF s.fu.length s.i with⟨a,b,c,d⟩
 simp only
 refine bnd_mv (g:=fun x=>(x.1,mvF φ x.2)) ?_ fun x=>bnd_mv (g:=fun y=>(y.1,mvS φ y.2)) ?_ fun y=>bnd_mv (g:=fun x=>((x.1.1,x.1.2.1,mvN φ x.1.2.2),x.2)) (gnT_mv h0 _ _ _ _ _ _ _ _) fun z=>bnd_mv (g:=mvF φ) (RT_mv h0 _ _ _ {x.2 with nm:=z.1.2.1,m:={y.2 with fu:=y.2.fu++[y.1],i:=z.2,no:=z.1.2.2}}) fun f3=>rfl
 ·rw[←useT_mv h0]
  congr 1
  simp only[mvF,mvS,mvN_app]
 ·simp only[EM_ite]
  congr 1
  exact tixT_mv h0 _ _
theorem modT_mv (h0:φ 0=0):Nat' φ (modT (mvT φ T)) (modT T):=by
 intro s
 unfold modT
 simp only[mvT_len]
 refine bnd_mv (takeO_mv h0 _ _) fun x=>bnd_mv (itemsT_mv h0 _ _ (f:=typeI T) (fun s=>bnd_mv (typeT_mv h0 s) fun _=>rfl) _ _ {s with i:=x.2}) fun s1=>bnd_mv (itemsT_mv h0 _ _ (fnT_mv h0) _ _ _) fun s2=>bnd_mv (perhapsT_mv h0 _ (taT_mv h0) _) fun s3=>bnd_mv (perhapsT_mv h0 _ (meT_mv h0) _) fun s4=>bnd_mv (itemsT_mv h0 _ _ (globT_mv h0) _ _ _) fun s5=>bnd_mv (itemsT_mv h0 _ _ (exportT_mv h0) _ _ _) fun s6=>bnd_mv (perhapsT_mv h0 _ (startT_mv h0) _) fun s7=>bnd_mv (itemsT_mv h0 _ _ (f:=elemI T) (fun s=>bnd_mv (elemT_mv h0 s) fun _=>rfl) _ _ _) fun s8=>bnd_mv (itemsT_mv h0 _ _ (dataT_mv h0) _ _ _) fun s9=>bnd_mv (closeM_mv h0 _) fun j=>bnd_mv (takeT_mv h0 _ _) fun y=>rfl
theorem tellL_mv (ns:List (Nat×Nat)):∀l:List Nat,(∀e∈l,e≠1∧e≠2)→tellL (mvN φ ns) l=(tellL ns l).map (mvE φ)
 | [],_=>rfl
 | e::l,hl=>by
  obtain⟨h1,h2⟩:=hl e (by simp)
  have hf:(mvN φ ns).find? (fun x=>x.1==e)=(ns.find? (fun x=>x.1==e)).map (mvE φ):=by
   unfold mvN
   rw[List.find?_map]
   congr 2
   funext x
   simp only[Function.comp,mvE]
   split
   ·rename_i h
    rw[h]
    have a1:(2==e)=false:=by simp;omega
    have a2:(1==e)=false:=by simp;omega
    rw[a1,a2]
   ·rfl
  unfold tellL
  rw[hf]
  cases ns.find? (fun x=>x.1==e) with
  | none=>exact tellL_mv ns l fun x hx=>hl x (by simp[hx])
  | some x=>rfl
theorem asmT_mv (h0:φ 0=0):asmT (mvT φ T)=EM φ (mvS φ) (asmT T):=by
 unfold asmT
 refine bnd_mv (modT_mv h0 (mkS [] [] [])) fun s1=>bnd_mv (modT_mv h0 (mkS s1.fT s1.fF s1.fG)) fun s2=>?_
 rw[show(mvS φ s2).no=mvN φ s2.no from rfl,tellL_mv s2.no _ (by simp)]
 cases tellL s2.no [8,6,9]<;>rfl
end
end
end Go.Proofs.YtkmofapihggjgaaGreatDoor
