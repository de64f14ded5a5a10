import Derived.Test.YtdaafkmhfedkiaaGreatX1
namespace Go.Proofs.YtdaafkmhfedkiaaGreat
set_option maxHeartbeats 1600000
set_option maxRecDepth 100000
open Go.RowKit Go.Proofs.Tryz
structure Row(ok:Nat->Prop)(w:World)(E:TypeId)(size:Nat)(v:Value)(n:Nat)(xs:List Value):Prop where
 own:w.ownsRow 0 E size v n xs
 at_:∀g,v.ownBlock=some g->ok g
theorem Row.nil(ok:qD)(w:qW)(E:TypeId)(a:Nat):Row ok w E a (qN) 0 []:=
 ⟨World.ownsRow_nil w 0 E a,fun g h=>by simp[Value.ownBlock] at h⟩
theorem Row.mono{ok ok':qD}{w:qW}{E:TypeId}{a:Nat}{v:qv}{n:Nat}{xs:qV}(h:Row ok w E a v n xs)(c:∀g,g<w.heap.size->ok g->ok' g):Row ok' w E a v n xs:=
 ⟨h.own,fun g b=>c g (h.own.lt g b).2 (h.at_ g b)⟩
theorem Row.kept{S ok:qD}{w w':qW}{E:TypeId}{a:Nat}{v:qv}{n:Nat}{xs:qV}(h:Row ok w E a v n xs)(X:Kept S w w')(d:∀g,g<w.heap.size->ok g->¬S g):Row ok w' E a v n xs:=by
 refine⟨⟨h.own.1,?_⟩,h.at_⟩;rcases h.own.2 with e | ⟨g,A,f,rfl,hb,b,rest⟩
 .exact .inl e
 have c:g<w.heap.size:=(Array.getElem?_eq_some_iff.1 b).1;exact .inr ⟨g,A,f,rfl,hb,by rw[X.block g c (d g c (h.at_ g rfl))];exact b,rest⟩
theorem Kept.iB{w w':qW}{a:Option Nat}(h:w.grownBy w' a):Kept (fun k=>a=some k) w w':=
 ⟨h.os,h.tape,h.output,h.size,fun k X b=>h.block k X (fun e=>b e.symm)⟩
theorem Kept.fresh{S S':qD}{a b c:qW}(h:Kept S a b)(k:Kept S' b c)(f:∀i,i<a.heap.size->S' i->S i):Kept S a c:=
 ⟨k.os.trans h.os,k.tape.trans h.tape,k.output.trans h.output,Nat.le_trans h.size k.size,
  fun i d e=>(k.block i (Nat.lt_of_lt_of_le d h.size) (fun x=>e (f i d x))).trans (h.block i d e)⟩
theorem Row.pO{ok:qD}{w:qW}{E:TypeId}{a:Nat}{v:qv}{n:Nat}{xs:qV}{B:Nat}(h:Row ok w E a v n xs)(hb:∀g,ok g->B<=g):w.ownsRow B E a v n xs:=by
 refine⟨h.own.1,?_⟩;rcases h.own.2 with b | ⟨g,A,c,rfl,_,rest⟩
 .exact .inl b
 exact .inr ⟨g,A,c,rfl,hb g (h.at_ g rfl),rest⟩
theorem Row.nS{ok:qD}{w:qW}{E:TypeId}{a:Nat}{v:qv}{n:Nat}{xs:qV}{B:Nat}(h:w.ownsRow B E a v n xs)(hb:∀g,B<=g->g<w.heap.size->ok g):Row ok w E a v n xs:=by
 refine⟨⟨h.1,?_⟩,fun g b=>hb g (h.lt g b).1 (h.lt g b).2⟩;rcases h.2 with c | ⟨g,A,d,rfl,_,rest⟩
 .exact .inl c
 exact .inr ⟨g,A,d,rfl,qZ,rest⟩
theorem iP{S:qD}{a w w':qW}{E:TypeId}{b:Nat}{v:qv}{n:Nat}{xs:qV}{B:Nat}(h:Kept S a w)(c:w.ownsRow B E b v n xs)(f:a.heap.size<=B)(d:w.grownBy w' v.ownBlock):Kept S a w':=
 h.fresh (Kept.iB d) (fun i g e=>absurd (c.lt i e).1 qo)
theorem ny{w w':qW}{E:TypeId}{a:Nat}{v:qv}{m:Nat}{xs:qV}{B b:Nat}{s:qS}{i n:Nat}(h:Rd w b s i n)(c:w.ownsRow B E a v m xs)(f:b<B)(d:w.grownBy w' v.ownBlock):Rd w' b s i n:=
 h.kept (Kept.iB d) (fun e=>absurd (c.lt b e).1 qo)
def eO{α:Type}(tM:qS->Nat->Nat->Except Err (α×Nat))(s:qS)(n:Nat):Nat->List α->Nat->Except Err (List α×Nat)
 | 0,M,j=>.ok (M,j)
 | k+1,M,j=>match tM s n j with
  | .error e=>.error e
  | .ok (x,j')=>eO tM s n k (M++[x]) j'
def dY{α:Type}(most:Nat)(tM:qS->Nat->Nat->Except Err (α×Nat))(s:qS)(n i:Nat):Except Err (List α×Nat):=
 match eZ most s n i with
 | .error e=>.error e
 | .ok (k,j)=>eO tM s n k [] j
theorem CE{a:Type}{tM:qS->Nat->Nat->Except Err (a×Nat)}{s:qS}{n k j:Nat}{M:List a}{e:Err}(X:0<k)(h:tM s n j=.error e):eO tM s n k M j=.error e:=by
 obtain⟨m,rfl⟩:∃m,k=m+1:=⟨k - 1,qo⟩;simp[eO,h]
theorem pJ{a:Type}{tM:qS->Nat->Nat->Except Err (a×Nat)}{s:qS}{n k j b:Nat}{M:List a}{x:a}(X:0<k)(h:tM s n j=.ok (x,b)):eO tM s n k M j=eO tM s n (k - 1) (M++[x]) b:=by
 obtain⟨m,rfl⟩:∃m,k=m+1:=⟨k - 1,qo⟩;simp[eO,h]
theorem gD{most:Nat}{s:qS}{n i k j:Nat}(h:eZ most s n i=.ok (k,j)):k<=most/\i<j/\j<=n:=by
 unfold eZ at h;exact aed
theorem Tryz.DZ:(prog.info? 187).map (fun i=>(i.zero,i.size,i.bytes))=some (some (qB 0),1,1):=qk
def kindCells(ks:List Nat):List Value:=ks.map fun(k:Nat)=>qB k
def dG(ok:Nat->Prop)(ks:List Nat)(w:World)(v:Value):Prop:=Row ok w 187 1 v ks.length (kindCells ks)
theorem DW{w:qW}{b:Nat}{s:qS}{i n:Nat}(most:Nat)(h:Rd w b s i n)(O:most<=50):
  qC 189 #[qP b,qJ most,.func (.func 190) #[] #[]] w (Out w b s n (dG (fun g=>w.heap.size<=g)) (dY most kJ s n i)):=by
 obtain⟨F,G,H,I,J⟩:=info_parts Tryz.DZ;go_enter func189,ntmps189;go_wp2_with fail
 refine(count_any most h qo).mono ?_;rintro e Q ⟨hk1,c,jY⟩;rcases ho:eZ most s n i with⟨q,p⟩|K
 .exact SQ
 obtain⟨a,y⟩:=K;obtain⟨u,rfl,l,d⟩:=c _ _ ho;obtain rfl:u=qJ a:=l;have R:=(gD ho).1;have z:qh (dY most kJ s n i=eO kJ s n a [] y):=by show _=_;simp[dY,ho]
 clear c jY ho;go_wp2;go_loopw [7,12] (fun v q wr=>∃(k j:Nat) (ks:qM),k<=a/\ks.length=k/\q=qJ k/\Rd wr b s j n/\Kept (only b) w wr/\dG (fun g=>w.heap.size<=g) ks wr v/\dY most kJ s n i=eO kJ s n (a - k) ks j) (fun _ q _=>a - (intOf q).toNat)
 case atStart=>exact⟨0,y,[],qZ,rfl,rfl,d,hk1,Row.nil _ _ _ _,z.o⟩
 obtain⟨k,j,ks,X,hl,rfl,d,m,r,A⟩:=hrel;have HE:=hide A;clear A z;by_cases S:k<a
 .have hlt':(k:Int)<(a:Int):=qo;go_wp2_with fail
  refine(y9 d).mono ?_;rintro e B ⟨t,c,jY⟩;have hk3:=m.trans t;have C:Row (fun g=>w.heap.size<=g) B 187 1 u7 ks.length (kindCells ks):=r.kept t (fun g _ f (e:g=b)=>by have:=h.lt;omega);clear r t m;rcases ho:kJ s n j with⟨q,p⟩|⟨x,j2⟩
  .exact SV
  obtain⟨u,rfl,l,L⟩:=c _ _ ho;obtain rfl:u=qB x:=l;have HH:qh (dY most kJ s n i=eO kJ s n (a - (k+1)) (ks++[x]) j2):=HE.o.trans (pJ qo ho);clear c jY ho d;have D:=(C.pO (fun g f=>f)).alloc (.cells #[qB x] 187);have HW:=hide D;have T:=hk3.size;clear D C;go_wp2_with (at_builtin;refine wpList_append_own _ rfl _ _ 196 rfl w.heap.size 187 F (qB 0) 1 1 underlying196 G H I J rfl qx _ _ _ rfl HW.o ⟨B.heap.size,0,none⟩ 1 1 [qB x] rfl rfl ?c1 ?c2 ?c3 ?c4 ?c5 ?_)
  case c1=>exact cell_one_new _ _ _
  case c2=>intro u E;simp at E;subst E;rfl
  case c3=>unfold maxLen;omega
  case c4=>omega
  case c5=>simp;omega
  intro M N hown' hgrow _;have hk4:=iP (hk3.alloc _) HW.o qR hgrow;have GG:=ny (L.alloc _) HW.o h.lt hgrow;have hrow3:dG (fun g=>w.heap.size<=g) (ks++[x]) N M:=by
   have:=Row.nS (ok:=fun g=>w.heap.size<=g) hown' (fun g f _=>f);simpa [dG,kindCells,hl] using this
  exact YL
 have HH:qh (dY most kJ s n i=.ok (ks,j)):=by show _=_;rw[HE.o,show a - k=0 by omega];rfl
 go_wp2;go_ret;exact Out.dW HH.o m r d
def numCells(x:Int×Nat):List Value:=[.int .u32 x.1,qJ x.2]
structure Hf where
 at_:Nat
 least:Int
 most:Int
 has:Bool
def Hf.cells(x:Hf):List Value:=[qJ x.at_,.int .u32 x.least,.int .u32 x.most,.bool x.has]
def aaa(x:Hf)(_:World)(v:Value):Prop:=v=.agg #[qJ x.at_,.int .u32 x.least,.int .u32 x.most,.bool x.has]
def xu(s:qS)(n i:Nat):Except Err (Hf×Nat):=
 match iO [0,1] s n i with
 | .error e=>.error e
 | .ok (x,j)=>
  match uM s n j with
  | .error e=>.error e
  | .ok ((v,_),j2)=>
   if x=1 then
    match uM s n j2 with
    | .error e=>.error e
    | .ok ((m,_),j3)=>.ok (⟨i,v,m,true⟩,j3)
   else .ok (⟨i,v,0,false⟩,j2)
def um(s:qS)(n i:Nat):Except Err (Hf×Nat):=
 match iO [112] s n i with
 | .error e=>.error e
 | .ok (_,j)=>xu s n j
structure MF where
 kind:Nat
 xM:Bool
 first:Cst
def MF.cells(x:MF):List Value:=[qB x.kind,.bool x.xM,qJ x.first.at_,qB x.first.kind,qJ x.first.val]
def adw(x:MF)(_:World)(v:Value):Prop:=v=.agg #[qB x.kind,.bool x.xM,qJ x.first.at_,qB x.first.kind,qJ x.first.val]
def mH(s:qS)(n i:Nat):Except Err (MF×Nat):=
 match kJ s n i with
 | .error e=>.error e
 | .ok (k,j)=>
  match iO [0,1] s n j with
  | .error e=>.error e
  | .ok (x,j2)=>
   match ku s n j2 with
   | .error e=>.error e
   | .ok (c,j3)=>.ok (⟨k,x==1,c⟩,j3)
structure Ql where
 nameAt:Nat
 name:qS
 Tc:Nat
 idx:Int×Nat
def Ql.cells(x:Ql):List Value:=[qJ x.nameAt,.string x.name,qB x.Tc,.int .u32 x.idx.1,qJ x.idx.2]
def adx(x:Ql)(_:World)(v:Value):Prop:=v=.agg #[qJ x.nameAt,.string x.name,qB x.Tc,.int .u32 x.idx.1,qJ x.idx.2]
def Bz(x:Nat):Bool:=decide (32<=x)&&decide (x<=126)&&x !=34&&x !=92
def kF(t:qS)(k:Nat):Bool:=(tl t k).all Bz
def nA(s:qS)(n i:Nat):Except Err (Ql×Nat):=
 match eZ 20 s n i with
 | .error e=>.error e
 | .ok (k,j)=>
  match kZ k s n j with
  | .error e=>.error e
  | .ok (t,j2)=>
   if kF t 0=false then .error (2,i) else
   match iO [0,1,2,3] s n j2 with
   | .error e=>.error e
   | .ok (x,j3)=>
    match uM s n j3 with
    | .error e=>.error e
    | .ok (u,j4)=>.ok (⟨i,t,x,u⟩,j4)
structure Dat where
 at_:Nat
 place:Cst
 bytes:qS
def Dat.cells(x:Dat):List Value:=[qJ x.at_,qJ x.place.at_,qB x.place.kind,qJ x.place.val,.string x.bytes]
def adz(x:Dat)(_:World)(v:Value):Prop:=v=.agg #[qJ x.at_,qJ x.place.at_,qB x.place.kind,qJ x.place.val,.string x.bytes]
def xe(s:qS)(n i:Nat):Except Err (Dat×Nat):=
 match iO [0] s n i with
 | .error e=>.error e
 | .ok (_,j)=>
  match ku s n j with
  | .error e=>.error e
  | .ok (c,j2)=>
   match eZ 100 s n j2 with
   | .error e=>.error e
   | .ok (k,j3)=>
    match kZ k s n j3 with
    | .error e=>.error e
    | .ok (t,j4)=>.ok (⟨i,c,t⟩,j4)
structure Ty where
 ins:List Nat
 outs:List Nat
def vT(s:qS)(n i:Nat):Except Err (Ty×Nat):=
 match iO [96] s n i with
 | .error e=>.error e
 | .ok (_,j)=>
  match dY 8 kJ s n j with
  | .error e=>.error e
  | .ok (a,j2)=>
   match dY 4 kJ s n j2 with
   | .error e=>.error e
   | .ok (c,j3)=>.ok (⟨a,c⟩,j3)
structure Qi where
 at_:Nat
 place:Cst
 funcs:List (Int×Nat)
def xW(s:qS)(n i:Nat):Except Err (Qi×Nat):=
 match iO [0] s n i with
 | .error e=>.error e
 | .ok (_,j)=>
  match ku s n j with
  | .error e=>.error e
  | .ok (c,j2)=>
   match dY 20 uM s n j2 with
   | .error e=>.error e
   | .ok (l,j3)=>.ok (⟨i,c,l⟩,j3)
theorem ja(x y:qv)(w:qW):(Instr.field 152 (.agg #[x,y]) 0).run prog w=.ok x w:=qk
theorem zV{w:qW}{b:Nat}{s:qS}{i n:Nat}(h:Rd w b s i n):
  qC 162 #[qP b] w (Out w b s n aaa (xu s n i)):=by
 have ak:=h.lt;have am:=ja;go_enter func162,ntmps162;go_wp2_with fail
 refine(wR (h.alloc _)).mono ?_;rintro e w0 ⟨rfl,rfl⟩;go_wp2_with fail
 refine(one_any (ts:=[0,1]) (((h.alloc _).alloc _).alloc _) (Et 0 1 qs rfl rfl) qs qo qs).mono ?_;rintro e Z ⟨M,f,k⟩;have N:=((((Kept.refl (only b) w).alloc _).alloc _).alloc _).trans M;have aa:OB Z b (w.heap.size) [qJ 0,.int .u32 0,.int .u32 0,.bool false]:=(((OB.new (b:=b) (g:=w.heap.size) (c:= #[qJ 0,.int .u32 0,.int .u32 0,.bool false]) (by first | omega | (simp;omega)) qs).alloc _).alloc _).call M;have H:OB Z b (w.heap.size+1) [qJ i,.int .u32 0,.int .u32 0,.bool false]:=((OB.new (b:=b) (g:=w.heap.size+1) (c:= #[qJ i,.int .u32 0,.int .u32 0,.bool false]) (by first | omega | (simp;omega)) qs).alloc _).call M;clear M;rcases d:iO [0,1] s n i with⟨q,p⟩|Q
 .obtain rfl:=k _ _ d;exact⟨rfl,Out.dD (by simp[xu,d]) N⟩
 obtain⟨x,j⟩:=Q;obtain⟨u,rfl,r,ab⟩:=f _ _ d;obtain rfl:u=qB x:=r;have I:=hide d;clear f k d;have an:=N.size;have hx:x=0\/x=1:=by have:=(vB I.o).1;simpa using this
 rcases hx with rfl | rfl
 .skip
  obtain⟨⟨t,y⟩,⟨z,A⟩,⟨B,C⟩,⟨D,E⟩⟩:=H.blk.four;go_wp2_with fail
  refine(uQ (ab.dA H.ne _)).mono ?_;rintro e K ⟨l,f,k⟩;have F:=(N.new qo _).trans l;have G:OB K b (w.heap.size) [qJ 0,.int .u32 0,.int .u32 0,.bool false]:=(aa.other qo _).call l;have J:OB K b (w.heap.size+1) [qJ i,.int .u32 0,.int .u32 0,(.bool false)]:=(H.set 3 (.bool false)).call l;clear t y z A B C D E;clear l;rcases d:uM s n j with⟨q,p⟩|⟨⟨v,a⟩,R⟩
  .obtain rfl:=k _ _ d;exact⟨rfl,Out.dD (by simp[xu,I.o,d]) F⟩
  obtain⟨u,rfl,r,S⟩:=f _ _ d;obtain rfl:u=.agg #[.int .u32 v,qJ a]:=r;have O:=hide d;clear f k d;have ad:=F.size;obtain⟨⟨T,ae⟩,⟨U,af⟩,⟨V,ag⟩,⟨W,ah⟩⟩:=G.blk.four;obtain⟨⟨t,y⟩,⟨z,A⟩,⟨B,C⟩,⟨D,E⟩⟩:=J.blk.four;have X:qh (xu s n i=.ok (⟨i,v,0,false⟩,R)):=by show _=_;simp[xu,I.o,O.o]
  go_wp2;refine bodyPost_ret (v:=.agg #[qJ i,.int .u32 v,.int .u32 0,.bool false]) ?_ rfl (Out.dW X.o (((((F.new qo _).new qR _).new qR _).new qR _).new qR _) rfl (((((S.dA J.ne _).dA G.ne _).dA G.ne _).dA G.ne _).dA G.ne _));simp[results,results162,go_sem,T,U,V,W]
 skip
 obtain⟨⟨t,y⟩,⟨z,A⟩,⟨B,C⟩,⟨D,E⟩⟩:=H.blk.four;go_wp2_with fail
 refine(uQ (ab.dA H.ne _)).mono ?_;rintro e K ⟨l,f,k⟩;have F:=(N.new qo _).trans l;have G:OB K b (w.heap.size) [qJ 0,.int .u32 0,.int .u32 0,.bool false]:=(aa.other qo _).call l;have J:OB K b (w.heap.size+1) [qJ i,.int .u32 0,.int .u32 0,(.bool true)]:=(H.set 3 (.bool true)).call l;clear t y z A B C D E;clear l;rcases d:uM s n j with⟨q,p⟩|Q
 .obtain rfl:=k _ _ d;exact⟨rfl,Out.dD (by simp[xu,I.o,d]) F⟩
 obtain⟨⟨v,a⟩,R⟩:=Q;obtain⟨u,rfl,r,S⟩:=f _ _ d;obtain rfl:u=.agg #[.int .u32 v,qJ a]:=r;have O:=hide d;clear f k d;have ad:=F.size;obtain⟨⟨t,y⟩,⟨z,A⟩,⟨B,C⟩,⟨D,E⟩⟩:=J.blk.four;go_wp2_with fail
 refine(uQ (S.dA J.ne _)).mono ?_;rintro e w3 ⟨P,f,k⟩;have Y:=(F.new qo _).trans P;have L:OB w3 b (w.heap.size) [qJ 0,.int .u32 0,.int .u32 0,.bool false]:=(G.other qo _).call P;have ac:OB w3 b (w.heap.size+1) [qJ i,(.int .u32 v),.int .u32 0,(.bool true)]:=(J.set 1 (.int .u32 v)).call P;clear t y z A B C D E;clear P;rcases d:uM s n R with⟨q,p⟩|⟨⟨m,a2⟩,j3⟩
 .obtain rfl:=k _ _ d;exact⟨rfl,Out.dD (by simp[xu,I.o,O.o,d]) Y⟩
 obtain⟨u,rfl,r,ai⟩:=f _ _ d;obtain rfl:u=.agg #[.int .u32 m,qJ a2]:=r;have aj:=hide d;clear f k d;have ao:=Y.size;obtain⟨⟨T,ae⟩,⟨U,af⟩,⟨V,ag⟩,⟨W,ah⟩⟩:=L.blk.four;obtain⟨⟨t,y⟩,⟨z,A⟩,⟨B,C⟩,⟨D,E⟩⟩:=ac.blk.four;have X:qh (xu s n i=.ok (⟨i,v,m,true⟩,j3)):=by show _=_;simp[xu,I.o,O.o,aj.o]
 go_wp2;refine bodyPost_ret (v:=.agg #[qJ i,.int .u32 v,.int .u32 m,.bool true]) ?_ rfl (Out.dW X.o (((((Y.new qo _).new qR _).new qR _).new qR _).new qR _) rfl (((((ai.dA ac.ne _).dA L.ne _).dA L.ne _).dA L.ne _).dA L.ne _));simp[results,results162,go_sem,T,U,V,W]
theorem KZ{w:qW}{b:Nat}{s:qS}{i n:Nat}(h:Rd w b s i n):
  qC 161 #[qP b] w (Out w b s n aaa (um s n i)):=by
 have O:=h.lt;have P:=ja;go_enter func161,ntmps161;go_wp2_with fail
 refine(one_any (ts:=[112]) ((h.alloc _).alloc _) (wu 112 qs rfl) qs qo qs).mono ?_;rintro e A ⟨m,d,f⟩;have r:=(((Kept.refl (only b) w).alloc _).alloc _).trans m;have B:OB A b (w.heap.size) [qJ 0,.int .u32 0,.int .u32 0,.bool false]:=((OB.new (b:=b) (g:=w.heap.size) (c:= #[qJ 0,.int .u32 0,.int .u32 0,.bool false]) (by first | omega | (simp;omega)) qs).alloc _).call m;clear m;rcases a:iO [112] s n i with⟨q,p⟩|C
 .obtain rfl:=f _ _ a;exact⟨rfl,Out.dD (by simp[um,a]) r⟩
 obtain⟨x,j⟩:=C;obtain⟨u,rfl,-,D⟩:=d _ _ a;have z:=hide a;clear d f a;have Q:=r.size;go_wp2_with fail
 refine(zV D).mono ?_;rintro e E ⟨t,d,f⟩;have y:=r.trans t;have k:OB E b (w.heap.size) [qJ 0,.int .u32 0,.int .u32 0,.bool false]:=B.call t;clear t;rcases a:xu s n j with⟨q,p⟩|⟨l,F⟩
 .obtain rfl:=f _ _ a;exact⟨rfl,Out.dD (by simp[um,z.o,a]) y⟩
 obtain⟨u,rfl,G,H⟩:=d _ _ a;obtain rfl:u=.agg #[qJ l.at_,.int .u32 l.least,.int .u32 l.most,.bool l.has]:=G;have I:=hide a;clear d f a;have R:=y.size;obtain⟨⟨J,S⟩,⟨K,T⟩,⟨L,U⟩,⟨M,V⟩⟩:=k.blk.four;have N:qh (um s n i=.ok (l,F)):=by show _=_;simp[um,z.o,I.o]
 go_wp2;refine bodyPost_ret (v:=.agg #[qJ l.at_,.int .u32 l.least,.int .u32 l.most,.bool l.has]) ?_ rfl (Out.dW N.o ((((y.new qR _).new qR _).new qR _).new qR _) rfl ((((H.dA k.ne _).dA k.ne _).dA k.ne _).dA k.ne _));simp[results,results161,go_sem,J,K,L,M]
theorem IG{w:qW}{b:Nat}{s:qS}{i n:Nat}(h:Rd w b s i n):
  qC 164 #[qP b] w (Out w b s n adw (mH s n i)):=by
 have am:=h.lt;have an:=ja;go_enter func164,ntmps164;go_wp2_with fail
 refine(y9 ((h.alloc _).alloc _)).mono ?_;rintro e w1 ⟨N,f,k⟩;have Q:=(((Kept.refl (only b) w).alloc _).alloc _).trans N;have ad:OB w1 b (w.heap.size) [qB 0,.bool false,qJ 0,qB 0,qJ 0]:=((OB.new (b:=b) (g:=w.heap.size) (c:= #[qB 0,.bool false,qJ 0,qB 0,qJ 0]) (by first | omega | (simp;omega)) qs).alloc _).call N;have R:OB w1 b (w.heap.size+1) [qB 0,.bool false,qJ 0,qB 0,qJ 0]:=(OB.new (b:=b) (g:=w.heap.size+1) (c:= #[qB 0,.bool false,qJ 0,qB 0,qJ 0]) (by first | omega | (simp;omega)) qs).call N;clear N;rcases a:kJ s n i with⟨q,p⟩|S
 .obtain rfl:=k _ _ a;exact⟨rfl,Out.dD (by simp[mH,a]) Q⟩
 obtain⟨l,j⟩:=S;obtain⟨u,rfl,t,ae⟩:=f _ _ a;obtain rfl:u=qB l:=t;have K:=hide a;clear f k a;have ao:=Q.size;obtain⟨⟨y,z⟩,⟨A,B⟩,⟨C,D⟩,⟨E,F⟩,⟨G,H⟩⟩:=R.blk.five;go_wp2_with fail
 refine(one_any (ts:=[0,1]) ((ae.dA R.ne _).alloc _) (Et 0 1 qs rfl rfl) qs qt qs).mono ?_;rintro e w2 ⟨O,f,k⟩;have P:=((Q.new qo _).alloc _).trans O;have ab:OB w2 b (w.heap.size) [qB 0,.bool false,qJ 0,qB 0,qJ 0]:=((ad.other qo _).alloc _).call O;have J:OB w2 b (w.heap.size+1) [(qB l),.bool false,qJ 0,qB 0,qJ 0]:=((R.set 0 (qB l)).alloc _).call O;clear y z A B C D E F G H;clear O;rcases a:iO [0,1] s n j with⟨q,p⟩|S
 .obtain rfl:=k _ _ a;exact⟨rfl,Out.dD (by simp[mH,K.o,a]) P⟩
 obtain⟨x,j2⟩:=S;obtain⟨u,rfl,t,ac⟩:=f _ _ a;obtain rfl:u=qB x:=t;have L:=hide a;clear f k a;have ap:=P.size;have hx:x=0\/x=1:=by have:=(vB L.o).1;simpa using this
 rcases hx with rfl | rfl
 .skip
  obtain⟨⟨y,z⟩,⟨A,B⟩,⟨C,D⟩,⟨E,F⟩,⟨G,H⟩⟩:=J.blk.five;go_wp2_with fail
  refine(rJ (ac.dA J.ne _)).mono ?_;rintro e M ⟨m,f,k⟩;have I:=(P.new qo _).trans m;have d:OB M b (w.heap.size) [qB 0,.bool false,qJ 0,qB 0,qJ 0]:=(ab.other qo _).call m;have r:OB M b (w.heap.size+1) [(qB l),(.bool false),qJ 0,qB 0,qJ 0]:=(J.set 1 (.bool false)).call m;clear y z A B C D E F G H;clear m;rcases a:ku s n j2 with⟨q,p⟩|⟨c,T⟩
  .obtain rfl:=k _ _ a;exact⟨rfl,Out.dD (by simp[mH,K.o,L.o,a]) I⟩
  obtain⟨u,rfl,t,U⟩:=f _ _ a;obtain rfl:u=.agg #[qJ c.at_,qB c.kind,qJ c.val]:=t;have V:=hide a;clear f k a;have af:=I.size;obtain⟨⟨W,ag⟩,⟨X,ah⟩,⟨Y,ai⟩,⟨Z,aj⟩,⟨aa,ak⟩⟩:=d.blk.five;obtain⟨⟨y,z⟩,⟨A,B⟩,⟨C,D⟩,⟨E,F⟩,⟨G,H⟩⟩:=r.blk.five;have HH:qh (mH s n i=.ok (⟨l,false,c⟩,T)):=by show _=_;simp[mH,K.o,L.o,V.o]
  go_wp2;refine bodyPost_ret (v:=.agg #[qB l,.bool false,qJ c.at_,qB c.kind,qJ c.val]) ?_ rfl (Out.dW HH.o ((((((((I.new qo _).new qo _).new qo _).new qR _).new qR _).new qR _).new qR _).new qR _) rfl ((((((((U.dA r.ne _).dA r.ne _).dA r.ne _).dA d.ne _).dA d.ne _).dA d.ne _).dA d.ne _).dA d.ne _));simp[results,results164,go_sem,W,X,Y,Z,aa]
 skip
 obtain⟨⟨y,z⟩,⟨A,B⟩,⟨C,D⟩,⟨E,F⟩,⟨G,H⟩⟩:=J.blk.five;go_wp2_with fail
 refine(rJ (ac.dA J.ne _)).mono ?_;rintro e M ⟨m,f,k⟩;have I:=(P.new qo _).trans m;have d:OB M b (w.heap.size) [qB 0,.bool false,qJ 0,qB 0,qJ 0]:=(ab.other qo _).call m;have r:OB M b (w.heap.size+1) [(qB l),(.bool true),qJ 0,qB 0,qJ 0]:=(J.set 1 (.bool true)).call m;clear y z A B C D E F G H;clear m;rcases a:ku s n j2 with⟨q,p⟩|⟨c,T⟩
 .obtain rfl:=k _ _ a;exact⟨rfl,Out.dD (by simp[mH,K.o,L.o,a]) I⟩
 obtain⟨u,rfl,t,U⟩:=f _ _ a;obtain rfl:u=.agg #[qJ c.at_,qB c.kind,qJ c.val]:=t;have V:=hide a;clear f k a;have af:=I.size;obtain⟨⟨W,ag⟩,⟨X,ah⟩,⟨Y,ai⟩,⟨Z,aj⟩,⟨aa,ak⟩⟩:=d.blk.five;obtain⟨⟨y,z⟩,⟨A,B⟩,⟨C,D⟩,⟨E,F⟩,⟨G,H⟩⟩:=r.blk.five;have HH:qh (mH s n i=.ok (⟨l,true,c⟩,T)):=by show _=_;simp[mH,K.o,L.o,V.o]
 go_wp2;refine bodyPost_ret (v:=.agg #[qB l,.bool true,qJ c.at_,qB c.kind,qJ c.val]) ?_ rfl (Out.dW HH.o ((((((((I.new qo _).new qo _).new qo _).new qR _).new qR _).new qR _).new qR _).new qR _) rfl ((((((((U.dA r.ne _).dA r.ne _).dA r.ne _).dA d.ne _).dA d.ne _).dA d.ne _).dA d.ne _).dA d.ne _));simp[results,results164,go_sem,W,X,Y,Z,aa]
theorem OQ{w:qW}{b:Nat}{s:qS}{i n:Nat}(h:Rd w b s i n):
  qC 171 #[qP b] w (Out w b s n adz (xe s n i)):=by
 have ao:=h.lt;have ap:=ja;go_enter func171,ntmps171;go_wp2_with fail
 refine(wR (h.alloc _)).mono ?_;rintro e w0 ⟨rfl,rfl⟩;go_wp2_with fail
 refine(one_any (ts:=[0]) (((h.alloc _).alloc _).alloc _) (wu 0 qs rfl) qs qo qs).mono ?_;rintro e J ⟨t,d,f⟩;have C:=((((Kept.refl (only b) w).alloc _).alloc _).alloc _).trans t;have Y:OB J b (w.heap.size) [qJ 0,qJ 0,qB 0,qJ 0,.string {data:= #[]}]:=(((OB.new (b:=b) (g:=w.heap.size) (c:= #[qJ 0,qJ 0,qB 0,qJ 0,.string {data:= #[]}]) (by first | omega | (simp;omega)) qs).alloc _).alloc _).call t;have Z:OB J b (w.heap.size+1) [qJ i,qJ 0,qB 0,qJ 0,.string {data:= #[]}]:=((OB.new (b:=b) (g:=w.heap.size+1) (c:= #[qJ i,qJ 0,qB 0,qJ 0,.string {data:= #[]}]) (by first | omega | (simp;omega)) qs).alloc _).call t;clear t;rcases a:iO [0] s n i with⟨q,p⟩|l
 .obtain rfl:=f _ _ a;exact⟨rfl,Out.dD (by simp[xe,a]) C⟩
 obtain⟨x,j⟩:=l;obtain⟨u,rfl,-,aa⟩:=d _ _ a;have y:=hide a;clear d f a;have aq:=C.size;go_wp2_with fail
 refine(rJ aa).mono ?_;rintro e K ⟨z,d,f⟩;have D:=C.trans z;have ab:OB K b (w.heap.size) [qJ 0,qJ 0,qB 0,qJ 0,.string {data:= #[]}]:=Y.call z;have m:OB K b (w.heap.size+1) [qJ i,qJ 0,qB 0,qJ 0,.string {data:= #[]}]:=Z.call z;clear z;rcases a:ku s n j with⟨q,p⟩|l
 .obtain rfl:=f _ _ a;exact⟨rfl,Out.dD (by simp[xe,y.o,a]) D⟩
 obtain⟨c,j2⟩:=l;obtain⟨u,rfl,r,ac⟩:=d _ _ a;obtain rfl:u=.agg #[qJ c.at_,qB c.kind,qJ c.val]:=r;have E:=hide a;clear d f a;have ar:=D.size;obtain⟨⟨L,M⟩,⟨N,O⟩,⟨P,Q⟩,⟨R,S⟩,⟨T,U⟩⟩:=m.blk.five;go_wp2_with fail
 refine(count_any 100 (((ac.dA m.ne _).dA m.ne _).dA m.ne _) qo).mono ?_;rintro e V ⟨A,d,f⟩;have F:=(((D.new qo _).new qo _).new qo _).trans A;have ad:OB V b (w.heap.size) [qJ 0,qJ 0,qB 0,qJ 0,.string {data:= #[]}]:=(((ab.other qo _).other qo _).other qo _).call A;have ae:OB V b (w.heap.size+1) [qJ i,(qJ c.at_),(qB c.kind),(qJ c.val),.string {data:= #[]}]:=(((m.set 1 (qJ c.at_)).set 2 (qB c.kind)).set 3 (qJ c.val)).call A;clear L M N O P Q R S T U;clear A;rcases a:eZ 100 s n j2 with⟨q,p⟩|l
 .obtain rfl:=f _ _ a;exact⟨rfl,Out.dD (by simp[xe,y.o,E.o,a]) F⟩
 obtain⟨kn,j3⟩:=l;obtain⟨u,rfl,r,af⟩:=d _ _ a;obtain rfl:u=qJ kn:=r;have G:=hide a;clear d f a;have au:=F.size;have av:=(gD G.o).1;go_wp2_with fail
 refine(Iz kn af qo).mono ?_;rintro e W ⟨B,d,f⟩;have H:=F.trans B;have k:OB W b (w.heap.size) [qJ 0,qJ 0,qB 0,qJ 0,.string {data:= #[]}]:=ad.call B;have X:OB W b (w.heap.size+1) [qJ i,(qJ c.at_),(qB c.kind),(qJ c.val),.string {data:= #[]}]:=ae.call B;clear B;rcases a:kZ kn s n j3 with⟨q,p⟩|⟨I,j4⟩
 .obtain rfl:=f _ _ a;exact⟨rfl,Out.dD (by simp[xe,y.o,E.o,G.o,a]) H⟩
 obtain⟨u,rfl,r,ag⟩:=d _ _ a;obtain rfl:u=.string I:=r;have ah:=hide a;clear d f a;have aw:=H.size;obtain⟨⟨ai,ax⟩,⟨aj,ay⟩,⟨ak,az⟩,⟨am,aA⟩,⟨an,aB⟩⟩:=k.blk.five;obtain⟨⟨L,M⟩,⟨N,O⟩,⟨P,Q⟩,⟨R,S⟩,⟨T,U⟩⟩:=X.blk.five;have HH:qh (xe s n i=.ok (⟨i,c,I⟩,j4)):=by show _=_;simp[xe,y.o,E.o,G.o,ah.o]
 go_wp2;refine bodyPost_ret (v:=.agg #[qJ i,qJ c.at_,qB c.kind,qJ c.val,.string I]) ?_ rfl (Out.dW HH.o ((((((H.new qo _).new qR _).new qR _).new qR _).new qR _).new qR _) rfl ((((((ag.dA X.ne _).dA k.ne _).dA k.ne _).dA k.ne _).dA k.ne _).dA k.ne _));simp[results,results171,go_sem,ai,aj,ak,am,an]
def isRow{α:Type}(E:TypeId)(size:Nat)(cells:α->List Value)(ok:Nat->Prop)(xs:List α)(w:World)(v:Value):Prop:=Row ok w E size v xs.length (xs.flatMap cells)
theorem cells_at{w:qW}{g:Nat}{c:Array qv}{t:TypeId}{l:qV}(a:g=w.heap.size)(b:l=c.toList):∀j u,l[j]?=some u->(w.alloc (.cells c t)).cell? ((⟨g,0,none⟩:Addr).add j)=some u:=by
 intro j u d;subst a b;have e:(⟨w.heap.size,0,none⟩:Addr).add j=⟨w.heap.size,j,none⟩:=by unfold Addr.add;split<;>simp_all
 rw[e,World.cell?_alloc_new];simpa using d
theorem Tryz.Pm:(prog.info? 152).map (fun i=>(i.zero,i.size,i.bytes))=some (some (.agg #[.int .u32 0,qJ 0]),2,16):=qk
theorem Ad{w:qW}{b:Nat}{s:qS}{i n:Nat}(most K:Nat)(tM:qS->Nat->Nat->Except Err ((Int×Nat)×Nat))(h:Rd w b s i n)(O:most<=50)(hc:Enters K)
  (m:∀c j,Rd c b s j n->qC K #[qP b] c (Out c b s n isNum (tM s n j))):
  qC 159 #[qP b,qJ most,.func (.func K) #[] #[]] w (Out w b s n (isRow 152 2 numCells (fun g=>w.heap.size<=g)) (dY most tM s n i)):=by
 obtain⟨D,E,F,G,H⟩:=info_parts Tryz.Pm;have Q:∀(args:Array qv) (w:qW),(callFunc K args).run prog w=.ok (.enter K args) w:=hc;have I:=hide m;clear m;go_enter func159,ntmps159;go_wp2_with fail
 refine(count_any most h qo).mono ?_;rintro e c ⟨hk1,a,jY⟩;rcases ho:eZ most s n i with⟨q,p⟩|J
 .exact SQ
 obtain⟨cnt,r⟩:=J;obtain⟨u,rfl,f,hrd⟩:=a _ _ ho;obtain rfl:u=qJ cnt:=f;have R:=(gD ho).1;have t:qh (dY most tM s n i=eO tM s n cnt [] r):=by show _=_;simp[dY,ho]
 clear a jY ho;go_wp2;go_loopw [7,12] (fun v q wr=>∃(k j:Nat) (ks:List (Int×Nat)),k<=cnt/\ks.length=k/\q=qJ k/\Rd wr b s j n/\Kept (only b) w wr/\isRow 152 2 numCells (fun g=>w.heap.size<=g) ks wr v/\dY most tM s n i=eO tM s n (cnt - k) ks j) (fun _ q _=>cnt - (intOf q).toNat)
 case atStart=>exact⟨0,r,[],qZ,rfl,rfl,hrd,hk1,Row.nil _ _ _ _,t.o⟩
 obtain⟨k,j,ks,X,hl,rfl,hrd,hkp,hrow,y⟩:=hrel;have HE:=hide y;clear y t;by_cases S:k<cnt
 .have hlt':(k:Int)<(cnt:Int):=qo;go_wp2_with fail
  refine(I.o _ _ hrd).mono ?_;rintro e z ⟨l,a,jY⟩;have hk3:=hkp.trans l;have A:Row (fun g=>w.heap.size<=g) z 152 2 u7 ks.length (ks.flatMap numCells):=hrow.kept l (fun g _ d (e:g=b)=>by have:=h.lt;omega);clear hrow l hkp;rcases ho:tM s n j with⟨q,p⟩|⟨x,j2⟩
  .exact SV
  obtain⟨u,rfl,f,L⟩:=a _ _ ho;obtain rfl:u=.agg #[.int .u32 x.1,qJ x.2]:=f;have HH:qh (dY most tM s n i=eO tM s n (cnt - (k+1)) (ks++[x]) j2):=HE.o.trans (pJ qo ho);clear a jY ho hrd;have B:=((A.pO (fun g d=>d)).alloc (.cells #[.int .u32 x.1,qJ x.2] 152)).alloc (.cells #[.int .u32 x.1,qJ x.2] 152);have HW:=hide B;have T:=hk3.size;clear B A;go_wp2_with (at_builtin;refine wpList_append_own _ rfl _ _ 134 rfl w.heap.size 152 D (.agg #[.int .u32 0,qJ 0]) 2 16 underlying134 E F G H rfl qx _ _ _ rfl HW.o ⟨z.heap.size+1,0,none⟩ 1 1 [.int .u32 x.1,qJ x.2] rfl rfl ?c1 ?c2 ?c3 ?c4 ?c5 ?_)
  case c1=>exact cells_at qs rfl
  case c2=>intro u C;simp at C;rcases C with rfl | rfl<;>rfl
  case c3=>unfold maxLen;omega
  case c4=>omega
  case c5=>simp;omega
  intro M N hown' hgrow _;have hk4:=iP ((hk3.alloc _).alloc _) HW.o qR hgrow;have GG:=ny ((L.alloc _).alloc _) HW.o h.lt hgrow;have hrow3:isRow 152 2 numCells (fun g=>w.heap.size<=g) (ks++[x]) N M:=by
   have:=Row.nS (ok:=fun g=>w.heap.size<=g) hown' (fun g d _=>d);simpa [isRow,numCells,hl] using this
  exact YL
 exact aa1
theorem Tryz.acp:(prog.info? 186).map (fun i=>(i.zero,i.size,i.bytes))=some (some (.agg #[qJ 0,.int .u32 0,.int .u32 0,.bool false]),4,24):=qk
theorem Ae{w:qW}{b:Nat}{s:qS}{i n:Nat}(most K:Nat)(tM:qS->Nat->Nat->Except Err ((Hf)×Nat))(h:Rd w b s i n)(O:most<=50)(hc:Enters K)
  (m:∀c j,Rd c b s j n->qC K #[qP b] c (Out c b s n aaa (tM s n j))):
  qC 160 #[qP b,qJ most,.func (.func K) #[] #[]] w (Out w b s n (isRow 186 4 Hf.cells (fun g=>w.heap.size<=g)) (dY most tM s n i)):=by
 obtain⟨D,E,F,G,H⟩:=info_parts Tryz.acp;have Q:∀(args:Array qv) (w:qW),(callFunc K args).run prog w=.ok (.enter K args) w:=hc;have I:=hide m;clear m;go_enter func160,ntmps160;go_wp2_with fail
 refine(count_any most h qo).mono ?_;rintro e c ⟨hk1,a,jY⟩;rcases ho:eZ most s n i with⟨q,p⟩|J
 .exact SQ
 obtain⟨cnt,r⟩:=J;obtain⟨u,rfl,f,hrd⟩:=a _ _ ho;obtain rfl:u=qJ cnt:=f;have R:=(gD ho).1;have t:qh (dY most tM s n i=eO tM s n cnt [] r):=by show _=_;simp[dY,ho]
 clear a jY ho;go_wp2;go_loopw [7,12] (fun v q wr=>∃(k j:Nat) (ks:List (Hf)),k<=cnt/\ks.length=k/\q=qJ k/\Rd wr b s j n/\Kept (only b) w wr/\isRow 186 4 Hf.cells (fun g=>w.heap.size<=g) ks wr v/\dY most tM s n i=eO tM s n (cnt - k) ks j) (fun _ q _=>cnt - (intOf q).toNat)
 case atStart=>exact⟨0,r,[],qZ,rfl,rfl,hrd,hk1,Row.nil _ _ _ _,t.o⟩
 obtain⟨k,j,ks,X,hl,rfl,hrd,hkp,hrow,y⟩:=hrel;have HE:=hide y;clear y t;by_cases S:k<cnt
 .have hlt':(k:Int)<(cnt:Int):=qo;go_wp2_with fail
  refine(I.o _ _ hrd).mono ?_;rintro e z ⟨l,a,jY⟩;have hk3:=hkp.trans l;have A:Row (fun g=>w.heap.size<=g) z 186 4 u7 ks.length (ks.flatMap Hf.cells):=hrow.kept l (fun g _ d (e:g=b)=>by have:=h.lt;omega);clear hrow l hkp;rcases ho:tM s n j with⟨q,p⟩|⟨x,j2⟩
  .exact SV
  obtain⟨u,rfl,f,L⟩:=a _ _ ho;obtain rfl:u=.agg #[qJ x.at_,.int .u32 x.least,.int .u32 x.most,.bool x.has]:=f;have HH:qh (dY most tM s n i=eO tM s n (cnt - (k+1)) (ks++[x]) j2):=HE.o.trans (pJ qo ho);clear a jY ho hrd;have B:=((A.pO (fun g d=>d)).alloc (.cells #[qJ x.at_,.int .u32 x.least,.int .u32 x.most,.bool x.has] 186)).alloc (.cells #[qJ x.at_,.int .u32 x.least,.int .u32 x.most,.bool x.has] 186);have HW:=hide B;have T:=hk3.size;clear B A;go_wp2_with (at_builtin;refine wpList_append_own _ rfl _ _ 135 rfl w.heap.size 186 D (.agg #[qJ 0,.int .u32 0,.int .u32 0,.bool false]) 4 24 underlying135 E F G H rfl qx _ _ _ rfl HW.o ⟨z.heap.size+1,0,none⟩ 1 1 [qJ x.at_,.int .u32 x.least,.int .u32 x.most,.bool x.has] rfl rfl ?c1 ?c2 ?c3 ?c4 ?c5 ?_)
  case c1=>exact cells_at qs rfl
  case c2=>intro u C;simp at C;rcases C with rfl | rfl | rfl | rfl<;>rfl
  case c3=>unfold maxLen;omega
  case c4=>omega
  case c5=>simp;omega
  intro M N hown' hgrow _;have hk4:=iP ((hk3.alloc _).alloc _) HW.o qR hgrow;have GG:=ny ((L.alloc _).alloc _) HW.o h.lt hgrow;have hrow3:isRow 186 4 Hf.cells (fun g=>w.heap.size<=g) (ks++[x]) N M:=by
   have:=Row.nS (ok:=fun g=>w.heap.size<=g) hown' (fun g d _=>d);simpa [isRow,Hf.cells,hl] using this
  exact YL
 exact aa1
theorem Tryz.aco:(prog.info? 191).map (fun i=>(i.zero,i.size,i.bytes))=some (some (.agg #[qB 0,.bool false,qJ 0,qB 0,qJ 0]),5,32):=qk
theorem JC{w:qW}{b:Nat}{s:qS}{i n:Nat}(most K:Nat)(tM:qS->Nat->Nat->Except Err ((MF)×Nat))(h:Rd w b s i n)(O:most<=50)(hc:Enters K)
  (m:∀c j,Rd c b s j n->qC K #[qP b] c (Out c b s n adw (tM s n j))):
  qC 163 #[qP b,qJ most,.func (.func K) #[] #[]] w (Out w b s n (isRow 191 5 MF.cells (fun g=>w.heap.size<=g)) (dY most tM s n i)):=by
 obtain⟨D,E,F,G,H⟩:=info_parts Tryz.aco;have Q:∀(args:Array qv) (w:qW),(callFunc K args).run prog w=.ok (.enter K args) w:=hc;have I:=hide m;clear m;go_enter func163,ntmps163;go_wp2_with fail
 refine(count_any most h qo).mono ?_;rintro e c ⟨hk1,a,jY⟩;rcases ho:eZ most s n i with⟨q,p⟩|J
 .exact SQ
 obtain⟨cnt,r⟩:=J;obtain⟨u,rfl,f,hrd⟩:=a _ _ ho;obtain rfl:u=qJ cnt:=f;have R:=(gD ho).1;have t:qh (dY most tM s n i=eO tM s n cnt [] r):=by show _=_;simp[dY,ho]
 clear a jY ho;go_wp2;go_loopw [7,12] (fun v q wr=>∃(k j:Nat) (ks:List (MF)),k<=cnt/\ks.length=k/\q=qJ k/\Rd wr b s j n/\Kept (only b) w wr/\isRow 191 5 MF.cells (fun g=>w.heap.size<=g) ks wr v/\dY most tM s n i=eO tM s n (cnt - k) ks j) (fun _ q _=>cnt - (intOf q).toNat)
 case atStart=>exact⟨0,r,[],qZ,rfl,rfl,hrd,hk1,Row.nil _ _ _ _,t.o⟩
 obtain⟨k,j,ks,X,hl,rfl,hrd,hkp,hrow,y⟩:=hrel;have HE:=hide y;clear y t;by_cases S:k<cnt
 .have hlt':(k:Int)<(cnt:Int):=qo;go_wp2_with fail
  refine(I.o _ _ hrd).mono ?_;rintro e z ⟨l,a,jY⟩;have hk3:=hkp.trans l;have A:Row (fun g=>w.heap.size<=g) z 191 5 u7 ks.length (ks.flatMap MF.cells):=hrow.kept l (fun g _ d (e:g=b)=>by have:=h.lt;omega);clear hrow l hkp;rcases ho:tM s n j with⟨q,p⟩|⟨x,j2⟩
  .exact SV
  obtain⟨u,rfl,f,L⟩:=a _ _ ho;obtain rfl:u=.agg #[qB x.kind,.bool x.xM,qJ x.first.at_,qB x.first.kind,qJ x.first.val]:=f;have HH:qh (dY most tM s n i=eO tM s n (cnt - (k+1)) (ks++[x]) j2):=HE.o.trans (pJ qo ho);clear a jY ho hrd;have B:=((A.pO (fun g d=>d)).alloc (.cells #[qB x.kind,.bool x.xM,qJ x.first.at_,qB x.first.kind,qJ x.first.val] 191)).alloc (.cells #[qB x.kind,.bool x.xM,qJ x.first.at_,qB x.first.kind,qJ x.first.val] 191);have HW:=hide B;have T:=hk3.size;clear B A;go_wp2_with (at_builtin;refine wpList_append_own _ rfl _ _ 136 rfl w.heap.size 191 D (.agg #[qB 0,.bool false,qJ 0,qB 0,qJ 0]) 5 32 underlying136 E F G H rfl qx _ _ _ rfl HW.o ⟨z.heap.size+1,0,none⟩ 1 1 [qB x.kind,.bool x.xM,qJ x.first.at_,qB x.first.kind,qJ x.first.val] rfl rfl ?c1 ?c2 ?c3 ?c4 ?c5 ?_)
  case c1=>exact cells_at qs rfl
  case c2=>intro u C;simp at C;rcases C with rfl | rfl | rfl | rfl | rfl<;>rfl
  case c3=>unfold maxLen;omega
  case c4=>omega
  case c5=>simp;omega
  intro M N hown' hgrow _;have hk4:=iP ((hk3.alloc _).alloc _) HW.o qR hgrow;have GG:=ny ((L.alloc _).alloc _) HW.o h.lt hgrow;have hrow3:isRow 191 5 MF.cells (fun g=>w.heap.size<=g) (ks++[x]) N M:=by
   have:=Row.nS (ok:=fun g=>w.heap.size<=g) hown' (fun g d _=>d);simpa [isRow,MF.cells,hl] using this
  exact YL
 exact aa1
theorem Tryz.acn:(prog.info? 194).map (fun i=>(i.zero,i.size,i.bytes))=some (some (.agg #[qJ 0,.string {data:= #[]},qB 0,.int .u32 0,qJ 0]),5,48):=qk
theorem JD{w:qW}{b:Nat}{s:qS}{i n:Nat}(most K:Nat)(tM:qS->Nat->Nat->Except Err ((Ql)×Nat))(h:Rd w b s i n)(O:most<=50)(hc:Enters K)
  (m:∀c j,Rd c b s j n->qC K #[qP b] c (Out c b s n adx (tM s n j))):
  qC 165 #[qP b,qJ most,.func (.func K) #[] #[]] w (Out w b s n (isRow 194 5 Ql.cells (fun g=>w.heap.size<=g)) (dY most tM s n i)):=by
 obtain⟨D,E,F,G,H⟩:=info_parts Tryz.acn;have Q:∀(args:Array qv) (w:qW),(callFunc K args).run prog w=.ok (.enter K args) w:=hc;have I:=hide m;clear m;go_enter func165,ntmps165;go_wp2_with fail
 refine(count_any most h qo).mono ?_;rintro e c ⟨hk1,a,jY⟩;rcases ho:eZ most s n i with⟨q,p⟩|J
 .exact SQ
 obtain⟨cnt,r⟩:=J;obtain⟨u,rfl,f,hrd⟩:=a _ _ ho;obtain rfl:u=qJ cnt:=f;have R:=(gD ho).1;have t:qh (dY most tM s n i=eO tM s n cnt [] r):=by show _=_;simp[dY,ho]
 clear a jY ho;go_wp2;go_loopw [7,12] (fun v q wr=>∃(k j:Nat) (ks:List (Ql)),k<=cnt/\ks.length=k/\q=qJ k/\Rd wr b s j n/\Kept (only b) w wr/\isRow 194 5 Ql.cells (fun g=>w.heap.size<=g) ks wr v/\dY most tM s n i=eO tM s n (cnt - k) ks j) (fun _ q _=>cnt - (intOf q).toNat)
 case atStart=>exact⟨0,r,[],qZ,rfl,rfl,hrd,hk1,Row.nil _ _ _ _,t.o⟩
 obtain⟨k,j,ks,X,hl,rfl,hrd,hkp,hrow,y⟩:=hrel;have HE:=hide y;clear y t;by_cases S:k<cnt
 .have hlt':(k:Int)<(cnt:Int):=qo;go_wp2_with fail
  refine(I.o _ _ hrd).mono ?_;rintro e z ⟨l,a,jY⟩;have hk3:=hkp.trans l;have A:Row (fun g=>w.heap.size<=g) z 194 5 u7 ks.length (ks.flatMap Ql.cells):=hrow.kept l (fun g _ d (e:g=b)=>by have:=h.lt;omega);clear hrow l hkp;rcases ho:tM s n j with⟨q,p⟩|⟨x,j2⟩
  .exact SV
  obtain⟨u,rfl,f,L⟩:=a _ _ ho;obtain rfl:u=.agg #[qJ x.nameAt,.string x.name,qB x.Tc,.int .u32 x.idx.1,qJ x.idx.2]:=f;have HH:qh (dY most tM s n i=eO tM s n (cnt - (k+1)) (ks++[x]) j2):=HE.o.trans (pJ qo ho);clear a jY ho hrd;have B:=((A.pO (fun g d=>d)).alloc (.cells #[qJ x.nameAt,.string x.name,qB x.Tc,.int .u32 x.idx.1,qJ x.idx.2] 194)).alloc (.cells #[qJ x.nameAt,.string x.name,qB x.Tc,.int .u32 x.idx.1,qJ x.idx.2] 194);have HW:=hide B;have T:=hk3.size;clear B A;go_wp2_with (at_builtin;refine wpList_append_own _ rfl _ _ 137 rfl w.heap.size 194 D (.agg #[qJ 0,.string {data:= #[]},qB 0,.int .u32 0,qJ 0]) 5 48 underlying137 E F G H rfl qx _ _ _ rfl HW.o ⟨z.heap.size+1,0,none⟩ 1 1 [qJ x.nameAt,.string x.name,qB x.Tc,.int .u32 x.idx.1,qJ x.idx.2] rfl rfl ?c1 ?c2 ?c3 ?c4 ?c5 ?_)
  case c1=>exact cells_at qs rfl
  case c2=>intro u C;simp at C;rcases C with rfl | rfl | rfl | rfl | rfl<;>rfl
  case c3=>unfold maxLen;omega
  case c4=>omega
  case c5=>simp;omega
  intro M N hown' hgrow _;have hk4:=iP ((hk3.alloc _).alloc _) HW.o qR hgrow;have GG:=ny ((L.alloc _).alloc _) HW.o h.lt hgrow;have hrow3:isRow 194 5 Ql.cells (fun g=>w.heap.size<=g) (ks++[x]) N M:=by
   have:=Row.nS (ok:=fun g=>w.heap.size<=g) hown' (fun g d _=>d);simpa [isRow,Ql.cells,hl] using this
  exact YL
 exact aa1
theorem Tryz.ach:(prog.info? 216).map (fun i=>(i.zero,i.size,i.bytes))=some (some (.agg #[qJ 0,qJ 0,qB 0,qJ 0,.string {data:= #[]}]),5,48):=qk
theorem Pd{w:qW}{b:Nat}{s:qS}{i n:Nat}(most K:Nat)(tM:qS->Nat->Nat->Except Err ((Dat)×Nat))(h:Rd w b s i n)(O:most<=50)(hc:Enters K)
  (m:∀c j,Rd c b s j n->qC K #[qP b] c (Out c b s n adz (tM s n j))):
  qC 170 #[qP b,qJ most,.func (.func K) #[] #[]] w (Out w b s n (isRow 216 5 Dat.cells (fun g=>w.heap.size<=g)) (dY most tM s n i)):=by
 obtain⟨D,E,F,G,H⟩:=info_parts Tryz.ach;have Q:∀(args:Array qv) (w:qW),(callFunc K args).run prog w=.ok (.enter K args) w:=hc;have I:=hide m;clear m;go_enter func170,ntmps170;go_wp2_with fail
 refine(count_any most h qo).mono ?_;rintro e c ⟨hk1,a,jY⟩;rcases ho:eZ most s n i with⟨q,p⟩|J
 .exact SQ
 obtain⟨cnt,r⟩:=J;obtain⟨u,rfl,f,hrd⟩:=a _ _ ho;obtain rfl:u=qJ cnt:=f;have R:=(gD ho).1;have t:qh (dY most tM s n i=eO tM s n cnt [] r):=by show _=_;simp[dY,ho]
 clear a jY ho;go_wp2;go_loopw [7,12] (fun v q wr=>∃(k j:Nat) (ks:List (Dat)),k<=cnt/\ks.length=k/\q=qJ k/\Rd wr b s j n/\Kept (only b) w wr/\isRow 216 5 Dat.cells (fun g=>w.heap.size<=g) ks wr v/\dY most tM s n i=eO tM s n (cnt - k) ks j) (fun _ q _=>cnt - (intOf q).toNat)
 case atStart=>exact⟨0,r,[],qZ,rfl,rfl,hrd,hk1,Row.nil _ _ _ _,t.o⟩
 obtain⟨k,j,ks,X,hl,rfl,hrd,hkp,hrow,y⟩:=hrel;have HE:=hide y;clear y t;by_cases S:k<cnt
 .have hlt':(k:Int)<(cnt:Int):=qo;go_wp2_with fail
  refine(I.o _ _ hrd).mono ?_;rintro e z ⟨l,a,jY⟩;have hk3:=hkp.trans l;have A:Row (fun g=>w.heap.size<=g) z 216 5 u7 ks.length (ks.flatMap Dat.cells):=hrow.kept l (fun g _ d (e:g=b)=>by have:=h.lt;omega);clear hrow l hkp;rcases ho:tM s n j with⟨q,p⟩|⟨x,j2⟩
  .exact SV
  obtain⟨u,rfl,f,L⟩:=a _ _ ho;obtain rfl:u=.agg #[qJ x.at_,qJ x.place.at_,qB x.place.kind,qJ x.place.val,.string x.bytes]:=f;have HH:qh (dY most tM s n i=eO tM s n (cnt - (k+1)) (ks++[x]) j2):=HE.o.trans (pJ qo ho);clear a jY ho hrd;have B:=((A.pO (fun g d=>d)).alloc (.cells #[qJ x.at_,qJ x.place.at_,qB x.place.kind,qJ x.place.val,.string x.bytes] 216)).alloc (.cells #[qJ x.at_,qJ x.place.at_,qB x.place.kind,qJ x.place.val,.string x.bytes] 216);have HW:=hide B;have T:=hk3.size;clear B A;go_wp2_with (at_builtin;refine wpList_append_own _ rfl _ _ 140 rfl w.heap.size 216 D (.agg #[qJ 0,qJ 0,qB 0,qJ 0,.string {data:= #[]}]) 5 48 underlying140 E F G H rfl qx _ _ _ rfl HW.o ⟨z.heap.size+1,0,none⟩ 1 1 [qJ x.at_,qJ x.place.at_,qB x.place.kind,qJ x.place.val,.string x.bytes] rfl rfl ?c1 ?c2 ?c3 ?c4 ?c5 ?_)
  case c1=>exact cells_at qs rfl
  case c2=>intro u C;simp at C;rcases C with rfl | rfl | rfl | rfl | rfl<;>rfl
  case c3=>unfold maxLen;omega
  case c4=>omega
  case c5=>simp;omega
  intro M N hown' hgrow _;have hk4:=iP ((hk3.alloc _).alloc _) HW.o qR hgrow;have GG:=ny ((L.alloc _).alloc _) HW.o h.lt hgrow;have hrow3:isRow 216 5 Dat.cells (fun g=>w.heap.size<=g) (ks++[x]) N M:=by
   have:=Row.nS (ok:=fun g=>w.heap.size<=g) hown' (fun g d _=>d);simpa [isRow,Dat.cells,hl] using this
  exact YL
 exact aa1
section
variable {ok:qD} {w w':qW} {E:TypeId} {size:Nat} {v:qv} {n:Nat} {xs:qV}
theorem Row.other(h:Row ok w E size v n xs){g o:Nat}(a:∀k,ok k->k≠g)(u:qv):Row ok (w.setCell (qA g o) u) E size v n xs:=
 h.kept (S:=only g) (qr.own u) (fun k _ X e=>a k X e)
theorem Row.call{b:Nat}(h:Row ok w E size v n xs)(X:Kept (only b) w w')(hb:∀k,ok k->k≠b):Row ok w' E size v n xs:=
 h.kept X (fun k _ X e=>hb k X e)
theorem Row.shape(h:Row ok w E size v n xs):∃p c,v=.slice p n c:=by
 rcases h.own.2 with⟨a,b⟩ | ⟨g,A,d,a,_⟩
 .exact⟨none,0,by rw[a,b]⟩
 exact⟨_,A,a⟩
theorem Row.alloc(h:Row ok w E size v n xs)(o:Obj):Row ok (w.alloc o) E size v n xs:=
 h.kept (S:=fun _=>False) (qr.alloc o) (fun _ _ _ x=>x)
end
def afU(ok:Nat->Prop)(t:Ty)(w:World)(v:Value):Prop:=∃vi vo,v=.agg #[vi,vo]/\dG ok t.ins w vi/\dG ok t.outs w vo
def ady(ok:Nat->Prop)(x:Qi)(w:World)(v:Value):Prop:=
 ∃vl,v=.agg #[qJ x.at_,qJ x.place.at_,qB x.place.kind,qJ x.place.val,vl]/\isRow 152 2 numCells ok x.funcs w vl
theorem OJ{w:qW}{b:Nat}{s:qS}{i n:Nat}(h:Rd w b s i n):
  qC 158 #[qP b] w (Out w b s n (afU (fun g=>w.heap.size<=g)) (vT s n i)):=by
 have ah:=h.lt;have ai:=ja;go_enter func158,ntmps158;go_wp2_with fail
 refine(one_any (ts:=[96]) (((h.alloc _).alloc _).alloc _) (wu 96 qs rfl) qs qo qs).mono ?_;rintro e B ⟨z,d,f⟩;have C:=((((Kept.refl (only b) w).alloc _).alloc _).alloc _).trans z;have W:OB B b (w.heap.size) [qN,qN]:=(((OB.new (b:=b) (g:=w.heap.size) (c:= #[qN,qN]) (by first | omega | (simp;omega)) qs).alloc _).alloc _).call z;have m:OB B b (w.heap.size+1) [qN,qN]:=((OB.new (b:=b) (g:=w.heap.size+1) (c:= #[qN,qN]) (by first | omega | (simp;omega)) qs).alloc _).call z;clear z;rcases a:iO [96] s n i with⟨q,p⟩|D
 .obtain rfl:=f _ _ a;exact⟨rfl,Out.dD (by simp[vT,a]) C⟩
 obtain⟨x,j⟩:=D;obtain⟨u,rfl,-,Y⟩:=d _ _ a;have E:=hide a;clear d f a;have aj:=C.size;go_wp2_with fail
 refine(DW 8 Y qo).mono ?_;rintro e L ⟨A,d,f⟩;have F:=C.trans A;have Z:OB L b (w.heap.size) [qN,qN]:=W.call A;have l:OB L b (w.heap.size+1) [qN,qN]:=m.call A;clear A;rcases a:dY 8 kJ s n j with⟨q,p⟩|D
 .obtain rfl:=f _ _ a;exact⟨rfl,Out.dD (by simp[vT,E.o,a]) F⟩
 obtain⟨ins,j2⟩:=D;obtain⟨vi,rfl,G,aa⟩:=d _ _ a;have M:=hide a;clear d f a;have ak:=F.size;obtain⟨r,t,rfl⟩:=Row.shape G;obtain⟨⟨N,O⟩,⟨P,Q⟩⟩:=l.blk.two;go_wp2_with fail
 refine(DW 4 (aa.dA l.ne _) qo).mono ?_;rintro e H ⟨y,d,f⟩;have I:=(F.new qo _).trans y;have J:OB H b (w.heap.size) [qN,qN]:=(Z.other qo _).call y;have R:OB H b (w.heap.size+1) [(.slice r ins.length t),qN]:=(l.set 0 (.slice r ins.length t)).call y;clear N O P Q;have S:dG (fun g=>B.heap.size<=g) ins H (.slice r ins.length t):=Row.call (Row.other G (fun k X=>by have:=m.lt;omega) _) y (fun k X=>qo);clear y;rcases a:dY 4 kJ s n j2 with⟨q,p⟩|⟨outs,j3⟩
 .obtain rfl:=f _ _ a;exact⟨rfl,Out.dD (by simp[vT,E.o,M.o,a]) I⟩
 obtain⟨vo,rfl,K,ab⟩:=d _ _ a;have ac:=hide a;clear d f a;have am:=I.size;obtain⟨T,U,rfl⟩:=Row.shape K;obtain⟨⟨ad,an⟩,⟨ae,ao⟩⟩:=J.blk.two;obtain⟨⟨N,O⟩,⟨P,Q⟩⟩:=R.blk.two;have HH:qh (vT s n i=.ok (⟨ins,outs⟩,j3)):=by show _=_;simp[vT,E.o,M.o,ac.o]
 have af:=hide S;have ag:=hide K;clear S K G;go_wp2;refine bodyPost_ret (v:=.agg #[(.slice r ins.length t),(.slice T outs.length U)]) ?_ rfl (Out.dW HH.o (((I.new qo _).new qR _).new qR _) ⟨(.slice r ins.length t),(.slice T outs.length U),rfl,?_,?_⟩ (((ab.dA R.ne _).dA J.ne _).dA J.ne _))
 .simp[results,results158,go_sem,ad,ae]
 .exact Row.mono (Row.other (Row.other (Row.other af.o (g:=w.heap.size+1) (o:=1) (fun k X=>by have:=m.lt;omega) _) (g:=w.heap.size) (o:=0) (fun k X=>by have:=m.lt;omega) _) (g:=w.heap.size) (o:=1) (fun k X=>by have:=m.lt;omega) _) (fun g _ V=>by have:=m.lt;omega)
 exact Row.mono (Row.other (Row.other (Row.other ag.o (g:=w.heap.size+1) (o:=1) (fun k X=>by have:=l.lt;simp at X;omega) _) (g:=w.heap.size) (o:=0) (fun k X=>by have:=l.lt;simp at X;omega) _) (g:=w.heap.size) (o:=1) (fun k X=>by have:=l.lt;simp at X;omega) _) (fun g _ V=>by have:=l.lt;simp at V;omega)
theorem Gs{w:qW}{b:Nat}{s:qS}{i n:Nat}(h:Rd w b s i n):
  qC 168 #[qP b] w (Out w b s n (ady (fun g=>w.heap.size<=g)) (xW s n i)):=by
 have ai:=h.lt;have aj:=ja;go_enter func168,ntmps168;go_wp2_with fail
 refine(wR (h.alloc _)).mono ?_;rintro e w0 ⟨rfl,rfl⟩;go_wp2_with fail
 refine(one_any (ts:=[0]) (((h.alloc _).alloc _).alloc _) (wu 0 qs rfl) qs qo qs).mono ?_;rintro e F ⟨r,f,l⟩;have z:=((((Kept.refl (only b) w).alloc _).alloc _).alloc _).trans r;have U:OB F b (w.heap.size) [qJ 0,qJ 0,qB 0,qJ 0,qN]:=(((OB.new (b:=b) (g:=w.heap.size) (c:= #[qJ 0,qJ 0,qB 0,qJ 0,qN]) (by first | omega | (simp;omega)) qs).alloc _).alloc _).call r;have V:OB F b (w.heap.size+1) [qJ i,qJ 0,qB 0,qJ 0,qN]:=((OB.new (b:=b) (g:=w.heap.size+1) (c:= #[qJ i,qJ 0,qB 0,qJ 0,qN]) (by first | omega | (simp;omega)) qs).alloc _).call r;clear r;rcases a:iO [0] s n i with⟨q,p⟩|A
 .obtain rfl:=l _ _ a;exact⟨rfl,Out.dD (by simp[xW,a]) z⟩
 obtain⟨x,j⟩:=A;obtain⟨u,rfl,-,W⟩:=f _ _ a;have B:=hide a;clear f l a;have ak:=z.size;go_wp2_with fail
 refine(rJ W).mono ?_;rintro e G ⟨t,f,l⟩;have C:=z.trans t;have Y:OB G b (w.heap.size) [qJ 0,qJ 0,qB 0,qJ 0,qN]:=U.call t;have d:OB G b (w.heap.size+1) [qJ i,qJ 0,qB 0,qJ 0,qN]:=V.call t;clear t;rcases a:ku s n j with⟨q,p⟩|A
 .obtain rfl:=l _ _ a;exact⟨rfl,Out.dD (by simp[xW,B.o,a]) C⟩
 obtain⟨c,Z⟩:=A;obtain⟨u,rfl,hv,aa⟩:=f _ _ a;obtain rfl:u=.agg #[qJ c.at_,qB c.kind,qJ c.val]:=hv;have H:=hide a;clear f l a;have am:=C.size;obtain⟨⟨I,J⟩,⟨K,L⟩,⟨M,N⟩,⟨O,P⟩,⟨Q,R⟩⟩:=d.blk.five;go_wp2_with fail
 refine(Ad 20 156 uM (((aa.dA d.ne _).dA d.ne _).dA d.ne _) qo RU (fun _ _ hr=>uQ hr)).mono ?_;rintro e S ⟨y,f,l⟩;have D:=(((C.new qo _).new qo _).new qo _).trans y;have m:OB S b (w.heap.size) [qJ 0,qJ 0,qB 0,qJ 0,qN]:=(((Y.other qo _).other qo _).other qo _).call y;have T:OB S b (w.heap.size+1) [qJ i,(qJ c.at_),(qB c.kind),(qJ c.val),qN]:=(((d.set 1 (qJ c.at_)).set 2 (qB c.kind)).set 3 (qJ c.val)).call y;clear I J K L M N O P Q R;clear y;rcases a:dY 20 uM s n Z with⟨q,p⟩|⟨fs,j3⟩
 .obtain rfl:=l _ _ a;exact⟨rfl,Out.dD (by simp[xW,B.o,H.o,a]) D⟩
 obtain⟨vl,rfl,E,ab⟩:=f _ _ a;have ac:=hide a;clear f l a;have an:=D.size;obtain⟨pl,cl,rfl⟩:=Row.shape E;obtain⟨⟨ad,ao⟩,⟨ae,ap⟩,⟨af,aq⟩,⟨ag,ar⟩,⟨ah,au⟩⟩:=m.blk.five;obtain⟨⟨I,J⟩,⟨K,L⟩,⟨M,N⟩,⟨O,P⟩,⟨Q,R⟩⟩:=T.blk.five;have HH:qh (xW s n i=.ok (⟨i,c,fs⟩,j3)):=by show _=_;simp[xW,B.o,H.o,ac.o]
 have HV:=hide E;clear E;go_wp2;refine bodyPost_ret (v:=.agg #[qJ i,qJ c.at_,qB c.kind,qJ c.val,(.slice pl fs.length cl)]) ?_ rfl (Out.dW HH.o ((((((D.new qo _).new qR _).new qR _).new qR _).new qR _).new qR _) ⟨(.slice pl fs.length cl),rfl,?_⟩ ((((((ab.dA T.ne _).dA m.ne _).dA m.ne _).dA m.ne _).dA m.ne _).dA m.ne _))
 .simp[results,results168,go_sem,ad,ae,af,ag,ah]
 exact Row.mono (Row.other (Row.other (Row.other (Row.other (Row.other (Row.other HV.o (g:=w.heap.size+1) (o:=4) (fun k X=>by have:=d.lt;simp at X;omega) _) (g:=w.heap.size) (o:=0) (fun k X=>by have:=d.lt;simp at X;omega) _) (g:=w.heap.size) (o:=1) (fun k X=>by have:=d.lt;simp at X;omega) _) (g:=w.heap.size) (o:=2) (fun k X=>by have:=d.lt;simp at X;omega) _) (g:=w.heap.size) (o:=3) (fun k X=>by have:=d.lt;simp at X;omega) _) (g:=w.heap.size) (o:=4) (fun k X=>by have:=d.lt;simp at X;omega) _) (fun g _ hg=>by have:=d.lt;simp at hg;omega)
theorem Ak(x:Nat)(w:qW):
  qC 220 #[qB x] w fun e w'=>e=.returned (.bool (Bz x))/\w'=w:=by
 by_cases U:32<=x
 .by_cases L:x<=126
  .have a:decide ((32:Int)<=(x:Int))=true:=by simp;omega
   have b:decide ((x:Int)<=(126:Int))=true:=by simp;omega
   have HH:qh (Bz x=((x:Int) !=34&&(x:Int) !=92)):=by
    show _=_;have c:((x:Int) !=34)=(x !=34):=by rw[Bool.eq_iff_iff];simp;omega
    have d:((x:Int) !=92)=(x !=92):=by rw[Bool.eq_iff_iff];simp;omega
    simp[Bz,U,L,c,d]
   clear U L;cases t3:((x:Int) !=34) with
   | true=>exact adR
   | false=>exact adR
  have a:decide ((32:Int)<=(x:Int))=true:=by simp;omega
  have b:decide ((x:Int)<=(126:Int))=false:=by simp;omega
  have HH:qh (Bz x=false):=by show _=_;simp[Bz,L]
  clear U L;go_enter func220,ntmps220;exact Ey
 have a:decide ((32:Int)<=(x:Int))=false:=by simp;omega
 have HH:qh (Bz x=false):=by show _=_;simp[Bz,U]
 clear U;go_enter func220,ntmps220;exact Ey
theorem KD{t:qS}{k:Nat}(h:k<t.size)(hx:Bz t[k].toNat=true):kF t k=kF t (k+1):=by
 unfold kF;rw[AL h];simp[hx]
theorem y5{t:qS}{k:Nat}(h:k<t.size)(hx:Bz t[k].toNat=false):kF t k=false:=by
 unfold kF;rw[AL h];simp[hx]
theorem KE{t:qS}{k:Nat}(h:t.size<=k):kF t k=true:=by
 unfold kF;rw[OH h];rfl
theorem Qt{k:Nat}{s:qS}{n i:Nat}{t:qS}{j:Nat}(h:kZ k s n i=.ok (t,j))(a:n<=s.size)(b:i<=n):t.size=k/\j=i+k/\j<=n:=by
 unfold kZ at h;split at h
 .cases h
 cases h;refine⟨?_,rfl,qo⟩;rw[ByteArray.size_extract];omega
theorem JZ(t:qS)(w:qW)(d:t.size<=20):qC 193 #[.string t] w fun e w'=>e=.returned (.bool (kF t 0))/\w'=w:=by
 have f:∀(x:Bool) (w:qW),(Op.unary .not (.bool x)).run prog w=.ok (.bool (!x)) w:=fun _ _=>rfl;have g:(t.size:Int)<=20:=qo;go_enter func193,ntmps193;go_wp2;go_loop [3,6] (fun _ q=>∃k:Nat,k<=t.size/\q=qJ k/\kF t 0=kF t k) (fun _ q=>t.size - (intOf q).toNat)
 case atStart=>exact⟨0,qZ,rfl,rfl⟩
 obtain⟨k,X,rfl,b⟩:=hrel;have a:=hide b;clear b;by_cases c:k<t.size
 .have hlt':(k:Int)<(t.size:Int):=qo;cases hx:Bz t[k].toNat with
  | true=>
   have HN:=hide (a.o.trans (KD c hx));have HX:=hide hx;clear hx;go_wp2_with fail
   refine(Ak _ _).mono ?_;exact ae6
  | false=>
   have HN:=hide (a.o.trans (y5 c hx));have HX:=hide hx;clear hx;go_wp2_with fail
   refine(Ak _ _).mono ?_;rintro e w3 ⟨rfl,rfl⟩;rw[HX.o];go_wp2;go_ret;exact⟨by simp[HN.o],rfl⟩
 have HN:=hide (a.o.trans (KE qo));exact YC
theorem II{w:qW}{b:Nat}{s:qS}{i n:Nat}(h:Rd w b s i n):
  qC 166 #[qP b] w (Out w b s n adx (nA s n i)):=by
 have aq:=h.lt;have ar:=ja;go_enter func166,ntmps166;go_wp2_with fail
 refine(wR (h.alloc _)).mono ?_;rintro e w0 ⟨rfl,rfl⟩;go_wp2_with fail
 refine(count_any 20 ((h.alloc _).alloc _) qo).mono ?_;rintro e Y ⟨A,f,k⟩;have Q:=(((Kept.refl (only b) w).alloc _).alloc _).trans A;have ac:OB Y b (w.heap.size) [qJ 0,.string {data:= #[]},qB 0,.int .u32 0,qJ 0]:=((OB.new (b:=b) (g:=w.heap.size) (c:= #[qJ 0,.string {data:= #[]},qB 0,.int .u32 0,qJ 0]) (by first | omega | (simp;omega)) qs).alloc _).call A;have ad:OB Y b (w.heap.size+1) [qJ i,.string {data:= #[]},qB 0,.int .u32 0,qJ 0]:=(OB.new (b:=b) (g:=w.heap.size+1) (c:= #[qJ i,.string {data:= #[]},qB 0,.int .u32 0,qJ 0]) (by first | omega | (simp;omega)) qs).call A;clear A;rcases d:eZ 20 s n i with⟨q,p⟩|y
 .obtain rfl:=k _ _ d;exact⟨rfl,Out.dD (by simp[nA,d]) Q⟩
 obtain⟨kn,j⟩:=y;obtain⟨u,rfl,m,R⟩:=f _ _ d;obtain rfl:u=qJ kn:=m;have r:=hide d;clear f k d;have au:=Q.size;have av:=(gD r.o).1;go_wp2_with fail
 refine(Iz kn R qo).mono ?_;rintro e Z ⟨B,f,k⟩;have C:=Q.trans B;have ae:OB Z b (w.heap.size) [qJ 0,.string {data:= #[]},qB 0,.int .u32 0,qJ 0]:=ac.call B;have S:OB Z b (w.heap.size+1) [qJ i,.string {data:= #[]},qB 0,.int .u32 0,qJ 0]:=ad.call B;clear B;rcases d:kZ kn s n j with⟨q,p⟩|y
 .obtain rfl:=k _ _ d;exact⟨rfl,Out.dD (by simp[nA,r.o,d]) C⟩
 obtain⟨l,j2⟩:=y;obtain⟨u,rfl,m,aa⟩:=f _ _ d;obtain rfl:u=.string l:=m;have z:=hide d;clear f k d;have aw:=C.size;have af:l.size<=20:=by have:=(Qt z.o R.big R.le).1;omega
 obtain⟨⟨D,E⟩,⟨F,G⟩,⟨H,I⟩,⟨J,K⟩,⟨L,M⟩⟩:=S.blk.five;have ax:∀(x:Bool) (w:qW),(Op.unary .not (.bool x)).run prog w=.ok (.bool (!x)) w:=fun _ _=>rfl;go_wp2_with fail
 refine(JZ _ _ af).mono ?_;rintro e N ⟨rfl,rfl⟩;cases hx:kF l 0 with
 | false=>
   have HN:=hide hx;clear hx;go_wp2_with fail
   refine(iY _ _).mono ?_;rintro e N ⟨rfl,rfl⟩;exact⟨rfl,Out.dD (by simp[nA,r.o,z.o,HN.o]) (C.new qo _)⟩
 | true=>
   have T:=hide hx;clear hx;go_wp2_with fail
   refine(one_any (ts:=[0,1,2,3]) ((aa.dA S.ne _).alloc _) (Yq 0 1 2 3 qs rfl rfl rfl rfl) qs (by simp;have:=aa.lt;omega) qs).mono ?_;rintro e N ⟨O,f,k⟩;have U:=((C.new qo _).alloc _).trans O;have ag:OB N b (w.heap.size) [qJ 0,.string {data:= #[]},qB 0,.int .u32 0,qJ 0]:=((ae.other qo _).alloc _).call O;have V:OB N b (w.heap.size+1) [qJ i,(.string l),qB 0,.int .u32 0,qJ 0]:=((S.set 1 (.string l)).alloc _).call O;clear O;rcases d:iO [0,1,2,3] s n j2 with⟨q,p⟩|y
   .obtain rfl:=k _ _ d;exact⟨rfl,Out.dD (by simp[nA,r.o,z.o,T.o,d]) U⟩
   obtain⟨x,j3⟩:=y;obtain⟨u,rfl,m,ah⟩:=f _ _ d;obtain rfl:u=qB x:=m;have ab:=hide d;clear f k d;have ay:=U.size;clear D E F G H I J K L M;obtain⟨⟨D,E⟩,⟨F,G⟩,⟨H,I⟩,⟨J,K⟩,⟨L,M⟩⟩:=V.blk.five;go_wp2_with fail
   refine(uQ (ah.dA V.ne _)).mono ?_;rintro e w4 ⟨P,f,k⟩;have W:=(U.new qo _).trans P;have t:OB w4 b (w.heap.size) [qJ 0,.string {data:= #[]},qB 0,.int .u32 0,qJ 0]:=(ag.other qo _).call P;have X:OB w4 b (w.heap.size+1) [qJ i,(.string l),(qB x),.int .u32 0,qJ 0]:=(V.set 2 (qB x)).call P;clear D E F G H I J K L M;clear P;rcases d:uM s n j3 with⟨q,p⟩|⟨⟨v,a⟩,j4⟩
   .obtain rfl:=k _ _ d;exact⟨rfl,Out.dD (by simp[nA,r.o,z.o,T.o,ab.o,d]) W⟩
   obtain⟨u,rfl,m,ai⟩:=f _ _ d;obtain rfl:u=.agg #[.int .u32 v,qJ a]:=m;have aj:=hide d;clear f k d;have az:=W.size;obtain⟨⟨ak,aA⟩,⟨am,aB⟩,⟨an,aC⟩,⟨ao,aD⟩,⟨ap,aE⟩⟩:=t.blk.five;obtain⟨⟨D,E⟩,⟨F,G⟩,⟨H,I⟩,⟨J,K⟩,⟨L,M⟩⟩:=X.blk.five;have HH:qh (nA s n i=.ok (⟨i,l,x,(v,a)⟩,j4)):=by show _=_;simp[nA,r.o,z.o,T.o,ab.o,aj.o]
   go_wp2;refine bodyPost_ret (v:=.agg #[qJ i,.string l,qB x,.int .u32 v,qJ a]) ?_ rfl (Out.dW HH.o (((((((W.new qo _).new qo _).new qR _).new qR _).new qR _).new qR _).new qR _) rfl (((((((ai.dA X.ne _).dA X.ne _).dA t.ne _).dA t.ne _).dA t.ne _).dA t.ne _).dA t.ne _));simp[results,results166,go_sem,ak,am,an,ao,ap]
def Each{α β:Type}(P:α->β->Prop):List α->List β->Prop
 | [],[]=>True
 | x::xs,y::ys=>P x y/\Each P xs ys
 | [],_::_=>False
 | _::_,[]=>False
theorem Each.snoc{a b:Type}{P:a->b->Prop}:∀{xs:List a} {ys:List b} {x:a} {y:b},Each P xs ys->P x y->Each P (xs++[x]) (ys++[y])
 | [],[],_,_,_,h=>⟨h,trivial⟩
 | _::xs,_::ys,_,_,h,hp=>⟨h.1,Each.snoc (xs:=xs) (ys:=ys) h.2 hp⟩
 | [],_::_,_,_,h,_=>h.elim
 | _::_,[],_,_,h,_=>h.elim
theorem Each.to{a b:Type}{P Q:a->b->Prop}(hq:∀x y,P x y->Q x y):∀{xs:List a} {ys:List b},Each P xs ys->Each Q xs ys
 | [],[],_=>trivial
 | _::xs,_::ys,h=>⟨hq _ _ h.1,Each.to hq (xs:=xs) (ys:=ys) h.2⟩
 | [],_::_,h=>h.elim
 | _::_,[],h=>h.elim
theorem Each.len{a b:Type}{P:a->b->Prop}:∀{xs:List a} {ys:List b},Each P xs ys->xs.length=ys.length
 | [],[],_=>rfl
 | _::xs,_::ys,h=>by simp[Each.len (xs:=xs) (ys:=ys) h.2]
 | [],_::_,h=>h.elim
 | _::_,[],h=>h.elim
theorem Each.get{c d:Type}{P:c->d->Prop}:∀{xs:List c} {ys:List d} {i:Nat} {x:c},Each P xs ys->xs[i]?=some x->∃y,ys[i]?=some y/\P x y
 | [],[],_,_,_,h=>by simp at h
 | a::xs,b::ys,0,x,h,hx=>by simp at hx;subst hx;exact⟨b,rfl,h.1⟩
 | _::xs,_::ys,i+1,x,h,hx=>by
  have:=Each.get (xs:=xs) (ys:=ys) (i:=i) (x:=x) h.2 (by simpa using hx);simpa using this
 | [],_::_,_,_,h,_=>h.elim
 | _::_,[],_,_,h,_=>h.elim
theorem Row.grown{ok:qD}{w w':qW}{E a:TypeId}{k d:Nat}{v f:qv}{n i:Nat}{xs j:qV}{B:Nat}
  (h:Row ok w a d f i j) (l:w.ownsRow B E k v n xs) (m:a≠E) (o:w.grownBy w' v.ownBlock):Row ok w' a d f i j:=by
 refine⟨⟨h.own.1,?_⟩,h.at_⟩;rcases h.own.2 with p | ⟨g,A,q,rfl,hb,b,rest⟩
 .exact .inl p
 refine .inr ⟨g,A,q,rfl,hb,?_,rest⟩;have r:g<w.heap.size:=(Array.getElem?_eq_some_iff.1 b).1;rw[o.block g r ?_]
 .exact b
 intro e;rcases l.2 with⟨rfl,_⟩ | ⟨s,t,u,rfl,_,c,_⟩
 .simp[Value.ownBlock] at e
 simp[Value.ownBlock] at e;subst e;rw[b] at c;simp at c;exact m c.2
def gu{α:Type}(E:TypeId)(size:Nat)(El:(Nat->Prop)->α->World->List Value->Prop)(ok:Nat->Prop)(xs:List α)(w:World)(v:Value):Prop:=
 ∃css:List (List Value),Row ok w E size v xs.length css.flatten/\Each (fun x cs=>El ok x w cs/\cs.length=size) xs css
def yX(ok:Nat->Prop)(t:Ty)(w:World)(cs:List Value):Prop:=∃vi vo,cs=[vi,vo]/\dG ok t.ins w vi/\dG ok t.outs w vo
def uh(ok:Nat->Prop)(x:Qi)(w:World)(cs:List Value):Prop:=
 ∃vl,cs=[qJ x.at_,qJ x.place.at_,qB x.place.kind,qJ x.place.val,vl]/\isRow 152 2 numCells ok x.funcs w vl
theorem yX.kept{S ok:qD}{w w':qW}{t:Ty}{cs:qV}(h:yX ok t w cs)(X:Kept S w w')(b:∀g,g<w.heap.size->ok g->¬S g):yX ok t w' cs:=by
 obtain⟨d,f,e,a,c⟩:=h;exact⟨d,f,e,Row.kept a X b,Row.kept c X b⟩
theorem yX.grown{ok:qD}{w w':qW}{t:Ty}{cs:qV}{f n B:Nat}{v:qv}{xs:qV}(h:yX ok t w cs)(b:w.ownsRow B 198 f v n xs)(d:w.grownBy w' v.ownBlock):yX ok t w' cs:=by
 obtain⟨g,i,e,a,c⟩:=h;exact⟨g,i,e,Row.grown a b qx d,Row.grown c b qx d⟩
theorem uh.kept{S ok:qD}{w w':qW}{t:Qi}{cs:qV}(h:uh ok t w cs)(X:Kept S w w')(b:∀g,g<w.heap.size->ok g->¬S g):uh ok t w' cs:=by
 obtain⟨c,e,a⟩:=h;exact⟨c,e,Row.kept a X b⟩
theorem uh.grown{ok:qD}{w w':qW}{t:Qi}{cs:qV}{b n B:Nat}{v:qv}{xs:qV}(h:uh ok t w cs)(c:w.ownsRow B 201 b v n xs)(d:w.grownBy w' v.ownBlock):uh ok t w' cs:=by
 obtain⟨f,e,a⟩:=h;exact⟨f,e,Row.grown a c qx d⟩
structure fC{α:Type}(S:Nat->Prop)(w:World)(b:Nat)(s:qS)(n:Nat)(V:α->World->Value->Prop)(r:Except Err (α×Nat))(e:Ending)(w':World):Prop where
 kept:Kept S w w'
 ok:∀x j,r=.ok (x,j)->∃v,e=.returned v/\V x w' v/\Rd w' b s j n
 err:∀q p,r=.error (q,p)->e=iK q p
theorem fC.dW{f:Type}{S:qD}{w w':qW}{b:Nat}{s:qS}{n:Nat}{V:f->qW->qv->Prop}{r:Except Err (f×Nat)}{x:f}{j:Nat}{v:qv}
  (i:r=.ok (x,j)) (X:Kept S w w') (k:V x w' v) (l:Rd w' b s j n):fC S w b s n V r (.returned v) w':=
 ⟨X,fun m o h=>by rw[i] at h;cases h;exact⟨v,rfl,k,l⟩,fun q p h=>by rw[i] at h;cases h⟩
theorem fC.dD{f:Type}{S:qD}{w w':qW}{b:Nat}{s:qS}{n:Nat}{V:f->qW->qv->Prop}{r:Except Err (f×Nat)}{q p:Nat}
  (i:r=.error (q,p)) (X:Kept S w w'):fC S w b s n V r (iK q p) w':=
 ⟨X,fun j k h=>by(rw[i] at h;cases h),fun l p' h=>by rw[i] at h;cases h;rfl⟩
def both(b c:Nat):Nat->Prop:=fun k=>k=b\/k=c
theorem Kept.gG{w w':qW}{b c:Nat}(h:Kept (only b) w w'):Kept (both b c) w w':=h.mono (fun _ _ X=>.inl X)
theorem Kept.uw{a w:qW}{b c o:Nat}(h:Kept (both b c) a w)(u:qv):Kept (both b c) a (w.setCell (qA c o) u):=h.setCell (p:=(qA c o)) (fun _=>.inr rfl) u
def rF(x:Nat):Bool:=x==0||x==1||x==5||x==11||x==15||x==26||x==27||(decide (69<=x)&&decide (x<=90))||(decide (103<=x)&&decide (x<=138))||x==167||x==172||x==173
structure ic where
 typed:Bool
 dH:List Nat
 align:Int
 num:Int×Nat
 dF:List (Int×Nat)
 val:Int
def ic.none:ic:=⟨false,[],0,(0,0),[],0⟩
def jI(s:qS)(n i:Nat):Except Err (ic×Nat):=
 match o6 s n i with
 | .error e=>.error e
 | .ok (x,_)=>
  if x=127\/x=126 then .ok ({ic.none with dH:=[x]},i+1)
  else if x=64 then .ok (ic.none,i+1)
  else match sM 4 5 s n i with
   | .error e=>.error e
   | .ok (v,j)=>if v<0 then .error (2,i) else .ok ({ic.none with typed:=true,num:=(v%4294967296,i)},j)
def uD(a e x:Nat)(y:ic)(gv lv:Value):List Value:=
 [qJ a,qJ e,qB x,.bool y.typed,gv,.int .u32 y.align,.int .u32 y.num.1,qJ y.num.2,lv,qJ y.val]
def Ta(ok:Nat->Prop)(w:World)(b c a e x:Nat)(y:ic):Prop:=
 ∃gv lv,OB w b c (uD a e x y gv lv)/\dG ok y.dH w gv/\isRow 152 2 numCells ok y.dF w lv
section
variable {w:qW} {g:Nat} {a b c d e a' b' c' d' e':qv}
theorem kY.ten(h:kY w g [a,b,c,d,e,a',b',c',d',e']):
  (w.cell? (qA g 0)=some a/\w.frozen? (qA g 0)=false)/\(w.cell? (qA g 1)=some b/\w.frozen? (qA g 1)=false)/\(w.cell? (qA g 2)=some c/\w.frozen? (qA g 2)=false)/\
  (w.cell? (qA g 3)=some d/\w.frozen? (qA g 3)=false)/\(w.cell? (qA g 4)=some e/\w.frozen? (qA g 4)=false)/\(w.cell? (qA g 5)=some a'/\w.frozen? (qA g 5)=false)/\
  (w.cell? (qA g 6)=some b'/\w.frozen? (qA g 6)=false)/\(w.cell? (qA g 7)=some c'/\w.frozen? (qA g 7)=false)/\(w.cell? (qA g 8)=some d'/\w.frozen? (qA g 8)=false)/\
  (w.cell? (qA g 9)=some e'/\w.frozen? (qA g 9)=false):=
 ⟨h 0 qs,h 1 qs,h 2 qs,h 3 qs,h 4 qs,h 5 qs,h 6 qs,h 7 qs,h 8 qs,h 9 qs⟩
end
def jc(a x:Nat)(s:qS)(n i:Nat):Except Err (ic×Nat):=
 if x∈[2,3,4] then jI s n i
 else if x∈[14] then
  match dY 20 uM s n i with
  | .error e=>.error e
  | .ok (ls,j)=>
   match uM s n j with
   | .error e=>.error e
   | .ok (u,j2)=>.ok ({ic.none with num:=u,dF:=ls},j2)
 else if x∈[40,41,44,45,54,55,58] then
  match uM s n i with
  | .error e=>.error e
  | .ok (al,j)=>
   match uM s n j with
   | .error e=>.error e
   | .ok (u,j2)=>.ok ({ic.none with align:=al.1,num:=u},j2)
 else if x∈[12,13,16,32,33,34,35,36] then
  match uM s n i with
  | .error e=>.error e
  | .ok (u,j)=>.ok ({ic.none with num:=u},j)
 else if x∈[17] then
  match uM s n i with
  | .error e=>.error e
  | .ok (u,j)=>
   match iO [0] s n j with
   | .error e=>.error e
   | .ok (_,j2)=>.ok ({ic.none with num:=u},j2)
 else if x∈[63,64] then
  match iO [0] s n i with
  | .error e=>.error e
  | .ok (_,j)=>.ok (ic.none,j)
 else if x∈[65] then
  match sM 4 4 s n i with
  | .error e=>.error e
  | .ok (v,j)=>.ok ({ic.none with val:=v},j)
 else if x∈[66] then
  match sM 9 1 s n i with
  | .error e=>.error e
  | .ok (v,j)=>.ok ({ic.none with val:=v},j)
 else if rF x=true then .ok (ic.none,i) else .error (2,a)
def iL:List Nat:=[2,3,4,14,40,41,44,45,54,55,58,12,13,16,32,33,34,35,36,17,63,64,65,66]
theorem Vl{a x:Nat}{s:qS}{n i:Nat}(h:x∉iL):jc a x s n i=if rF x=true then .ok (ic.none,i) else .error (2,a):=by
 simp only[iL,List.mem_cons,List.not_mem_nil,or_false,not_or] at h;unfold jc;simp[h]
end Go.Proofs.YtdaafkmhfedkiaaGreat
