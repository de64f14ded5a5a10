import Derived.Test.YtdaafkmhfedkiaaGreatX6
namespace Go.Proofs.YtdaafkmhfedkiaaGreat
set_option maxHeartbeats 6400000
set_option maxRecDepth 100000
open Go.RowKit Go.Proofs.Tryz
def wY(ns:List zM)(least many:Nat)(s:qS)(n i:Nat):Except Err (zM×Nat):=
 match oJ least many s n i with
 | .error e=>.error e
 | .ok (ix,j)=>
  match eZ 20 s n j with
  | .error e=>.error e
  | .ok (k,j2)=>
   match kZ k s n j2 with
   | .error e=>.error e
   | .ok (t,j3)=>if iE t&&!qQ ns t then .ok ((ix,t),j3) else .error (2,j)
def lU(many:Nat)(s:qS)(n:Nat):Nat->Nat->List zM->Nat->Except Err (List zM×Nat)
 | 0,_,M,j=>.ok (M,j)
 | k+1,least,M,j=>match wY M least many s n j with
  | .error e=>.error e
  | .ok (x,j')=>lU many s n k (x.1+1) (M++[x]) j'
def jy(many:Nat)(s:qS)(n i:Nat):Except Err (List zM×Nat):=
 match eZ many s n i with
 | .error e=>.error e
 | .ok (k,j)=>lU many s n k 0 [] j
theorem vZ{many:Nat}{s:qS}{n k a j:Nat}{M:List zM}{e:Err}(X:0<k)(h:wY M a many s n j=.error e):lU many s n k a M j=.error e:=by
 obtain⟨m,rfl⟩:∃m,k=m+1:=⟨k - 1,qo⟩;simp[lU,h]
theorem Ui{many:Nat}{s:qS}{n k a j b:Nat}{M:List zM}{x:zM}(X:0<k)(h:wY M a many s n j=.ok (x,b)):lU many s n k a M j=lU many s n (k - 1) (x.1+1) (M++[x]) b:=by
 obtain⟨m,rfl⟩:∃m,k=m+1:=⟨k - 1,qo⟩;simp[lU,h]
theorem D6{b end_:Nat}{s:qS}{n i x j:Nat}(h:oJ b end_ s n i=.ok (x,j)):b<=x/\x<end_/\i<j/\j<=n:=by
 unfold oJ at h;exact aed
theorem TE{k:Nat}{s:qS}{n i j:Nat}{t:qS}(h:kZ k s n i=.ok (t,j)):t.size<=k:=by
 unfold kZ at h;split at h
 .cases h
 cases h;simp;omega
theorem zB{w:qW}{b:Nat}{s:qS}{i n:Nat}(many:Nat)(h:Rd w b s i n)(hm:many<=1000):
  qC 197 #[qP b,qJ many] w (Out w b s n (isRow 276 2 sD (fun g=>w.heap.size<=g)) (jy many s n i)):=by
 obtain⟨i0,am,an,ao,ap⟩:=info_parts Tryz.acf;have ax:∀(x:Bool) (w:qW),(Op.unary .not (.bool x)).run prog w=.ok (.bool (!x)) w:=fun _ _=>rfl;go_enter func197,ntmps197;go_wp2_with fail
 refine(count_any many h qo).mono ?_;rintro e w1 ⟨L,c,d⟩;rcases a:eZ many s n i with⟨q,p⟩|A
 .obtain rfl:=d _ _ a;exact⟨rfl,Out.dD (by simp[jy,a]) L⟩
 obtain⟨f,j0⟩:=A;obtain⟨u,rfl,m,B⟩:=c _ _ a;obtain rfl:u=qJ f:=m;have ay:=(gD a).1;have HM:qh (jy many s n i=lU many s n f 0 [] j0):=by show _=_;simp[jy,a]
 clear c d a;go_wp2;go_loopw [5,6,15] (fun v z q wr=>∃(k j r:Nat) (ks:List zM),k<=f/\ks.length=k/\r<=many/\z=qJ r/\q=qJ k/\Rd wr b s j n/\Kept (only b) w wr/\isRow 276 2 sD (fun g=>w.heap.size<=g) ks wr v/\jy many s n i=lU many s n (f - k) r ks j) (fun _ _ q _=>f - (intOf q).toNat)
 case atStart=>exact⟨0,j0,0,[],qZ,rfl,qZ,rfl,rfl,B,L,Row.nil _ _ _ _,HM.o⟩
 obtain⟨k,j,r,ks,X,hl,az,rfl,rfl,B,M,E,ac⟩:=hrel;subst hl;obtain⟨pl,cl,rfl⟩:=Row.shape E;have y:=hide ac;clear ac HM L;by_cases aA:ks.length<f
 .have hlt':(ks.length:Int)<(f:Int):=qo;have ad:=hide E;clear E;go_wp2_with fail
  refine(BC r many rfl B qo qo).mono ?_;rintro e w2 ⟨N,c,d⟩;have O:=M.trans N;have ae:=hide (Row.call ad.o N (fun k X=>by have:=h.lt;omega));clear N M ad;rcases a:oJ r many s n j with⟨q,p⟩|A
  .obtain rfl:=d _ _ a;exact⟨rfl,Out.dD (y.o.trans (vZ qo (by simp[wY,a]))) O⟩
  obtain⟨l,j2⟩:=A;obtain⟨u,rfl,m,P⟩:=c _ _ a;obtain rfl:u=qJ l:=m;obtain⟨aB,aC,-,-⟩:=D6 a;have C:=hide a;clear c d a B;go_wp2_with fail
  refine(wR P).mono ?_;rintro e w0 ⟨rfl,rfl⟩;go_wp2_with fail
  refine(count_any 20 P qo).mono ?_;rintro e w3 ⟨Q,c,d⟩;have R:=O.trans Q;have af:=hide (Row.call ae.o Q (fun k X=>by have:=h.lt;omega));clear Q O ae;rcases a:eZ 20 s n j2 with⟨q,p⟩|A
  .obtain rfl:=d _ _ a;exact⟨rfl,Out.dD (y.o.trans (vZ qo (by simp[wY,C.o,a]))) R⟩
  obtain⟨kn,j3⟩:=A;obtain⟨u,rfl,m,ag⟩:=c _ _ a;obtain rfl:u=qJ kn:=m;have aD:=(gD a).1;have F:=hide a;clear c d a P;go_wp2_with fail
  refine(Iz kn ag qo).mono ?_;rintro e w4 ⟨S,c,d⟩;have T:=R.trans S;have U:=hide (Row.call af.o S (fun k X=>by have:=h.lt;omega));clear S R af;rcases a:kZ kn s n j3 with⟨q,p⟩|⟨t,V⟩
  .obtain rfl:=d _ _ a;exact⟨rfl,Out.dD (y.o.trans (vZ qo (by simp[wY,C.o,F.o,a]))) T⟩
  obtain⟨u,rfl,m,ah⟩:=c _ _ a;obtain rfl:u=.string t:=m;have aE:t.size<=kn:=TE a;have W:=hide a;clear c d a ag;go_wp2_with fail
  refine(Rn t U.o qo).mono ?_;rintro e w5 ⟨⟨zi,rfl⟩,G⟩;have H:=T.trans (G.mono (fun _ _ hc=>hc.elim));have aq:=ah.kept G (fun hc=>hc);have D:isRow 276 2 sD (fun g=>w.heap.size<=g) ks w5 (.slice pl ks.length cl):=Row.kept U.o G (fun _ _ _ hc=>hc);clear G T U ah;cases Y:qQ ks t with
  | true=>
   have Z:=hide Y;go_wp2_with fail
   refine(iY _ _).mono ?_;rintro e I ⟨rfl,rfl⟩;exact⟨rfl,Out.dD (y.o.trans (vZ qo (by simp[wY,C.o,F.o,W.o,Z.o]))) H⟩
  | false=>
   have Z:=hide Y;clear Y;have ar:=hide D;clear D;go_wp2_with fail
   refine(O5 t _ qo).mono ?_;rintro e I ⟨rfl,au⟩;obtain rfl:=au.symm;cases J:iE t with
   | false=>
    have aa:=hide J;clear J;go_wp2_with fail
    refine(iY _ _).mono ?_;rintro e I ⟨rfl,rfl⟩;exact⟨rfl,Out.dD (y.o.trans (vZ qo (by simp[wY,C.o,F.o,W.o,aa.o]))) H⟩
   | true=>
    have aa:=hide J;clear J;have D:=ar.o;have HH:qh (jy many s n i=lU many s n (f - (ks.length+1)) (l+1) (ks++[(l,t)]) V):=y.o.trans (Ui qo (show wY ks r many s n j=.ok ((l,t),V) by simp[wY,C.o,F.o,W.o,aa.o,Z.o]));have ai:=(D.pO (fun g hg=>hg)).alloc (.cells #[qJ l,.string t] 276);have K:=hide ai;have aF:=H.size;clear ai D;go_wp2_with (at_builtin;refine wpList_append_own _ rfl _ _ 141 rfl w.heap.size 276 i0 (.agg #[qJ 0,.string {data:= #[]}]) 2 24 underlying141 am an ao ap rfl qx _ _ _ rfl K.o ⟨w5.heap.size,0,none⟩ 1 1 [qJ l,.string t] rfl rfl ?c1 ?c2 ?c3 ?c4 ?c5 ?_)
    case c1=>exact cells_at rfl rfl
    case c2=>intro u hu;simp at hu;rcases hu with rfl | rfl<;>rfl
    case c3=>unfold maxLen;omega
    case c4=>omega
    case c5=>simp;omega
    intro v' I aj ab _;have av:=iP (H.alloc _) K.o qR ab;have aw:=ny (aq.alloc _) K.o h.lt ab;have ak:isRow 276 2 sD (fun g=>w.heap.size<=g) (ks++[(l,t)]) I v':=by
     have:=Row.nS (ok:=fun g=>w.heap.size<=g) aj (fun g hg _=>hg);simpa [isRow,sD] using this
    have HR:=hide ak;clear aj ab ak K;go_wp2;go_roundw
    case rel=>exact⟨ks.length+1,V,l+1,ks++[(l,t)],qo,qs,qo,by go_num,by go_num,aw,av,HR.o,HH.o⟩
    simp[intOf];omega
 have HH:qh (jy many s n i=.ok (ks,j)):=by show _=_;rw[y.o,show f - ks.length=0 by omega];rfl
 go_wp2;go_ret;exact Out.dW HH.o M E B
def fE.params(m:fE)(f:Nat):List Nat:=
 match m.funcs[f]? with
 | none=>[]
 | some x=>match m.dm[x.1.toNat]? with
  | none=>[]
  | some t=>t.ins
theorem Each.flat{a:Type}{P:a->qV->Prop}{m:Nat}:∀{xs:List a} {css:List (qV)} {k o:Nat} {cs:qV},Each (fun x c=>P x c/\c.length=m) xs css->css[k]?=some cs->o<m->css.flatten[k*m+o]?=cs[o]?
 | [],[],k,o,cs,_,h,_=>by simp at h
 | _::_,y::ys,0,o,cs,he,h,ho=>by
  simp at h;subst h;simp only[List.flatten_cons];rw[List.getElem?_append_left (by rw[he.1.2];omega)];simp
 | _::_,y::ys,k+1,o,cs,he,h,ho=>by
  simp at h;simp only[List.flatten_cons];rw[List.getElem?_append_right (by rw[he.1.2,Nat.add_mul];omega),he.1.2,show(k+1)*m+o - m=k*m+o by rw[Nat.add_mul];omega];exact Each.flat he.2 h ho
 | [],_::_,_,_,_,h,_,_=>h.elim
 | _::_,[],_,_,_,h,_,_=>h.elim
theorem T9{w:qW}{b Y:Nat}{s:qS}{ok:qD}{m:fE}(f:Nat)(C:kC s ok w b Y m)(hf:f<m.funcs.length)(i:∀x∈m.funcs,0<=x.1/\x.1<=4294967295)(J:m.dm.length<=20)(K:m.funcs.length<=20):
  qC 229 #[qP Y,qJ f] w fun e w'=>∃v,e=.returned v/\dG ok (m.params f) w v/\w'=w:=by
 obtain⟨F,l,d⟩:=C;obtain⟨D,c1,n,-,L,M,p⟩:=Row.cells d.U qo;obtain⟨⟨F0,N⟩,⟨E,O⟩,-⟩:=l.blk.twelve.1;have hx:m.funcs[f]?=some m.funcs[f]:=List.getElem?_eq_getElem hf;have P:w.cell? ⟨D,f*2,none⟩=some (.int .u32 m.funcs[f].1):=(p (f*2) qo).trans (flat_get (m:=2) (o:=0) (fun _=>rfl) hx qo);have Q:(f:Int)<(m.funcs.length:Int):=qo;obtain⟨R,S⟩:=i m.funcs[f] (List.getElem_mem hf);have q:m.params f=(match m.dm[m.funcs[f].1.toNat]? with | none=>[] | some t=>t.ins):=by simp[fE.params,hx]
 have g:=hide q;rw[n] at E;generalize m.funcs[f].1=r at*;have u:=hide d.h0;obtain⟨css,c,y⟩:=d.h0;obtain⟨T,c0,G⟩:=Row.shape c;rw[G] at F0 c;clear p d q hx l n;have h:=hide y;clear y;obtain⟨a,rfl⟩:∃a:Nat,r=(a:Int):=⟨r.toNat,qo⟩;by_cases V:(a:Int)<(m.dm.length:Int)
 .obtain⟨g0,c0',hv,-,hg0,hc0,hcell0⟩:=Row.cells c qo;cases hv;have X:a<m.dm.length:=qo;have hy:m.dm[a]?=some m.dm[a]:=List.getElem?_eq_getElem X;obtain⟨cs,z,⟨⟨W,Z,H,j,I⟩,aa⟩⟩:=h.o.get hy;subst H;obtain⟨A,B,rfl⟩:=Row.shape j;have e0:w.cell? ⟨g0,a*2,none⟩=some (.slice A m.dm[a].ins.length B):=(hcell0 (a*2) qo).trans (Each.flat (o:=0) h.o z qo);have k:qh (dG ok (m.params f) w (.slice A m.dm[a].ins.length B)):=by show dG _ _ _ _;rw[g.o];simp[hy];exact j
  clear hcell0 j I c h g z hy u i;generalize m.dm[a].ins.length=nn at*;go_enter func229,ntmps229;go_wp2;go_ret;exact⟨_,rfl,k.o,rfl⟩
 have k:qh (dG ok (m.params f) w (qN)):=by
  show dG _ _ _ _;rw[g.o,List.getElem?_eq_none qt];exact Row.nil _ _ _ _
 clear h g u i c;go_enter func229,ntmps229;go_wp2;go_ret;exact⟨_,rfl,k.o,rfl⟩
def qY(m:fE)(f:Nat):Nat:=(m.params f).length+((m.dQ[f]?).map (fun c=>c.1.length)).getD 0
def E9(m:fE)(least:Nat)(s:qS)(n i:Nat):Except Err ((Nat×List zM)×Nat):=
 match oJ least m.funcs.length s n i with
 | .error e=>.error e
 | .ok (f,j)=>
  match jy (qY m f) s n j with
  | .error e=>.error e
  | .ok (ns,j2)=>.ok ((f,ns),j2)
def sF(m:fE)(s:qS)(n:Nat):Nat->Nat->List (Nat×List zM)->Nat->Except Err (List (Nat×List zM)×Nat)
 | 0,_,M,j=>.ok (M,j)
 | k+1,least,M,j=>match E9 m least s n j with
  | .error e=>.error e
  | .ok (x,j')=>sF m s n k (x.1+1) (M++[x]) j'
def gq(m:fE)(s:qS)(n i:Nat):Except Err (fE×Nat):=
 match eZ m.funcs.length s n i with
 | .error e=>.error e
 | .ok (k,j)=>
  match sF m s n k 0 [] j with
  | .error e=>.error e
  | .ok (xs,j2)=>.ok ({m with kR:=xs},j2)
theorem Ns{m:fE}{s:qS}{n k a j:Nat}{M:List (Nat×List zM)}{e:Err}(X:0<k)(h:E9 m a s n j=.error e):sF m s n k a M j=.error e:=by
 obtain⟨m,rfl⟩:∃m,k=m+1:=⟨k - 1,qo⟩;simp[sF,h]
theorem Z0{m:fE}{s:qS}{n k a j b:Nat}{M:List (Nat×List zM)}{x:Nat×List zM}(X:0<k)(h:E9 m a s n j=.ok (x,b)):sF m s n k a M j=sF m s n (k - 1) (x.1+1) (M++[x]) b:=by
 obtain⟨m,rfl⟩:∃m,k=m+1:=⟨k - 1,qo⟩;simp[sF,h]
theorem Jw{w:qW}{b:Nat}{s:qS}{i n:Nat}{z:Int}{x:List zM}{j:Nat}(many:Nat)(d:z=(many:Int))(h:Rd w b s i n)(f:many<=1000)(k:jy many s n i=.ok (x,j)):
  qC 197 #[qP b,qJ z] w fun e w'=>(∃p c,e=.returned (.slice p x.length c)/\isRow 276 2 sD (fun g=>w.heap.size<=g) x w' (.slice p x.length c))/\Rd w' b s j n/\Kept (only b) w w':=by
 subst d;refine(zB many h f).mono ?_;rintro e o ⟨X,l,q⟩;obtain⟨u,rfl,a,m⟩:=l _ _ k;obtain⟨p,c,rfl⟩:=Row.shape a;exact⟨⟨p,c,rfl,a⟩,m,X⟩
theorem FZ{w:qW}{b:Nat}{s:qS}{i n:Nat}{z:Int}{q p:Nat}(many:Nat)(a:z=(many:Int))(h:Rd w b s i n)(c:many<=1000)(hu:jy many s n i=.error (q,p)):
  qC 197 #[qP b,qJ z] w fun e w'=>e=iK q p/\Kept (only b) w w':=by
 subst a;refine(zB many h c).mono ?_;exact aa3
theorem Tryz.ace:(prog.info? 279).map (fun i=>(i.zero,i.size,i.bytes))=some (some (.agg #[qJ 0,qN]),2,32):=qk
structure Fair(m:fE):Prop where
 dm:m.dm.length<=20
 ins:∀t∈m.dm,t.ins.length<=8
 funcs:m.funcs.length<=20
 nums:∀x∈m.funcs,0<=x.1/\x.1<=4294967295
 QW:∀x∈m.dQ,x.1.length<=50
theorem Fair.params{m:fE}(h:Fair m)(f:Nat):(m.params f).length<=8:=by
 unfold fE.params;split
 .simp
 split
 .simp
 rename_i t a;exact h.ins t (List.mem_of_getElem? a)
theorem nK.mono{ok ok':qD}{w:qW}{x:Nat×List zM}{cs:qV}(h:nK ok x w cs)(b:∀g,g<w.heap.size->ok g->ok' g):nK ok' x w cs:=by
 obtain⟨lv,e,a⟩:=h;exact⟨lv,e,Row.mono a b⟩
theorem Fields.ah1{w:qW}{b Y:Nat}{f:Fields}{v u:qv}(h:OB w b Y ({f with v11:=v}:Fields).cells):OB (w.setCell ⟨Y,11,none⟩ u) b Y ({f with v11:=u}:Fields).cells:=h.set 11 u
theorem Cb{w:qW}{b Y B:Nat}{s:ByteArray}{i n:Nat}{m:fE}(h:Rd w b s i n)(hm:kC s (fun g=>B<=g) w b Y m)(hb:b<B)(bm:Y<B)(hB:B<=w.heap.size)(hf:Fair m)(aU:m.kR=[])(bn:m.dQ.length=m.funcs.length):
  qC 199 #[.pointer (some ⟨Y,0,none⟩),.pointer (some ⟨b,0,none⟩)] w (fC (both b Y) w b s n (uY s B b Y) (gq m s n i)):=by
 obtain⟨i0,aV,aW,aX,aY⟩:=info_parts Tryz.ace;obtain⟨f,aj,hH⟩:=hm;obtain⟨⟨F0,G0⟩,⟨F1,G1⟩,-⟩:=aj.blk.twelve.1;obtain⟨p1,c1,ak⟩:=Row.shape hH.U;rw[ak] at F1;have HH:=hide hH;have aZ:f.v11=.slice none 0 0:=hH.xR aU;have bo:=hf.funcs;have N:=hide hf;clear F0 G0 hH hf;go_enter func199,ntmps199;go_wp2_with fail
 refine(count_any _ h qo).mono ?_;rintro e w1 ⟨am,O,P⟩;have an:Kept (both b Y) w w1:=am.gG;have az:=hide (aj.call am);clear am F1 G1 aj;rcases r:eZ m.funcs.length s n i with⟨q,p⟩|xj
 .obtain rfl:=P _ _ r;exact⟨rfl,fC.dD (by simp[gq,r]) an⟩
 obtain⟨C,j0⟩:=xj;obtain⟨u,rfl,hv,Q⟩:=O _ _ r;obtain rfl:u=.int .i64 C:=hv;have bp:=(gD r).1;have HO:=hide r;clear O P r;go_wp2;go_loopw [4,14] (fun z q wr=>∃(k j G:Nat) (xs:List (Nat×List zM)) (lv:qv),k<=C/\xs.length=k/\G<=m.funcs.length/\z=.int .i64 G/\q=.int .i64 k/\Rd wr b s j n/\Kept (both b Y) w wr/\OB wr b Y ({f with v11:=lv}:Fields).cells/\
   gu 279 2 nK (fun g=>w.heap.size<=g) xs wr lv/\(xs=[]->lv=.slice none 0 0)/\sF m s n C 0 [] j0=sF m s n (C - k) G xs j) (fun _ q _=>C - (intOf q).toNat)
 case atStart=>refine⟨0,j0,0,[],.slice none 0 0,qZ,rfl,qZ,rfl,rfl,Q,an,?_,⟨[],Row.nil _ _ _ _,trivial⟩,fun _=>rfl,rfl⟩;rw[<-aZ];exact az.o
 obtain⟨k,j,G,ks,lv,X,hl,bq,rfl,rfl,Q,aa,ab,a0,aA,aB⟩:=hrel;subst hl;have HE:=hide aB;have a1:=hide aA;clear aB aA an az;obtain⟨css,ac,aC⟩:=a0;obtain⟨pl,cl,rfl⟩:=Row.shape ac;have ao:=hide aC;clear aC;have l:=HH.o.kept aa (fun g _ E hh=>hh.elim (fun e=>qo) (fun e=>qo));have ap:kC s (fun g=>B<=g) wr b Y {m with kR:=ks}:=by
  refine⟨{f with v11:=.slice pl ks.length cl},ab,?_⟩;exact⟨l.h0,l.U,l.L,l.h3,l.h4,l.h5,l.h6,l.h7,l.h8,l.h9,l.h10,⟨css,Row.mono ac (fun g _ E=>qo),ao.o.to (fun y cs hh=>⟨hh.1.mono (fun g _ E=>qo),hh.2⟩)⟩,l.Cj,l.Ci,a1.o⟩
 clear l;by_cases br:ks.length<C
 .have hlt':(ks.length:Int)<(C:Int):=qo;obtain⟨p1,c1,ak⟩:=Row.shape HH.o.U;obtain⟨I1,J1⟩:=ab.blk.twelve.1.2.1;rw[ak] at I1;go_wp2_with fail
  refine(BC G m.funcs.length rfl Q qo qo).mono ?_;rintro e d ⟨M,O,P⟩;have H:=aa.trans M.gG;have J:=ab.call M;have aD:=ap.call M qo;have ad:=Row.call ac M (fun k X=>by have:=h.lt;omega);have aq:qh (Each (fun x cs=>nK (fun g=>w.heap.size<=g) x d cs/\cs.length=2) ks css):=ao.o.to (fun y cs hh=>⟨hh.1.kept M (fun g _ E (e:g=b)=>by have:=h.lt;omega),hh.2⟩);clear M aa ab ap ac ao I1 J1;rcases r:oJ G m.funcs.length s n j with⟨q,p⟩|xj
  .obtain rfl:=P _ _ r;exact⟨rfl,fC.dD (by simp[gq,HO.o,HE.o,Ns (m:=m) (show 0<C - ks.length by omega) (show E9 m G s n j=.error (q,p) by simp[E9,r])]) H⟩
  obtain⟨a,j2⟩:=xj;obtain⟨u,rfl,hv,ae⟩:=O _ _ r;obtain rfl:u=.int .i64 a:=hv;obtain⟨bs,a2,-,-⟩:=D6 r;have aE:=hide r;clear O P r Q;have a3:=N.o.params a;have af:m.dQ[a]?=some m.dQ[a]:=List.getElem?_eq_getElem qo;have a4:m.dQ[a].1.length<=50:=N.o.QW _ (List.mem_of_getElem? af);have aF:qY m a=(m.params a).length+m.dQ[a].1.length:=by simp[qY,af]
  have ar:=hide aF;clear aF;obtain⟨bu,aG,au⟩:=(HH.o.kept H (fun g _ E hh=>hh.elim (fun e=>qo) (fun e=>qo))).h8;obtain⟨g8,c8,aH,-,bv,bw,aI⟩:=Row.cells aG qo;obtain⟨bz,aJ,⟨⟨bA,bB,a5,aK,-⟩,-⟩⟩:=au.get af;obtain⟨p8,a6,rfl⟩:=Row.shape aK;subst a5;have e8:d.cell? ⟨g8,a*2,none⟩=some (.slice p8 m.dQ[a].1.length a6):=(aI (a*2) qo).trans (Each.flat (o:=0) au aJ qo);obtain⟨Iq,J8⟩:=J.blk.twelve.2.2.2.1;have I8:d.cell? ⟨Y,8,none⟩=some (.slice (some ⟨g8,0,none⟩) m.dQ.length c8):=Iq.trans (congrArg some aH);clear Iq;have bC:(a:Int)<(m.dQ.length:Int):=qo;clear aI au aG aK aJ af aH;go_wp2_with fail
  go_cut [6] from 15 to 56 (fun v W=>v=.int .i64 ((qY m a:Nat):Int)/\W=d.drew)
  case first=>
   go_region_law (first
     | (refine eG (f:=229) (args:= #[.pointer (some ⟨Y,0,none⟩),.int .i64 a]) (by rfl) (by go_simp) (T9 a (aD.call (w':=d.drew) (qr.drew) qo) a2 N.o.nums N.o.dm N.o.funcs) ?_;rintro e F ⟨pv,rfl,aL,rfl⟩;refine⟨_,rfl,?_⟩;have a7:dG (fun g=>B<=g) (m.params a) d.drew pv:=aL;clear aL;obtain⟨pp,pc,rfl⟩:=Row.shape a7))
   all_goals
    go_wp2;go_meet;exact⟨by rw[ar.o,Int.natCast_add];exact congrArg (Value.int .i64) (IntWalk.i64_in _ qo),rfl⟩
  obtain⟨rfl,rfl⟩:=hcut;have ag:qK d d.drew:=qr.drew;have av:Kept (only b) d d.drew:=qr.drew;have H:=H.drew;have J:=J.call av;have ad:=Row.call ad av (fun k X=>by have:=h.lt;omega);have aq:qh (Each (fun x cs=>nK (fun g=>w.heap.size<=g) x d.drew cs/\cs.length=2) ks css):=aq.o.to (fun y cs hh=>⟨hh.1.kept ag (fun _ _ _ c=>c),hh.2⟩);have ae:=ae.drew;clear aD I8 J8 e8 ag av;have aM:qY m a<=1000:=by rw[ar.o];omega
  generalize d.drew=R at*;clear ar a3 a4;obtain⟨a8,a9⟩:=J.blk.twelve.2.2.2.2.2.2;have aw:Y≠b:=J.ne;rcases hu:jy (qY m a) s n j2 with⟨q,p⟩|⟨x,j3⟩
  .have T:=hide hu;clear hu;go_wp2_with fail
   go_region_dies
   all_goals
    refine(FZ (qY m a) rfl ?_ aM T.o).mono ?_
    .exact ae.drew
    rintro e F ⟨rfl,D⟩;exact⟨rfl,fC.dD (by simp[gq,HO.o,HE.o,Ns (m:=m) (show 0<C - ks.length by omega) (show E9 m G s n j=.error (q,p) by simp[E9,aE.o,T.o])]) (H.drew.trans D.gG)⟩
  have T:=hide hu;clear hu;go_wp2_with fail
  have ax:Y<R.drew.heap.size:=J.lt;have bD:Y<w.heap.size:=qo;have ah:qh (∀d,Kept (only b) R.drew d->d.ownsRow w.heap.size 279 2 (.slice pl ks.length cl) ks.length css.flatten):=fun d hx=>((Row.kept ad (S:=fun _=>False) (w':=R.drew) (qr.drew) (fun _ _ _ c=>c)).call hx (fun k X=>by have:=h.lt;omega)).pO (fun g E=>E);go_region_law (first
    | (refine eG (f:=197) (args:= #[.pointer (some ⟨b,0,none⟩),.int .i64 ((qY m a:Nat):Int)]) (by rfl) (by go_simp) (Jw (qY m a) rfl ae.drew aM T.o) ?_;rintro e F ⟨⟨V,Z,rfl,ba⟩,aN,D⟩;refine⟨_,rfl,?_⟩;have aO:F.cell? ⟨Y,11,none⟩=some (.slice pl ks.length cl):=(D.other ax aw).trans a8;have aP:F.frozen? ⟨Y,11,none⟩=false:=(D.oz ax aw).trans a9;have bb:Y<F.heap.size:=Nat.lt_of_lt_of_le ax D.size)
    | ((refine step_append_lies _ (by rfl) _ _ _ (by rfl) w.heap.size 279 i0 _ 2 32 underlying142 aV aW aX aY rfl qo (.slice pl ks.length cl) ks.length css.flatten (by rfl) ((ah.o _ D).alloc _) ⟨F.heap.size,0,none⟩ 1 1 [.int .i64 a,.slice V x.length Z] (by rfl) (by rfl) (World.news_of_block (cs:= #[.int .i64 a,.slice V x.length Z]) (t:=279) (fr:=(0,0)) (heap_alloc_new F _)) (by simp[Value.oneCell']) qo (by unfold maxLen;omega) qo (by have:=H.size;have:=D.size;simp at*;omega) (F.heap.size+1) qs ?_;intro I A w4 aQ K bc bd;have ay:some Y≠(Value.slice pl ks.length cl).ownBlock:=fun e=>absurd ((ah.o _ D).lt Y e.symm).1 qo;have be:w4.cell? ⟨Y,11,none⟩=some (.slice pl ks.length cl):=(K.cell_far ⟨Y,11,none⟩ qt ay).trans ((World.cell?_alloc_lt _ _ _ bb).trans aO);have bf:w4.frozen? ⟨Y,11,none⟩=false:=(K.frozen_far ⟨Y,11,none⟩ qt ay).trans ((World.frozen?_alloc_old _ _ _ qt).trans aP))))
  all_goals
   have ai:=(ah.o _ D).alloc (.cells #[.int .i64 a,.slice V x.length Z] 279);have bg:=(ny (aN.alloc _) ai h.lt K).dA (o:=11) aw (.slice (some ⟨I,0,none⟩) (ks.length+1) A);have bh:=(iP ((H.drew.trans D.gG).alloc _) ai qR K).uw (o:=11) (.slice (some ⟨I,0,none⟩) (ks.length+1) A);have aR:=(((J.drew.call D).alloc (.cells #[.int .i64 a,.slice V x.length Z] 279)).kept (Kept.iB K) (fun e=>ay e.symm)).set 11 (.slice (some ⟨I,0,none⟩) (ks.length+1) A);have aS:gu 279 2 nK (fun g=>w.heap.size<=g) (ks++[(a,x)]) (w4.setCell ⟨Y,11,none⟩ (.slice (some ⟨I,0,none⟩) (ks.length+1) A)) (.slice (some ⟨I,0,none⟩) (ks.length+1) A):=by
    have ag:qK R R.drew:=qr.drew;have aT:∀y cs,nK (fun g=>w.heap.size<=g) y F cs->nK (fun g=>w.heap.size<=g) y (w4.setCell ⟨Y,11,none⟩ (.slice (some ⟨I,0,none⟩) (ks.length+1) A)) cs:=fun y cs hy=>
     ((hy.kept ((Kept.refl (fun _=>False) F).alloc _) (fun _ _ _ c=>c)).JM ai qx K).kept (S:=only Y) (qr.own _) (fun g _ E (e:g=Y)=>qo)
    refine⟨css++[[.int .i64 a,.slice V x.length Z]],?_,?_⟩
    .have q:=Row.other (Row.nS (ok:=fun g=>w.heap.size<=g) aQ (fun g E _=>E)) (g:=Y) (o:=11) (fun k X=>qo) (.slice (some ⟨I,0,none⟩) (ks.length+1) A);simpa using q
    refine Each.snoc (aq.o.to (fun y cs hh=>⟨aT y cs ((hh.1.kept ag (fun _ _ _ c=>c)).kept D (fun g _ E (e:g=b)=>by have:=h.lt;omega)),hh.2⟩)) ⟨aT _ _ ⟨_,rfl,Row.mono ba (fun g _ E=>Nat.le_trans H.size E)⟩,rfl⟩
   have bi:qh (sF m s n C 0 [] j0=sF m s n (C - (ks.length+1)) (a+1) (ks++[(a,x)]) j3):=HE.o.trans (Z0 qo (show E9 m G s n j=.ok ((a,x),j3) by simp[E9,aE.o,T.o]));have HR:=hide aS;have bj:=hide aR;clear aS aQ K bc bd be bf aO aP D ai aR aN ah ad;go_wp2;go_roundw
   case rel=>exact⟨ks.length+1,j3,a+1,ks++[(a,x)],.slice (some ⟨I,0,none⟩) (ks.length+1) A,qo,qs,qo,by go_num,by go_num,bg,bh,bj.o,HR.o,fun e=>by simp at e,bi.o⟩
   simp[intOf];omega
 have bk:qh (sF m s n C 0 [] j0=.ok (ks,j)):=by show _=_;rw[HE.o,show C - ks.length=0 by omega];rfl
 go_wp2;go_end0;exact fC.dW (x:={m with kR:=ks}) (j:=j) (by simp[gq,HO.o,bk.o]) aa ⟨rfl,ap⟩ Q
def iQ(m:fE)(s:qS)(n i:Nat):Except Err (fE×Nat):=
 match jy m.funcs.length s n i with
 | .error e=>.error e
 | .ok (xs,j)=>.ok ({m with nfuncs:=xs},j)
theorem IC{w:qW}{b Y B c0 c1:Nat}{s:qS}{i n:Nat}{m:fE}(h:Rd w b s i n)(F:kC s (fun g=>B<=g) w b Y m)(hb:b<B)(T:Y<B)(V:B<=w.heap.size)(W:m.funcs.length<=20)
  (G:c1≠b) (Z:w.cell? (qA c0 0)=some (qP b)) (C:w.cell? (qA c1 0)=some (qP Y)):
  qC 196 #[qP c0,qP c1] w (fC (both b Y) w b s n (uY s B b Y) (iQ m s n i)):=by
 obtain⟨f,d,y⟩:=F;obtain⟨H,G1⟩:=d.blk.twelve.1.2.1;obtain⟨I,J⟩:=d.blk.twelve.2.2.2.2.2.1;obtain⟨p1,aa,K⟩:=Row.shape y.U;rw[K] at H;have M:=hide y;clear y;have z:Y≠b:=d.ne;have D:Y<w.drew.heap.size:=d.lt;have N:c1<w.drew.heap.size:=World.block_lt_of_cell? _ _ C;go_enter func196,ntmps196;rcases t:jy m.funcs.length s n i with⟨q,p⟩|⟨x,O⟩
 .have l:=hide t;clear t;go_wp2_with fail
  go_region_dies
  all_goals
   refine(FZ m.funcs.length rfl ?_ qo l.o).mono ?_
   .exact h.drew
   rintro e r ⟨rfl,c⟩;exact⟨rfl,fC.dD (by simp[iQ,l.o]) (qr.drew.trans c.gG)⟩
 have l:=hide t;clear t;go_wp2_with fail
 go_region_law (first
   | (refine eG (f:=197) (args:= #[qP b,qJ m.funcs.length]) (by rfl) (by go_simp) (Jw m.funcs.length rfl h.drew qo l.o) ?_;rintro e r ⟨⟨u,v,rfl,P⟩,Q,c⟩;refine⟨_,rfl,?_⟩;have ab:r.cell? (qA Y 10)=some f.v10:=(c.other D z).trans I;have ac:r.frozen? (qA Y 10)=false:=(c.oz D z).trans J;have ad:r.cell? (qA c1 0)=some (qP Y):=(c.other N G).trans C))
 all_goals
  go_wp2;go_end0;have E:Kept (both b Y) w r:=qr.drew.trans c.gG;have R:=(d.drew.call c).set 10 (.slice u x.length v);have a:=M.o.kept (E.uw (o:=10) (.slice u x.length v)) (fun g _ A hh=>hh.elim (fun e=>qo) (fun e=>qo));have S:=Row.mono (Row.other P (g:=Y) (o:=10) (fun k X=>by have:=d.lt;have X:w.heap.size<=k:=X;omega) (.slice u x.length v)) (ok':=fun g=>B<=g) (fun g _ A=>by have A:w.heap.size<=g:=A;omega);refine fC.dW (x:={m with nfuncs:=x}) (j:=O) (by simp[iQ,l.o]) (E.uw _) ⟨rfl,{f with v10:=.slice u x.length v},R,?_⟩ (Q.dA z _);exact⟨a.h0,a.U,a.L,a.h3,a.h4,a.h5,a.h6,a.h7,a.h8,a.h9,S,a.h11,a.Cj,a.Ci,a.xR⟩
theorem IB{w:qW}{b Y B c0 c1:Nat}{s:qS}{i n:Nat}{m:fE}(h:Rd w b s i n)(a:kC s (fun g=>B<=g) w b Y m)(hb:b<B)(c:Y<B)(d:B<=w.heap.size)(hf:Fair m)(f:m.kR=[])(k:m.dQ.length=m.funcs.length)
  (l:w.cell? (qA c0 0)=some (qP Y)) (o:w.cell? (qA c1 0)=some (qP b)):
  qC 198 #[qP c0,qP c1] w (fC (both b Y) w b s n (uY s B b Y) (gq m s n i)):=by
 go_enter func198,ntmps198;go_wp2_with fail
 refine(Cb h a hb c d hf f k).mono ?_;rintro e r ⟨X,hok,jY⟩;rcases ho:gq m s n i with⟨q,p⟩|⟨x,j⟩
 .exact WM
 obtain⟨u,rfl,hv,hrd⟩:=hok _ _ ho;obtain⟨rfl,hv⟩:=hv;exact ac0
def nQ{α:Type}(which:Nat)(x0:α)(tM:qS->Nat->Nat->Except Err (α×Nat))(s:qS)(n i:Nat):Except Err (α×Nat):=
 if i<n then(if bt s i=which then fK tM s n (i+1) else .ok (x0,i)) else .ok (x0,i)
theorem Dn{y:Type}{S:qD}{w:qW}{b:Nat}{s:qS}{i n K:Nat}{A:Array qv}(which:Nat)(x0:y)(tM:qS->Nat->Nat->Except Err (y×Nat))(l:qW->Prop)(d:y->qW->Prop)
  (h:Rd w b s i n) (E:l w) (F:d x0 w) (hc:Enters K) (G:S b) (H:∀W a,l W->Kept (only b) W a->l a) (I:∀x W a,d x W->Kept (only b) W a->d x a)
  (J:∀W j m,Rd W b s j m->l W->w.heap.size<=W.heap.size->qC K A W (fC S W b s m (isDone d) (tM s m j))):
  qC 195 #[qP b,qB which,.func (.func K) #[] A] w (fC S w b s n (isDone d) (nQ which x0 tM s n i)):=by
 have T:=hide J;have M:=hide H;have z:=hide I;have V:=hide E;have N:=hide F;clear J H I E F;have O:∀(W a:qW),Kept (only b) W a->Kept S W a:=fun W a X=>X.mono (fun k _ (e:k=b)=>e▸G);have B:=hide O;clear O;go_enter func195,ntmps195;by_cases r:i<n
 .have Y:decide (n<=i)=false:=by simp;omega
  go_wp2_with fail
  refine(wo h).mono ?_;rintro e Z ⟨rfl,C,rfl⟩;go_wp2_with fail
  refine(QK (h.drewN C)).mono ?_;rintro e w2 ⟨aa,c,f⟩;obtain⟨u,rfl,P,Q⟩:=c _ _ (show o6 s n i=.ok (bt s i,i) by simp[o6,r]);obtain rfl:u=qB (bt s i:Nat):=P;have D:=((Kept.refl (only b) w).drewN C).trans aa;clear c f;by_cases hw:bt s i=which
  .have t1:(((bt s i:Nat):Int) !=((which:Nat):Int))=false:=by simp[hw]
   have g:qh (nQ which x0 tM s n i=fK tM s n (i+1)):=by show _=_;simp[nQ,r,hw]
   go_wp2_with fail
   refine(sH Q).mono ?_;rintro e w3 ⟨ab,c,f⟩;obtain⟨u,rfl,P,ac⟩:=c _ _ (show lD s n i=.ok (bt s i,i+1) by simp[lD,r]);have v:=D.trans ab;clear c f;go_wp2_with fail
   refine(BQ (S:=S) (A:=A) tM l d ac (M.o _ _ V.o v) hc G M.o z.o (fun W j m U L h3=>T.o W j m U L (Nat.le_trans v.size h3))).mono ?_;rintro e w4 ⟨R,c,f⟩;rcases t:fK tM s n (i+1) with⟨q,p⟩|⟨x,j⟩
   .obtain rfl:=f _ _ t;exact⟨rfl,fC.dD (g.o.trans t) ((B.o _ _ v).trans R)⟩
   obtain⟨u,rfl,⟨rfl,hp⟩,ad⟩:=c _ _ t;have ae:=hide hp;have HO:=hide t;clear hp c f t;go_wp2;go_end0;exact fC.dW (g.o.trans HO.o) ((B.o _ _ v).trans R) ⟨rfl,ae.o⟩ ad
  have t1:(((bt s i:Nat):Int) !=((which:Nat):Int))=true:=by simp;omega
  have g:qh (nQ which x0 tM s n i=.ok (x0,i)):=by show _=_;simp[nQ,r,hw]
  go_wp2;go_end0;exact fC.dW g.o (B.o _ _ D) ⟨rfl,z.o _ _ _ N.o D⟩ Q
 have Y:decide (n<=i)=true:=by simp;omega
 have g:qh (nQ which x0 tM s n i=.ok (x0,i)):=by show _=_;simp[nQ,r]
 go_wp2_with fail
 refine(wo h).mono ?_;rintro e Z ⟨rfl,C,rfl⟩;go_wp2;go_end0;exact fC.dW g.o (qr.drewN _) ⟨rfl,z.o _ _ _ N.o (qr.drewN _)⟩ (h.drewN _)
def oD(m:fE)(s:qS)(n i:Nat):Except Err (fE×Nat):=
 match gz [4,110,97,109,101] s n i with
 | .error e=>.error e
 | .ok (_,j)=>
  match nQ 1 m (iQ m) s n j with
  | .error e=>.error e
  | .ok (m1,j2)=>nQ 2 m1 (gq m1) s n j2
theorem zS{a:Type}{tM:qS->Nat->Nat->Except Err (a×Nat)}{s:qS}{n i:Nat}{x:a}{j:Nat}(h:fK tM s n i=.ok (x,j)):∃b c,tM s b c=.ok (x,j):=by
 unfold fK at h;split at h
 .cases h
 split at h
 .split at h<;>cases h
 split at h
 .cases h
 rename_i d;split at h
 .cases h
 cases h;exact⟨_,_,d⟩
theorem Ni{a:Type}{which:Nat}{x0:a}{tM:qS->Nat->Nat->Except Err (a×Nat)}{s:qS}{n i:Nat}{x:a}{j:Nat}(h:nQ which x0 tM s n i=.ok (x,j)):x=x0\/∃b c,tM s b c=.ok (x,j):=by
 unfold nQ at h;split at h
 .split at h
  .exact .inr (zS h)
  cases h;exact .inl rfl
 cases h;exact .inl rfl
theorem GJ{m a:fE}{s:qS}{n i j:Nat}(h:iQ m s n i=.ok (a,j)):∃xs,a={m with nfuncs:=xs}:=by
 unfold iQ at h;split at h
 .cases h
 cases h;exact⟨_,rfl⟩
theorem Jt{m a:fE}{s:qS}{n i j:Nat}(h:nQ 1 m (iQ m) s n i=.ok (a,j)):∃xs,a={m with nfuncs:=xs}:=by
 rcases Ni h with rfl | ⟨_,_,h⟩
 .exact⟨a.nfuncs,rfl⟩
 exact GJ h
theorem Ef:Enters 196:=enters_of func196 qk qk
theorem Ee:Enters 198:=enters_of func198 qk qk
theorem La{w:qW}{b Y B:Nat}{s:qS}{i n:Nat}{m:fE}(h:Rd w b s i n)(R:kC s (fun g=>B<=g) w b Y m)(hb:b<B)(T:Y<B)(hB:B<=w.heap.size)(hf:Fair m)(ai:m.kR=[])(aj:m.dQ.length=m.funcs.length):
  qC 172 #[qP Y,qP b] w (fC (both b Y) w b s n (uY s B b Y) (oD m s n i)):=by
 have aw:∀(fn:Fn) (first A:Array qv) (w:qW),(Instr.makeFunc fn first A).run prog w=.ok (.func fn first A) w:=fun _ _ _ _=>rfl;have ak:=h.lt;have r:=hide hf;clear hf;go_enter func172,ntmps172;go_wp2_with fail
 have V:=(R.call (w':=w.alloc (.cells #[qP Y] 89)) (qr.alloc _) qo).call (w':=(w.alloc (.cells #[qP Y] 89)).alloc (.cells #[qP b] 149)) (qr.alloc _) qo;have Z:=(OB.new (b:=b) (g:=w.heap.size) (c:= #[qP Y]) (t:=89) ak rfl).alloc (.cells #[qP b] 149);have aa:=OB.new (w:=w.alloc (.cells #[qP Y] 89)) (b:=b) (g:=w.heap.size+1) (c:= #[qP b]) (t:=149) qt qs;have ab:Kept (both b Y) w ((w.alloc (.cells #[qP Y] 89)).alloc (.cells #[qP b] 149)):=((Kept.refl _ w).alloc _).alloc _;refine(Gf ((h.alloc _).alloc _) qx).mono ?_;rintro e w1 ⟨v,d,f⟩;have D:=ab.trans v.gG;have l:=V.call v qo;have y:=Z.call v;have z:=aa.call v;have ht:tl {data:= #[4,110,97,109,101]} 0=[4,110,97,109,101]:=by rfl
 rw[ht] at d f;clear v ab V Z aa R ht;rcases a:gz [4,110,97,109,101] s n i with⟨q,p⟩|E
 .obtain rfl:=f _ _ a;exact⟨rfl,fC.dD (by simp[oD,a]) D⟩
 obtain⟨_,j1⟩:=E;obtain⟨u,rfl,-,am⟩:=d _ _ a;have F:=hide a;clear d f a;have ax:=D.size;have G:=hide l;clear l;obtain⟨H,I⟩:=y.blk.yB;obtain⟨J,M⟩:=z.blk.yB;go_wp2_with fail
 refine(Dn (S:=both b Y) (K:=196) (A:= #[.pointer (some ⟨w.heap.size+1,0,none⟩),qP w.heap.size]) 1 m (iQ m)
  (fun W=>OB W b w.heap.size [qP Y]/\OB W b (w.heap.size+1) [qP b]/\kC s (fun g=>B<=g) W b Y m)
  (fun x W=>kC s (fun g=>B<=g) W b Y x) am ⟨y,z,G.o⟩ G.o Ef (.inl rfl) ?_ ?_ ?_).mono ?_
 .rintro W W' ⟨U,L,h3⟩ X;exact⟨U.call X,L.call X,h3.call X qo⟩
 .rintro x W W' U X;exact U.call X qo
 .rintro W j n' hrd ⟨U,L,h3⟩ hsz;exact IC hrd h3 hb T qo r.o.funcs qo L.blk.yB.1 U.blk.yB.1
 rintro e w2 ⟨C,d,f⟩;have N:=D.trans C;have O:=y.kept C (fun hh=>hh.elim (fun e=>qo) (fun e=>qo));have P:=z.kept C (fun hh=>hh.elim (fun e=>qo) (fun e=>qo));clear C y z G H I J M;rcases a:nQ 1 m (iQ m) s n j1 with⟨q,p⟩|E
 .obtain rfl:=f _ _ a;exact⟨rfl,fC.dD (by simp[oD,F.o,a]) N⟩
 obtain⟨k,j2⟩:=E;obtain⟨u,rfl,⟨rfl,ac⟩,an⟩:=d _ _ a;have ad:=hide a;obtain⟨xs,l⟩:=Jt a;have ae:Fair k:=by subst l;exact⟨r.o.dm,r.o.ins,r.o.funcs,r.o.nums,r.o.QW⟩
 have ao:k.kR=[]:=by subst l;exact ai
 have ap:k.dQ.length=k.funcs.length:=by subst l;exact aj
 have aq:=hide ae;clear d f a l ae;have ay:=N.size;have Q:=hide ac;clear ac;obtain⟨H,I⟩:=O.blk.yB;obtain⟨J,M⟩:=P.blk.yB;go_wp2_with fail
 refine(Dn (S:=both b Y) (K:=198) (A:= #[qP w.heap.size,.pointer (some ⟨w.heap.size+1,0,none⟩)]) 2 k (gq k)
  (fun W=>OB W b w.heap.size [qP Y]/\OB W b (w.heap.size+1) [qP b]/\kC s (fun g=>B<=g) W b Y k)
  (fun x W=>kC s (fun g=>B<=g) W b Y x) an ⟨O,P,Q.o⟩ Q.o Ee (.inl rfl) ?_ ?_ ?_).mono ?_
 .rintro W W' ⟨U,L,h3⟩ X;exact⟨U.call X,L.call X,h3.call X qo⟩
 .rintro x W W' U X;exact U.call X qo
 .rintro W j n' hrd ⟨U,L,h3⟩ hsz;exact IB hrd h3 hb T qo aq.o ao ap U.blk.yB.1 L.blk.yB.1
 rintro e w3 ⟨af,d,f⟩;have ag:=N.trans af;clear af O P Q H I J M;rcases a:nQ 2 k (gq k) s n j2 with⟨q,p⟩|⟨m2,j3⟩
 .obtain rfl:=f _ _ a;exact⟨rfl,fC.dD (by simp[oD,F.o,ad.o,a]) ag⟩
 obtain⟨u,rfl,⟨rfl,ah⟩,ar⟩:=d _ _ a;have au:=hide a;have av:=hide ah;clear d f a ah;go_wp2;go_end0;exact fC.dW (by simp[oD,F.o,ad.o,au.o]) ag ⟨rfl,av.o⟩ ar
def jL(x:Nat):Nat:=if x=0 then 12 else if x=2\/11<x then 0 else x
theorem xN(x:Nat)(w:qW):qC 120 #[qB x] w fun e w'=>e=.returned (qJ (jL x:Nat))/\w'=w:=by
 by_cases h0:x=0
 .subst h0;go_enter func120,ntmps120;go_wp2;go_ret;exact⟨rfl,rfl⟩
 have b:((x:Int)==0)=false:=by simp;omega
 by_cases U:x=2
 .subst U;go_enter func120,ntmps120;go_wp2;go_ret;exact⟨rfl,rfl⟩
 have c:((x:Int)==2)=false:=by simp;omega
 by_cases L:11<x
 .have a:decide ((11:Int)<(x:Int))=true:=by simp;omega
  have HR:qh (jL x=0):=by show _=_;simp[jL,h0,L]
  exact adM
 have a:decide ((11:Int)<(x:Int))=false:=by simp;omega
 have HR:qh (jL x=x):=by show _=_;simp[jL,h0,U,L]
 have hx:(x:Int)<=11:=qo;exact adM
theorem yD{w:qW}{b Y:Nat}{s:qS}{ok:qD}{m:fE}(at_:Int)(i:kC s ok w b Y m):
  qC 82 #[qP Y,qJ at_] w fun e w'=>(∃k,w'=w.drewN k)/\e=if m.dQ.length=m.funcs.length then .returned (.tuple #[]) else iK 2 at_:=by
 obtain⟨f,c,d⟩:=i;obtain⟨j,p⟩:=c.blk.twelve.1.2.1;obtain⟨g,q⟩:=c.blk.twelve.2.2.2.1;obtain⟨r,c1,l⟩:=Row.shape d.U;obtain⟨css,h,-⟩:=d.h8;obtain⟨t,u,n⟩:=Row.shape h;rw[l] at j;rw[n] at g;clear d h c;by_cases a:m.dQ.length=m.funcs.length
 .rw[if_pos a];rw[a] at g;have o:(((m.funcs.length:Nat):Int) !=((m.funcs.length:Nat):Int))=false:=qs;clear a;go_enter func82,ntmps82;go_wp2;go_quiet (fail)
  go_wp2;go_end0;exact⟨⟨_,rfl⟩,rfl⟩
 rw[if_neg a];have o:(((m.dQ.length:Nat):Int) !=((m.funcs.length:Nat):Int))=true:=by simp;omega
 go_enter func82,ntmps82;go_wp2;go_quiet (fail)
 go_wp2_with fail
 refine(iY _ _).mono ?_;rintro e v ⟨rfl,rfl⟩;exact⟨rfl,⟨_,rfl⟩,rfl⟩
theorem gu.toB{c:Type}{E:TypeId}{d:Nat}{a:(qD)->c->qW->qV->Prop}{xs:List c}{w:qW}{v:qv}{b B:Nat}(h:gu E d a (fun g=>b<=g) xs w v)(e:B<=b)
  (f:∀x cs,a (fun g=>b<=g) x w cs->a (fun g=>B<=g) x w cs):gu E d a (fun g=>B<=g) xs w v:=by
 obtain⟨css,U,L⟩:=h;exact⟨css,Row.mono U (fun g _ i=>Nat.le_trans e i),L.to (fun x cs hh=>⟨f x cs hh.1,hh.2⟩)⟩
theorem yX.mono{ok ok':qD}{w:qW}{x:Ty}{cs:qV}(h:yX ok x w cs)(b:∀g,g<w.heap.size->ok g->ok' g):yX ok' x w cs:=by
 obtain⟨d,f,e,a,c⟩:=h;exact⟨d,f,e,Row.mono a b,Row.mono c b⟩
theorem uh.mono{ok ok':qD}{w:qW}{x:Qi}{cs:qV}(h:uh ok x w cs)(b:∀g,g<w.heap.size->ok g->ok' g):uh ok' x w cs:=by
 obtain⟨c,e,a⟩:=h;exact⟨c,e,Row.mono a b⟩
theorem GU:Enters 158:=enters_of func158 qk qk
theorem Fq:Enters 161:=enters_of func161 qk qk
theorem Eg:Enters 162:=enters_of func162 qk qk
theorem Eh:Enters 164:=enters_of func164 qk qk
theorem Ei:Enters 166:=enters_of func166 qk qk
theorem CS:Enters 168:=enters_of func168 qk qk
theorem GV:Enters 171:=enters_of func171 qk qk
def wQ(m:fE)(s:qS)(n i:Nat):Except Err (fE×Nat):=
 match dY 20 vT s n i with
 | .error e=>.error e
 | .ok (xs,j)=>.ok ({m with dm:=xs},j)
theorem PZ{w:qW}{b Y B:Nat}{s:qS}{i n:Nat}{m:fE}(h:Rd w b s i n)(M:kC s (fun g=>B<=g) w b Y m)(hb:b<B)(W:Y<B)(X:B<=w.heap.size):
  qC 124 #[qP Y,qP b,qB 1] w (fC (both b Y) w b s n (uY s B b Y) (wQ m s n i)):=by
 obtain⟨f,D,E⟩:=M;have N:=hide E;clear E;go_enter func124,ntmps124;go_wp2_with fail
 refine(O8 20 158 vT h qo GU (fun z j O=>OJ O)).mono ?_;rintro e z ⟨A,H,I⟩;have J:Kept (both b Y) w z:=A.gG;have r:=D.call A;clear A D;rcases k:dY 20 vT s n i with⟨q,p⟩|⟨x,j⟩
 .obtain rfl:=I _ _ k;exact⟨rfl,fC.dD (by simp[wQ,k]) J⟩
 obtain⟨u,rfl,l,P⟩:=H _ _ k;have Q:∃p c,u=.slice p x.length c:=by obtain⟨css,R,-⟩:=l;exact Row.shape R
 obtain⟨t,v,rfl⟩:=Q;have T:=hide k;have V:=hide l;clear H I k l;obtain⟨F,G⟩:=r.blk.twelve.1.1;go_wp2;go_end0;have Z:=r.lt;have K:=J.uw (o:=0) (.slice t x.length v);have a:=N.o.kept K (fun g _ d hh=>hh.elim (fun e=>qo) (fun e=>qo));have hI:=r.set 0 (.slice t x.length v);have l:=V.o;refine fC.dW (x:={m with dm:=x}) (j:=j) (by simp[wQ,T.o]) K ⟨rfl,{f with v0:=.slice t x.length v},hI,?_⟩ (P.dA r.ne _);have C:=l.kept (S:=only Y) (w':=z.setCell (qA Y 0) (.slice t x.length v)) (qr.own _) (fun g _ d (e:g=Y)=>by have d:w.heap.size<=g:=d;omega) (fun y cs hy=>hy.kept (S:=only Y) (qr.own _) (fun g _ d (e:g=Y)=>by have d:w.heap.size<=g:=d;omega));have C:=C.toB (B:=B) qo (fun y cs hy=>hy.mono (fun g _ d=>by have d:w.heap.size<=g:=d;omega));exact⟨C,a.U,a.L,a.h3,a.h4,a.h5,a.h6,a.h7,a.h8,a.h9,a.h10,a.h11,a.Cj,a.Ci,a.xR⟩
def wP(m:fE)(s:qS)(n i:Nat):Except Err (fE×Nat):=
 match dY 20 uM s n i with
 | .error e=>.error e
 | .ok (xs,j)=>.ok ({m with funcs:=xs},j)
theorem PY{w:qW}{b Y B:Nat}{s:qS}{i n:Nat}{m:fE}(h:Rd w b s i n)(J:kC s (fun g=>B<=g) w b Y m)(hb:b<B)(R:Y<B)(S:B<=w.heap.size):
  qC 124 #[qP Y,qP b,qB 3] w (fC (both b Y) w b s n (uY s B b Y) (wP m s n i)):=by
 obtain⟨f,z,A⟩:=J;have K:=hide A;clear A;go_enter func124,ntmps124;go_wp2_with fail
 refine(Ad 20 156 uM h qo RU (fun C j M=>uQ M)).mono ?_;rintro e C ⟨v,D,E⟩;have H:Kept (both b Y) w C:=v.gG;have l:=z.call v;clear v z;rcases c:dY 20 uM s n i with⟨q,p⟩|⟨x,j⟩
 .obtain rfl:=E _ _ c;exact⟨rfl,fC.dD (by simp[wP,c]) H⟩
 obtain⟨u,rfl,d,N⟩:=D _ _ c;obtain⟨r,t,rfl⟩:=Row.shape d;have O:=hide c;have P:=hide d;clear D E c d;obtain⟨F,G⟩:=l.blk.twelve.1.2.1;go_wp2;go_end0;have T:=l.lt;have I:=H.uw (o:=1) (.slice r x.length t);have a:=K.o.kept I (fun g _ y hh=>hh.elim (fun e=>qo) (fun e=>qo));have hI:=l.set 1 (.slice r x.length t);have d:=P.o;refine fC.dW (x:={m with funcs:=x}) (j:=j) (by simp[wP,O.o]) I ⟨rfl,{f with v1:=.slice r x.length t},hI,?_⟩ (N.dA l.ne _);have Q:=Row.mono (Row.other d (g:=Y) (o:=1) (fun k X=>by have X:w.heap.size<=k:=X;omega) (.slice r x.length t)) (ok':=fun g=>B<=g) (fun g _ y=>by have y:w.heap.size<=g:=y;omega);exact⟨a.h0,Q,a.L,a.h3,a.h4,a.h5,a.h6,a.h7,a.h8,a.h9,a.h10,a.h11,a.Cj,a.Ci,a.xR⟩
def wO(m:fE)(s:qS)(n i:Nat):Except Err (fE×Nat):=
 match dY 1 um s n i with
 | .error e=>.error e
 | .ok (xs,j)=>.ok ({m with tables:=xs},j)
theorem PX{w:qW}{b Y B:Nat}{s:qS}{i n:Nat}{m:fE}(h:Rd w b s i n)(J:kC s (fun g=>B<=g) w b Y m)(hb:b<B)(Q:Y<B)(R:B<=w.heap.size):
  qC 124 #[qP Y,qP b,qB 4] w (fC (both b Y) w b s n (uY s B b Y) (wO m s n i)):=by
 obtain⟨f,z,A⟩:=J;have K:=hide A;clear A;go_enter func124,ntmps124;go_wp2_with fail
 refine(Ae 1 161 um h qo Fq (fun C j L=>KZ L)).mono ?_;rintro e C ⟨v,D,E⟩;have H:Kept (both b Y) w C:=v.gG;have l:=z.call v;clear v z;rcases c:dY 1 um s n i with⟨q,p⟩|⟨x,j⟩
 .obtain rfl:=E _ _ c;exact⟨rfl,fC.dD (by simp[wO,c]) H⟩
 obtain⟨u,rfl,d,M⟩:=D _ _ c;obtain⟨r,t,rfl⟩:=Row.shape d;have N:=hide c;have O:=hide d;clear D E c d;obtain⟨F,G⟩:=l.blk.twelve.1.2.2.1;go_wp2;go_end0;have S:=l.lt;have I:=H.uw (o:=2) (.slice r x.length t);have a:=K.o.kept I (fun g _ y hh=>hh.elim (fun e=>qo) (fun e=>qo));have hI:=l.set 2 (.slice r x.length t);have d:=O.o;refine fC.dW (x:={m with tables:=x}) (j:=j) (by simp[wO,N.o]) I ⟨rfl,{f with v2:=.slice r x.length t},hI,?_⟩ (M.dA l.ne _);have P:=Row.mono (Row.other d (g:=Y) (o:=2) (fun k X=>by have X:w.heap.size<=k:=X;omega) (.slice r x.length t)) (ok':=fun g=>B<=g) (fun g _ y=>by have y:w.heap.size<=g:=y;omega);exact⟨a.h0,a.U,P,a.h3,a.h4,a.h5,a.h6,a.h7,a.h8,a.h9,a.h10,a.h11,a.Cj,a.Ci,a.xR⟩
def wM(m:fE)(s:qS)(n i:Nat):Except Err (fE×Nat):=
 match dY 1 xu s n i with
 | .error e=>.error e
 | .ok (xs,j)=>.ok ({m with jT:=xs},j)
theorem PW{w:qW}{b Y B:Nat}{s:qS}{i n:Nat}{m:fE}(h:Rd w b s i n)(J:kC s (fun g=>B<=g) w b Y m)(hb:b<B)(R:Y<B)(S:B<=w.heap.size):
  qC 124 #[qP Y,qP b,qB 5] w (fC (both b Y) w b s n (uY s B b Y) (wM m s n i)):=by
 obtain⟨f,z,A⟩:=J;have K:=hide A;clear A;go_enter func124,ntmps124;go_wp2_with fail
 refine(Ae 1 162 xu h qo Eg (fun C j M=>zV M)).mono ?_;rintro e C ⟨v,D,E⟩;have H:Kept (both b Y) w C:=v.gG;have l:=z.call v;clear v z;rcases c:dY 1 xu s n i with⟨q,p⟩|⟨x,j⟩
 .obtain rfl:=E _ _ c;exact⟨rfl,fC.dD (by simp[wM,c]) H⟩
 obtain⟨u,rfl,d,N⟩:=D _ _ c;obtain⟨r,t,rfl⟩:=Row.shape d;have O:=hide c;have P:=hide d;clear D E c d;obtain⟨F,G⟩:=l.blk.twelve.1.2.2.2.1;go_wp2;go_end0;have T:=l.lt;have I:=H.uw (o:=3) (.slice r x.length t);have a:=K.o.kept I (fun g _ y hh=>hh.elim (fun e=>qo) (fun e=>qo));have hI:=l.set 3 (.slice r x.length t);have d:=P.o;refine fC.dW (x:={m with jT:=x}) (j:=j) (by simp[wM,O.o]) I ⟨rfl,{f with v3:=.slice r x.length t},hI,?_⟩ (N.dA l.ne _);have Q:=Row.mono (Row.other d (g:=Y) (o:=3) (fun k X=>by have X:w.heap.size<=k:=X;omega) (.slice r x.length t)) (ok':=fun g=>B<=g) (fun g _ y=>by have y:w.heap.size<=g:=y;omega);exact⟨a.h0,a.U,a.L,Q,a.h4,a.h5,a.h6,a.h7,a.h8,a.h9,a.h10,a.h11,a.Cj,a.Ci,a.xR⟩
def wL(m:fE)(s:qS)(n i:Nat):Except Err (fE×Nat):=
 match dY 10 mH s n i with
 | .error e=>.error e
 | .ok (xs,j)=>.ok ({m with dB:=xs},j)
theorem PV{w:qW}{b Y B:Nat}{s:qS}{i n:Nat}{m:fE}(h:Rd w b s i n)(J:kC s (fun g=>B<=g) w b Y m)(hb:b<B)(R:Y<B)(S:B<=w.heap.size):
  qC 124 #[qP Y,qP b,qB 6] w (fC (both b Y) w b s n (uY s B b Y) (wL m s n i)):=by
 obtain⟨f,z,A⟩:=J;have K:=hide A;clear A;go_enter func124,ntmps124;go_wp2_with fail
 refine(JC 10 164 mH h qo Eh (fun C j M=>IG M)).mono ?_;rintro e C ⟨v,D,E⟩;have H:Kept (both b Y) w C:=v.gG;have l:=z.call v;clear v z;rcases c:dY 10 mH s n i with⟨q,p⟩|⟨x,j⟩
 .obtain rfl:=E _ _ c;exact⟨rfl,fC.dD (by simp[wL,c]) H⟩
 obtain⟨u,rfl,d,N⟩:=D _ _ c;obtain⟨r,t,rfl⟩:=Row.shape d;have O:=hide c;have P:=hide d;clear D E c d;obtain⟨F,G⟩:=l.blk.twelve.1.2.2.2.2.1;go_wp2;go_end0;have T:=l.lt;have I:=H.uw (o:=4) (.slice r x.length t);have a:=K.o.kept I (fun g _ y hh=>hh.elim (fun e=>qo) (fun e=>qo));have hI:=l.set 4 (.slice r x.length t);have d:=P.o;refine fC.dW (x:={m with dB:=x}) (j:=j) (by simp[wL,O.o]) I ⟨rfl,{f with v4:=.slice r x.length t},hI,?_⟩ (N.dA l.ne _);have Q:=Row.mono (Row.other d (g:=Y) (o:=4) (fun k X=>by have X:w.heap.size<=k:=X;omega) (.slice r x.length t)) (ok':=fun g=>B<=g) (fun g _ y=>by have y:w.heap.size<=g:=y;omega);exact⟨a.h0,a.U,a.L,a.h3,Q,a.h5,a.h6,a.h7,a.h8,a.h9,a.h10,a.h11,a.Cj,a.Ci,a.xR⟩
def wK(m:fE)(s:qS)(n i:Nat):Except Err (fE×Nat):=
 match dY 20 nA s n i with
 | .error e=>.error e
 | .ok (xs,j)=>.ok ({m with dw:=xs},j)
theorem PU{w:qW}{b Y B:Nat}{s:qS}{i n:Nat}{m:fE}(h:Rd w b s i n)(J:kC s (fun g=>B<=g) w b Y m)(hb:b<B)(R:Y<B)(S:B<=w.heap.size):
  qC 124 #[qP Y,qP b,qB 7] w (fC (both b Y) w b s n (uY s B b Y) (wK m s n i)):=by
 obtain⟨f,z,A⟩:=J;have K:=hide A;clear A;go_enter func124,ntmps124;go_wp2_with fail
 refine(JD 20 166 nA h qo Ei (fun C j M=>II M)).mono ?_;rintro e C ⟨v,D,E⟩;have H:Kept (both b Y) w C:=v.gG;have l:=z.call v;clear v z;rcases c:dY 20 nA s n i with⟨q,p⟩|⟨x,j⟩
 .obtain rfl:=E _ _ c;exact⟨rfl,fC.dD (by simp[wK,c]) H⟩
 obtain⟨u,rfl,d,N⟩:=D _ _ c;obtain⟨r,t,rfl⟩:=Row.shape d;have O:=hide c;have P:=hide d;clear D E c d;obtain⟨F,G⟩:=l.blk.twelve.1.2.2.2.2.2;go_wp2;go_end0;have T:=l.lt;have I:=H.uw (o:=5) (.slice r x.length t);have a:=K.o.kept I (fun g _ y hh=>hh.elim (fun e=>qo) (fun e=>qo));have hI:=l.set 5 (.slice r x.length t);have d:=P.o;refine fC.dW (x:={m with dw:=x}) (j:=j) (by simp[wK,O.o]) I ⟨rfl,{f with v5:=.slice r x.length t},hI,?_⟩ (N.dA l.ne _);have Q:=Row.mono (Row.other d (g:=Y) (o:=5) (fun k X=>by have X:w.heap.size<=k:=X;omega) (.slice r x.length t)) (ok':=fun g=>B<=g) (fun g _ y=>by have y:w.heap.size<=g:=y;omega);exact⟨a.h0,a.U,a.L,a.h3,a.h4,Q,a.h6,a.h7,a.h8,a.h9,a.h10,a.h11,a.Cj,a.Ci,a.xR⟩
def wI(m:fE)(s:qS)(n i:Nat):Except Err (fE×Nat):=
 match dY 5 xW s n i with
 | .error e=>.error e
 | .ok (xs,j)=>.ok ({m with elems:=xs},j)
theorem PS{w:qW}{b Y B:Nat}{s:qS}{i n:Nat}{m:fE}(h:Rd w b s i n)(M:kC s (fun g=>B<=g) w b Y m)(hb:b<B)(W:Y<B)(X:B<=w.heap.size):
  qC 124 #[qP Y,qP b,qB 9] w (fC (both b Y) w b s n (uY s B b Y) (wI m s n i)):=by
 obtain⟨f,D,E⟩:=M;have N:=hide E;clear E;go_enter func124,ntmps124;go_wp2_with fail
 refine(GD 5 168 xW h qo CS (fun z j O=>Gs O)).mono ?_;rintro e z ⟨A,H,I⟩;have J:Kept (both b Y) w z:=A.gG;have r:=D.call A;clear A D;rcases k:dY 5 xW s n i with⟨q,p⟩|⟨x,j⟩
 .obtain rfl:=I _ _ k;exact⟨rfl,fC.dD (by simp[wI,k]) J⟩
 obtain⟨u,rfl,l,P⟩:=H _ _ k;have Q:∃p c,u=.slice p x.length c:=by obtain⟨css,R,-⟩:=l;exact Row.shape R
 obtain⟨t,v,rfl⟩:=Q;have T:=hide k;have V:=hide l;clear H I k l;obtain⟨F,G⟩:=r.blk.twelve.2.2.1;go_wp2;go_end0;have Z:=r.lt;have K:=J.uw (o:=7) (.slice t x.length v);have a:=N.o.kept K (fun g _ d hh=>hh.elim (fun e=>qo) (fun e=>qo));have hI:=r.set 7 (.slice t x.length v);have l:=V.o;refine fC.dW (x:={m with elems:=x}) (j:=j) (by simp[wI,T.o]) K ⟨rfl,{f with v7:=.slice t x.length v},hI,?_⟩ (P.dA r.ne _);have C:=l.kept (S:=only Y) (w':=z.setCell (qA Y 7) (.slice t x.length v)) (qr.own _) (fun g _ d (e:g=Y)=>by have d:w.heap.size<=g:=d;omega) (fun y cs hy=>hy.kept (S:=only Y) (qr.own _) (fun g _ d (e:g=Y)=>by have d:w.heap.size<=g:=d;omega));have C:=C.toB (B:=B) qo (fun y cs hy=>hy.mono (fun g _ d=>by have d:w.heap.size<=g:=d;omega));exact⟨a.h0,a.U,a.L,a.h3,a.h4,a.h5,a.h6,C,a.h8,a.h9,a.h10,a.h11,a.Cj,a.Ci,a.xR⟩
def sV(m:fE)(s:qS)(n i:Nat):Except Err (fE×Nat):=
 match dY 10 xe s n i with
 | .error e=>.error e
 | .ok (xs,j)=>.ok ({m with data:=xs},j)
theorem LP{w:qW}{b Y B:Nat}{s:qS}{i n:Nat}{m:fE}(h:Rd w b s i n)(J:kC s (fun g=>B<=g) w b Y m)(hb:b<B)(R:Y<B)(S:B<=w.heap.size):
  qC 124 #[qP Y,qP b,qB 11] w (fC (both b Y) w b s n (uY s B b Y) (sV m s n i)):=by
 obtain⟨f,z,A⟩:=J;have K:=hide A;clear A;go_enter func124,ntmps124;go_wp2_with fail
 refine(Pd 10 171 xe h qo GV (fun C j M=>OQ M)).mono ?_;rintro e C ⟨v,D,E⟩;have H:Kept (both b Y) w C:=v.gG;have l:=z.call v;clear v z;rcases c:dY 10 xe s n i with⟨q,p⟩|⟨x,j⟩
 .obtain rfl:=E _ _ c;exact⟨rfl,fC.dD (by simp[sV,c]) H⟩
 obtain⟨u,rfl,d,N⟩:=D _ _ c;obtain⟨r,t,rfl⟩:=Row.shape d;have O:=hide c;have P:=hide d;clear D E c d;obtain⟨F,G⟩:=l.blk.twelve.2.2.2.2.1;go_wp2;go_end0;have T:=l.lt;have I:=H.uw (o:=9) (.slice r x.length t);have a:=K.o.kept I (fun g _ y hh=>hh.elim (fun e=>qo) (fun e=>qo));have hI:=l.set 9 (.slice r x.length t);have d:=P.o;refine fC.dW (x:={m with data:=x}) (j:=j) (by simp[sV,O.o]) I ⟨rfl,{f with v9:=.slice r x.length t},hI,?_⟩ (N.dA l.ne _);have Q:=Row.mono (Row.other d (g:=Y) (o:=9) (fun k X=>by have X:w.heap.size<=k:=X;omega) (.slice r x.length t)) (ok':=fun g=>B<=g) (fun g _ y=>by have y:w.heap.size<=g:=y;omega);exact⟨a.h0,a.U,a.L,a.h3,a.h4,a.h5,a.h6,a.h7,a.h8,Q,a.h10,a.h11,a.Cj,a.Ci,a.xR⟩
def wJ(m:fE)(s:qS)(n i:Nat):Except Err (fE×Nat):=
 match uM s n i with
 | .error e=>.error e
 | .ok (x,j)=>.ok ({m with starts:=[x]},j)
theorem PT{w:qW}{b Y B:Nat}{s:qS}{i n:Nat}{m:fE}(h:Rd w b s i n)(Z:kC s (fun g=>B<=g) w b Y m)(hb:b<B)(an:Y<B)(hB:B<=w.heap.size)(aa:m.starts=[]):
  qC 124 #[qP Y,qP b,qB 8] w (fC (both b Y) w b s n (uY s B b Y) (wJ m s n i)):=by
 obtain⟨i0,ab,ac,ad,ae⟩:=info_parts Tryz.Pm;obtain⟨f,y,E⟩:=Z;obtain⟨M,J6⟩:=y.blk.twelve.2.1;rw[E.Cj aa] at M;have HH:=hide E;clear E;have F:=y.ne;have G:Y<w.drew.heap.size:=y.lt;go_enter func124,ntmps124;rcases C:uM s n i with⟨q,p⟩|⟨⟨v,p⟩,j2⟩
 .have z:=hide C;clear C;go_wp2_with fail
  go_region_dies
  all_goals
   refine(adp ?_ z.o).mono ?_
   .exact h.drew
   rintro e a ⟨rfl,l⟩;exact⟨rfl,fC.dD (by simp[wJ,z.o]) (qr.drew.trans l.gG)⟩
 have z:=hide C;clear C;go_wp2_with fail
 have ao:=h.lt;have H:qh (∀a:qW,a.ownsRow w.heap.size 152 2 (qN) 0 []):=fun a=>World.ownsRow_nil a _ _ _;go_region_law (first
   | (refine eG (f:=156) (args:= #[qP b]) (by rfl) (by go_simp) (afB h.drew z.o) ?_;rintro e a ⟨rfl,N,l⟩;refine⟨_,rfl,?_⟩;have O:a.cell? (qA Y 6)=some (qN):=(l.other G F).trans M;have P:a.frozen? (qA Y 6)=false:=(l.oz G F).trans J6;have af:Y<a.heap.size:=Nat.lt_of_lt_of_le G l.size)
   | ((refine step_append_lies _ (by rfl) _ _ _ (by rfl) w.heap.size 152 i0 _ 2 16 underlying134 ab ac ad ae rfl qo (qN) 0 [] (by rfl) (H.o _) ⟨a.heap.size,0,none⟩ 1 1 [.int .u32 v,qJ p] (by rfl) (by rfl) (World.news_of_block (cs:= #[.int .u32 v,qJ p]) (t:=152) (fr:=(0,0)) (heap_alloc_new a _)) (by simp[Value.oneCell']) qo (by unfold maxLen;omega) qo (by have h9:w.heap.size<=a.heap.size:=l.size;first | omega | (simp;omega) | (simp at*)) (a.heap.size+1) qs ?_;intro r A I Q u ag ah;have J:some Y≠(Value.slice none 0 0).ownBlock:=(fun e=>by simp[Value.ownBlock] at e);have ai:I.cell? (qA Y 6)=some (qN):=(u.cell_far ⟨Y,6,none⟩ qt J).trans ((World.cell?_alloc_lt _ _ _ af).trans O);have aj:I.frozen? (qA Y 6)=false:=(u.frozen_far ⟨Y,6,none⟩ qt J).trans ((World.frozen?_alloc_old _ _ _ qt).trans P))))
 all_goals
  have K:=H.o (a.alloc (.cells #[.int .u32 v,qJ p] 152));have R:=(ny (N.alloc _) K h.lt u).dA (o:=6) F (.slice (some (qA r 0)) 1 A);have S:=(iP ((qr.drew.trans l.gG).alloc _) K qR u).uw (b:=b) (c:=Y) (o:=6) (.slice (some (qA r 0)) 1 A);have T:=(((y.drew.call l).alloc (.cells #[.int .u32 v,qJ p] 152)).kept (Kept.iB u) (fun e=>J e.symm)).set 6 (.slice (some (qA r 0)) 1 A);have ap:Y<w.heap.size:=y.lt;have V:isRow 152 2 numCells (fun g=>B<=g) [(v,p)] (I.setCell (qA Y 6) (.slice (some (qA r 0)) 1 A)) (.slice (some (qA r 0)) 1 A):=by
   have q:=Row.mono (Row.other (Row.nS (ok:=fun g=>w.heap.size<=g) Q (fun g D _=>D)) (g:=Y) (o:=6) (fun k X=>by have X:w.heap.size<=k:=X;omega) (.slice (some (qA r 0)) 1 A)) (ok':=fun g=>B<=g) (fun g _ D=>Nat.le_trans hB D);simpa [isRow,numCells] using q
  have HR:=hide V;have ak:=hide T;have W:=hide S;have am:=hide R;clear V Q u ag ah ai aj O P l K T N H S R;go_wp2;go_end0;have d:=HH.o.kept W.o (fun g _ D hh=>hh.elim (fun e=>qo) (fun e=>qo));refine fC.dW (x:={m with starts:=[(v,p)]}) (j:=j2) (by simp[wJ,z.o]) W.o ⟨rfl,{f with v6:=.slice (some (qA r 0)) 1 A},ak.o,?_⟩ am.o;exact⟨d.h0,d.U,d.L,d.h3,d.h4,d.h5,HR.o,d.h7,d.h8,d.h9,d.h10,d.h11,fun e=>by simp at e,d.Ci,d.xR⟩
theorem LQ{w:qW}{b Y B:Nat}{s:qS}{i n:Nat}{m:fE}(h:Rd w b s i n)(a:kC s (fun g=>B<=g) w b Y m)(hb:b<B)(c:Y<B)(d:B<=w.heap.size)(f:m.funcs.length<=20)(k:m.dQ=[]):
  qC 124 #[qP Y,qP b,qB 10] w (fC (both b Y) w b s n (uY s B b Y) (rA m s n i)):=by
 go_enter func124,ntmps124;go_wp2_with fail
 refine(Lc h a hb c d f k).mono ?_;rintro e l ⟨X,hok,jY⟩;rcases ho:rA m s n i with⟨q,p⟩|⟨x,j⟩
 .exact WM
 obtain⟨u,rfl,⟨rfl,hv⟩,hrd⟩:=hok _ _ ho;exact ac0
theorem P9{w:qW}{b Y B:Nat}{s:qS}{i n:Nat}{m:fE}(h:Rd w b s i n)(a:kC s (fun g=>B<=g) w b Y m)(hb:b<B)(c:Y<B)(d:B<=w.heap.size)(hf:Fair m)(f:m.kR=[])(k:m.dQ.length=m.funcs.length):
  qC 124 #[qP Y,qP b,qB 0] w (fC (both b Y) w b s n (uY s B b Y) (oD m s n i)):=by
 go_enter func124,ntmps124;go_wp2_with fail
 refine(La h a hb c d hf f k).mono ?_;rintro e l ⟨X,hok,jY⟩;rcases ho:oD m s n i with⟨q,p⟩|⟨x,j⟩
 .exact WM
 obtain⟨u,rfl,⟨rfl,hv⟩,hrd⟩:=hok _ _ ho;exact ac0
def uZ(m:fE)(which:Nat)(s:qS)(n i:Nat):Except Err (fE×Nat):=
 match which with
 | 0=>oD m s n i
 | 1=>wQ m s n i
 | 3=>wP m s n i
 | 4=>wO m s n i
 | 5=>wM m s n i
 | 6=>wL m s n i
 | 7=>wK m s n i
 | 8=>wJ m s n i
 | 9=>wI m s n i
 | 10=>rA m s n i
 | 11=>sV m s n i
 | _=>.ok (m,i)
structure Ready(m:fE)(which:Nat):Prop where
 fair:Fair m
 known:which<=11/\which≠2
 Z:which=8->m.starts=[]
 co:which=10->m.dQ=[]
 nm:which=0->m.kR=[]/\m.dQ.length=m.funcs.length
theorem R9{w:qW}{b Y B:Nat}{s:qS}{i n:Nat}{m:fE}(which:Nat)(h:Rd w b s i n)(a:kC s (fun g=>B<=g) w b Y m)(hb:b<B)(c:Y<B)(d:B<=w.heap.size)(e:Ready m which):
  qC 124 #[qP Y,qP b,qB which] w (fC (both b Y) w b s n (uY s B b Y) (uZ m which s n i)):=by
 obtain⟨hf,⟨U,L⟩,h3,h4,h5⟩:=e;rcases(show which=0\/which=1\/which=3\/which=4\/which=5\/which=6\/which=7\/which=8\/which=9\/which=10\/which=11 by omega) with rfl | rfl | rfl | rfl | rfl | rfl | rfl | rfl | rfl | rfl | rfl
 .exact P9 h a hb c d hf (h5 rfl).1 (h5 rfl).2
 .exact PZ h a hb c d
 .exact PY h a hb c d
 .exact PX h a hb c d
 .exact PW h a hb c d
 .exact PV h a hb c d
 .exact PU h a hb c d
 .exact PT h a hb c d (h3 rfl)
 .exact PS h a hb c d
 .exact LQ h a hb c d hf.funcs (h4 rfl)
 exact LP h a hb c d
theorem Le{w:qW}{b Y B c0 c1 c2:Nat}{s:qS}{i n:Nat}{m:fE}(which:Nat)(h:Rd w b s i n)(a:kC s (fun g=>B<=g) w b Y m)(hb:b<B)(c:Y<B)(d:B<=w.heap.size)(f:Ready m which)
  (k:w.cell? (qA c0 0)=some (qP Y)) (l:w.cell? (qA c1 0)=some (qP b)) (o:w.cell? (qA c2 0)=some (qB which)):
  qC 123 #[qP c0,qP c1,qP c2] w (fC (both b Y) w b s n (uY s B b Y) (uZ m which s n i)):=by
 go_enter func123,ntmps123;go_wp2_with fail
 refine(R9 which h a hb c d f).mono ?_;rintro e r ⟨X,hok,jY⟩;rcases ho:uZ m which s n i with⟨q,p⟩|⟨x,j⟩
 .exact WM
 obtain⟨u,rfl,⟨rfl,hv⟩,hrd⟩:=hok _ _ ho;exact ac0
structure KJ(m:fE)(last:Nat):Prop where
 fair:Fair m
 Z:last<8->m.starts=[]
 co:last<10->m.dQ=[]
 nm:last<12->m.kR=[]
theorem KJ.ready{m:fE}{last x:Nat}(h:KJ m last)(a:last<jL x)(b:10<jL x->m.dQ.length=m.funcs.length):Ready m x:=by
 have X:x<=11/\x≠2:=by
  unfold jL at a;split at a
  .omega
  split at a<;>omega
 refine⟨h.fair,X,?_,?_,?_⟩
 .rintro rfl;exact h.Z a
 .rintro rfl;exact h.co a
 rintro rfl;exact⟨h.nm a,b qx⟩
def sw(m:fE)(last:Nat)(s:qS)(n i:Nat):Except Err ((fE×Nat)×Nat):=
 match lD s n i with
 | .error e=>.error e
 | .ok (x,j)=>
  if jL x<=last then .error (2,i)
  else if 10<jL x/\m.dQ.length≠m.funcs.length then .error (2,i)
  else
   match fK (uZ m x) s n j with
   | .error e=>.error e
   | .ok (m1,j1)=>.ok ((m1,jL x),j1)
def afW(s:qS)(B b Y:Nat)(x:fE×Nat)(w:World)(v:Value):Prop:=v=qJ x.2/\kC s (fun g=>B<=g) w b Y x.1
theorem Fu:Enters 123:=enters_of func123 qk qk
theorem Je(x:Nat):jL x<=12:=by
 unfold jL;split
 .omega
 split<;>omega
theorem TS(w:qW):qC 120 #[qB 10] w fun e w'=>e=.returned (qJ 10)/\w'=w:=xN 10 w
theorem Qw{w:qW}{b Y B:Nat}{s:qS}{i n:Nat}{m:fE}(last:Nat)(h:Rd w b s i n)(G:kC s (fun g=>B<=g) w b Y m)(hb:b<B)(hmb:Y<B)(hB:B<=w.heap.size)(H:KJ m last):
  qC 81 #[qP Y,qP b,qJ last] w (fC (both b Y) w b s n (afW s B b Y) (sw m last s n i)):=by
 have ac:∀(fn:Fn) (first A:Array qv) (w:qW),(Instr.makeFunc fn first A).run prog w=.ok (.func fn first A) w:=fun _ _ _ _=>rfl;have T:=h.lt;have I:=hide H;clear H;go_enter func81,ntmps81;go_wp2_with fail
 have J:=(G.call (w':=w.alloc (.cells #[qP Y] 89)) (qr.alloc _) qo).call (w':=(w.alloc (.cells #[qP Y] 89)).alloc (.cells #[qP b] 149)) (qr.alloc _) qo;have C:=(OB.new (b:=b) (g:=w.heap.size) (c:= #[qP Y]) (t:=89) T rfl).alloc (.cells #[qP b] 149);have D:=OB.new (w:=w.alloc (.cells #[qP Y] 89)) (b:=b) (g:=w.heap.size+1) (c:= #[qP b]) (t:=149) qt qs;have M:Kept (both b Y) w ((w.alloc (.cells #[qP Y] 89)).alloc (.cells #[qP b] 149)):=((Kept.refl _ w).alloc _).alloc _;have N:=hide J;clear J G;refine(wR ((h.alloc _).alloc _)).mono ?_;rintro e w0 ⟨rfl,rfl⟩;obtain⟨X0,Y0⟩:=C.blk.yB;obtain⟨X1,Y1⟩:=D.blk.yB;go_wp2_with fail
 refine(sH ((h.alloc _).alloc _)).mono ?_;rintro e w1 ⟨r,hok,jY⟩;have E:=M.trans r.gG;have HM1:=hide (N.o.call r qo);have O:=C.call r;have Q:=D.call r;clear r M N C D X0 Y0 X1 Y1;rcases ho:lD s n i with⟨q,p⟩|V
 .obtain rfl:=jY _ _ ho;exact⟨rfl,fC.dD (by simp[sw,ho]) E⟩
 obtain⟨x,j⟩:=V;obtain⟨u,rfl,Z,R⟩:=hok _ _ ho;obtain rfl:u=qB x:=Z;have z:=hide ho;clear hok jY ho;have ad:=E.size;have ae:=Je x;have aa:=R.lt;have hk2:=E.alloc (.cells #[qB x] 5);have XY:=R.alloc (.cells #[qB x] 5);have ox2:=O.alloc (.cells #[qB x] 5);have oy2:=Q.alloc (.cells #[qB x] 5);have oz2:=OB.new (w:=w1) (b:=b) (g:=w1.heap.size) (c:= #[qB x]) (t:=5) aa rfl;have vK:=hide (HM1.o.call (w':=w1.alloc (.cells #[qB x] 5)) (qr.alloc _) qo);obtain⟨X0,Y0⟩:=ox2.blk.yB;obtain⟨X1,Y1⟩:=oy2.blk.yB;obtain⟨X2,Y2⟩:=oz2.blk.yB;have af:=O.lt;have ag:=Q.lt;by_cases d:jL x<=last
 .have t1:decide (((jL x:Nat):Int)<=((last:Nat):Int))=true:=by simp;omega
  have HR:=hide d;clear d;go_wp2_with fail
  refine(xN _ _).mono ?_;rintro e a ⟨rfl,rfl⟩;go_wp2_with fail
  refine(iY _ _).mono ?_;rintro e a ⟨rfl,rfl⟩;exact⟨rfl,fC.dD (by simp[sw,z.o,HR.o]) hk2⟩
 have t1:decide (((jL x:Nat):Int)<=((last:Nat):Int))=false:=by simp;omega
 have ah:¬((jL x:Nat):Int)<=((last:Nat):Int):=qo;go_wp2_with fail
 refine(xN _ _).mono ?_;rintro e a ⟨rfl,rfl⟩;by_cases l:10<jL x
 .have t2:decide ((10:Int)<((jL x:Nat):Int))=true:=by simp;omega
  have ab:(10:Int)<((jL x:Nat):Int):=qo;by_cases f:m.dQ.length=m.funcs.length
  .have aa8:qh (sw m last s n i=match fK (uZ m x) s n j with | .error e=>.error e | .ok (m1,j1)=>.ok ((m1,jL x),j1)):=by show _=_;simp[sw,z.o,d,f]
   have HRD:qh (Ready m x):=I.o.ready qo (fun _=>f);have F:=hide f;clear f d l;go_wp2_with fail
   refine(xN _ _).mono ?_;rintro e a ⟨rfl,rfl⟩;go_wp2_with fail
   refine(TS _).mono ?_;rintro e a ⟨rfl,rfl⟩;go_wp2_with fail
   refine(yD _ vK.o).mono ?_;rintro e a ⟨⟨k,rfl⟩,v⟩;rw[if_pos F.o] at v;subst v;have ox3:=ox2.drewN k;have oy3:=oy2.drewN k;have oz3:=oz2.drewN k;have hk3:=hk2.drewN k;have GG:=XY.drewN k;have Tf:=hide (vK.o.call (w':=(w1.alloc (.cells #[qB x] 5)).drewN k) (qr.drewN _) qo);exact Zz5
  have aa8:qh (sw m last s n i=.error (2,i)):=by show _=_;simp[sw,z.o,d,l,f]
  have F:=hide f;clear f d l;go_wp2_with fail
  refine(xN _ _).mono ?_;rintro e a ⟨rfl,rfl⟩;go_wp2_with fail
  refine(TS _).mono ?_;rintro e a ⟨rfl,rfl⟩;go_wp2_with fail
  refine(yD _ vK.o).mono ?_;rintro e a ⟨⟨k,rfl⟩,v⟩;rw[if_neg F.o] at v;subst v;exact⟨rfl,fC.dD aa8.o (hk2.drewN _)⟩
 have t2:decide ((10:Int)<((jL x:Nat):Int))=false:=by simp;omega
 have ab:¬(10:Int)<((jL x:Nat):Int):=qo;have aa8:qh (sw m last s n i=match fK (uZ m x) s n j with | .error e=>.error e | .ok (m1,j1)=>.ok ((m1,jL x),j1)):=by show _=_;simp[sw,z.o,d,l]
 have HRD:qh (Ready m x):=I.o.ready qo (fun c=>absurd c l);clear d l;go_wp2_with fail
 refine(xN _ _).mono ?_;rintro e a ⟨rfl,rfl⟩;go_wp2_with fail
 refine(TS _).mono ?_;rintro e a ⟨rfl,rfl⟩;have ox3:=ox2;have oy3:=oy2;have oz3:=oz2;have hk3:=hk2;have GG:=XY;have Tf:=hide vK.o;exact Zz5
end Go.Proofs.YtdaafkmhfedkiaaGreat
