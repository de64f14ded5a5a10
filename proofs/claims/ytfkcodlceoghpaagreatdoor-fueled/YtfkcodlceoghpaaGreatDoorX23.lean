import Derived.Deep.RegionHeld3
import Derived.RegionDies
import Derived.Test.YtfkcodlceoghpaaGreatDoorX16
namespace Go.Proofs.YtfkcodlceoghpaaGreatDoor
set_option maxHeartbeats 3200000
set_option maxRecDepth 100000
set_option linter.unusedSimpArgs false
set_option linter.unusedVariables false
open Go.RowKit Go.Proofs.Tryz
theorem lG{v:Int}{a b:Nat}(w:qW)(h:v<(b:Int))(h0:0<=v)(U:v<=4294967295):
  qC 67 #[.agg #[qI v,qJ a],qJ b] w λe w'=>e=.returned (qJ v)/\w'=w.alloc (.cells #[qI v,qJ a] 93):=by
 go_enter func67,ntmps67;go_wp2;go_ret;exact⟨rfl,rfl⟩
theorem jY{v:Int}{a b:Nat}(w:qW)(c:(b:Int)<=v)(h0:0<=v)(U:v<=4294967295):
  qC 67 #[.agg #[qI v,qJ a],qJ b] w λe w'=>e=fo 3 a/\w'=w.alloc (.cells #[qI v,qJ a] 93):=by
 go_enter func67,ntmps67;exact Vt
def MV(s:qS)(K:Nat->Prop)(w:World)(Y:Nat)(m:dX):Prop:=K Y/\∃f:Fields,jf w Y f.cells/\nA s K w f m
theorem MV.lt{s:qS}{K:qD}{w:qW}{a:Nat}{m:dX}(h:MV s K w a m):a<w.heap.size:=by
 obtain⟨-,f,U,-⟩:=h;exact U.lt
theorem MV.kept{s:qS}{K S:qD}{w w':qW}{a:Nat}{m:dX}(h:MV s K w a m)(X:Kept S w w')(b:∀k,k<w.heap.size->K k->¬S k):MV s K w' a m:=by
 have hl:=h.lt;obtain⟨h0,f,U,c⟩:=h;exact⟨h0,f,U.kept X hl (b a hl h0),c.kept X b⟩
theorem sJ{K:qD}{w:qW}{ts:List Ty}{v:qv}(h:gI 100 2 nZ K ts w v){k:Nat}(X:k<ts.length):
  ∃g A a b,v=qL g ts.length A/\g<w.heap.size/\ts.length<=A/\dH K ts[k].ins w a/\dH K ts[k].outs w b/\w.cell? ⟨g,k*2,none⟩=some a/\w.cell? ⟨g,k*2+1,none⟩=some b:=by
 obtain⟨css,f,c⟩:=h;obtain⟨g,A,hv,-,i,hc,d⟩:=Row.cells f qo;have hy:ts[k]?=some ts[k]:=qab X;obtain⟨cs,e,⟨⟨a,b,rfl,U,j⟩,-⟩⟩:=c.get hy;exact⟨g,A,a,b,hv,i,hc,U,j,(d (k*2) qo).trans (Each.flat (o:=0) c e qo),(d (k*2+1) qo).trans (Each.flat (o:=1) c e qo)⟩
theorem uP{w:qW}{p:Addr}(h:p.block<w.heap.size)(a b d:Obj):(((w.alloc a).alloc b).alloc d).drew.cell? p=w.cell? p:=
 ((((Kept.refl (λ_=>False) w).alloc a).alloc b).alloc d).drew.cell h (λc=>c)
theorem XW{w:qW}{g i:Nat}{c:Array qv}{t:TypeId}{v:qv}(h:g=w.heap.size)(a b:Obj)(hv:c[i]?=some v):(((w.alloc (.cells c t)).alloc a).alloc b).drew.cell? (qA g i)=some v:=by
 subst h;have X:qK (w.alloc (.cells c t)) ((((w.alloc (.cells c t)).alloc a).alloc b).drew):=((qr.alloc _).alloc _).drew;rw[X.cell (p:=(qA w.heap.size i)) qs (λc=>c),qco];exact hv
def isTypeOf(K:Nat->Prop)(t:Ty)(w:World)(v:Value):Prop:=∃vi vo,v=.agg #[vi,vo]/\dH K t.ins w vi/\dH K t.outs w vo
section
variable {P:Program}{md:Region.Mode}{Q:Exit->Act->qW->Prop}{S:qW->Prop}
theorem ic{l:List Oper}{b:Oper}{v:qv}{fuel:Nat}{d:Array Bool}{a e:Act}{w:qW}(i:Nat)(f:S w)(h:wpAnyH P md l.toArray Q S fuel (d.setIfInBounds i true) e w)
  (hi:l[i]?=some b:=by rfl) (g:Region.noSelect l.toArray=true:=by kernel_rfl) (hf:Region.free md l.toArray d i=true:=by kernel_rfl) (j:(Region.ready md l.toArray d).contains i=true:=by kernel_rfl)
  (hQ:∀c a w,Q (.panic c) (a.put b.dst v) w->Q (.panic c) a w:=by exact λ_ _ _ h=>h) (hy:YieldsIf P l.toArray S b v a:=by(refine Or.inl ⟨by rfl,?_⟩;intro w k;(try dsimp only at k);go_simp;try with_reducible rfl))
  (m:a.put b.dst v=e:=by(dsimp only[Act.put,qy,qz,qw])):wpAnyH P md l.toArray Q S (fuel+1) d a w:=
 wpAnyH_take (by simpa using hi) g hf j hQ hy f (m▸h)
end
theorem kU{P:Program}{b:Array Oper}{Q:Exit->Act->qW->Prop}{i:Nat}{K:Act->qW->Prop}{a:Act}{w:qW}{o:Oper}{f:FuncId}{args:Array qv}{R:Ending->qW->Prop}(ho:b[i]?=some o)(c:o.guard=none)
  (d:(execOp a.eval o).run P w=.ok (.enter f args) w) (hc:Calls P f args w R) (h:∀e w',R e w'->∃chain,e=.panicked chain/\Q (.panic chain) a w'):wpOp P b Q i K a w:=by
 have hw:Region.wanted o (yielded b a.tmps)=true:=by simp[Region.wanted,c]
 unfold wpOp;rw[ho];simp only[hw,qda];unfold Oper.wp;rw[d];refine .inl (hc.mono ?_);intro e w' g;obtain⟨chain,rfl,j⟩:=h e w' g;exact j
theorem Jd{s:qS}{K:qD}{w:qW}{j b:Nat}{u sv v z:qv}{m:dX}{x:Int×Nat}(k:jf w j [qP b,u,sv,v,z])(hm:MV s K w b m)(hx:0<=x.1/\x.1<=4294967295)(l:¬x.1<(m.dx.length:Int)):
  qC 246 #[qP j,.agg #[qI x.1,qJ x.2]] w (Says (λ_=>False) w (iH m x) (isTypeOf K)):=by
 obtain⟨⟨I0,C⟩,-,-,-,-⟩:=k.five;have hbw:=k.lt;have hmw:=hm.lt;obtain⟨y,f,n,q⟩:=hm;obtain⟨F0,A⟩:=n.twelve.1.1;have r:=qH q;obtain⟨g,d⟩:=x;simp only at hx l ⊢;obtain⟨h0,U⟩:=hx;have HR:qh (iH m (g,d)=.error (3,d)):=by
  show _=_;simp[iH,fE,l]
 clear q n A k;obtain⟨t,c0,hv⟩:∃p c,f.v0=qX p m.dx c:=by
  obtain⟨css,B,-⟩:=r.o.h0;exact Row.shape B
 rw[hv]at F0;clear hv r y;go_enter func246,ntmps246;go_wp2_with fail
 have a:(λw':qW=>w'.cell? (qA j 0)=some (qP b)/\w'.cell? (qA b 0)=some (qX t m.dx c0)/\w'.cell? (qA w.heap.size 0)=some (qI g)/\w'.cell? (qA w.heap.size 1)=some (qJ d)) (((w.alloc (.cells #[qI g,qJ d] 93)).alloc (.cells #[qN,qN] 100)).drew):=by
  exact WZ
 refine wp_region_held_drew (S:=λw':qW=>w'.cell? (qA j 0)=some (qP b)/\w'.cell? (qA b 0)=some (qX t m.dx c0)/\w'.cell? (qA w.heap.size 0)=some (qI g)/\w'.cell? (qA w.heap.size 1)=some (qJ d)) qk a (λ_=>?_);refine ic 0 a ?_;refine ic 1 a ?_;refine ic 2 a ?_;refine ic 3 a ?_;refine ic 4 a ?_;refine ic 5 a ?_;refine ic 6 a ?_;refine ic 7 a ?_;refine ic 8 a ?_;refine ic 9 a ?_;refine ic 10 a ?_;refine ic 11 a ?_;refine ic 12 a ?_;refine ic 13 a ?_;refine ic 14 a ?_;refine ic 15 a ?_;refine wpAnyH_all (rs:=[16]) qk qs ?_;intro i hi;rw[qak]at hi;subst hi;refine kU (f:=67) (args:= #[.agg #[qI g,qJ d],qJ m.dx.length]) rfl rfl qk (jY _ qo h0 U) ?_;exact WC
theorem L6{s:qS}{K:qD}{w:qW}{j h:Nat}{L sv M z:qv}{m:dX}{x:Int×Nat}(l:jf w j [qP h,L,sv,M,z])(hm:MV s K w h m)(hx:0<=x.1/\x.1<=4294967295)(C:x.1<(m.dx.length:Int)):
  qC 246 #[qP j,.agg #[qI x.1,qJ x.2]] w (Says (λ_=>False) w (iH m x) (isTypeOf K)):=by
 obtain⟨⟨D,T⟩,-,-,-,-⟩:=l.five;have N:=l.lt;have O:=hm.lt;obtain⟨V,f,E,F⟩:=hm;obtain⟨F0,P⟩:=E.twelve.1.1;obtain⟨G,i⟩:=x;simp only at hx C ⊢;obtain⟨h0,U⟩:=hx;obtain⟨k,rfl⟩:∃k:Nat,G=(k:Int):=⟨G.toNat,qo⟩;obtain⟨g,A,W,Y,hv,H,hc,n,q,I,J⟩:=sJ F.h0 (show k<m.dx.length by omega);obtain⟨r,u,rfl⟩:=Row.shape n;obtain⟨y,B,rfl⟩:=Row.shape q;rw[hv]at F0;have Q:qh (iH m ((k:Int),i)=.ok m.dx[k]):=by
  show _=_;have X:k<m.dx.length:=qo;simp[iH,fE,X]
 have R:=qH n;have S:=qH q;clear n q F E hv P l;generalize m.dx[k]=t at*;have Z:=λa b d=>(uP (p:=(qA j 0)) N a b d).trans D;have e2:=λa b d=>(uP (p:=(qA h 0)) O a b d).trans F0;have e3:=λa b d=>(uP (p:=⟨g,k*2,none⟩) H a b d).trans I;have e4:=λa b d=>(uP (p:=⟨g,k*2+1,none⟩) H a b d).trans J;have n1:=World.new_ne w _ D;have n2:=World.new_ne w _ F0;have n3:=World.new_ne w _ I;have n4:=World.new_ne w _ J;go_enter func246,ntmps246;go_wp2_with fail
 go_region_held3 (λw'=>w'.cell? (qA j 0)=some (qP h)/\w'.cell? (qA h 0)=some (qL g m.dx.length A)/\w'.cell? (qA w.heap.size 0)=some (qI (k:Int))/\w'.cell? (qA w.heap.size 1)=some (qJ i)/\w'.cell? ⟨g,k*2,none⟩=some (qX r t.ins u)/\w'.cell? ⟨g,k*2+1,none⟩=some (qX y t.outs B)) (go_keep) ((refine dP (f:=67) (args:= #[.agg #[qI (k:Int),qJ i],qJ m.dx.length]) (by rfl) (by go_simp) (lG _ C h0 U) ?_;rintro e w'⟨rfl,rfl⟩;refine⟨_,rfl,?_⟩))
 all_goals
  go_wp2;refine qal (v:=.agg #[qX r t.ins u,qX y t.outs B]) ?_ rfl ?_
  .simp[results,results246,go_sem]
  have X:=((((Kept.refl (λ_=>False) w).alloc (.cells #[qI (k:Int),qJ i] 93)).alloc (.cells #[qX r t.ins u,qX y t.outs B] 100)).alloc (.cells #[qI (k:Int),qJ i] 93)).drew;exact Says.dN Q.o X ⟨_,_,rfl,Row.kept R.o X (λ_ _ _ c=>c),Row.kept S.o X (λ_ _ _ c=>c)⟩
def isGlobal(g:Cn)(_:World)(v:Value):Prop:=v=.agg #[qB g.kind,.bool g.sO,qJ g.first.at_,qB g.first.kind,qJ g.first.val]
theorem Ot{s:qS}{K:qD}{w:qW}{l h:Nat}{D sv E z:qv}{m:dX}{x:Int×Nat}(n:jf w l [qP h,D,sv,E,z])(hm:MV s K w h m)(hx:0<=x.1/\x.1<=4294967295)(q:x.1<(m.dI.length:Int)):
  qC 248 #[qP l,.agg #[qI x.1,qJ x.2]] w (Says (λ_=>False) w (gD m x) isGlobal):=by
 obtain⟨⟨r,O⟩,-,-,-,-⟩:=n.five;have F:=n.lt;have G:=hm.lt;obtain⟨P,f,u,y⟩:=hm;obtain⟨F0,H⟩:=u.twelve.1.2.2.2.2.1;obtain⟨B,i⟩:=x;simp only at hx q ⊢;obtain⟨h0,U⟩:=hx;obtain⟨k,rfl⟩:∃k:Nat,B=(k:Int):=⟨B.toNat,qo⟩;have X:k<m.dI.length:=qo;obtain⟨g,A,hv,-,j,hc,d⟩:=Row.cells y.h4 qo;have hy:m.dI[k]?=some m.dI[k]:=qab X;have C:w.cell? ⟨g,k*5,none⟩=some (qB (m.dI[k].kind:Nat)):=(d (k*5) qo).trans (flat_get (m:=5) (o:=0) (λ_=>rfl) hy qo);have I:w.cell? ⟨g,k*5+1,none⟩=some (.bool m.dI[k].sO):=(d (k*5+1) qo).trans (flat_get (m:=5) (o:=1) (λ_=>rfl) hy qo);have J:w.cell? ⟨g,k*5+2,none⟩=some (qJ (m.dI[k].first.at_:Nat)):=(d (k*5+2) qo).trans (flat_get (m:=5) (o:=2) (λ_=>rfl) hy qo);have L:w.cell? ⟨g,k*5+3,none⟩=some (qB (m.dI[k].first.kind:Nat)):=(d (k*5+3) qo).trans (flat_get (m:=5) (o:=3) (λ_=>rfl) hy qo);have M:w.cell? ⟨g,k*5+4,none⟩=some (qJ m.dI[k].first.val):=(d (k*5+4) qo).trans (flat_get (m:=5) (o:=4) (λ_=>rfl) hy qo);rw[hv]at F0;have N:qh (gD m ((k:Int),i)=.ok m.dI[k]):=by
  show _=_;simp[gD,fE,X]
 clear y u hv H n d hy;generalize m.dI[k]=t at*;have Q:=λa b c=>(uP (p:=(qA l 0)) F a b c).trans r;have R:=λa b c=>(uP (p:=(qA h 4)) G a b c).trans F0;have S:=λa b c=>(uP (p:=⟨g,k*5,none⟩) j a b c).trans C;have T:=λa b c=>(uP (p:=⟨g,k*5+1,none⟩) j a b c).trans I;have V:=λa b c=>(uP (p:=⟨g,k*5+2,none⟩) j a b c).trans J;have W:=λa b c=>(uP (p:=⟨g,k*5+3,none⟩) j a b c).trans L;have Y:=λa b c=>(uP (p:=⟨g,k*5+4,none⟩) j a b c).trans M;have Z:=World.new_ne w _ r;have n2:=World.new_ne w _ F0;have n3:=World.new_ne w _ C;go_enter func248,ntmps248;go_wp2_with fail
 go_region_held3 (λw'=>w'.cell? (qA l 0)=some (qP h)/\w'.cell? (qA h 4)=some (qL g m.dI.length A)/\w'.cell? (qA w.heap.size 0)=some (qI (k:Int))/\w'.cell? (qA w.heap.size 1)=some (qJ i)/\w'.cell? ⟨g,k*5,none⟩=some (qB t.kind)/\w'.cell? ⟨g,k*5+1,none⟩=some (.bool t.sO)/\w'.cell? ⟨g,k*5+2,none⟩=some (qJ t.first.at_)/\w'.cell? ⟨g,k*5+3,none⟩=some (qB t.first.kind)/\w'.cell? ⟨g,k*5+4,none⟩=some (qJ t.first.val)) (go_keep) ((refine dP (f:=67) (args:= #[.agg #[qI (k:Int),qJ i],qJ m.dI.length]) (by rfl) (by go_simp) (lG _ q h0 U) ?_;rintro e w'⟨rfl,rfl⟩;refine⟨_,rfl,?_⟩))
 all_goals
  go_wp2;refine qal (v:=.agg #[qB t.kind,.bool t.sO,qJ t.first.at_,qB t.first.kind,qJ t.first.val]) ?_ rfl ?_
  .simp[results,results248,go_sem]
  have X:=((((Kept.refl (λ_=>False) w).alloc (.cells #[qI (k:Int),qJ i] 93)).alloc (.cells #[qB t.kind,.bool t.sO,qJ t.first.at_,qB t.first.kind,qJ t.first.val] 84)).alloc (.cells #[qI (k:Int),qJ i] 93)).drew;exact Says.dN N.o X rfl
theorem Ke{s:qS}{K:qD}{w:qW}{j b:Nat}{r sv t z:qv}{m:dX}{x:Int×Nat}(k:jf w j [qP b,r,sv,t,z])(hm:MV s K w b m)(hx:0<=x.1/\x.1<=4294967295)(l:¬x.1<(m.dI.length:Int)):
  qC 248 #[qP j,.agg #[qI x.1,qJ x.2]] w (Says (λ_=>False) w (gD m x) isGlobal):=by
 obtain⟨⟨I0,y⟩,-,-,-,-⟩:=k.five;have hbw:=k.lt;have hmw:=hm.lt;obtain⟨u,f,n,o⟩:=hm;obtain⟨F0,v⟩:=n.twelve.1.2.2.2.2.1;obtain⟨g,d⟩:=x;simp only at hx l ⊢;obtain⟨h0,U⟩:=hx;have HR:qh (gD m (g,d)=.error (3,d)):=by
  show _=_;simp[gD,fE,l]
 obtain⟨q,c0,hv⟩:∃p c,f.v4=qX p m.dI c:=Row.shape o.h4;rw[hv]at F0;clear hv u o n v k;go_enter func248,ntmps248;go_wp2_with fail
 have a:(λw':qW=>w'.cell? (qA j 0)=some (qP b)/\w'.cell? (qA b 4)=some (qX q m.dI c0)/\w'.cell? (qA w.heap.size 0)=some (qI g)/\w'.cell? (qA w.heap.size 1)=some (qJ d)) (((w.alloc (.cells #[qI g,qJ d] 93)).alloc (.cells #[qB 0,.bool false,qJ 0,qB 0,qJ 0] 84)).drew):=by
  exact WZ
 refine wp_region_held_drew (S:=λw':qW=>w'.cell? (qA j 0)=some (qP b)/\w'.cell? (qA b 4)=some (qX q m.dI c0)/\w'.cell? (qA w.heap.size 0)=some (qI g)/\w'.cell? (qA w.heap.size 1)=some (qJ d)) qk a (λ_=>?_);refine ic 0 a ?_;refine ic 1 a ?_;refine ic 2 a ?_;refine ic 3 a ?_;refine ic 4 a ?_;refine ic 5 a ?_;refine ic 6 a ?_;refine ic 7 a ?_;refine ic 8 a ?_;refine ic 9 a ?_;refine ic 10 a ?_;refine ic 11 a ?_;refine ic 12 a ?_;refine ic 13 a ?_;refine ic 14 a ?_;refine ic 15 a ?_;refine wpAnyH_all (rs:=[16]) qk qs ?_;intro i hi;rw[qak]at hi;subst hi;refine kU (f:=67) (args:= #[.agg #[qI g,qJ d],qJ m.dI.length]) rfl rfl qk (jY _ qo h0 U) ?_;exact WC
end Go.Proofs.YtfkcodlceoghpaaGreatDoor
