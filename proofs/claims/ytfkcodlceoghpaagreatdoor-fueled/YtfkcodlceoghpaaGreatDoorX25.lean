import Derived.Test.YtfkcodlceoghpaaGreatDoorX21
import Derived.Test.YtfkcodlceoghpaaGreatDoorX22
import Derived.Test.YtfkcodlceoghpaaGreatDoorX24
namespace Go.Proofs.YtfkcodlceoghpaaGreatDoor
set_option maxHeartbeats 6400000
set_option maxRecDepth 100000
set_option linter.unusedSimpArgs false
set_option linter.unusedVariables false
open Go.RowKit Go.Proofs.Tryz
structure At(K O:Nat->Prop)(w W:World)(N:Nat->Prop)(bb:Nat)(mp lv:Value)(Z:Bd):Prop where
 kept:Kept O w W
 body:gZ K (λk=>More O w k/\N k) W bb mp lv Z
 kb:∀k,K k->k<w.heap.size
 pY:∀k,O k->¬K k
 tidy:Tidy Z
 tY:Z.dn.length<=55
 stk:Z.dB.length<=800000
section
variable {K O N:qD}{w W:qW}{bb:Nat}{mp lv:qv}{Z:Bd}
theorem gZ.pY(h:gZ K O w bb mp lv Z):∀k,O k->¬K k:=by
 obtain⟨sv,a,h⟩:=h;exact h.pY
theorem gZ.kb(h:gZ K O w bb mp lv Z):∀k,K k->k<w.heap.size:=by
 obtain⟨sv,a,h⟩:=h;exact h.kb
theorem gZ.own(h:gZ K O w bb mp lv Z):O bb:=by
 obtain⟨sv,a,h⟩:=h;exact h.own
theorem gZ.lt(h:gZ K O w bb mp lv Z):bb<w.heap.size:=by
 obtain⟨sv,a,h⟩:=h;exact h.lt
theorem gZ.alloc(h:gZ K O w bb mp lv Z)(o:Obj):gZ K O (w.alloc o) bb mp lv Z:=by
 obtain⟨sv,a,h⟩:=h;exact⟨sv,a,h.alloc o⟩
theorem gZ.drewN(h:gZ K O w bb mp lv Z)(k:Nat):gZ K O (w.drewN k) bb mp lv Z:=by
 obtain⟨sv,a,h⟩:=h;exact⟨sv,a,h.drewN k⟩
theorem At.apart(h:At K O w W N bb mp lv Z):∀k,More O w k->¬K k:=λk X=>X.elim (h.pY k) (λc e=>by have:=h.kb k e;omega)
theorem At.alloc(h:At K O w W N bb mp lv Z)(o:Obj):At K O w (W.alloc o) N bb mp lv Z:=⟨h.kept.alloc o,h.body.alloc o,h.kb,h.pY,h.tidy,h.tY,h.stk⟩
theorem At.drewN(h:At K O w W N bb mp lv Z)(k:Nat):At K O w (W.drewN k) N bb mp lv Z:=⟨h.kept.drewN k,h.body.drewN k,h.kb,h.pY,h.tidy,h.tY,h.stk⟩
theorem At.new(h:gZ K O w bb mp lv Z)(a:Tidy Z)(hb:Z.dn.length<=55)(b:Z.dB.length<=800000):At K O w w (λk=>k<w.heap.size) bb mp lv Z:=by
 obtain⟨sv,d,h⟩:=h;refine⟨Kept.refl _ _,⟨sv,d,?_⟩,h.kb,h.pY,a,hb,b⟩;have h':=h.narrow;exact h'.more (λk X=>⟨.inl X.1,X.2⟩) (λk X=>X.1.elim (h.pY k) (λc=>by have:=X.2;omega))
theorem At.kinds{ks:qM}{v:qv}(h:At K O w W N bb mp lv Z)(X:dH K ks w v):dH K ks W v:=
 Row.kept X h.kept (λg _ a c=>h.pY g c a)
theorem At.mv{s:qS}{a:Nat}{m:dX}(h:At K O w W N bb mp lv Z)(hm:MV s K w a m):MV s K W a m:=
 hm.kept h.kept (λg _ b c=>h.pY g c b)
theorem At.step{w':qW}{J:Bd}(h:At K O w W N bb mp lv Z)(X:Kept (λk=>More O w k/\N k) W w')(a:gZ K (More (λk=>More O w k/\N k) W) w' bb mp lv J)(b:Tidy J)(hb:J.dn.length<=55)(d:J.dB.length<=800000):At K O w w' (λk=>N k\/(W.heap.size<=k/\k<w'.heap.size)) bb mp lv J:=by
 have f:=h.kept.size;refine⟨h.kept.fresh X (λk g hh=>hh.1.elim id (λc=>qo)),?_,h.kb,h.pY,b,hb,d⟩;obtain⟨sv,e,a⟩:=a;refine⟨sv,e,a.narrow.more (λk X=>?_) (λk X=>h.apart k X.1)⟩;obtain hh | hh:=X.1
 .exact⟨hh.1,.inl hh.2⟩
 exact⟨.inr qo,.inr ⟨hh,X.2⟩⟩
theorem At.sw{w':qW}(h:At K O w W N bb mp lv Z)(X:Kept (λk=>More O w k/\N k) W w'):Kept O w w':=by
 have a:=h.kept.size;exact h.kept.fresh X (λk b hh=>hh.1.elim id (λc=>qo))
theorem eu(w:qW){g:Nat}(ks:qM){c:Array qv}(a:g=w.heap.size)(hc:c.toList=kindCells ks)(hl:ks.length<=1000):dH (λk=>k=w.heap.size) ks (w.alloc (.cells c 80)) (qL g ks.length ks.length):=by
 subst a;have b:c.size=ks.length:=by rw[<-qcw,hc];simp[kindCells]
 refine⟨⟨by simp[kindCells],.inr ⟨w.heap.size,ks.length,c,rfl,qZ,heap_alloc_new w _,qR,by unfold maxLen;omega,by rw[b];simp,?_⟩⟩,λk X=>by simp[Value.ownBlock]at X;exact X.symm⟩;rw[hc,qbo (by simp[kindCells])]
end
structure Ends(K O:Nat->Prop)(w W:World)(N:Nat->Prop)(bb:Nat)(mp lv:Value)(r:Except Err Bd)(e:Ending)(w':World):Prop where
 ok:∀J,r=.ok J->qU e/\At K O w w' (λk=>N k\/(W.heap.size<=k/\k<w'.heap.size)) bb mp lv J
 err:∀q p,r=.error (q,p)->e=fo q p
 kept:Kept O w w'
 low:Kept (λk=>N k/\¬K k) W w'
section
variable {K O N ok:qD}{w W W':qW}{bb:Nat}{mp lv kv:qv}{Z:Bd}{ks:qM}
theorem At.up(h:At K O w W N bb mp lv Z):At K O w W (λk=>k<W.heap.size) bb mp lv Z:=by
 obtain⟨sv,a,b⟩:=h.body;exact⟨h.kept,⟨sv,a,b.narrow.more (λk X=>⟨X.1.1,X.2⟩) (λk X=>h.apart k X.1)⟩,h.kb,h.pY,h.tidy,h.tY,h.stk⟩
theorem At.low(h:At K O w W N bb mp lv Z):At K O w W (λk=>N k/\k<W.heap.size) bb mp lv Z:=by
 obtain⟨sv,a,b⟩:=h.body;exact⟨h.kept,⟨sv,a,b.narrow.more (λk X=>⟨X.1.1,X.1.2,X.2⟩) (λk X=>h.apart k X.1)⟩,h.kb,h.pY,h.tidy,h.tY,h.stk⟩
theorem At.wide{a:qD}(h:At K O w W N bb mp lv Z)(b:∀k,N k->a k):At K O w W a bb mp lv Z:=by
 obtain⟨sv,c,d⟩:=h.body;exact⟨h.kept,⟨sv,c,d.more (λk X=>⟨X.1,b k X.2⟩) (λk X=>h.apart k X.1)⟩,h.kb,h.pY,h.tidy,h.tY,h.stk⟩
theorem Ends.dN{Mq:qD}{r:Except Err Bd}(hr:r=.ok Z)(h:At K O w W' N bb mp lv Z)(hl:Kept (λk=>Mq k/\¬K k) W W')(hn:∀k,N k->Mq k\/W.heap.size<=k:=by intro k X;omega):Ends K O w W Mq bb mp lv r (.returned (.tuple #[])) W':=
 ⟨λJ h'=>by rw[hr]at h';cases h';exact⟨rfl,h.low.wide (λk X=>(hn k X.1).imp id (λc=>⟨c,X.2⟩))⟩,λq p h'=>by(rw[hr]at h';cases h'),h.kept,hl⟩
theorem Ends.dG{r:Except Err Bd}{q p:Nat}(a:r=.error (q,p))(h:Kept O w W')(hl:Kept (λk=>N k/\¬K k) W W'):Ends K O w W N bb mp lv r (fo q p) W':=
 ⟨λJ h'=>by(rw[a]at h';cases h'),λb c h'=>by rw[a]at h';cases h';rfl,h,hl⟩
theorem take_at(h:At K O w W N bb mp lv Z)(hb:Z.dn≠[])(X:dH ok ks W kv)(f:¬ok bb)(g:ks.length<=50):
  qC 186 #[qP bb,kv] W (Ends K O w W N bb mp lv (dQ Z ks)):=by
 obtain⟨sv,n,a⟩:=h.body;obtain⟨ps,cs,rfl⟩:=Row.shape a.stk;have hl:=h.tY;have o:=h.stk;refine(take_any a X f (λ_=>hb) qo h.tidy.dK qo g).mono ?_;rintro e w'⟨i,j,l⟩;have b:Kept (λk=>More O w k/\N k) W w':=i.mono (λk _ (e:k=bb)=>e▸a.own);refine⟨λJ d=>?_,l,h.sw b,b.mono (λk _ hh=>⟨hh.2,h.apart k hh.1⟩)⟩;obtain⟨v,rfl,rfl,m⟩:=j _ d;have hf:=eO h.tidy.dK d;exact⟨rfl,h.step b ⟨_,_,m.more (λk X=>.inl X) (λk X=>X.elim (a.pY k) (λc e=>by have:=a.kb k e;omega))⟩ (h.tidy.take d) (by rw[hf.1];exact hl) qo⟩
theorem kz(h:At K O w W N bb mp lv Z)(X:dH ok ks W kv)(b:ks.length<=50)(i:Z.dB.length+ks.length<=800000):
  qC 187 #[qP bb,kv] W (Ends K O w W N bb mp lv (.ok (fJ Z ks))):=by
 obtain⟨sv,j,d⟩:=h.body;have l:=h.stk;refine(put_any d X qo b).mono ?_;rintro e w'⟨a,f,-⟩;obtain⟨v,rfl,rfl,g⟩:=f _ rfl;exact Ends.dN rfl (h.step a g (h.tidy.put ks) h.tY (by simp[fJ];omega)) (a.mono (λk _ hh=>⟨hh.2,h.apart k hh.1⟩)) (λ_ X=>X.imp id (λc=>c.1))
theorem yI(h:At K O w W N bb mp lv Z)(hb:Z.dn≠[]):
  qC 238 #[qP bb] W (Ends K O w W N bb mp lv (.ok (fV Z))):=by
 obtain⟨sv,g,a⟩:=h.body;obtain⟨ps,cs,rfl⟩:=Row.shape a.stk;have hl:=h.tY;have i:=h.stk;have j:Z.dn.length≠0:=by simpa using hb
 refine(Kn a hb qo h.tidy.dK).mono ?_;rintro e w'⟨b,d,-⟩;obtain⟨v,rfl,rfl,f⟩:=d _ rfl;exact Ends.dN rfl (h.step b f (h.tidy.wI hb) (by simp[fV];omega) (by simp[fV];omega)) (b.mono (λk _ hh=>⟨hh.2,h.apart k hh.1⟩)) (λ_ X=>X.imp id (λc=>c.1))
theorem enter_at{f g:qv}{t:Ty}(c:Nat)(h:At K O w W N bb mp lv Z)(hb:t.ins≠[]->Z.dn≠[])(hi:dH K t.ins W f)(ho:dH K t.outs W g)(U:t.ins.length<=8)(j:t.outs.length<=8)(hl:Z.dn.length<=54)(p:Z.dB.length<=799000):
  qC 132 #[qP bb,qB c,.agg #[f,g]] W (Ends K O w W N bb mp lv (iV c t Z)):=by
 obtain⟨sv,q,l⟩:=h.body;refine(Ou c l hi ho hb qo h.tidy.dK qo qo).mono ?_;rintro e w'⟨d,m,n⟩;refine⟨λJ a=>?_,n,h.sw d,d.mono (λk _ hh=>⟨hh.2,h.apart k hh.1⟩)⟩;obtain⟨v,rfl,rfl,o⟩:=m _ a;have r:=a;unfold iV at a;rcases hm:dQ Z t.ins with e|st1
 .rw[hm]at a;cases a
 rw[hm]at a;cases a;have hf:=eO h.tidy.dK hm;have i:=h.tidy.take hm;refine⟨rfl,h.step d o ⟨⟨qs,i.kR⟩,?_⟩ (by simp[hf.1];omega) qt⟩;intro b hb;simp at hb;obtain rfl | hb:=hb
 .exact⟨U,j⟩
 exact i.short b hb
theorem vX(h:At K O w W N bb mp lv Z)(hb:Z.dn≠[]):
  qC 236 #[qP bb] W λe w'=>(∀k J,fe Z=.ok (k,J)->e=.returned (qB (k:Nat))/\At K O w w' (λk=>N k\/(W.heap.size<=k/\k<w'.heap.size)) bb mp lv J/\J.dn=Z.dn/\J.at_=Z.at_/\J.dB.length<=Z.dB.length)/\(∀q p,fe Z=.error (q,p)->e=fo q p)/\Kept O w w'/\Kept (λk=>N k/\¬K k) W w':=by
 obtain⟨sv,s,a⟩:=h.body;obtain⟨ps,cs,rfl⟩:=Row.shape a.stk;have hl:=h.tY;have t:=h.stk;refine(yU a hb qo h.tidy.dK qo).mono ?_;rintro e w'⟨i,j,l⟩;have f:Kept (λk=>More O w k/\N k) W w':=i.mono (λk _ (e:k=bb)=>e▸a.own);refine⟨λk J g=>?_,l,h.sw f,f.mono (λk _ hh=>⟨hh.2,h.apart k hh.1⟩)⟩;obtain⟨v,rfl,hv,m⟩:=j _ g;obtain rfl:v=qB k:=hv;have hf:=vJ h.tidy.dK g;have d:J.dn=Z.dn:=by rw[hf.1]
 have n:Tidy J:=by
  obtain⟨u,o,x⟩:=Z;obtain⟨y,r,z⟩:=J;simp only at d;subst d;cases r with
  | nil=>exact absurd rfl hb
  | cons b o=>exact⟨⟨hf.2.1,h.tidy.kR.2⟩,h.tidy.short⟩
 exact⟨rfl,h.step f ⟨_,_,m.more (λk X=>.inl X) (λk X=>X.elim (a.pY k) (λc e=>by have:=a.kb k e;omega))⟩ n (by rw[d];exact hl) qo,d,by rw[hf.1],hf.2.2⟩
theorem G6(h:At K O w W N bb mp lv Z)(hb:Z.dn≠[]):
  qC 240 #[qP bb] W λe w'=>(∀left J,jv Z=.ok (left,J)->(∃a gv,e=.returned (.agg #[qB (left.word:Nat),a,gv,qJ (left.dK:Nat),.bool left.cut])/\dH K left.takes w' a/\dH K left.dL w' gv)/\At K O w w' (λk=>N k\/(W.heap.size<=k/\k<w'.heap.size)) bb mp lv J)/\(∀q p,jv Z=.error (q,p)->e=fo q p)/\Kept O w w'/\Kept (λk=>N k/\¬K k) W w':=by
 obtain⟨sv,u,b⟩:=h.body;have hl:=h.tY;have x:=h.stk;have y:=h.tidy.short _ (Oj hb);refine(N9 b hb qo h.tidy.dK qo qo).mono ?_;rintro e w'⟨g,i,j⟩;have d:Kept (λk=>More O w k/\N k) W w':=g.mono (λk _ (e:k=bb)=>e▸b.own);refine⟨λleft J f=>?_,j,h.sw d,d.mono (λk _ hh=>⟨hh.2,h.apart k hh.1⟩)⟩;obtain⟨v,rfl,a,gv,rfl,l,m,n,o,r⟩:=i _ f;obtain⟨-,s,-,z,t,-,-⟩:=(mP h.tidy hb).2 _ _ f;refine⟨⟨a,gv,rfl,l,m⟩,h.step d ⟨n,o,r.more (λk X=>.inl X) (λk X=>X.elim (b.pY k) (λc e=>by have:=b.kb k e;omega))⟩ s (by rw[t];simp;omega) qo⟩
theorem rW(h:At K O w W N bb mp lv Z):qC 237 #[qP bb] W λe w'=>e=fo 4 Z.at_/\w'=W:=by
 obtain⟨sv,b,a⟩:=h.body;exact lS a.blk
theorem Kept.kinds{a b:qW}{v:qv}(X:Kept (λk=>N k/\¬K k) a b)(h:dH K ks a v):dH K ks b v:=Row.kept h X (λ_ _ d c=>c.2 d)
theorem Kept.YI{s:qS}{a:Nat}{m:dX}{b d:qW}(X:Kept (λk=>N k/\¬K k) b d)(h:MV s K b a m):MV s K d a m:=h.kept X (λ_ _ e c=>c.2 e)
theorem Kept.fK{a b d:qW}(U:Kept (λk=>k<a.heap.size/\¬K k) a b)(e:Kept (λk=>N k/\¬K k) b d)(_:a.heap.size=a.heap.size):Kept (λk=>k<a.heap.size/\¬K k) a d:=
 U.fresh e (λ_ X c=>⟨X,c.2⟩)
theorem At.ne(h:At K O w W N bb mp lv Z):¬(λk=>k=W.heap.size) bb:=λe=>by
 have:=h.body.lt;omega
end
section
variable {K O N ok:qD}{w W:qW}{bb:Nat}{mp lv kv:qv}{Z:Bd}{ks:qM}
theorem LH{f g:qv}{t:Ty}(h:At K O w W N bb mp lv Z)(hb:Z.dn≠[])(hi:dH K t.ins W f)(ho:dH K t.outs W g)(P:t.ins.length<=8)(Q:t.outs.length<=8)(R:Z.dB.length<=799000):
  qC 244 #[qP bb,.agg #[f,g]] W (Ends K O w W N bb mp lv (kT t Z)):=by
 obtain⟨v,x,rfl⟩:=Row.shape hi;obtain⟨y,z,rfl⟩:=Row.shape ho;have a:=h.low;have A:¬K bb:=λc=>a.body.pY bb a.body.own c;have i:=qH a;have B:=qH hi;have C:=qH ho;clear h hi ho a;go_enter func244,ntmps244;go_wp2_with fail
 refine(take_at (i.o.alloc _) hb (Row.alloc B.o _) A qo).mono ?_;rintro e D⟨j,l,E,b⟩;have d:Kept (λk=>N k/\¬K k) W D:=(qr.alloc _).trans (b.mono (λ_ _ c=>⟨c.1.1,c.2⟩));have m:=(jf.new W #[qX v t.ins x,qX y t.outs z] 100).kept b qs (λc=>by have:=c.1.2;omega);rcases hm:dQ Z t.ins with⟨q,p⟩|st1
 .obtain rfl:=l _ _ hm;exact⟨rfl,Ends.dG (by simp[kT,hm]) E d⟩
 obtain⟨rfl,n⟩:=j _ hm;have hf:=eO i.o.tidy.dK hm;obtain⟨⟨S,-⟩,⟨T,-⟩⟩:=m.two;have F:qh (kT t Z=.ok (fJ st1 t.outs)):=by show _=_;simp[kT,hm]
 have G:=qH n;have U:st1.dB.length<=799000:=qo;have H:=qH (d.kinds C.o);clear j l hm n hf m;go_wp2_with fail
 refine(kz G.o H.o qo qo).mono ?_;rintro e V⟨s,-,-,I⟩;obtain⟨rfl,u⟩:=s _ rfl;have L:=qH u;clear s u;go_wp2;go_end0;have M:=b.size;refine Ends.dN F.o L.o (d.fresh I (λk X c=>⟨?_,c.2⟩)) (λk X=>?_)
 .obtain c1 | c1:=c.1
  .exact c1.1
  have:=c1.1;simp at this;omega
 obtain (c1 | c1) | c1:=X
 .exact .inl c1.1
 .exact .inr (by have:=c1.1;simp at this;omega)
 exact .inr (by have:=c1.1;simp at M;omega)
theorem jw(h:At K O w W N bb mp lv Z)(hb:Z.dn≠[])(a:Nat)(X:dH ok ks W kv)(m:¬ok bb)(n:ks.length<=50)(C:Z.dB.length<=799000){z:Int}(s:z=(a:Int)):
  qC 252 #[qP bb,qB z,kv] W (Ends K O w W (λk=>k<W.heap.size) bb mp lv (gy a ks Z)):=by
 subst s;obtain⟨D,E,rfl⟩:=Row.shape X;have b:=qH h.up;have t:=qH X;clear h X;go_enter func252,ntmps252;go_wp2_with fail
 refine(take_at b.o hb t.o m n).mono ?_;rintro e u⟨d,f,v,g⟩;rcases hm:dQ Z ks with⟨q,p⟩|st1
 .obtain rfl:=f _ _ hm;exact⟨rfl,Ends.dG (by simp[gy,hm]) v g⟩
 obtain⟨rfl,i⟩:=d _ hm;have hf:=eO b.o.tidy.dK hm;have x:qh (gy a ks Z=.ok (fJ st1 [a])):=by show _=_;simp[gy,hm]
 have y:=qH i;have F:st1.dB.length<=799000:=qo;clear d f hm i hf;go_wp2_with fail
 refine(kz (y.o.alloc _) (eu u [a] rfl rfl qs) qs qt).mono ?_;rintro e G⟨j,-,-,A⟩;obtain⟨rfl,l⟩:=j _ rfl;have B:=qH l;clear j l;go_wp2;go_end0;exact Ends.dN x.o B.o (g.fK ((qr.alloc _).trans A) rfl)
theorem yl(x:Nat)(w:qW):qC 319 #[qB x] w λe w'=>e=.returned (qI (mG x))/\w'=w:=by
 have hx:x=44\/x=45\/x=58\/x=41\/x=55\/(x≠44/\x≠45/\x≠58/\x≠41/\x≠55):=qo;obtain rfl | rfl | rfl | rfl | rfl | ⟨U,a,b,c,d⟩:=hx
 case inr.inr.inr.inr.inr=>
  have g:((x:Int)==44)=false:=qe;have h:((x:Int)==45)=false:=qe;have i:((x:Int)==58)=false:=qe;have j:((x:Int)==41)=false:=qe;have k:((x:Int)==55)=false:=qe;have f:qh (mG x=2):=by show _=_;simp[mG,U,a,b,c,d]
  clear U a b c d;go_enter func319,ntmps319;go_wp2;go_ret;exact⟨by rw[f.o];rfl,rfl⟩
 all_goals
  go_enter func319,ntmps319;go_wp2;go_ret;exact⟨rfl,rfl⟩
end
abbrev yC(a e x:Int)(y:fO)(gv lv:Value):List Value:=[qJ a,qJ e,qB x,.bool y.typed,gv,qI y.align,qI y.num.1,qJ y.num.2,lv,qJ y.val]
section
variable {K O N:qD}{w W:qW}{bb:Nat}{mp lv:qv}{Z:Bd}
def mg(x:Nat)(y:fO)(Z:Bd):Except Err Bd:=if mG x<y.align then .error (4,Z.at_) else .ok Z
theorem IE(h:At K O w W N bb mp lv Z)(a e x:Nat)(y:fO)(pg pl:qO)(ng cg nl cl:Nat):
  qC 295 #[qP bb,.agg (yC a e x y (.slice pg ng cg) (.slice pl nl cl)).toArray] W (Ends K O w W (λk=>k<W.heap.size) bb mp lv (mg x y Z)):=by
 have b:=qH h.up;clear h;by_cases d:mG x<y.align
 .have f:qh (mg x y Z=.error (4,Z.at_)):=by show _=_;simp[mg,d]
  go_enter func295,ntmps295;go_wp2;go_quiet (exact Calls.quiet_of_same (yl x _))
  go_wp2_with fail
  refine(rW ((b.o.alloc _).drewN _)).mono ?_;rintro e g⟨rfl,rfl⟩;exact⟨rfl,Ends.dG f.o ((b.o.alloc _).drewN _).kept ((qr.alloc _).drewN _)⟩
 have f:qh (mg x y Z=.ok Z):=by show _=_;simp[mg,d]
 have i:decide (mG x<y.align)=false:=by simpa using d
 have j:y.align<=mG x:=qo;go_enter func295,ntmps295;go_wp2;go_quiet (exact Calls.quiet_of_same (yl x _))
 go_wp2;go_end0;exact Ends.dN f.o ((b.o.alloc _).drewN _) ((qr.alloc _).drewN _)
theorem zU(h:At K O w W N bb mp lv Z)(hb:Z.dn≠[])(a e x:Nat)(y:fO)(pg pl:qO)(ng cg nl cl:Nat)(k:Nat)(V:Z.dB.length<=799000){z:Int}(L:z=(k:Int)):
  qC 250 #[qP bb,.agg (yC a e x y (.slice pg ng cg) (.slice pl nl cl)).toArray,qB z] W (Ends K O w W (λk=>k<W.heap.size) bb mp lv (kN x k y Z)):=by
 subst L;have f:=qH h.up;have Y:¬K bb:=λc=>h.body.pY bb h.body.own c;clear h;have g:qh (∀J,mg x y Z=.ok J->J=Z/\kN x k y Z=(match dQ Z [127] with | .error e=>.error e | .ok st1=>.ok (fJ st1 [k]))):=by
  intro J h;unfold mg at h;unfold kN;split at h
  .cases h
  rename_i hn;cases h;exact⟨rfl,by rw[qaa hn]<;>rfl⟩
 have i:qh (∀q p,mg x y Z=.error (q,p)->kN x k y Z=.error (q,p)):=by
  intro q p h;unfold mg at h;unfold kN;split at h
  .rename_i hn;cases h;rw[qac hn]
  cases h
 go_enter func250,ntmps250;go_wp2_with fail
 refine(IE (f.o.alloc _) a e x y pg pl ng cg nl cl).mono ?_;rintro j b⟨l,m,M,n⟩;have s:Kept (λk=>k<(W.alloc (.cells (yC a e x y (.slice pg ng cg) (.slice pl nl cl)).toArray 195)).heap.size/\¬K k) W b:=(qr.alloc _).trans n;have t:Kept (λk=>k<W.heap.size/\¬K k) W b:=s.mono (λk X c=>⟨X,c.2⟩);rcases hm:mg x y Z with⟨q,p⟩|u
 .obtain rfl:=m _ _ hm;exact⟨rfl,Ends.dG (i.o _ _ hm) M t⟩
 obtain⟨rfl,v⟩:=g.o _ hm;obtain⟨rfl,A⟩:=l _ hm;have B:=qH A;have d:=qH v;clear l m hm A v g i n s;go_wp2_with fail
 refine(take_at (B.o.alloc _) hb (eu b [127] rfl rfl qs) B.o.ne qs).mono ?_;rintro j C⟨D,E,P,Q⟩;have F:Kept (λk=>k<W.heap.size/\¬K k) W C:=t.fK ((qr.alloc _).trans Q) rfl;rcases hm:dQ u [127] with⟨q,p⟩|st1
 .obtain rfl:=E _ _ hm;exact⟨rfl,Ends.dG (by rw[d.o,hm]) P F⟩
 obtain⟨rfl,G⟩:=D _ hm;have hf:=eO f.o.tidy.dK hm;have aa:st1.dB.length<=799000:=qo;have R:qh (kN x k y u=.ok (fJ st1 [k])):=by show _=_;rw[d.o,hm]
 have S:=qH G;clear D E hm G d hf;go_wp2_with fail
 refine(kz (S.o.alloc _) (eu C [k] rfl rfl qs) qs qt).mono ?_;rintro j w3⟨H,-,-,T⟩;obtain⟨rfl,I⟩:=H _ rfl;have U:=qH I;clear H I;go_wp2;go_end0;exact Ends.dN R.o U.o (F.fK ((qr.alloc _).trans T) rfl)
theorem Ar(h:At K O w W N bb mp lv Z)(hb:Z.dn≠[])(a e x:Nat)(y:fO)(pg pl:qO)(ng cg nl cl:Nat)(k:Nat){z:Int}(D:z=(k:Int)):
  qC 251 #[qP bb,.agg (yC a e x y (.slice pg ng cg) (.slice pl nl cl)).toArray,qB z] W (Ends K O w W (λk=>k<W.heap.size) bb mp lv (jq x k y Z)):=by
 subst D;have E:=qH h.up;clear h;have d:qh (∀J,mg x y Z=.ok J->J=Z/\jq x k y Z=dQ Z [127,k]):=by
  intro J h;unfold mg at h;unfold jq;split at h
  .cases h
  rename_i hn;cases h;exact⟨rfl,by rw[qaa hn]<;>rfl⟩
 have f:qh (∀q p,mg x y Z=.error (q,p)->jq x k y Z=.error (q,p)):=by
  intro q p h;unfold mg at h;unfold jq;split at h
  .rename_i hn;cases h;rw[qac hn]
  cases h
 go_enter func251,ntmps251;go_wp2_with fail
 refine(IE (E.o.alloc _) a e x y pg pl ng cg nl cl).mono ?_;rintro F g⟨i,j,G,l⟩;have m:Kept (λk=>k<W.heap.size/\¬K k) W g:=((qr.alloc _).trans l).mono (λk X c=>⟨X,c.2⟩);rcases hm:mg x y Z with⟨q,p⟩|n
 .obtain rfl:=j _ _ hm;exact⟨rfl,Ends.dG (f.o _ _ hm) G m⟩
 obtain⟨rfl,s⟩:=d.o _ hm;obtain⟨rfl,t⟩:=i _ hm;have u:=qH t;have b:=qH s;clear i j hm t s d f l;go_wp2_with fail
 refine(take_at (u.o.alloc _) hb (eu g [127,k] rfl rfl qs) u.o.ne qs).mono ?_;rintro F H⟨v,A,I,L⟩;have B:Kept (λk=>k<W.heap.size/\¬K k) W H:=m.fK ((qr.alloc _).trans L) rfl;rcases hm:dQ n [127,k] with⟨q,p⟩|st1
 .obtain rfl:=A _ _ hm;exact⟨rfl,Ends.dG (by rw[b.o,hm]) I B⟩
 obtain⟨rfl,C⟩:=v _ hm;have M:qh (jq x k y n=.ok st1):=by show _=_;rw[b.o,hm]
 have P:=qH C;clear v A hm C b;go_wp2;go_end0;exact Ends.dN M.o P.o B
theorem BM(h:At K O w W N bb mp lv Z)(hb:Z.dn≠[])(x:Nat)(b:Z.dB.length<=799000):
  qC 192 #[qP bb,qB x] W (Ends K O w W (λk=>k<W.heap.size) bb mp lv (gG x Z)):=by
 have a:=qH h.up;clear h;obtain⟨m,h⟩:=qF (gG x Z);rw[h];unfold gG at h;by_cases hx:x=65
 .rw[qac hx]at h;have t:((x:Int)==65)=true:=by simp;omega
  subst h;clear hx;go_enter func192,ntmps192;go_wp2_with fail
  refine(kz (a.o.alloc _) (eu W [127] rfl rfl qs) qs qt).mono ?_;exact WV
 rw[qaa hx]at h;have d:((x:Int)==65)=false:=qe;clear hx;by_cases hx:x=66
 .rw[qac hx]at h;have t:((x:Int)==66)=true:=by simp;omega
  subst h;clear hx;go_enter func192,ntmps192;go_wp2_with fail
  refine(kz (a.o.alloc _) (eu W [126] rfl rfl qs) qs qt).mono ?_;exact WV
 rw[qaa hx]at h;have e:((x:Int)==66)=false:=qe;clear hx;by_cases hx:x=69
 .rw[qac hx]at h;have t:((x:Int)==69)=true:=by simp;omega
  have HM:=qH h;clear h hx;go_enter func192,ntmps192;go_wp2_with fail
  refine(jw (a.o.alloc _) hb 127 (eu W [127] rfl rfl qs) a.o.ne qs b rfl).mono ?_;exact Sv
 rw[qaa hx]at h;have f:((x:Int)==69)=false:=qe;clear hx;by_cases hx:x<=79
 .rw[qac hx]at h;have t:(x:Int)<=79:=qo;have HM:=qH h;clear h hx;go_enter func192,ntmps192;go_wp2_with fail
  refine(jw (a.o.alloc _) hb 127 (eu W [127,127] rfl rfl qs) a.o.ne qs b rfl).mono ?_;exact Sv
 rw[qaa hx]at h;have g:decide ((x:Int)<=79)=false:=qd;clear hx;by_cases hx:x=80
 .rw[qac hx]at h;have t:((x:Int)==80)=true:=by simp;omega
  have HM:=qH h;clear h hx;go_enter func192,ntmps192;go_wp2_with fail
  refine(jw (a.o.alloc _) hb 127 (eu W [126] rfl rfl qs) a.o.ne qs b rfl).mono ?_;exact Sv
 rw[qaa hx]at h;have i:((x:Int)==80)=false:=qe;clear hx;by_cases hx:x<=90
 .rw[qac hx]at h;have t:(x:Int)<=90:=qo;have HM:=qH h;clear h hx;go_enter func192,ntmps192;go_wp2_with fail
  refine(jw (a.o.alloc _) hb 127 (eu W [126,126] rfl rfl qs) a.o.ne qs b rfl).mono ?_;exact Sv
 rw[qaa hx]at h;have j:decide ((x:Int)<=90)=false:=qd;clear hx;by_cases hx:x<=105
 .rw[qac hx]at h;have t:(x:Int)<=105:=qo;have HM:=qH h;clear h hx;go_enter func192,ntmps192;go_wp2_with fail
  refine(jw (a.o.alloc _) hb 127 (eu W [127] rfl rfl qs) a.o.ne qs b rfl).mono ?_;exact Sv
 rw[qaa hx]at h;have l:decide ((x:Int)<=105)=false:=qd;clear hx;by_cases hx:x<=120
 .rw[qac hx]at h;have t:(x:Int)<=120:=qo;have HM:=qH h;clear h hx;go_enter func192,ntmps192;go_wp2_with fail
  refine(jw (a.o.alloc _) hb 127 (eu W [127,127] rfl rfl qs) a.o.ne qs b rfl).mono ?_;exact Sv
 rw[qaa hx]at h;have n:decide ((x:Int)<=120)=false:=qd;clear hx;by_cases hx:x<=123
 .rw[qac hx]at h;have t:(x:Int)<=123:=qo;have HM:=qH h;clear h hx;go_enter func192,ntmps192;go_wp2_with fail
  refine(jw (a.o.alloc _) hb 126 (eu W [126] rfl rfl qs) a.o.ne qs b rfl).mono ?_;exact Sv
 rw[qaa hx]at h;have r:decide ((x:Int)<=123)=false:=qd;clear hx;by_cases hx:x<=138
 .rw[qac hx]at h;have t:(x:Int)<=138:=qo;have HM:=qH h;clear h hx;go_enter func192,ntmps192;go_wp2_with fail
  refine(jw (a.o.alloc _) hb 126 (eu W [126,126] rfl rfl qs) a.o.ne qs b rfl).mono ?_;exact Sv
 rw[qaa hx]at h;have s:decide ((x:Int)<=138)=false:=qd;clear hx;by_cases hx:x=167
 .rw[qac hx]at h;have t:((x:Int)==167)=true:=by simp;omega
  have HM:=qH h;clear h hx;go_enter func192,ntmps192;go_wp2_with fail
  refine(jw (a.o.alloc _) hb 127 (eu W [126] rfl rfl qs) a.o.ne qs b rfl).mono ?_;exact Sv
 rw[qaa hx]at h;have u:((x:Int)==167)=false:=qe;clear hx;have HM:=qH h;clear h;go_enter func192,ntmps192;go_wp2_with fail
 refine(jw (a.o.alloc _) hb 126 (eu W [127] rfl rfl qs) a.o.ne qs b rfl).mono ?_;exact Sv
theorem BL(h:At K O w W N bb mp lv Z)(hb:Z.dn≠[])(hs:Z.dB.length<=799000):
  qC 247 #[qP bb] W (Ends K O w W (λk=>k<W.heap.size) bb mp lv (fH Z)):=by
 have s:=qH h.up;clear h;go_enter func247,ntmps247;go_wp2_with fail
 refine(take_at (s.o.alloc _) hb (eu W [127] rfl rfl qs) s.o.ne qs).mono ?_;rintro ee M⟨x,y,Q,R⟩;have z:Kept (λk=>k<W.heap.size/\¬K k) W M:=(qr.alloc _).trans R;rcases e:dQ Z [127] with⟨q,p⟩|st1
 .obtain rfl:=y _ _ e;exact⟨rfl,Ends.dG (by simp[fH,e]) Q z⟩
 obtain⟨rfl,A⟩:=x _ e;have t:=eO s.o.tidy.dK e;have B:st1.dn≠[]:=by rw[t.1];exact hb
 have af:st1.dB.length<=799000:=qo;have S:=t.2.1;have T:=qH A;have m:=qH e;clear x y e A t;go_wp2_with fail
 refine(vX T.o B).mono ?_;rintro ee w2⟨C,D,V,X⟩;have E:=z.fK X rfl;rcases i:fe st1 with⟨q,p⟩|⟨a,F⟩
 .obtain rfl:=D _ _ i;exact⟨rfl,Ends.dG (by simp[fH,m.o,i]) V E⟩
 obtain⟨rfl,G,H,Y,s2⟩:=C _ _ i;have aa:F.dn≠[]:=by rw[H];exact B
 have ab:=qH G;have u:=qH i;clear C D i G H;go_wp2_with fail
 refine(vX ab.o aa).mono ?_;rintro ee n⟨I,J,ac,ad⟩;have hl3:=E.fK ad rfl;rcases j:fe F with⟨q,p⟩|⟨b,f⟩
 .obtain rfl:=J _ _ j;exact⟨rfl,Ends.dG (by simp[fH,m.o,u.o,j]) ac hl3⟩
 obtain⟨rfl,L,e3,a3,s3⟩:=I _ _ j;have g:=qH L;have d:qh (fH Z=if a≠0/\a≠(if b=0 then a else b) then .error (4,Z.at_) else .ok (fJ f [if b=0 then a else b])):=by show _=_;simp only[fH,m.o,u.o,j]
 have r:f.dB.length+1<=800000:=qo;have ae:f.at_=Z.at_:=qo;clear I J j L m u e3 s3 a3 s2 Y S;by_cases U:b=0
 .have t1:((b:Int)==0)=true:=by simp[U]
  have HM:qh (fH Z=.ok (fJ f [a])):=by show _=_;rw[d.o,qac U,qaa qs]
  clear U d;by_cases c:a=0
  .have v:((a:Int) !=0)=false:=by simp[c]
   clear c;go_wp2_with fail
   refine(kz (g.o.alloc _) (eu n [a] rfl rfl qs) qs (by simpa using r)).mono ?_;exact Ui
  have v:((a:Int) !=0)=true:=by rw[qcm];omega
  clear c;go_wp2_with fail
  refine(kz (g.o.alloc _) (eu n [a] rfl rfl qs) qs (by simpa using r)).mono ?_;exact Ui
 have t1:((b:Int)==0)=false:=qe;by_cases c:a=0
 .have v:((a:Int) !=0)=false:=by simp[c]
  have HM:qh (fH Z=.ok (fJ f [b])):=by show _=_;rw[d.o,qaa U,qaa (by simp[c])]
  clear U c d;go_wp2_with fail
  refine(kz (g.o.alloc _) (eu n [b] rfl rfl qs) qs (by simpa using r)).mono ?_;exact Ui
 have v:((a:Int) !=0)=true:=by rw[qcm];omega
 by_cases l:a=b
 .have t3:((a:Int) !=(b:Int))=false:=by simp[l]
  have HM:qh (fH Z=.ok (fJ f [b])):=by show _=_;rw[d.o,qaa U,qaa (by simp[l])]
  clear U c l d;go_wp2_with fail
  refine(kz (g.o.alloc _) (eu n [b] rfl rfl qs) qs (by simpa using r)).mono ?_;exact Ui
 have t3:((a:Int) !=(b:Int))=true:=by rw[qcm];omega
 have HM:qh (fH Z=.error (4,Z.at_)):=by show _=_;rw[d.o,qaa U,qac ⟨c,l⟩]
 clear U c l d;go_wp2_with fail
 refine(rW g.o).mono ?_;rintro ee w4⟨rfl,rfl⟩;rw[ae];exact⟨rfl,Ends.dG HM.o g.o.kept hl3⟩
end
section
variable {K O N:qD}{w W:qW}{bb Y:Nat}{lv:qv}{Z:Bd}{s:qS}{m:dX}
theorem At.fP(h:At K O w W N bb (qP Y) lv Z)(hm:MV s K W Y m):W.cell? (qA bb 0)=some (qP Y)/\∃p c,W.cell? (qA Y 3)=some (.slice p m.fP.length c):=by
 obtain⟨sv,e,a⟩:=h.body;obtain⟨-,f,b,d⟩:=hm;obtain⟨p,c,hv⟩:=Row.shape d.h3;exact⟨a.blk.five.1.1,p,c,by rw[<-hv];exact b.twelve.1.2.2.2.1.1⟩
theorem lT(h:At K O w W N bb (qP Y) lv Z)(a:Nat):qC 245 #[qP bb,qJ a] W λe w'=>w'=W/\e=(if a=0 then fo 3 Z.at_ else .returned (.tuple #[])):=by
 obtain⟨sv,c,b⟩:=h.body;exact Qh a b.blk
theorem BN(h:At K O w W N bb (qP Y) lv Z)(hb:Z.dn≠[])(hm:MV s K W Y m)(a e x:Nat)(y:fO)(pg pl:qO)(ng cg nl cl:Nat)(i:Z.dB.length<=799000):
  qC 191 #[qP bb,.agg (yC a e x y (.slice pg ng cg) (.slice pl nl cl)).toArray] W (Ends K O w W (λk=>k<W.heap.size) bb (qP Y) lv (eG m x y Z)):=by
 have HA:=qH h.up;have G:=h.body.lt;have H:=hm.lt;obtain⟨I,L,c3,M⟩:=h.fP hm;clear h;by_cases hz:m.fP.length=0
 .have HM:qh (eG m x y Z=.error (3,Z.at_)):=by show _=_;simp[eG,hz]
  go_enter func191,ntmps191;exact Xb
 have b:qh (eG m x y Z=(if x=63 then .ok (fJ Z [127])
 else if x=64 then
  match dQ Z [127] with
  | .error e=>.error e
  | .ok st1=>.ok (fJ st1 [127])
 else if x=41 then kN x 126 y Z
 else if x=40\/x=44\/x=45 then kN x 127 y Z
 else if x=55 then jq x 126 y Z
 else if x=54\/x=58 then jq x 127 y Z
 else .ok Z)):=by show _=_;unfold eG;rw[qaa hz]<;>rfl
 by_cases j:x=63
 .subst j;have HE:=qH b.o;clear b;have HM:qh (eG m 63 y Z=.ok (fJ Z [127])):=HE.o;clear HE;go_enter func191,ntmps191;go_wp2_with fail
  refine(lT (HA.o.alloc _) _).mono ?_;rintro ee w1⟨rfl,he⟩;rw[qaa hz]at he;subst he;go_wp2_with fail
  refine(kz ((HA.o.alloc _).alloc _) (eu _ [127] qs rfl qs) qs qt).mono ?_;rintro ee d⟨hok2,-,-,f⟩;obtain⟨rfl,hA2⟩:=hok2 _ rfl;have HA2:=qH hA2;clear hok2 hA2;go_wp2;go_end0;exact Ends.dN HM.o HA2.o (((qr.alloc _).alloc _).trans f)
 by_cases l:x=64
 .subst l;have HM:qh (eG m 64 y Z=match dQ Z [127] with | .error e=>.error e | .ok st1=>.ok (fJ st1 [127])):=b.o;clear b;go_enter func191,ntmps191;go_wp2_with fail
  refine(lT (HA.o.alloc _) _).mono ?_;rintro ee w1⟨rfl,he⟩;rw[qaa hz]at he;subst he;go_wp2_with fail
  refine(take_at ((HA.o.alloc _).alloc _) hb (eu _ [127] qs rfl qs) (HA.o.alloc _).ne qs).mono ?_;rintro ee d⟨hok2,iA,hk2,f⟩;have hlow:Kept (λk=>k<W.heap.size/\¬K k) W d:=((qr.alloc _).alloc _).trans f;rcases hm2:dQ Z [127] with⟨q,p⟩|g
  .obtain rfl:=iA _ _ hm2;exact⟨rfl,Ends.dG (by rw[HM.o,hm2]) hk2 hlow⟩
  obtain⟨rfl,hA2⟩:=hok2 _ hm2;have hf:=eO HA.o.tidy.dK hm2;have Q:g.dB.length<=799000:=qo;have HE:qh (eG m 64 y Z=.ok (fJ g [127])):=by show _=_;rw[HM.o,hm2]
  have HA2:=qH hA2;clear hok2 iA hA2 hm2 HM hf;go_wp2_with fail
  refine(kz (HA2.o.alloc _) (eu d [127] rfl rfl qs) qs qt).mono ?_;rintro ee R⟨C,-,-,E⟩;obtain⟨rfl,D⟩:=C _ rfl;have F:=qH D;clear C D;go_wp2;go_end0;exact Ends.dN HE.o F.o (hlow.fK ((qr.alloc _).trans E) rfl)
 by_cases n:x=41
 .subst n;have HE:qh (eG m 41 y Z=kN 41 126 y Z):=b.o;clear b;go_enter func191,ntmps191;go_wp2_with fail
  refine(lT (HA.o.alloc _) _).mono ?_;rintro ee w1⟨rfl,he⟩;rw[qaa hz]at he;subst he;go_wp2_with fail
  refine(zU (HA.o.alloc _) hb a e 41 y pg pl ng cg nl cl 126 i rfl).mono ?_;rintro ee d⟨hok2,iA,hk2,f⟩;have hlow:Kept (λk=>k<W.heap.size/\¬K k) W d:=((qr.alloc _).trans f).mono (λk X c=>⟨X,c.2⟩);rcases hm2:kN 41 126 y Z with⟨q,p⟩|g
  .exact KU
  exact KW
 by_cases t:x=40
 .subst t;have HE:qh (eG m 40 y Z=kN 40 127 y Z):=b.o;clear b;go_enter func191,ntmps191;go_wp2_with fail
  refine(lT (HA.o.alloc _) _).mono ?_;rintro ee w1⟨rfl,he⟩;rw[qaa hz]at he;subst he;go_wp2_with fail
  refine(zU (HA.o.alloc _) hb a e 40 y pg pl ng cg nl cl 127 i rfl).mono ?_;rintro ee d⟨hok2,iA,hk2,f⟩;have hlow:Kept (λk=>k<W.heap.size/\¬K k) W d:=((qr.alloc _).trans f).mono (λk X c=>⟨X,c.2⟩);rcases hm2:kN 40 127 y Z with⟨q,p⟩|g
  .exact KU
  exact KW
 by_cases u:x=44
 .subst u;have HE:qh (eG m 44 y Z=kN 44 127 y Z):=b.o;clear b;go_enter func191,ntmps191;go_wp2_with fail
  refine(lT (HA.o.alloc _) _).mono ?_;rintro ee w1⟨rfl,he⟩;rw[qaa hz]at he;subst he;go_wp2_with fail
  refine(zU (HA.o.alloc _) hb a e 44 y pg pl ng cg nl cl 127 i rfl).mono ?_;rintro ee d⟨hok2,iA,hk2,f⟩;have hlow:Kept (λk=>k<W.heap.size/\¬K k) W d:=((qr.alloc _).trans f).mono (λk X c=>⟨X,c.2⟩);rcases hm2:kN 44 127 y Z with⟨q,p⟩|g
  .exact KU
  exact KW
 by_cases v:x=45
 .subst v;have HE:qh (eG m 45 y Z=kN 45 127 y Z):=b.o;clear b;go_enter func191,ntmps191;go_wp2_with fail
  refine(lT (HA.o.alloc _) _).mono ?_;rintro ee w1⟨rfl,he⟩;rw[qaa hz]at he;subst he;go_wp2_with fail
  refine(zU (HA.o.alloc _) hb a e 45 y pg pl ng cg nl cl 127 i rfl).mono ?_;rintro ee d⟨hok2,iA,hk2,f⟩;have hlow:Kept (λk=>k<W.heap.size/\¬K k) W d:=((qr.alloc _).trans f).mono (λk X c=>⟨X,c.2⟩);rcases hm2:kN 45 127 y Z with⟨q,p⟩|g
  .exact KU
  exact KW
 by_cases z:x=55
 .subst z;have HE:qh (eG m 55 y Z=jq 55 126 y Z):=b.o;clear b;go_enter func191,ntmps191;go_wp2_with fail
  refine(lT (HA.o.alloc _) _).mono ?_;rintro ee w1⟨rfl,he⟩;rw[qaa hz]at he;subst he;go_wp2_with fail
  refine(Ar (HA.o.alloc _) hb a e 55 y pg pl ng cg nl cl 126 rfl).mono ?_;rintro ee d⟨hok2,iA,hk2,f⟩;have hlow:Kept (λk=>k<W.heap.size/\¬K k) W d:=((qr.alloc _).trans f).mono (λk X c=>⟨X,c.2⟩);rcases hm2:jq 55 126 y Z with⟨q,p⟩|g
  .exact KU
  exact KW
 by_cases A:x=54
 .subst A;have HE:qh (eG m 54 y Z=jq 54 127 y Z):=b.o;clear b;go_enter func191,ntmps191;go_wp2_with fail
  refine(lT (HA.o.alloc _) _).mono ?_;rintro ee w1⟨rfl,he⟩;rw[qaa hz]at he;subst he;go_wp2_with fail
  refine(Ar (HA.o.alloc _) hb a e 54 y pg pl ng cg nl cl 127 rfl).mono ?_;rintro ee d⟨hok2,iA,hk2,f⟩;have hlow:Kept (λk=>k<W.heap.size/\¬K k) W d:=((qr.alloc _).trans f).mono (λk X c=>⟨X,c.2⟩);rcases hm2:jq 54 127 y Z with⟨q,p⟩|g
  .exact KU
  exact KW
 by_cases B:x=58
 .subst B;have HE:qh (eG m 58 y Z=jq 58 127 y Z):=b.o;clear b;go_enter func191,ntmps191;go_wp2_with fail
  refine(lT (HA.o.alloc _) _).mono ?_;rintro ee w1⟨rfl,he⟩;rw[qaa hz]at he;subst he;go_wp2_with fail
  refine(Ar (HA.o.alloc _) hb a e 58 y pg pl ng cg nl cl 127 rfl).mono ?_;rintro ee d⟨hok2,iA,hk2,f⟩;have hlow:Kept (λk=>k<W.heap.size/\¬K k) W d:=((qr.alloc _).trans f).mono (λk X c=>⟨X,c.2⟩);rcases hm2:jq 58 127 y Z with⟨q,p⟩|g
  .exact KU
  exact KW
 have HM:qh (eG m x y Z=.ok Z):=by
  show _=_;rw[b.o];simp only[j,l,n,t,u,v,z,A,B,or_self,qct]
 have S:((x:Int)==63)=false:=qe;have T:((x:Int)==64)=false:=qe;have U:((x:Int)==41)=false:=qe;have V:((x:Int)==40)=false:=qe;have aa:((x:Int)==44)=false:=qe;have ab:((x:Int)==45)=false:=qe;have ac:((x:Int)==55)=false:=qe;have ad:((x:Int)==54)=false:=qe;have ae:((x:Int)==58)=false:=qe;clear b j l n t u v z A B;go_enter func191,ntmps191;go_wp2_with fail
 refine(lT (HA.o.alloc _) _).mono ?_;rintro ee w1⟨rfl,he⟩;rw[qaa hz]at he;subst he;exact Vq
end
section
variable {K O N:qD}{w W:qW}{bb:Nat}{mp:qv}{Z:Bd}
theorem At.locals{a:qv}(h:At K O w W N bb mp a Z):W.cell? (qA bb 1)=some a:=by
 obtain⟨sv,c,b⟩:=h.body;exact b.blk.five.2.1.1
theorem BO{d:qO}{c0:Nat}{ls:qM}(h:At K O w W N bb mp (qX d ls c0) Z)(a e x:Nat)(y:fO)(pg pl:qO)(ng cg nl cl:Nat)(hx:0<=y.num.1/\y.num.1<=4294967295)(g:¬y.num.1<(ls.length:Int)):
  qC 249 #[qP bb,.agg (yC a e x y (.slice pg ng cg) (.slice pl nl cl)).toArray] W (Ends K O w W (λk=>k<W.heap.size) bb mp (qX d ls c0) (fT ls x y Z)):=by
 have HA:=qH h.up;have j:=h.body.lt;have l:=h.locals;obtain⟨h0,U⟩:=hx;have HM:qh (fT ls x y Z=.error (3,y.num.2)):=by show _=_;simp[fT,fE,g]
 clear h;go_enter func249,ntmps249;go_wp2_with fail
 have b:(λw':qW=>w'.cell? (qA bb 1)=some (qX d ls c0)/\w'.cell? (qA W.heap.size 6)=some (qI y.num.1)/\w'.cell? (qA W.heap.size 7)=some (qJ y.num.2)) ((W.alloc (.cells (yC a e x y (.slice pg ng cg) (.slice pl nl cl)).toArray 195)).drew):=by
  dsimp only;exact⟨(((Kept.refl (λ_=>False) W).alloc _).drew.cell j (λc=>c)).trans l,qs,qs⟩
 refine wp_region_held_drew (S:=λw':qW=>w'.cell? (qA bb 1)=some (qX d ls c0)/\w'.cell? (qA W.heap.size 6)=some (qI y.num.1)/\w'.cell? (qA W.heap.size 7)=some (qJ y.num.2)) qk b (λ_=>?_);refine ic 0 b ?_;refine ic 1 b ?_;refine ic 2 b ?_;refine ic 3 b ?_;refine ic 4 b ?_;refine ic 5 b ?_;refine ic 6 b ?_;refine ic 7 b ?_;refine ic 8 b ?_;refine ic 9 b ?_;refine ic 10 b ?_;refine wpAnyH_all (rs:=[11]) qk qs ?_;intro i hi;rw[qak]at hi;subst hi;refine kU (f:=67) (args:= #[.agg #[qI y.num.1,qJ y.num.2],qJ ls.length]) rfl rfl qk (jY _ qo h0 U) ?_;exact WL
theorem Dh{D:qO}{c0:Nat}{ls:qM}(h:At K O w W N bb mp (qX D ls c0) Z)(hb:Z.dn≠[])(Q:dH K ls W (qX D ls c0))(a e x:Nat)(y:fO)(pg pl:qO)(ng cg nl cl:Nat)(hx:0<=y.num.1/\y.num.1<=4294967295)(E:y.num.1<(ls.length:Int))(hs:Z.dB.length<=799000):
  qC 249 #[qP bb,.agg (yC a e x y (.slice pg ng cg) (.slice pl nl cl)).toArray] W (Ends K O w W (λk=>k<W.heap.size) bb mp (qX D ls c0) (fT ls x y Z)):=by
 have R:=qH h.up;have ao:=h.body.lt;have S:=h.locals;obtain⟨h0,U⟩:=hx;obtain⟨k,X⟩:∃k:Nat,y.num.1=(k:Int):=⟨y.num.1.toNat,qo⟩;have ak:k<ls.length:=qo;obtain⟨g,A,hv,ap,hg,hc,T⟩:=dH.cell Q ak;cases hv;have n:qh (fT ls x y Z=match(if x=32 then .ok Z else dQ Z [ls.getD k 0]) with | .error e=>.error e | .ok st1=>if x=33 then .ok st1 else .ok (fJ st1 [ls.getD k 0])):=by
  show _=_;have ht:fE y.num ls.length=.ok k:=by
   unfold fE;rw[qac E,X];simp
  simp only[fT,ht];rfl
 clear h Q;generalize ls.getD k 0=l at*;obtain⟨d,V,i,⟨yn,b⟩,Y,j⟩:=y;simp only at X E h0 U n ⊢;subst X;have n1:=World.new_ne W _ S;have n2:=World.new_ne W _ T;go_enter func249,ntmps249;go_wp2_with fail
 go_cut [4] from 5 to 18 (λv WW=>v=qB l/\WW=((W.alloc (.cells #[qJ a,qJ e,qB x,.bool d,.slice pg ng cg,qI i,qI (k:Int),qJ b,.slice pl nl cl,qJ j] 195)).alloc (.cells #[qI (k:Int),qJ b] 93)).drew)
 case first=>
  go_region_held3 (λw'=>w'.cell? (qA bb 1)=some (qL g ls.length c0)/\w'.cell? (qA W.heap.size 6)=some (qI (k:Int))/\w'.cell? (qA W.heap.size 7)=some (qJ b)/\w'.cell? (qA g k)=some (qB l)) (go_keep) ((refine dP (f:=67) (args:= #[.agg #[qI (k:Int),qJ b],qJ ls.length]) (by rfl) (by go_simp) (lG _ E h0 U) ?_;rintro F w'⟨rfl,rfl⟩;refine⟨_,rfl,?_⟩))
  all_goals
   go_wp2;go_meet;exact⟨rfl,rfl⟩
 obtain⟨rfl,rfl⟩:=hcut;have aa:=((R.o.alloc (.cells #[qJ a,qJ e,qB x,.bool d,.slice pg ng cg,qI i,qI (k:Int),qJ b,.slice pl nl cl,qJ j] 195)).alloc (.cells #[qI (k:Int),qJ b] 93)).drewN 1;have ab:Kept (λk=>k<W.heap.size/\¬K k) W (((W.alloc (.cells #[qJ a,qJ e,qB x,.bool d,.slice pg ng cg,qI i,qI (k:Int),qJ b,.slice pl nl cl,qJ j] 195)).alloc (.cells #[qI (k:Int),qJ b] 93)).drewN 1):=((qr.alloc _).alloc _).drewN _;have hX:(((W.alloc (.cells #[qJ a,qJ e,qB x,.bool d,.slice pg ng cg,qI i,qI (k:Int),qJ b,.slice pl nl cl,qJ j] 195)).alloc (.cells #[qI (k:Int),qJ b] 93)).drewN 1).cell? (qA W.heap.size 2)=some (qB x):=by
  have X:qK (W.alloc (.cells #[qJ a,qJ e,qB x,.bool d,.slice pg ng cg,qI i,qI (k:Int),qJ b,.slice pl nl cl,qJ j] 195)) (((W.alloc (.cells #[qJ a,qJ e,qB x,.bool d,.slice pg ng cg,qI i,qI (k:Int),qJ b,.slice pl nl cl,qJ j] 195)).alloc (.cells #[qI (k:Int),qJ b] 93)).drewN 1):=(qr.alloc _).drewN _;rw[X.cell (p:=(qA W.heap.size 2)) qs (λc=>c),qco];rfl
 have G:=qH aa;have al:W.heap.size<(((W.alloc (.cells #[qJ a,qJ e,qB x,.bool d,.slice pg ng cg,qI i,qI (k:Int),qJ b,.slice pl nl cl,qJ j] 195)).alloc (.cells #[qI (k:Int),qJ b] 93)).drewN 1).heap.size:=by simp;omega
 clear aa n1 n2 T S;generalize ac:((W.alloc (.cells #[qJ a,qJ e,qB x,.bool d,.slice pg ng cg,qI i,qI (k:Int),qJ b,.slice pl nl cl,qJ j] 195)).alloc (.cells #[qI (k:Int),qJ b] 93)).drewN 1=H at*;have ad:((W.alloc (.cells #[qJ a,qJ e,qB x,.bool d,.slice pg ng cg,qI i,qI (k:Int),qJ b,.slice pl nl cl,qJ j] 195)).alloc (.cells #[qI (k:Int),qJ b] 93)).drew=H:=ac;rw[ad];clear ac ad;by_cases m:x=32
 .have am:((x:Int) !=32)=false:=by simp[m]
  have ae:((x:Int) !=33)=true:=by rw[qcm];omega
  have t:qh (fT ls x ⟨d,V,i,((k:Int),b),Y,j⟩ Z=.ok (fJ Z [l])):=by show _=_;rw[n.o];simp[m]
  clear m n;go_wp2_with fail
  refine(kz (G.o.alloc _) (eu H [l] rfl rfl qs) qs qt).mono ?_;rintro F w3⟨u,-,-,I⟩;obtain⟨rfl,z⟩:=u _ rfl;have L:=qH z;clear u z;go_wp2;go_end0;exact Ends.dN t.o L.o ((ab.alloc _).trans I)
 have am:((x:Int) !=32)=true:=by rw[qcm];omega
 go_wp2_with fail
 refine(take_at (G.o.alloc _) hb (eu H [l] rfl rfl qs) G.o.ne qs).mono ?_;rintro F w2⟨af,ag,an,ah⟩;have M:=(ab.alloc _).trans ah;have aq:w2.cell? (qA W.heap.size 2)=some (qB x):=(ah.cell (p:=(qA W.heap.size 2)) qt (λc=>qcv _ c.1)).trans ((qat _ _ _ al).trans hX);rcases s:dQ Z [l] with⟨q,p⟩|P
 .obtain rfl:=ag _ _ s;exact⟨rfl,Ends.dG (by rw[n.o,qaa m,s]) an M⟩
 obtain⟨rfl,ai⟩:=af _ s;have hf:=eO R.o.tidy.dK s;have ar:P.dB.length<=799000:=qo;have aj:=qH ai;have C:qh (fT ls x ⟨d,V,i,((k:Int),b),Y,j⟩ Z=if x=33 then .ok P else .ok (fJ P [l])):=by show _=_;rw[n.o,qaa m,s]
 clear af ag ai s n hX hf;by_cases B:x=33
 .have ae:((x:Int) !=33)=false:=by simp[B]
  have t:=qH (C.o.trans (qac B));clear B m C;go_wp2;go_end0;exact Ends.dN t.o aj.o M
 have ae:((x:Int) !=33)=true:=by rw[qcm];omega
 have t:=qH (C.o.trans (qaa B));clear B m C;go_wp2_with fail
 refine(kz (aj.o.alloc _) (eu w2 [l] rfl rfl qs) qs qt).mono ?_;rintro F w3⟨u,-,-,I⟩;obtain⟨rfl,z⟩:=u _ rfl;have L:=qH z;clear u z;go_wp2;go_end0;exact Ends.dN t.o L.o (M.fK ((qr.alloc _).trans I) rfl)
end
section
variable {K O N:qD}{w W:qW}{bb Y:Nat}{lv:qv}{Z:Bd}{s:qS}{m:dX}
theorem D6(h:At K O w W N bb (qP Y) lv Z)(hm:MV s K W Y m)(x:Int×Nat)(hx:0<=x.1/\x.1<=4294967295):
  qC 248 #[qP bb,.agg #[qI x.1,qJ x.2]] W (Says (λ_=>False) W (gD m x) isGlobal):=by
 obtain⟨sv,c,a⟩:=h.body;by_cases b:x.1<(m.dI.length:Int)
 .exact Ot a.blk hm hx b
 exact Ke a.blk hm hx b
theorem Du(h:At K O w W N bb (qP Y) lv Z)(hm:MV s K W Y m)(x:Int×Nat)(hx:0<=x.1/\x.1<=4294967295):
  qC 246 #[qP bb,.agg #[qI x.1,qJ x.2]] W (Says (λ_=>False) W (iH m x) (isTypeOf K)):=by
 obtain⟨sv,c,a⟩:=h.body;by_cases b:x.1<(m.dx.length:Int)
 .exact L6 a.blk hm hx b
 exact Jd a.blk hm hx b
theorem Kh(a b c d f:qv)(w:qW):(Instr.field 84 (.agg #[a,b,c,d,f]) 0).run prog w=.ok a w:=qk
theorem At.quiet{a:qW}(h:At K O w W N bb (qP Y) lv Z)(X:qK W a):At K O w a N bb (qP Y) lv Z:=by
 obtain⟨sv,b,d⟩:=h.body;exact⟨h.kept.fresh X (λ_ _ c=>c.elim),⟨sv,b,d.kept X (λ_ _ c=>c.elim)⟩,h.kb,h.pY,h.tidy,h.tY,h.stk⟩
theorem yJ{l:qO}{c0:Nat}{ls:qM}(h:At K O w W N bb (qP Y) (qX l ls c0) Z)(hb:Z.dn≠[])(hm:MV s K W Y m)(M:dH K ls W (qX l ls c0))(a e x:Nat)(y:fO)(pg pl:qO)(ng cg nl cl:Nat)(hx:0<=y.num.1/\y.num.1<=4294967295)(Q:Z.dB.length<=799000):
  qC 190 #[qP bb,.agg (yC a e x y (.slice pg ng cg) (.slice pl nl cl)).toArray] W (Ends K O w W (λk=>k<W.heap.size) bb (qP Y) (qX l ls c0) (eF m ls x y Z)):=by
 have i:=qH h.up;have ag:=Kh;have R:=qH hm;have ac:=qH M;have C:Kept (λk=>k<W.heap.size/\¬K k) W (W.alloc (.cells (yC a e x y (.slice pg ng cg) (.slice pl nl cl)).toArray 195)):=qr.alloc _;clear h hm M;by_cases D:x=26
 .subst D;have HN:qh (eF m ls 26 y Z=match fe Z with | .error e=>.error e | .ok (_,st1)=>.ok st1):=rfl;go_enter func190,ntmps190;go_wp2_with fail
  refine(vX (i.o.alloc _) hb).mono ?_;rintro j b⟨hok2,iA,hk2,t⟩;have d:Kept (λk=>k<W.heap.size/\¬K k) W b:=(qr.alloc _).trans t;rcases hm2:fe Z with⟨q,p⟩|⟨k2,E⟩
  .obtain rfl:=iA _ _ hm2;exact⟨rfl,Ends.dG (by rw[HN.o,hm2]) hk2 d⟩
  obtain⟨rfl,hA2,-,-,-⟩:=hok2 _ _ hm2;have f:qh (eF m ls 26 y Z=.ok E):=by show _=_;rw[HN.o,hm2]
  have HA2:=qH hA2;clear hok2 iA hm2 hA2 HN C;go_wp2;go_end0;exact Ends.dN f.o HA2.o d
 by_cases F:x=27
 .subst F;have HN:qh (eF m ls 27 y Z=fH Z):=rfl;go_enter func190,ntmps190;go_wp2_with fail
  refine(BL (i.o.alloc _) hb Q).mono ?_;rintro j b⟨hok2,iA,hk2,t⟩;have hlow:Kept (λk=>k<W.heap.size/\¬K k) W b:=((qr.alloc _).trans t).mono (λk X c=>⟨X,c.2⟩);rcases hm2:fH Z with⟨q,p⟩|E
  .exact II
  exact IK
 by_cases G:x=35
 .subst G;have HN:qh (eF m ls 35 y Z=match gD m y.num with | .error e=>.error e | .ok g=>.ok (fJ Z [g.kind])):=rfl;go_enter func190,ntmps190;go_wp2_with fail
  refine(D6 (i.o.alloc _) (R.o.kept ((Kept.refl (λ_=>False) _).alloc _) (λ_ _ _ c=>c)) y.num hx).mono ?_;rintro j b⟨hk2,hok2,iA⟩;have hA2:=(i.o.alloc (.cells #[qJ a,qJ e,qB 35,.bool y.typed,.slice pg ng cg,qI y.align,qI y.num.1,qJ y.num.2,.slice pl nl cl,qJ y.val] 195)).quiet hk2;have d:Kept (λk=>k<W.heap.size/\¬K k) W b:=(qr.alloc _).trans (hk2.mono (λ_ _ c=>c.elim));rcases hm2:gD m y.num with⟨q,p⟩|g
  .obtain rfl:=iA _ _ hm2;exact⟨rfl,Ends.dG (by rw[HN.o,hm2]) hA2.kept d⟩
  obtain⟨v,rfl,hv⟩:=hok2 _ hm2;obtain rfl:v=.agg #[qB g.kind,.bool g.sO,qJ g.first.at_,qB g.first.kind,qJ g.first.val]:=hv;have f:qh (eF m ls 35 y Z=.ok (fJ Z [g.kind])):=by show _=_;rw[HN.o,hm2]
  have HA2:=qH hA2;clear hok2 iA hm2 hA2 HN C;go_wp2_with fail
  refine(kz (HA2.o.alloc _) (eu b [g.kind] rfl rfl qs) qs qt).mono ?_;rintro j S⟨u,-,-,H⟩;obtain⟨rfl,z⟩:=u _ rfl;have I:=qH z;clear u z;go_wp2;go_end0;exact Ends.dN f.o I.o ((d.alloc _).trans H)
 by_cases L:x=36
 .subst L;have HN:qh (eF m ls 36 y Z=match gD m y.num with | .error e=>.error e | .ok g=>if g.sO then dQ Z [g.kind] else .error (4,Z.at_)):=rfl;go_enter func190,ntmps190;go_wp2_with fail
  refine(D6 (i.o.alloc _) (R.o.kept ((Kept.refl (λ_=>False) _).alloc _) (λ_ _ _ c=>c)) y.num hx).mono ?_;rintro j b⟨hk2,hok2,iA⟩;have hA2:=(i.o.alloc (.cells #[qJ a,qJ e,qB 36,.bool y.typed,.slice pg ng cg,qI y.align,qI y.num.1,qJ y.num.2,.slice pl nl cl,qJ y.val] 195)).quiet hk2;have d:Kept (λk=>k<W.heap.size/\¬K k) W b:=(qr.alloc _).trans (hk2.mono (λ_ _ c=>c.elim));rcases hm2:gD m y.num with⟨q,p⟩|g
  .obtain rfl:=iA _ _ hm2;exact⟨rfl,Ends.dG (by rw[HN.o,hm2]) hA2.kept d⟩
  obtain⟨v,rfl,hv⟩:=hok2 _ hm2;obtain rfl:v=.agg #[qB g.kind,.bool g.sO,qJ g.first.at_,qB g.first.kind,qJ g.first.val]:=hv;have f:qh (eF m ls 36 y Z=if g.sO then dQ Z [g.kind] else .error (4,Z.at_)):=by show _=_;rw[HN.o,hm2]
  have HA2:=qH hA2;clear hok2 iA hm2 hA2 HN C;cases T:g.sO with
  | false=>
   have A:qh (eF m ls 36 y Z=.error (4,Z.at_)):=by show _=_;rw[f.o,T];rfl
   clear f;go_wp2_with fail
   refine(rW (HA2.o.alloc _)).mono ?_;rintro j S⟨rfl,rfl⟩;exact⟨rfl,Ends.dG A.o (HA2.o.kept.alloc _) (d.alloc _)⟩
  | true=>
   have A:qh (eF m ls 36 y Z=dQ Z [g.kind]):=by show _=_;rw[f.o,T];rfl
   clear f;go_wp2_with fail
   refine(take_at ((HA2.o.alloc _).alloc _) hb (eu _ [g.kind] qs rfl qs) (HA2.o.alloc _).ne qs).mono ?_;rintro j S⟨u,U,ad,H⟩;have V:=((d.alloc _).alloc _).trans H;rcases B:dQ Z [g.kind] with⟨q,p⟩|ah
   .obtain rfl:=U _ _ B;exact⟨rfl,Ends.dG (A.o.trans B) ad V⟩
   obtain⟨rfl,z⟩:=u _ B;have I:=qH z;have HE:=qH (A.o.trans B);clear u U B z A;go_wp2;go_end0;exact Ends.dN HE.o I.o V
 have HN:qh (eF m ls x y Z=fT ls x y Z):=by show _=_;unfold eF;rw[qaa D,qaa F,qaa G,qaa L]
 have ai:((x:Int)==26)=false:=qe;have aj:((x:Int)==27)=false:=qe;have ak:((x:Int)==35)=false:=qe;have al:((x:Int)==36)=false:=qe;clear D F G L C;have ae:qh (∀n,At K O w n (λk=>k<W.heap.size) bb (qP Y) (qX l ls c0) Z->dH K ls n (qX l ls c0)->qC 249 #[qP bb,.agg (yC a e x y (.slice pg ng cg) (.slice pl nl cl)).toArray] n (Ends K O w n (λk=>k<n.heap.size) bb (qP Y) (qX l ls c0) (fT ls x y Z))):=by
  intro n aa af;by_cases ab:y.num.1<(ls.length:Int)
  .exact Dh aa hb af a e x y pg pl ng cg nl cl hx ab Q
  exact BO aa a e x y pg pl ng cg nl cl hx ab
 go_enter func190,ntmps190;go_wp2_with fail
 refine(ae.o _ (i.o.alloc _) (Row.alloc ac.o _)).mono ?_;rintro j b⟨hok2,iA,hk2,t⟩;have hlow:Kept (λk=>k<W.heap.size/\¬K k) W b:=((qr.alloc _).trans t).mono (λk X c=>⟨X,c.2⟩);rcases hm2:fT ls x y Z with⟨q,p⟩|E
 .exact II
 exact IK
end
theorem Il(w:qW)(a b:Nat):(w.drewN a).drewN b=w.drewN (a+b):=qs
theorem mW{ok ok':qD}{w:qW}{us vs:qM}{pa pb:qO}{ca cb:Nat}(p:dH ok us w (qX pa us ca))(hb:dH ok' vs w (qX pb vs cb))(hl:us.length<=50):
  qC 241 #[qX pa us ca,qX pb vs cb] w λe w'=>e=.returned (.bool (decide (us=vs)))/\∃k,w'=w.drewN k:=by
 by_cases a:us.length=vs.length
 .have r:((us.length:Int) !=(vs.length:Int))=false:=by simp[a]
  have g:=qH a;clear a;go_enter func241,ntmps241;go_wp2;go_loopw [13] (λq wr=>∃k:Nat,k<=us.length/\q=qJ k/\(∃j,wr=w.drewN j)/\∀i,i<k->us.getD i 0=vs.getD i 0) (λq _=>us.length - (intOf q).toNat)
  case atStart=>exact⟨0,qZ,rfl,⟨0,rfl⟩,λi hi=>absurd hi (Nat.not_lt_zero _)⟩
  obtain⟨k,X,rfl,⟨j,rfl⟩,l⟩:=hrel;have d:=qH l;clear l;by_cases t:k<us.length
  .have hlt':(k:Int)<(us.length:Int):=qo;have D:(k:Int)<(vs.length:Int):=by have:=g.o;omega
   obtain⟨E,c1,u,-,F,-,v⟩:=dH.cell p t;obtain⟨gb,c2,z,-,G,-,A⟩:=dH.cell hb (i:=k) qo;cases u;cases z;by_cases b:us.getD k 0=vs.getD k 0
   .have f:(((us.getD k 0:Nat):Int) !=((vs.getD k 0:Nat):Int))=false:=by rw[b,bne_self_eq_false]
    have n:=qH b;have B:qh (∀i,i<k+1->us.getD i 0=vs.getD i 0):=λi hi=>by
     by_cases h:i=k
     .subst h;exact n.o
     exact d.o i qo
    clear b d n;generalize us.getD k 0=x at f v;generalize vs.getD k 0=y at f A;go_wp2;go_quiet (fail)
    go_wp2;go_roundw
    case rel=>exact⟨k+1,qo,by go_num,⟨_,rfl⟩,B.o⟩
    simp[intOf];omega
   have f:(((us.getD k 0:Nat):Int) !=((vs.getD k 0:Nat):Int))=true:=by rw[qcm];omega
   have c:qh (decide (us=vs)=false):=decide_eq_false (λe=>b (by rw[e]));clear b;generalize us.getD k 0=x at*;generalize vs.getD k 0=y at*;go_wp2;go_quiet (fail)
   go_wp2;go_ret;exact⟨by rw[c.o];rfl,_,Il _ _ _⟩
  have c:qh (decide (us=vs)=true):=by
   refine decide_eq_true (List.ext_getElem (by exact g.o) (λi U C=>?_));have:=d.o i qo;simpa [U,C] using this
  go_wp2;go_ret;exact⟨by rw[c.o];rfl,_,rfl⟩
 have r:((us.length:Int) !=(vs.length:Int))=true:=by rw[qcm];omega
 have c:qh (decide (us=vs)=false):=decide_eq_false (λe=>a (by rw[e]));clear a;go_enter func241,ntmps241;go_wp2;go_ret;exact⟨by rw[c.o];rfl,0,rfl⟩
section
variable {K O N:qD}{w W:qW}{bb Y:Nat}{lv:qv}{Z:Bd}{s:qS}{m:dX}
theorem xY(h:At K O w W N bb (qP Y) lv Z)(hm:MV s K W Y m)(a e x:Nat)(y:fO)(pg pl:qO)(cg nl cl:Nat)(hx:0<=y.num.1/\y.num.1<=4294967295)(b:dH K y.dL W (qX pg y.dL cg)):
  qC 239 #[qP bb,.agg #[qJ a,qJ e,qB x,.bool y.typed,qX pg y.dL cg,qI y.align,qI y.num.1,qJ y.num.2,.slice pl nl cl,qJ y.val]] W (Says (λ_=>False) W (eU m y) (isTypeOf K)):=by
 have j:=qH h.up;have F:=qH hm;have G:=qH b;clear h hm b;cases r:y.typed with
 | false=>
  have d:qh (eU m y=.ok ⟨[],y.dL⟩):=by show _=_;simp[eU,r]
  go_enter func239,ntmps239;go_wp2;refine qal (v:=.agg #[qN,qX pg y.dL cg]) ?_ rfl ?_
  .simp[results,results239,go_sem]
  have X:=((Kept.refl (λ_=>False) W).alloc (.cells #[qJ a,qJ e,qB x,.bool false,qX pg y.dL cg,qI y.align,qI y.num.1,qJ y.num.2,.slice pl nl cl,qJ y.val] 195)).alloc (.cells #[qN,qX pg y.dL cg] 100);exact Says.dN d.o X ⟨_,_,rfl,Row.nil _ _ _ _,Row.kept G.o X (λ_ _ _ c=>c)⟩
 | true=>
  have d:qh (eU m y=iH m y.num):=by show _=_;simp[eU,r]
  have u:∀z A,qK W ((W.alloc z).alloc A):=λz A=>(qr.alloc _).alloc _;go_enter func239,ntmps239;go_wp2_with fail
  refine(Du ((j.o.alloc _).alloc _) (F.o.kept (u _ _) (λ_ _ _ c=>c)) y.num hx).mono ?_;rintro T V⟨k,B,C⟩;have D:=(u _ _).trans k;have E:=((jf.new' (w:=W.alloc (.cells #[qJ a,qJ e,qB x,.bool true,qX pg y.dL cg,qI y.align,qI y.num.1,qJ y.num.2,.slice pl nl cl,qJ y.val] 195)) (g:=W.heap.size+1) (c:= #[qN,qN]) (t:=100) qs)).kept k qs (λc=>c);have aa:=k.size;rcases f:iH m y.num with⟨q,p⟩|t
  .obtain rfl:=C _ _ f;exact⟨rfl,Says.dG (d.o.trans f) D⟩
  obtain⟨v,rfl,vi,vo,rfl,l,n⟩:=B _ f;obtain⟨H,I,rfl⟩:=Row.shape l;obtain⟨J,L,rfl⟩:=Row.shape n;obtain⟨⟨M,S0⟩,⟨P,S1⟩⟩:=E.two;have Q:=qH (d.o.trans f);have R:=qH l;have S:=qH n;have i:∀g,K g->g≠W.heap.size+1:=λg b e=>by
   have U:=j.o.kb g b;have ab:=j.o.kept.size;omega
  clear B C f l n E d;go_wp2;refine qal (v:=.agg #[qX H t.ins I,qX J t.outs L]) ?_ rfl ?_
  .simp[results,results239,go_sem,M,P]
  exact Says.dN Q.o ((D.new qo _).new qo _) ⟨_,_,rfl,Row.other (Row.other R.o (λg b=>i g b) _) (λg b=>i g b) _,Row.other (Row.other S.o (λg b=>i g b) _) (λg b=>i g b) _⟩
end
section
variable {w0 w:qW}{ok:qD}
theorem Pq{p q r s:qD}{a b c d:qM}{j k l m:qv}(g:dH p a w j)(hb:dH q b w k)(hc:dH r c w l)(h:dH s d w m)(hl:a.length<=50/\b.length<=50):
  qC 274 #[.agg #[j,k],.agg #[l,m]] w λe w'=>e=.returned (.bool (decide (a=c/\b=d)))/\qK w w':=by
 obtain⟨pa,ca,rfl⟩:=Row.shape g;obtain⟨pb,cb,rfl⟩:=Row.shape hb;obtain⟨t,u,rfl⟩:=Row.shape hc;obtain⟨v,x,rfl⟩:=Row.shape h;have f:qK w ((w.alloc (.cells #[qX pa a ca,qX pb b cb] 100)).alloc (.cells #[qX t c u,qX v d x] 100)):=(qr.alloc _).alloc _;have y:=qH (Row.kept g f (λ_ _ _ c=>c));have z:=qH (Row.kept hb f (λ_ _ _ c=>c));have A:=qH (Row.kept hc f (λ_ _ _ c=>c));have B:=qH (Row.kept h f (λ_ _ _ c=>c));clear g hb hc h f;go_enter func274,ntmps274;go_wp2_with fail
 refine(mW y.o A.o hl.1).mono ?_;rintro e E⟨rfl,n,rfl⟩;by_cases U:a=c
 .rw[show decide (a=c)=true by simp[U]];have i:qh (decide (a=c/\b=d)=decide (b=d)):=by show _=_;simp[U]
  have C:=qH (Row.kept z.o ((Kept.refl (λ_=>False) _).drewN n) (λ_ _ _ c=>c));have D:=qH (Row.kept B.o ((Kept.refl (λ_=>False) _).drewN n) (λ_ _ _ c=>c));clear U;go_wp2_with fail
  refine(mW C.o D.o hl.2).mono ?_;rintro e F⟨rfl,G,rfl⟩;go_wp2;go_ret;exact⟨by rw[i.o];rfl,((qr.alloc _).alloc _).drewN _⟩
 rw[show decide (a=c)=false by simp[U]];have i:qh (decide (a=c/\b=d)=false):=by show _=_;simp[U]
 clear U;go_wp2;go_ret;exact⟨by rw[i.o];rfl,((qr.alloc _).alloc _).drewN _⟩
end
def nY(l:List Int):List Value:=l.map λn=>qJ n
structure Cf(Xq:List It)(E:Ev)(tv bv:Value)(Ti To:Nat->Value):Prop where
 tb:jl Xq 3 1 bv E.iL.length (nY E.iL)
 ty:jl Xq 100 2 tv E.tys.length ((List.range E.tys.length).flatMap λt=>[Ti t,To t])
 ki:∀(t:Nat)(T:Ty),E.tys[t]?=some T->jl Xq 80 1 (Ti t) T.ins.length (kindCells T.ins)/\jl Xq 80 1 (To t) T.outs.length (kindCells T.outs)
 lo:∀n∈E.iL,-1<=n
 f50:∀(j:Nat)(F:PF),E.fs[j]?=some F->F.ty.ins.length<=50/\F.ty.outs.length<=50
section
variable {w0 w:qW}{G:Gm}{E:Ev}{Q:Nat->Gf}{rb Y fu most:Nat}{tv fv ev bv:qv}{Xq:List It}{s s':Rn}{f k:Nat}{F:PF}{p:PS}{Ti To:Nat->qv}
theorem PI{why:Nat}(h:RA w0 G rb Y fu tv fv ev bv most Xq s w)(z:jg Xq G E Q fv)(q:Cf Xq E tv bv Ti To)(ad:E.fs[f]?=some F)(X:F.ss[k]?=some p)(ae:∀(j:Nat)(F:PF),E.fs[j]?=some F->0<F.bs.length/\F.loc<=100000)(hl:s.stk.length<=300000)(af:s.lab.length<=100000)(ag:s.eY.length<=50)(hc:Hg E p s=some (s',why)):qC 257 #[qP rb,.pointer (some ⟨G.sg f,k*5,none⟩)] w λe w'=>e=.returned (qJ why)/\RA w0 G rb Y fu tv fv ev bv most Xq s' w':=by
 have ah:qh (∀V l,Sx w0 V l->(∀p∈Xq,p∈l)->V.cell? ⟨G.sg f,k*5+2,none⟩=some (qI p.num)/\G.sg f<V.heap.size):=λV l d hl=>z.Jm d hl ad X (o:=2) qo;obtain⟨v,h⟩:=h;obtain⟨pb,cb,ai⟩:=Row.shape (q.tb.row h fG);subst ai;unfold Hg at hc;cases hp:s.pop with
 | none=>rw[hp]at hc;cases hc
 | some ns=>
  obtain⟨n,I⟩:=ns;rw[hp]at hc;simp only at hc;obtain⟨W,p2,-,-,p5⟩:=eZ hp;have aj:I.stk.length<=300000:=qo;have ak:I.lab.length<=100000:=by rw[W];exact af
  have al:I.eY.length<=50:=by rw[p2];exact ag
  obtain⟨a0,b0⟩:=h.c 0 0 rfl rfl;have am:=h.lt 0 rfl;have Z:=qH (fI ⟨v,h⟩ hl hp);have an:=wrap_u32 n;have ao:=rF n;obtain⟨u,hu⟩:=qE (u32 n);rw[<-hu]at an ao hc;have ax:IntKind.i64.wrap (u:Int)=(u:Int):=qaf _ ⟨qo,qo⟩;have H:=qH hc;clear h hp hc W p2 p5 hu;go_enter func257,ntmps257;go_wp2_with fail
  refine Z.o.mono ?_;rintro e w1⟨rfl,v1,U⟩;obtain⟨a3,b3⟩:=U.c 4 3 rfl rfl;have ay:=U.lt 4 rfl;clear a0 b0 am Z;have hc:=H.o;clear H;cases b:E.iL[u]? with
  | none=>
   rw[b]at hc;cases hc;have ap:(E.iL.length:Int)<=(u:Int):=by have:=List.getElem?_eq_none_iff.1 b;omega
   have aA:¬((u:Int)<(E.iL.length:Int)):=qo;have B:=qH U;clear U b;go_wp2;go_ret;exact⟨rfl,_,B.o⟩
  | some fn=>
   rw[b]at hc;simp only at hc;have aB:u<E.iL.length:=(qae.1 b).1;have aC:(u:Int)<(E.iL.length:Int):=qo;have ap:¬(E.iL.length:Int)<=(u:Int):=qo;obtain⟨gb,aD,aq,-,aE,aF,L⟩:=Row.cells (q.tb.row U fG) (show 0<E.iL.length by omega);cases aq;have c6:w1.cell? (qA gb u)=some (qJ fn):=(L u qo).trans (by unfold nY;rw[qbk,b];rfl);by_cases M:fn= -1
   .rw[qac M]at hc;cases hc;subst M;have B:=qH U;clear U b L;go_wp2;go_ret;exact⟨rfl,_,B.o⟩
   rw[qaa M]at hc;have aG:=q.lo fn (qai b);obtain⟨j,rfl⟩:∃j:Nat,fn=(j:Int):=⟨fn.toNat,qo⟩;rw[Int.toNat_natCast]at hc;have tm:((j:Int)== -1)=false:=qs;cases r:E.fs[j]? with
   | none=>rw[r]at hc;cases hc
   | some g=>
    rw[r]at hc;cases J:E.tys[p.num]? with
    | none=>rw[J]at hc;cases hc
    | some C=>
     rw[J]at hc;simp only at hc;obtain⟨i1,i2⟩:=q.f50 j g r;obtain⟨k1,k2⟩:=z.ki j g r;obtain⟨k3,k4⟩:=q.ki _ _ J;have ar:p.num<E.tys.length:=(qae.1 J).1;obtain⟨y,N,au,-,aH,aI,-⟩:=Row.cells (q.ty.row U fG) (show 0<E.tys.length by omega);subst au;obtain⟨A,aw,-⟩:=z.row;have aJ:(j:Int)<(E.fs.length:Int):=by have:=(qae.1 r).1;omega
     have aK:(p.num:Int)<(E.tys.length:Int):=qo;have O:∀V:qW,Sx w0 V (LM G rb Y fu (qL y E.tys.length N) fv ev (qL gb E.iL.length cb) most v1 I Xq)->
       V.cell? (qA Y 1)=some (qL G.fg E.fs.length A)/\V.cell? (qA Y 0)=some (qL y E.tys.length N)/\V.cell? ⟨G.fg,j*5,none⟩=some (Q j).iv/\V.cell? ⟨G.fg,j*5+1,none⟩=some (Q j).ov/\V.cell? ⟨y,p.num*2,none⟩=some (Ti p.num)/\V.cell? ⟨y,p.num*2+1,none⟩=some (To p.num)/\V.cell? ⟨G.sg f,k*5+2,none⟩=some (qI p.num):=λV d=>by
      obtain⟨_,_,e1,-,-,-,q1⟩:=Row.cells (q.ty.row d fG) (show 0<E.tys.length by omega);cases e1;have hg:=λo (ho:o<2)=>flat_get (f:=λt=>[Ti t,To t]) (xs:=List.range E.tys.length) (m:=2) (o:=o) (λ_=>rfl) (List.getElem?_range ar) ho;exact⟨by rw[<-aw];exact(d.c 4 1 rfl rfl).1,(d.c 4 0 rfl rfl).1,(z.fn d fG r (o:=0) qo).1,(z.fn d fG r (o:=1) qo).1,(q1 (p.num*2) qo).trans (hg 0 qo),(q1 (p.num*2+1) qo).trans (hg 1 qo),(ah.o _ _ d fG).1⟩
     have aa:=O _ U.drew;have ab:=qH (Pq (k1.row U.drew fG) (k2.row U.drew fG) (k3.row U.drew fG) (k4.row U.drew fG) ⟨i1,i2⟩);have H:=qH hc;have B:=qH U;clear hc U L b k1 k2 k3 k4;go_upto_region 6 with fail
     refine jU (λV:qW=>V.cell? (qA Y 1)=some (qL G.fg E.fs.length A)/\V.cell? (qA Y 0)=some (qL y E.tys.length N)/\V.cell? ⟨G.fg,j*5,none⟩=some (Q j).iv/\V.cell? ⟨G.fg,j*5+1,none⟩=some (Q j).ov/\V.cell? ⟨y,p.num*2,none⟩=some (Ti p.num)/\V.cell? ⟨y,p.num*2+1,none⟩=some (To p.num)/\V.cell? ⟨G.sg f,k*5+2,none⟩=some (qI p.num)) 19 ?_;iterate 18 refine nE aa ?_ (hy:=by(refine Or.inl ⟨by rfl,?_⟩;intro _ d;obtain⟨_,_,_,_,_,_,_⟩:=d;go_simp;try with_reducible rfl))
     refine jO (λK i=>?_);refine dP (f:=274) (args:= #[.agg #[(Q j).iv,(Q j).ov],.agg #[Ti p.num,To p.num]]) (by rfl) (by go_simp) ab.o ?_;rintro e w2⟨rfl,ac⟩;have R:=B.o.drew.to ac;have T:=O _ R;refine⟨_,rfl,i _ _ (.inr T) ?_⟩;clear i K aa O ac ab;simp only[Act.put,qy,qz,qw];have hc:=H.o;have H2:=qH R;clear H R B;by_cases D:g.ty.ins=C.ins/\g.ty.outs=C.outs
     .rw[qac D]at hc;rw[show decide (g.ty.ins=C.ins/\g.ty.outs=C.outs)=true by simp[D]];have HE:=qH (wo H2.o z (ae _) aj ak al hc);clear hc D;refine iU (λK i=>?_);go_simp;refine i _ _ ?_;clear i K T;go_wp2_with fail
      refine HE.o.mono ?_;rintro e w3⟨rfl,h3⟩;have H3:=qH h3;clear h3 HE;go_wp2;go_ret;exact⟨rfl,H3.o⟩
     rw[qaa D]at hc;rw[show decide (g.ty.ins=C.ins/\g.ty.outs=C.outs)=false by simpa using D];cases hc;clear D;refine iU (λK i=>?_);go_simp;refine i _ _ ?_;clear i K T;go_wp2;go_ret;exact⟨rfl,_,H2.o⟩
end
section
variable {w:qW}{ok YH:qD}{dx:List Ty}{x j e bh:Nat}{y:fO}{pg pq pt:qO}{cg cq ct:Nat}
theorem IC(m:gI 100 2 nZ ok dx w (qX pt dx ct))(hy:y.typed=true->0<=y.num.1/\y.num.1<(dx.length:Int)):
  qC 134 #[.agg (yC j e x y (qX pg y.dL cg) (qX pq y.dA cq)).toArray,qX pt dx ct,qJ bh] w λe w'=>e=.returned (.agg (uu (nH dx x y bh)).toArray)/\qK w w':=by
 obtain⟨B,a⟩:=qE (nH dx x y bh);rw[<-a];unfold nH SA at a;have s:∀b d f,qK w (((w.alloc b).alloc d).alloc f):=λb d f=>((qr.alloc _).alloc _).alloc _;cases h:y.typed with
 | false=>
  rw[h]at a;simp only[qbu,qct]at a;obtain⟨typed,dL,align,num,dA,val⟩:=y;simp only at h a ⊢;subst h;by_cases i:x=3
  .subst i;rw[qac rfl]at a;have l:=qH a;clear a hy m;go_enter func134,ntmps134;go_wp2;refine qal (v:=.agg #[.bool true,qJ 0,qJ 0,qJ bh,qJ 0]) ?_ rfl ⟨by rw[l.o];rfl,((qr.alloc _).alloc _).alloc _⟩;simp[results,results134,go_sem]
  rw[qaa i]at a;have u:((x:Int)==3)=false:=by simp;omega
  have l:=qH a;clear a hy m i;go_enter func134,ntmps134;go_wp2;refine qal (v:=.agg #[.bool false,qJ 0,qJ dL.length,qJ 0,qJ 0]) ?_ rfl ⟨by rw[l.o];rfl,((qr.alloc _).alloc _).alloc _⟩;simp[results,results134,go_sem]
 | true=>
  obtain⟨h0,U⟩:=hy h;rw[h]at a;simp only[qda]at a;obtain⟨typed,dL,align,⟨num,F⟩,dA,val⟩:=y;simp only at h a h0 U ⊢;subst h;obtain⟨k,rfl⟩:∃k:Nat,num=k:=⟨num.toNat,qo⟩;have X:k<dx.length:=qo;obtain⟨g,A,G,H,hv,t,I,n,q,c0,c1⟩:=sJ m X;cases hv;have r:dx.getD (k:Int).toNat ⟨[],[]⟩=dx[k]:=by simp[X]
  rw[r]at a;obtain⟨z,C,rfl⟩:=Row.shape n;obtain⟨D,E,rfl⟩:=Row.shape q;generalize dx[k]=T at*;have J:∀b d f,(((w.alloc b).alloc d).alloc f).cell? ⟨g,k*2,none⟩=some (qX z T.ins C):=λb d f=>((s b d f).cell (p:=⟨g,k*2,none⟩) t (λc=>c)).trans c0;have K:∀b d f,(((w.alloc b).alloc d).alloc f).cell? ⟨g,k*2+1,none⟩=some (qX D T.outs E):=λb d f=>((s b d f).cell (p:=⟨g,k*2+1,none⟩) t (λc=>c)).trans c1;clear hy;by_cases i:x=3
  .subst i;rw[qac rfl]at a;have l:=qH a;clear a m n q r X;go_enter func134,ntmps134;go_wp2;refine qal (v:=.agg #[.bool true,qJ T.ins.length,qJ T.ins.length,qJ bh,qJ 0]) ?_ rfl ⟨by rw[l.o];rfl,((qr.alloc _).alloc _).alloc _⟩;simp[results,results134,go_sem]
  rw[qaa i]at a;have u:((x:Int)==3)=false:=by simp;omega
  have l:=qH a;clear a m n q r X i;go_enter func134,ntmps134;go_wp2;refine qal (v:=.agg #[.bool false,qJ T.ins.length,qJ T.outs.length,qJ 0,qJ 0]) ?_ rfl ⟨by rw[l.o];rfl,((qr.alloc _).alloc _).alloc _⟩;simp[results,results134,go_sem]
end
end Go.Proofs.YtfkcodlceoghpaaGreatDoor
