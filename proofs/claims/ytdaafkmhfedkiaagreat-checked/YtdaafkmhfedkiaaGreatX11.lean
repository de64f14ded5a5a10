import Derived.Test.YtdaafkmhfedkiaaGreatX10
namespace Go.Proofs.YtdaafkmhfedkiaaGreat
set_option maxHeartbeats 6400000
set_option maxRecDepth 100000
open Go.RowKit Go.Proofs.Tryz
structure At(K O:Nat->Prop)(w W:World)(N:Nat->Prop)(bb:Nat)(mp lv:Value)(Z:Bd):Prop where
 kept:Kept O w W
 body:jJ K (fun k=>More O w k/\N k) W bb mp lv Z
 kb:∀k,K k->k<w.heap.size
 x8:∀k,O k->¬K k
 tidy:Tidy Z
 zK:Z.dh.length<=55
 stk:Z.di.length<=800000
section
variable {K O N:qD} {w W:qW} {bb:Nat} {mp lv:qv} {Z:Bd}
theorem jJ.x8(h:jJ K O w bb mp lv Z):∀k,O k->¬K k:=by
 obtain⟨a,b,h⟩:=h;exact h.x8
theorem jJ.kb(h:jJ K O w bb mp lv Z):∀k,K k->k<w.heap.size:=by
 obtain⟨a,b,h⟩:=h;exact h.kb
theorem jJ.own(h:jJ K O w bb mp lv Z):O bb:=by
 obtain⟨a,b,h⟩:=h;exact h.own
theorem jJ.lt(h:jJ K O w bb mp lv Z):bb<w.heap.size:=by
 obtain⟨a,b,h⟩:=h;exact h.lt
theorem jJ.alloc(h:jJ K O w bb mp lv Z)(o:Obj):jJ K O (w.alloc o) bb mp lv Z:=by
 obtain⟨a,b,h⟩:=h;exact⟨a,b,h.alloc o⟩
theorem jJ.drewN(h:jJ K O w bb mp lv Z)(k:Nat):jJ K O (w.drewN k) bb mp lv Z:=by
 obtain⟨a,b,h⟩:=h;exact⟨a,b,h.drewN k⟩
theorem At.apart(h:At K O w W N bb mp lv Z):∀k,More O w k->¬K k:=fun k X=>X.elim (h.x8 k) (fun c e=>by have:=h.kb k e;omega)
theorem At.alloc(h:At K O w W N bb mp lv Z)(o:Obj):At K O w (W.alloc o) N bb mp lv Z:=⟨h.kept.alloc o,h.body.alloc o,h.kb,h.x8,h.tidy,h.zK,h.stk⟩
theorem At.drewN(h:At K O w W N bb mp lv Z)(k:Nat):At K O w (W.drewN k) N bb mp lv Z:=⟨h.kept.drewN k,h.body.drewN k,h.kb,h.x8,h.tidy,h.zK,h.stk⟩
theorem At.new(h:jJ K O w bb mp lv Z)(a:Tidy Z)(hb:Z.dh.length<=55)(b:Z.di.length<=800000):At K O w w (fun k=>k<w.heap.size) bb mp lv Z:=by
 obtain⟨d,e,h⟩:=h;refine⟨Kept.refl _ _,⟨d,e,?_⟩,h.kb,h.x8,a,hb,b⟩;have h':=h.narrow;exact h'.more (fun k X=>⟨.inl X.1,X.2⟩) (fun k X=>X.1.elim (h.x8 k) (fun c=>by have:=X.2;omega))
theorem At.kinds{ks:qM}{v:qv}(h:At K O w W N bb mp lv Z)(X:dG K ks w v):dG K ks W v:=
 Row.kept X h.kept (fun g _ a c=>h.x8 g c a)
theorem At.mv{s:qS}{Y:Nat}{m:fE}(h:At K O w W N bb mp lv Z)(a:MV s K w Y m):MV s K W Y m:=
 a.kept h.kept (fun g _ b c=>h.x8 g c b)
theorem At.step{w':qW}{J:Bd}(h:At K O w W N bb mp lv Z)(X:Kept (fun k=>More O w k/\N k) W w')(a:jJ K (More (fun k=>More O w k/\N k) W) w' bb mp lv J)(b:Tidy J)(hb:J.dh.length<=55)(d:J.di.length<=800000):At K O w w' (fun k=>N k\/(W.heap.size<=k/\k<w'.heap.size)) bb mp lv J:=by
 have g:=h.kept.size;refine⟨h.kept.fresh X (fun k i hh=>hh.1.elim id (fun c=>qo)),?_,h.kb,h.x8,b,hb,d⟩;obtain⟨e,f,a⟩:=a;refine⟨e,f,a.narrow.more (fun k X=>?_) (fun k X=>h.apart k X.1)⟩;rcases X.1 with hh | hh
 .exact⟨hh.1,.inl hh.2⟩
 exact⟨.inr qo,.inr ⟨hh,X.2⟩⟩
theorem At.yT{w':qW}(h:At K O w W N bb mp lv Z)(X:Kept (fun k=>More O w k/\N k) W w'):Kept O w w':=by
 have a:=h.kept.size;exact h.kept.fresh X (fun k b hh=>hh.1.elim id (fun c=>qo))
theorem eX(w:qW){g:Nat}(ks:qM){c:Array qv}(a:g=w.heap.size)(hc:c.toList=kindCells ks)(d:ks.length<=1000):dG (fun k=>k=w.heap.size) ks (w.alloc (.cells c 187)) (.slice (some (qA g 0)) ks.length ks.length):=by
 subst a;have b:c.size=ks.length:=by rw[<-Array.length_toList,hc];simp[kindCells]
 refine⟨⟨by simp[kindCells],.inr ⟨w.heap.size,ks.length,c,rfl,qZ,heap_alloc_new w _,qR,by unfold maxLen;omega,by rw[b];simp,?_⟩⟩,fun k X=>by simp[Value.ownBlock] at X;exact X.symm⟩;rw[hc,List.take_of_length_le (by simp[kindCells])]
end
structure Ends(K O:Nat->Prop)(w W:World)(N:Nat->Prop)(bb:Nat)(mp lv:Value)(r:Except Err Bd)(e:Ending)(w':World):Prop where
 ok:∀J,r=.ok J->qU e/\At K O w w' (fun k=>N k\/(W.heap.size<=k/\k<w'.heap.size)) bb mp lv J
 err:∀q p,r=.error (q,p)->e=iK q p
 kept:Kept O w w'
 low:Kept (fun k=>N k/\¬K k) W w'
section
variable {K O N ok:qD} {w W W':qW} {bb:Nat} {mp lv kv:qv} {Z:Bd} {ks:qM}
theorem At.up(h:At K O w W N bb mp lv Z):At K O w W (fun k=>k<W.heap.size) bb mp lv Z:=by
 obtain⟨a,b,c⟩:=h.body;exact⟨h.kept,⟨a,b,c.narrow.more (fun k X=>⟨X.1.1,X.2⟩) (fun k X=>h.apart k X.1)⟩,h.kb,h.x8,h.tidy,h.zK,h.stk⟩
theorem At.low(h:At K O w W N bb mp lv Z):At K O w W (fun k=>N k/\k<W.heap.size) bb mp lv Z:=by
 obtain⟨a,b,c⟩:=h.body;exact⟨h.kept,⟨a,b,c.narrow.more (fun k X=>⟨X.1.1,X.1.2,X.2⟩) (fun k X=>h.apart k X.1)⟩,h.kb,h.x8,h.tidy,h.zK,h.stk⟩
theorem At.wide{N':qD}(h:At K O w W N bb mp lv Z)(a:∀k,N k->N' k):At K O w W N' bb mp lv Z:=by
 obtain⟨b,c,d⟩:=h.body;exact⟨h.kept,⟨b,c,d.more (fun k X=>⟨X.1,a k X.2⟩) (fun k X=>h.apart k X.1)⟩,h.kb,h.x8,h.tidy,h.zK,h.stk⟩
theorem Ends.dW{Mq:qD}{r:Except Err Bd}(hr:r=.ok Z)(h:At K O w W' N bb mp lv Z)(hl:Kept (fun k=>Mq k/\¬K k) W W')(hn:∀k,N k->Mq k\/W.heap.size<=k:=by intro k X;omega):Ends K O w W Mq bb mp lv r (.returned (.tuple #[])) W':=
 ⟨fun J h'=>by rw[hr] at h';cases h';exact⟨rfl,h.low.wide (fun k X=>(hn k X.1).imp id (fun c=>⟨c,X.2⟩))⟩,fun q p h'=>by(rw[hr] at h';cases h'),h.kept,hl⟩
theorem Ends.dD{r:Except Err Bd}{q p:Nat}(a:r=.error (q,p))(h:Kept O w W')(b:Kept (fun k=>N k/\¬K k) W W'):Ends K O w W N bb mp lv r (iK q p) W':=
 ⟨fun J h'=>by(rw[a] at h';cases h'),fun c p' h'=>by rw[a] at h';cases h';rfl,h,b⟩
theorem take_at(h:At K O w W N bb mp lv Z)(hb:Z.dh≠[])(X:dG ok ks W kv)(f:¬ok bb)(g:ks.length<=50):
  qC 174 #[qP bb,kv] W (Ends K O w W N bb mp lv (dP Z ks)):=by
 obtain⟨o,p,a⟩:=h.body;obtain⟨q,cs,rfl⟩:=Row.shape a.stk;have i:=h.zK;have r:=h.stk;refine(take_any a X f (fun _=>hb) qo h.tidy.dK qo g).mono ?_;rintro e w' ⟨j,l,m⟩;have b:Kept (fun k=>More O w k/\N k) W w':=j.mono (fun k _ (e:k=bb)=>e▸a.own);refine⟨fun J d=>?_,m,h.yT b,b.mono (fun k _ hh=>⟨hh.2,h.apart k hh.1⟩)⟩;obtain⟨v,rfl,rfl,n⟩:=l _ d;have hf:=eH h.tidy.dK d;exact⟨rfl,h.step b ⟨_,_,n.more (fun k X=>.inl X) (fun k X=>X.elim (a.x8 k) (fun c e=>by have:=a.kb k e;omega))⟩ (h.tidy.take d) (by rw[hf.1];exact i) qo⟩
theorem pU(h:At K O w W N bb mp lv Z)(X:dG ok ks W kv)(b:ks.length<=50)(i:Z.di.length+ks.length<=800000):
  qC 175 #[qP bb,kv] W (Ends K O w W N bb mp lv (.ok (gQ Z ks))):=by
 obtain⟨j,l,d⟩:=h.body;have m:=h.stk;refine(put_any d X qo b).mono ?_;rintro e w' ⟨a,f,-⟩;obtain⟨v,rfl,rfl,g⟩:=f _ rfl;exact Ends.dW rfl (h.step a g (h.tidy.put ks) h.zK (by simp[gQ];omega)) (a.mono (fun k _ hh=>⟨hh.2,h.apart k hh.1⟩)) (fun _ X=>X.imp id (fun c=>c.1))
theorem Fx(h:At K O w W N bb mp lv Z)(hb:Z.dh≠[]):
  qC 202 #[qP bb] W (Ends K O w W N bb mp lv (.ok (gU Z))):=by
 obtain⟨g,i,a⟩:=h.body;obtain⟨j,cs,rfl⟩:=Row.shape a.stk;have hl:=h.zK;have l:=h.stk;have m:Z.dh.length≠0:=by simpa using hb
 refine(UR a hb qo h.tidy.dK).mono ?_;rintro e w' ⟨b,d,-⟩;obtain⟨v,rfl,rfl,f⟩:=d _ rfl;exact Ends.dW rfl (h.step b f (h.tidy.CV hb) (by simp[gU];omega) (by simp[gU];omega)) (b.mono (fun k _ hh=>⟨hh.2,h.apart k hh.1⟩)) (fun _ X=>X.imp id (fun c=>c.1))
theorem enter_at{g i:qv}{t:Ty}(d:Nat)(h:At K O w W N bb mp lv Z)(hb:t.ins≠[]->Z.dh≠[])(l:dG K t.ins W g)(m:dG K t.outs W i)(U:t.ins.length<=8)(L:t.outs.length<=8)(r:Z.dh.length<=54)(s:Z.di.length<=799000):
  qC 130 #[qP bb,qB d,.agg #[g,i]] W (Ends K O w W N bb mp lv (jR d t Z)):=by
 obtain⟨u,x,n⟩:=h.body;refine(Yg d n l m hb qo h.tidy.dK qo qo).mono ?_;rintro e w' ⟨f,o,p⟩;refine⟨fun J a=>?_,p,h.yT f,f.mono (fun k _ hh=>⟨hh.2,h.apart k hh.1⟩)⟩;obtain⟨v,rfl,rfl,q⟩:=o _ a;have y:=a;unfold jR at a;rcases c:dP Z t.ins with e|st1
 .rw[c] at a;cases a
 rw[c] at a;cases a;have hf:=eH h.tidy.dK c;have j:=h.tidy.take c;refine⟨rfl,h.step f q ⟨⟨qs,j.rZ⟩,?_⟩ (by simp[hf.1];omega) qt⟩;intro b hb;simp at hb;rcases hb with rfl | hb
 .exact⟨U,L⟩
 exact j.short b hb
theorem Cc(h:At K O w W N bb mp lv Z)(hb:Z.dh≠[]):
  qC 200 #[qP bb] W fun e w'=>(∀k J,fQ Z=.ok (k,J)->e=.returned (qB (k:Nat))/\At K O w w' (fun k=>N k\/(W.heap.size<=k/\k<w'.heap.size)) bb mp lv J/\J.dh=Z.dh/\J.at_=Z.at_/\J.di.length<=Z.di.length)/\(∀q p,fQ Z=.error (q,p)->e=iK q p)/\Kept O w w'/\Kept (fun k=>N k/\¬K k) W w':=by
 obtain⟨u,x,a⟩:=h.body;obtain⟨y,cs,rfl⟩:=Row.shape a.stk;have i:=h.zK;have z:=h.stk;refine(FO a hb qo h.tidy.dK qo).mono ?_;rintro e w' ⟨j,l,m⟩;have f:Kept (fun k=>More O w k/\N k) W w':=j.mono (fun k _ (e:k=bb)=>e▸a.own);refine⟨fun k J g=>?_,m,h.yT f,f.mono (fun k _ hh=>⟨hh.2,h.apart k hh.1⟩)⟩;obtain⟨v,rfl,n,o⟩:=l _ g;obtain rfl:v=qB k:=n;have hf:=BB h.tidy.dK g;have d:J.dh=Z.dh:=by rw[hf.1]
 have r:Tidy J:=by
  obtain⟨s0,s,A⟩:=Z;obtain⟨s1,t,B⟩:=J;simp only at d;subst d;cases t with
  | nil=>exact absurd rfl hb
  | cons b s=>exact⟨⟨hf.2.1,h.tidy.rZ.2⟩,h.tidy.short⟩
 exact⟨rfl,h.step f ⟨_,_,o.more (fun k X=>.inl X) (fun k X=>X.elim (a.x8 k) (fun c e=>by have:=a.kb k e;omega))⟩ r (by rw[d];exact i) qo,d,by rw[hf.1],hf.2.2⟩
theorem Ri(h:At K O w W N bb mp lv Z)(hb:Z.dh≠[]):
  qC 204 #[qP bb] W fun e w'=>(∀left J,jX Z=.ok (left,J)->(∃a b,e=.returned (.agg #[qB (left.word:Nat),a,b,qJ (left.dK:Nat),.bool left.cut])/\dG K left.takes w' a/\dG K left.dH w' b)/\At K O w w' (fun k=>N k\/(W.heap.size<=k/\k<w'.heap.size)) bb mp lv J)/\(∀q p,jX Z=.error (q,p)->e=iK q p)/\Kept O w w'/\Kept (fun k=>N k/\¬K k) W w':=by
 obtain⟨x,y,d⟩:=h.body;have z:=h.zK;have A:=h.stk;have B:=h.tidy.short _ (XW hb);refine(XO d hb qo h.tidy.dK qo qo).mono ?_;rintro e w' ⟨i,j,l⟩;have f:Kept (fun k=>More O w k/\N k) W w':=i.mono (fun k _ (e:k=bb)=>e▸d.own);refine⟨fun left J g=>?_,l,h.yT f,f.mono (fun k _ hh=>⟨hh.2,h.apart k hh.1⟩)⟩;obtain⟨v,rfl,a,b,rfl,m,n,o,r,s⟩:=j _ g;obtain⟨-,t,-,s1,u,-,-⟩:=(uB h.tidy hb).2 _ _ g;refine⟨⟨a,b,rfl,m,n⟩,h.step f ⟨o,r,s.more (fun k X=>.inl X) (fun k X=>X.elim (d.x8 k) (fun c e=>by have:=d.kb k e;omega))⟩ t (by rw[u];simp;omega) qo⟩
theorem yP(h:At K O w W N bb mp lv Z):qC 201 #[qP bb] W fun e w'=>e=iK 4 Z.at_/\w'=W:=by
 obtain⟨b,c,a⟩:=h.body;exact sK a.blk
theorem Kept.kinds{a b:qW}{v:qv}(X:Kept (fun k=>N k/\¬K k) a b)(h:dG K ks a v):dG K ks b v:=Row.kept h X (fun _ _ d c=>c.2 d)
theorem Kept.mvs{s:qS}{Y:Nat}{m:fE}{a b:qW}(X:Kept (fun k=>N k/\¬K k) a b)(h:MV s K a Y m):MV s K b Y m:=h.kept X (fun _ _ d c=>c.2 d)
theorem Kept.ig{a b d:qW}(U:Kept (fun k=>k<a.heap.size/\¬K k) a b)(L:Kept (fun k=>N k/\¬K k) b d)(_:a.heap.size=a.heap.size):Kept (fun k=>k<a.heap.size/\¬K k) a d:=
 U.fresh L (fun _ X c=>⟨X,c.2⟩)
theorem At.ne(h:At K O w W N bb mp lv Z):¬(fun k=>k=W.heap.size) bb:=fun e=>by
 have:=h.body.lt;omega
end
section
variable {K O N ok:qD} {w W:qW} {bb:Nat} {mp lv kv:qv} {Z:Bd} {ks:qM}
theorem WA{j l:qv}{t:Ty}(h:At K O w W N bb mp lv Z)(hb:Z.dh≠[])(d:dG K t.ins W j)(f:dG K t.outs W l)(S:t.ins.length<=8)(T:t.outs.length<=8)(U:Z.di.length<=799000):
  qC 208 #[qP bb,.agg #[j,l]] W (Ends K O w W N bb mp lv (rC t Z)):=by
 obtain⟨z,A,rfl⟩:=Row.shape d;obtain⟨B,C,rfl⟩:=Row.shape f;have b:=h.low;have D:¬K bb:=fun c=>b.body.x8 bb b.body.own c;have m:=hide b;have E:=hide d;have F:=hide f;clear h d f b;go_enter func208,ntmps208;go_wp2_with fail
 refine(take_at (m.o.alloc _) hb (Row.alloc E.o _) D qo).mono ?_;rintro e G ⟨n,s,H,g⟩;have i:Kept (fun k=>N k/\¬K k) W G:=(qr.alloc _).trans (g.mono (fun _ _ c=>⟨c.1.1,c.2⟩));have u:=(kY.new W #[.slice z t.ins.length A,.slice B t.outs.length C] 198).kept g qs (fun c=>by have:=c.1.2;omega);rcases a:dP Z t.ins with⟨q,p⟩|st1
 .obtain rfl:=s _ _ a;exact⟨rfl,Ends.dD (by simp[rC,a]) H i⟩
 obtain⟨rfl,v⟩:=n _ a;have hf:=eH m.o.tidy.dK a;obtain⟨⟨V,-⟩,⟨Y,-⟩⟩:=u.two;have I:qh (rC t Z=.ok (gQ st1 t.outs)):=by show _=_;simp[rC,a]
 have L:=hide v;have aa:st1.di.length<=799000:=qo;have M:=hide (i.kinds F.o);clear n s a v hf u;go_wp2_with fail
 refine(pU L.o M.o qo qo).mono ?_;rintro e w2 ⟨x,-,-,P⟩;obtain⟨rfl,y⟩:=x _ rfl;have Q:=hide y;clear x y;go_wp2;go_end0;have R:=g.size;refine Ends.dW I.o Q.o (i.fresh P (fun k X c=>⟨?_,c.2⟩)) (fun k X=>?_)
 .rcases c.1 with c1 | c1
  .exact c1.1
  have:=c1.1;simp at this;omega
 rcases X with(c1 | c1) | c1
 .exact .inl c1.1
 .exact .inr (by have:=c1.1;simp at this;omega)
 exact .inr (by have:=c1.1;simp at R;omega)
theorem nH(h:At K O w W N bb mp lv Z)(hb:Z.dh≠[])(b:Nat)(X:dG ok ks W kv)(n:¬ok bb)(s:ks.length<=50)(D:Z.di.length<=799000){z:Int}(t:z=(b:Int)):
  qC 216 #[qP bb,qB z,kv] W (Ends K O w W (fun k=>k<W.heap.size) bb mp lv (kK b ks Z)):=by
 subst t;obtain⟨E,F,rfl⟩:=Row.shape X;have d:=hide h.up;have u:=hide X;clear h X;go_enter func216,ntmps216;go_wp2_with fail
 refine(take_at d.o hb u.o n s).mono ?_;rintro e v ⟨f,g,x,i⟩;rcases a:dP Z ks with⟨q,p⟩|st1
 .obtain rfl:=g _ _ a;exact⟨rfl,Ends.dD (by simp[kK,a]) x i⟩
 obtain⟨rfl,j⟩:=f _ a;have hf:=eH d.o.tidy.dK a;have y:qh (kK b ks Z=.ok (gQ st1 [b])):=by show _=_;simp[kK,a]
 have A:=hide j;have G:st1.di.length<=799000:=qo;clear f g a j hf;go_wp2_with fail
 refine(pU (A.o.alloc _) (eX v [b] rfl rfl qs) qs qt).mono ?_;rintro e H ⟨l,-,-,B⟩;obtain⟨rfl,m⟩:=l _ rfl;have C:=hide m;clear l m;go_wp2;go_end0;exact Ends.dW y.o C.o (i.ig ((qr.alloc _).trans B) rfl)
theorem MH(x:Nat)(w:qW):qC 240 #[qB x] w fun e w'=>e=.returned (.int .u32 (vk x))/\w'=w:=by
 have hx:x=44\/x=45\/x=58\/x=41\/x=55\/(x≠44/\x≠45/\x≠58/\x≠41/\x≠55):=qo;rcases hx with rfl | rfl | rfl | rfl | rfl | ⟨U,L,h3,h4,h5⟩
 case inr.inr.inr.inr.inr=>
  have b:((x:Int)==44)=false:=qe;have c:((x:Int)==45)=false:=qe;have d:((x:Int)==58)=false:=qe;have f:((x:Int)==41)=false:=qe;have g:((x:Int)==55)=false:=qe;have a:qh (vk x=2):=by show _=_;simp[vk,U,L,h3,h4,h5]
  clear U L h3 h4 h5;go_enter func240,ntmps240;go_wp2;go_ret;exact⟨by rw[a.o];rfl,rfl⟩
 all_goals
  go_enter func240,ntmps240;go_wp2;go_ret;exact⟨rfl,rfl⟩
end
abbrev yC(a e x:Int)(y:ic)(gv lv:Value):List Value:=[qJ a,qJ e,qB x,.bool y.typed,gv,.int .u32 y.align,.int .u32 y.num.1,qJ y.num.2,lv,qJ y.val]
section
variable {K O N:qD} {w W:qW} {bb:Nat} {mp lv:qv} {Z:Bd}
def tH(x:Nat)(y:ic)(Z:Bd):Except Err Bd:=if vk x<y.align then .error (4,Z.at_) else .ok Z
theorem Sz(h:At K O w W N bb mp lv Z)(a e x:Nat)(y:ic)(pg pl:qO)(ng cg nl cl:Nat):
  qC 233 #[qP bb,.agg (yC a e x y (.slice pg ng cg) (.slice pl nl cl)).toArray] W (Ends K O w W (fun k=>k<W.heap.size) bb mp lv (tH x y Z)):=by
 have b:=hide h.up;clear h;by_cases d:vk x<y.align
 .have f:qh (tH x y Z=.error (4,Z.at_)):=by show _=_;simp[tH,d]
  go_enter func233,ntmps233;go_wp2;go_quiet (exact Calls.quiet_of_same (MH x _))
  go_wp2_with fail
  refine(yP ((b.o.alloc _).drewN _)).mono ?_;rintro e g ⟨rfl,rfl⟩;exact⟨rfl,Ends.dD f.o ((b.o.alloc _).drewN _).kept ((qr.alloc _).drewN _)⟩
 have f:qh (tH x y Z=.ok Z):=by show _=_;simp[tH,d]
 have i:decide (vk x<y.align)=false:=by simpa using d
 have j:y.align<=vk x:=qo;go_enter func233,ntmps233;go_wp2;go_quiet (exact Calls.quiet_of_same (MH x _))
 go_wp2;go_end0;exact Ends.dW f.o ((b.o.alloc _).drewN _) ((qr.alloc _).drewN _)
theorem Hy(h:At K O w W N bb mp lv Z)(hb:Z.dh≠[])(a e x:Nat)(y:ic)(pg pl:qO)(ng cg nl cl:Nat)(k:Nat)(Y:Z.di.length<=799000){z:Int}(M:z=(k:Int)):
  qC 214 #[qP bb,.agg (yC a e x y (.slice pg ng cg) (.slice pl nl cl)).toArray,qB z] W (Ends K O w W (fun k=>k<W.heap.size) bb mp lv (p9 x k y Z)):=by
 subst M;have g:=hide h.up;have aa:¬K bb:=fun c=>h.body.x8 bb h.body.own c;clear h;have i:qh (∀J,tH x y Z=.ok J->J=Z/\p9 x k y Z=(match dP Z [127] with | .error e=>.error e | .ok st1=>.ok (gQ st1 [k]))):=by
  intro J h;unfold tH at h;unfold p9;split at h
  .cases h
  rename_i hn;cases h;exact⟨rfl,by rw[if_neg hn]<;>rfl⟩
 have j:qh (∀q p,tH x y Z=.error (q,p)->p9 x k y Z=.error (q,p)):=by
  intro q p h;unfold tH at h;unfold p9;split at h
  .rename_i hn;cases h;rw[if_pos hn]
  cases h
 go_enter func214,ntmps214;go_wp2_with fail
 refine(Sz (g.o.alloc _) a e x y pg pl ng cg nl cl).mono ?_;rintro l d ⟨m,n,P,s⟩;have t:Kept (fun k=>k<(W.alloc (.cells (yC a e x y (.slice pg ng cg) (.slice pl nl cl)).toArray 213)).heap.size/\¬K k) W d:=(qr.alloc _).trans s;have u:Kept (fun k=>k<W.heap.size/\¬K k) W d:=t.mono (fun k X c=>⟨X,c.2⟩);rcases b:tH x y Z with⟨q,p⟩|v
 .obtain rfl:=n _ _ b;exact⟨rfl,Ends.dD (j.o _ _ b) P u⟩
 obtain⟨rfl,A⟩:=i.o _ b;obtain⟨rfl,B⟩:=m _ b;have C:=hide B;have f:=hide A;clear m n b B A i j s t;go_wp2_with fail
 refine(take_at (C.o.alloc _) hb (eX d [127] rfl rfl qs) C.o.ne qs).mono ?_;rintro l D ⟨E,F,Q,R⟩;have G:Kept (fun k=>k<W.heap.size/\¬K k) W D:=u.ig ((qr.alloc _).trans R) rfl;rcases b:dP v [127] with⟨q,p⟩|st1
 .obtain rfl:=F _ _ b;exact⟨rfl,Ends.dD (by rw[f.o,b]) Q G⟩
 obtain⟨rfl,H⟩:=E _ b;have hf:=eH g.o.tidy.dK b;have ab:st1.di.length<=799000:=qo;have S:qh (p9 x k y v=.ok (gQ st1 [k])):=by show _=_;rw[f.o,b]
 have T:=hide H;clear E F b H f hf;go_wp2_with fail
 refine(pU (T.o.alloc _) (eX D [k] rfl rfl qs) qs qt).mono ?_;rintro l w3 ⟨I,-,-,U⟩;obtain⟨rfl,L⟩:=I _ rfl;have V:=hide L;clear I L;go_wp2;go_end0;exact Ends.dW S.o V.o (G.ig ((qr.alloc _).trans U) rfl)
theorem IU(h:At K O w W N bb mp lv Z)(hb:Z.dh≠[])(a e x:Nat)(y:ic)(pg pl:qO)(ng cg nl cl:Nat)(k:Nat){z:Int}(E:z=(k:Int)):
  qC 215 #[qP bb,.agg (yC a e x y (.slice pg ng cg) (.slice pl nl cl)).toArray,qB z] W (Ends K O w W (fun k=>k<W.heap.size) bb mp lv (mM x k y Z)):=by
 subst E;have F:=hide h.up;clear h;have f:qh (∀J,tH x y Z=.ok J->J=Z/\mM x k y Z=dP Z [127,k]):=by
  intro J h;unfold tH at h;unfold mM;split at h
  .cases h
  rename_i hn;cases h;exact⟨rfl,by rw[if_neg hn]<;>rfl⟩
 have g:qh (∀q p,tH x y Z=.error (q,p)->mM x k y Z=.error (q,p)):=by
  intro q p h;unfold tH at h;unfold mM;split at h
  .rename_i hn;cases h;rw[if_pos hn]
  cases h
 go_enter func215,ntmps215;go_wp2_with fail
 refine(Sz (F.o.alloc _) a e x y pg pl ng cg nl cl).mono ?_;rintro G i ⟨j,l,H,m⟩;have n:Kept (fun k=>k<W.heap.size/\¬K k) W i:=((qr.alloc _).trans m).mono (fun k X c=>⟨X,c.2⟩);rcases b:tH x y Z with⟨q,p⟩|s
 .obtain rfl:=l _ _ b;exact⟨rfl,Ends.dD (g.o _ _ b) H n⟩
 obtain⟨rfl,t⟩:=f.o _ b;obtain⟨rfl,u⟩:=j _ b;have v:=hide u;have d:=hide t;clear j l b u t f g m;go_wp2_with fail
 refine(take_at (v.o.alloc _) hb (eX i [127,k] rfl rfl qs) v.o.ne qs).mono ?_;rintro G I ⟨A,B,L,M⟩;have C:Kept (fun k=>k<W.heap.size/\¬K k) W I:=n.ig ((qr.alloc _).trans M) rfl;rcases b:dP s [127,k] with⟨q,p⟩|st1
 .obtain rfl:=B _ _ b;exact⟨rfl,Ends.dD (by rw[d.o,b]) L C⟩
 obtain⟨rfl,D⟩:=A _ b;have P:qh (mM x k y s=.ok st1):=by show _=_;rw[d.o,b]
 have Q:=hide D;clear A B b D d;go_wp2;go_end0;exact Ends.dW P.o Q.o C
end
section
variable {K O N:qD} {w W:qW} {bb:Nat} {mp lv:qv} {Z:Bd}
theorem Ko(h:At K O w W N bb mp lv Z)(hb:Z.dh≠[])(x:Nat)(b:Z.di.length<=799000):
  qC 180 #[qP bb,qB x] W (Ends K O w W (fun k=>k<W.heap.size) bb mp lv (kz x Z)):=by
 have a:=hide h.up;clear h;obtain⟨m,h⟩:=qF (kz x Z);rw[h];unfold kz at h;by_cases hx:x=65
 .rw[if_pos hx] at h;have t:((x:Int)==65)=true:=by simp;omega
  subst h;clear hx;go_enter func180,ntmps180;go_wp2_with fail
  refine(pU (a.o.alloc _) (eX W [127] rfl rfl qs) qs qt).mono ?_;exact agm
 rw[if_neg hx] at h;have d:((x:Int)==65)=false:=qe;clear hx;by_cases hx:x=66
 .rw[if_pos hx] at h;have t:((x:Int)==66)=true:=by simp;omega
  subst h;clear hx;go_enter func180,ntmps180;go_wp2_with fail
  refine(pU (a.o.alloc _) (eX W [126] rfl rfl qs) qs qt).mono ?_;exact agm
 rw[if_neg hx] at h;have e:((x:Int)==66)=false:=qe;clear hx;by_cases hx:x=69
 .rw[if_pos hx] at h;have t:((x:Int)==69)=true:=by simp;omega
  have HM:=hide h;clear h hx;go_enter func180,ntmps180;go_wp2_with fail
  refine(nH (a.o.alloc _) hb 127 (eX W [127] rfl rfl qs) a.o.ne qs b rfl).mono ?_;exact Zz2
 rw[if_neg hx] at h;have f:((x:Int)==69)=false:=qe;clear hx;by_cases hx:x<=79
 .rw[if_pos hx] at h;have t:(x:Int)<=79:=qo;have HM:=hide h;clear h hx;go_enter func180,ntmps180;go_wp2_with fail
  refine(nH (a.o.alloc _) hb 127 (eX W [127,127] rfl rfl qs) a.o.ne qs b rfl).mono ?_;exact Zz2
 rw[if_neg hx] at h;have g:decide ((x:Int)<=79)=false:=qd;clear hx;by_cases hx:x=80
 .rw[if_pos hx] at h;have t:((x:Int)==80)=true:=by simp;omega
  have HM:=hide h;clear h hx;go_enter func180,ntmps180;go_wp2_with fail
  refine(nH (a.o.alloc _) hb 127 (eX W [126] rfl rfl qs) a.o.ne qs b rfl).mono ?_;exact Zz2
 rw[if_neg hx] at h;have i:((x:Int)==80)=false:=qe;clear hx;by_cases hx:x<=90
 .rw[if_pos hx] at h;have t:(x:Int)<=90:=qo;have HM:=hide h;clear h hx;go_enter func180,ntmps180;go_wp2_with fail
  refine(nH (a.o.alloc _) hb 127 (eX W [126,126] rfl rfl qs) a.o.ne qs b rfl).mono ?_;exact Zz2
 rw[if_neg hx] at h;have j:decide ((x:Int)<=90)=false:=qd;clear hx;by_cases hx:x<=105
 .rw[if_pos hx] at h;have t:(x:Int)<=105:=qo;have HM:=hide h;clear h hx;go_enter func180,ntmps180;go_wp2_with fail
  refine(nH (a.o.alloc _) hb 127 (eX W [127] rfl rfl qs) a.o.ne qs b rfl).mono ?_;exact Zz2
 rw[if_neg hx] at h;have l:decide ((x:Int)<=105)=false:=qd;clear hx;by_cases hx:x<=120
 .rw[if_pos hx] at h;have t:(x:Int)<=120:=qo;have HM:=hide h;clear h hx;go_enter func180,ntmps180;go_wp2_with fail
  refine(nH (a.o.alloc _) hb 127 (eX W [127,127] rfl rfl qs) a.o.ne qs b rfl).mono ?_;exact Zz2
 rw[if_neg hx] at h;have n:decide ((x:Int)<=120)=false:=qd;clear hx;by_cases hx:x<=123
 .rw[if_pos hx] at h;have t:(x:Int)<=123:=qo;have HM:=hide h;clear h hx;go_enter func180,ntmps180;go_wp2_with fail
  refine(nH (a.o.alloc _) hb 126 (eX W [126] rfl rfl qs) a.o.ne qs b rfl).mono ?_;exact Zz2
 rw[if_neg hx] at h;have r:decide ((x:Int)<=123)=false:=qd;clear hx;by_cases hx:x<=138
 .rw[if_pos hx] at h;have t:(x:Int)<=138:=qo;have HM:=hide h;clear h hx;go_enter func180,ntmps180;go_wp2_with fail
  refine(nH (a.o.alloc _) hb 126 (eX W [126,126] rfl rfl qs) a.o.ne qs b rfl).mono ?_;exact Zz2
 rw[if_neg hx] at h;have s:decide ((x:Int)<=138)=false:=qd;clear hx;by_cases hx:x=167
 .rw[if_pos hx] at h;have t:((x:Int)==167)=true:=by simp;omega
  have HM:=hide h;clear h hx;go_enter func180,ntmps180;go_wp2_with fail
  refine(nH (a.o.alloc _) hb 127 (eX W [126] rfl rfl qs) a.o.ne qs b rfl).mono ?_;exact Zz2
 rw[if_neg hx] at h;have u:((x:Int)==167)=false:=qe;clear hx;have HM:=hide h;clear h;go_enter func180,ntmps180;go_wp2_with fail
 refine(nH (a.o.alloc _) hb 126 (eX W [127] rfl rfl qs) a.o.ne qs b rfl).mono ?_;exact Zz2
theorem Kn(h:At K O w W N bb mp lv Z)(hb:Z.dh≠[])(hs:Z.di.length<=799000):
  qC 211 #[qP bb] W (Ends K O w W (fun k=>k<W.heap.size) bb mp lv (gZ Z)):=by
 have n:=hide h.up;clear h;go_enter func211,ntmps211;go_wp2_with fail
 refine(take_at (n.o.alloc _) hb (eX W [127] rfl rfl qs) n.o.ne qs).mono ?_;rintro ee J ⟨u,v,M,Q⟩;have x:Kept (fun k=>k<W.heap.size/\¬K k) W J:=(qr.alloc _).trans Q;rcases d:dP Z [127] with⟨q,p⟩|st1
 .obtain rfl:=v _ _ d;exact⟨rfl,Ends.dD (by simp[gZ,d]) M x⟩
 obtain⟨rfl,y⟩:=u _ d;have r:=eH n.o.tidy.dK d;have z:st1.dh≠[]:=by rw[r.1];exact hb
 have ae:st1.di.length<=799000:=qo;have R:=r.2.1;have S:=hide y;have j:=hide d;clear u v d y r;go_wp2_with fail
 refine(Cc S.o z).mono ?_;rintro ee w2 ⟨A,B,T,V⟩;have C:=x.ig V rfl;rcases g:fQ st1 with⟨q,p⟩|⟨a,D⟩
 .obtain rfl:=B _ _ g;exact⟨rfl,Ends.dD (by simp[gZ,j.o,g]) T C⟩
 obtain⟨rfl,E,F,X,s2⟩:=A _ _ g;have Y:D.dh≠[]:=by rw[F];exact z
 have aa:=hide E;have s:=hide g;clear A B g E F;go_wp2_with fail
 refine(Cc aa.o Y).mono ?_;rintro ee l ⟨G,H,ab,ac⟩;have hl3:=C.ig ac rfl;rcases i:fQ D with⟨q,p⟩|⟨b,e⟩
 .obtain rfl:=H _ _ i;exact⟨rfl,Ends.dD (by simp[gZ,j.o,s.o,i]) ab hl3⟩
 obtain⟨rfl,I,e3,a3,s3⟩:=G _ _ i;have f:=hide I;have c:qh (gZ Z=if a≠0/\a≠(if b=0 then a else b) then .error (4,Z.at_) else .ok (gQ e [if b=0 then a else b])):=by show _=_;simp only[gZ,j.o,s.o,i]
 have m:e.di.length+1<=800000:=qo;have ad:e.at_=Z.at_:=qo;clear G H i I j s e3 s3 a3 s2 X R;by_cases U:b=0
 .have t1:((b:Int)==0)=true:=by simp[U]
  have HM:qh (gZ Z=.ok (gQ e [a])):=by show _=_;rw[c.o,if_pos U,if_neg qs]
  clear U c;by_cases L:a=0
  .have t:((a:Int) !=0)=false:=by simp[L]
   clear L;go_wp2_with fail
   refine(pU (f.o.alloc _) (eX l [a] rfl rfl qs) qs (by simpa using m)).mono ?_;exact ac4
  have t:((a:Int) !=0)=true:=by rw[bne_iff_ne];omega
  clear L;go_wp2_with fail
  refine(pU (f.o.alloc _) (eX l [a] rfl rfl qs) qs (by simpa using m)).mono ?_;exact ac4
 have t1:((b:Int)==0)=false:=qe;by_cases L:a=0
 .have t:((a:Int) !=0)=false:=by simp[L]
  have HM:qh (gZ Z=.ok (gQ e [b])):=by show _=_;rw[c.o,if_neg U,if_neg (by simp[L])]
  clear U L c;go_wp2_with fail
  refine(pU (f.o.alloc _) (eX l [b] rfl rfl qs) qs (by simpa using m)).mono ?_;exact ac4
 have t:((a:Int) !=0)=true:=by rw[bne_iff_ne];omega
 by_cases h3:a=b
 .have t3:((a:Int) !=(b:Int))=false:=by simp[h3]
  have HM:qh (gZ Z=.ok (gQ e [b])):=by show _=_;rw[c.o,if_neg U,if_neg (by simp[h3])]
  clear U L h3 c;go_wp2_with fail
  refine(pU (f.o.alloc _) (eX l [b] rfl rfl qs) qs (by simpa using m)).mono ?_;exact ac4
 have t3:((a:Int) !=(b:Int))=true:=by rw[bne_iff_ne];omega
 have HM:qh (gZ Z=.error (4,Z.at_)):=by show _=_;rw[c.o,if_neg U,if_pos ⟨L,h3⟩]
 clear U L h3 c;go_wp2_with fail
 refine(yP f.o).mono ?_;rintro ee w4 ⟨rfl,rfl⟩;rw[ad];exact⟨rfl,Ends.dD HM.o f.o.kept hl3⟩
end
section
variable {K O N:qD} {w W:qW} {bb Y:Nat} {lv:qv} {Z:Bd} {s:qS} {m:fE}
theorem At.jT(h:At K O w W N bb (qP Y) lv Z)(a:MV s K W Y m):W.cell? (qA bb 0)=some (qP Y)/\∃p c,W.cell? (qA Y 3)=some (.slice p m.jT.length c):=by
 obtain⟨i,j,b⟩:=h.body;obtain⟨-,f,d,e⟩:=a;obtain⟨p,c,g⟩:=Row.shape e.h3;exact⟨b.blk.five.1.1,p,c,by rw[<-g];exact d.twelve.1.2.2.2.1.1⟩
theorem sO(h:At K O w W N bb (qP Y) lv Z)(many:Nat):qC 209 #[qP bb,qJ many] W fun e w'=>w'=W/\e=(if many=0 then iK 3 Z.at_ else .returned (.tuple #[])):=by
 obtain⟨b,c,a⟩:=h.body;exact ZU many a.blk
theorem Kq(h:At K O w W N bb (qP Y) lv Z)(hb:Z.dh≠[])(C:MV s K W Y m)(a e x:Nat)(y:ic)(pg pl:qO)(ng cg nl cl:Nat)(i:Z.di.length<=799000):
  qC 179 #[qP bb,.agg (yC a e x y (.slice pg ng cg) (.slice pl nl cl)).toArray] W (Ends K O w W (fun k=>k<W.heap.size) bb (qP Y) lv (fD m x y Z)):=by
 have HA:=hide h.up;have H:=h.body.lt;have I:=C.lt;obtain⟨L,M,c3,Q⟩:=h.jT C;clear h;by_cases hz:m.jT.length=0
 .have HM:qh (fD m x y Z=.error (3,Z.at_)):=by show _=_;simp[fD,hz]
  go_enter func179,ntmps179;exact agu
 have b:qh (fD m x y Z=(if x=63 then .ok (gQ Z [127])
 else if x=64 then
  match dP Z [127] with
  | .error e=>.error e
  | .ok st1=>.ok (gQ st1 [127])
 else if x=41 then p9 x 126 y Z
 else if x=40\/x=44\/x=45 then p9 x 127 y Z
 else if x=55 then mM x 126 y Z
 else if x=54\/x=58 then mM x 127 y Z
 else .ok Z)):=by show _=_;unfold fD;rw[if_neg hz]<;>rfl
 by_cases j:x=63
 .subst j;have HE:=hide b.o;clear b;have HM:qh (fD m 63 y Z=.ok (gQ Z [127])):=HE.o;clear HE;go_enter func179,ntmps179;go_wp2_with fail
  refine(sO (HA.o.alloc _) _).mono ?_;rintro ee w1 ⟨rfl,he⟩;rw[if_neg hz] at he;subst he;go_wp2_with fail
  refine(pU ((HA.o.alloc _).alloc _) (eX _ [127] qs rfl qs) qs qt).mono ?_;rintro ee d ⟨hok2,-,-,f⟩;obtain⟨rfl,hA2⟩:=hok2 _ rfl;have HA2:=hide hA2;clear hok2 hA2;go_wp2;go_end0;exact Ends.dW HM.o HA2.o (((qr.alloc _).alloc _).trans f)
 by_cases l:x=64
 .subst l;have HM:qh (fD m 64 y Z=match dP Z [127] with | .error e=>.error e | .ok st1=>.ok (gQ st1 [127])):=b.o;clear b;go_enter func179,ntmps179;go_wp2_with fail
  refine(sO (HA.o.alloc _) _).mono ?_;rintro ee w1 ⟨rfl,he⟩;rw[if_neg hz] at he;subst he;go_wp2_with fail
  refine(take_at ((HA.o.alloc _).alloc _) hb (eX _ [127] qs rfl qs) (HA.o.alloc _).ne qs).mono ?_;rintro ee d ⟨hok2,jN,hk2,f⟩;have hlow:Kept (fun k=>k<W.heap.size/\¬K k) W d:=((qr.alloc _).alloc _).trans f;rcases hm2:dP Z [127] with⟨q,p⟩|g
  .obtain rfl:=jN _ _ hm2;exact⟨rfl,Ends.dD (by rw[HM.o,hm2]) hk2 hlow⟩
  obtain⟨rfl,hA2⟩:=hok2 _ hm2;have hf:=eH HA.o.tidy.dK hm2;have R:g.di.length<=799000:=qo;have HE:qh (fD m 64 y Z=.ok (gQ g [127])):=by show _=_;rw[HM.o,hm2]
  have HA2:=hide hA2;clear hok2 jN hA2 hm2 HM hf;go_wp2_with fail
  refine(pU (HA2.o.alloc _) (eX d [127] rfl rfl qs) qs qt).mono ?_;rintro ee S ⟨D,-,-,F⟩;obtain⟨rfl,E⟩:=D _ rfl;have G:=hide E;clear D E;go_wp2;go_end0;exact Ends.dW HE.o G.o (hlow.ig ((qr.alloc _).trans F) rfl)
 by_cases n:x=41
 .subst n;have HE:qh (fD m 41 y Z=p9 41 126 y Z):=b.o;clear b;go_enter func179,ntmps179;go_wp2_with fail
  refine(sO (HA.o.alloc _) _).mono ?_;rintro ee w1 ⟨rfl,he⟩;rw[if_neg hz] at he;subst he;go_wp2_with fail
  refine(Hy (HA.o.alloc _) hb a e 41 y pg pl ng cg nl cl 126 i rfl).mono ?_;rintro ee d ⟨hok2,jN,hk2,f⟩;have hlow:Kept (fun k=>k<W.heap.size/\¬K k) W d:=((qr.alloc _).trans f).mono (fun k X c=>⟨X,c.2⟩);rcases hm2:p9 41 126 y Z with⟨q,p⟩|g
  .exact Vy
  exact Vz
 by_cases t:x=40
 .subst t;have HE:qh (fD m 40 y Z=p9 40 127 y Z):=b.o;clear b;go_enter func179,ntmps179;go_wp2_with fail
  refine(sO (HA.o.alloc _) _).mono ?_;rintro ee w1 ⟨rfl,he⟩;rw[if_neg hz] at he;subst he;go_wp2_with fail
  refine(Hy (HA.o.alloc _) hb a e 40 y pg pl ng cg nl cl 127 i rfl).mono ?_;rintro ee d ⟨hok2,jN,hk2,f⟩;have hlow:Kept (fun k=>k<W.heap.size/\¬K k) W d:=((qr.alloc _).trans f).mono (fun k X c=>⟨X,c.2⟩);rcases hm2:p9 40 127 y Z with⟨q,p⟩|g
  .exact Vy
  exact Vz
 by_cases u:x=44
 .subst u;have HE:qh (fD m 44 y Z=p9 44 127 y Z):=b.o;clear b;go_enter func179,ntmps179;go_wp2_with fail
  refine(sO (HA.o.alloc _) _).mono ?_;rintro ee w1 ⟨rfl,he⟩;rw[if_neg hz] at he;subst he;go_wp2_with fail
  refine(Hy (HA.o.alloc _) hb a e 44 y pg pl ng cg nl cl 127 i rfl).mono ?_;rintro ee d ⟨hok2,jN,hk2,f⟩;have hlow:Kept (fun k=>k<W.heap.size/\¬K k) W d:=((qr.alloc _).trans f).mono (fun k X c=>⟨X,c.2⟩);rcases hm2:p9 44 127 y Z with⟨q,p⟩|g
  .exact Vy
  exact Vz
 by_cases v:x=45
 .subst v;have HE:qh (fD m 45 y Z=p9 45 127 y Z):=b.o;clear b;go_enter func179,ntmps179;go_wp2_with fail
  refine(sO (HA.o.alloc _) _).mono ?_;rintro ee w1 ⟨rfl,he⟩;rw[if_neg hz] at he;subst he;go_wp2_with fail
  refine(Hy (HA.o.alloc _) hb a e 45 y pg pl ng cg nl cl 127 i rfl).mono ?_;rintro ee d ⟨hok2,jN,hk2,f⟩;have hlow:Kept (fun k=>k<W.heap.size/\¬K k) W d:=((qr.alloc _).trans f).mono (fun k X c=>⟨X,c.2⟩);rcases hm2:p9 45 127 y Z with⟨q,p⟩|g
  .exact Vy
  exact Vz
 by_cases z:x=55
 .subst z;have HE:qh (fD m 55 y Z=mM 55 126 y Z):=b.o;clear b;go_enter func179,ntmps179;go_wp2_with fail
  refine(sO (HA.o.alloc _) _).mono ?_;rintro ee w1 ⟨rfl,he⟩;rw[if_neg hz] at he;subst he;go_wp2_with fail
  refine(IU (HA.o.alloc _) hb a e 55 y pg pl ng cg nl cl 126 rfl).mono ?_;rintro ee d ⟨hok2,jN,hk2,f⟩;have hlow:Kept (fun k=>k<W.heap.size/\¬K k) W d:=((qr.alloc _).trans f).mono (fun k X c=>⟨X,c.2⟩);rcases hm2:mM 55 126 y Z with⟨q,p⟩|g
  .exact Vy
  exact Vz
 by_cases A:x=54
 .subst A;have HE:qh (fD m 54 y Z=mM 54 127 y Z):=b.o;clear b;go_enter func179,ntmps179;go_wp2_with fail
  refine(sO (HA.o.alloc _) _).mono ?_;rintro ee w1 ⟨rfl,he⟩;rw[if_neg hz] at he;subst he;go_wp2_with fail
  refine(IU (HA.o.alloc _) hb a e 54 y pg pl ng cg nl cl 127 rfl).mono ?_;rintro ee d ⟨hok2,jN,hk2,f⟩;have hlow:Kept (fun k=>k<W.heap.size/\¬K k) W d:=((qr.alloc _).trans f).mono (fun k X c=>⟨X,c.2⟩);rcases hm2:mM 54 127 y Z with⟨q,p⟩|g
  .exact Vy
  exact Vz
 by_cases B:x=58
 .subst B;have HE:qh (fD m 58 y Z=mM 58 127 y Z):=b.o;clear b;go_enter func179,ntmps179;go_wp2_with fail
  refine(sO (HA.o.alloc _) _).mono ?_;rintro ee w1 ⟨rfl,he⟩;rw[if_neg hz] at he;subst he;go_wp2_with fail
  refine(IU (HA.o.alloc _) hb a e 58 y pg pl ng cg nl cl 127 rfl).mono ?_;rintro ee d ⟨hok2,jN,hk2,f⟩;have hlow:Kept (fun k=>k<W.heap.size/\¬K k) W d:=((qr.alloc _).trans f).mono (fun k X c=>⟨X,c.2⟩);rcases hm2:mM 58 127 y Z with⟨q,p⟩|g
  .exact Vy
  exact Vz
 have HM:qh (fD m x y Z=.ok Z):=by
  show _=_;rw[b.o];simp only[j,l,n,t,u,v,z,A,B,or_self,if_false]
 have T:((x:Int)==63)=false:=qe;have U:((x:Int)==64)=false:=qe;have V:((x:Int)==41)=false:=qe;have aa:((x:Int)==40)=false:=qe;have ab:((x:Int)==44)=false:=qe;have ac:((x:Int)==45)=false:=qe;have ad:((x:Int)==55)=false:=qe;have ae:((x:Int)==54)=false:=qe;have af:((x:Int)==58)=false:=qe;clear b j l n t u v z A B;go_enter func179,ntmps179;go_wp2_with fail
 refine(sO (HA.o.alloc _) _).mono ?_;rintro ee w1 ⟨rfl,he⟩;rw[if_neg hz] at he;subst he;exact ae0
end
section
variable {K O N:qD} {w W:qW} {bb:Nat} {mp:qv} {Z:Bd}
theorem At.locals{lv:qv}(h:At K O w W N bb mp lv Z):W.cell? (qA bb 1)=some lv:=by
 obtain⟨b,c,a⟩:=h.body;exact a.blk.five.2.1.1
theorem Kr{d:qO}{c0:Nat}{ls:qM}(h:At K O w W N bb mp (.slice d ls.length c0) Z)(a e x:Nat)(y:ic)(pg pl:qO)(ng cg nl cl:Nat)(hx:0<=y.num.1/\y.num.1<=4294967295)(j:¬y.num.1<(ls.length:Int)):
  qC 213 #[qP bb,.agg (yC a e x y (.slice pg ng cg) (.slice pl nl cl)).toArray] W (Ends K O w W (fun k=>k<W.heap.size) bb mp (.slice d ls.length c0) (iD ls x y Z)):=by
 have HA:=hide h.up;have l:=h.body.lt;have m:=h.locals;obtain⟨n,U⟩:=hx;have HM:qh (iD ls x y Z=.error (3,y.num.2)):=by show _=_;simp[iD,fT,j]
 clear h;go_enter func213,ntmps213;go_wp2_with fail
 have b:(fun w':qW=>w'.cell? (qA bb 1)=some (.slice d ls.length c0)/\w'.cell? (qA W.heap.size 6)=some (.int .u32 y.num.1)/\w'.cell? (qA W.heap.size 7)=some (qJ y.num.2)) ((W.alloc (.cells (yC a e x y (.slice pg ng cg) (.slice pl nl cl)).toArray 213)).drew):=by
  dsimp only;exact⟨(((Kept.refl (fun _=>False) W).alloc _).drew.cell l (fun c=>c)).trans m,qs,qs⟩
 refine wp_region_held_drew (S:=fun w':qW=>w'.cell? (qA bb 1)=some (.slice d ls.length c0)/\w'.cell? (qA W.heap.size 6)=some (.int .u32 y.num.1)/\w'.cell? (qA W.heap.size 7)=some (qJ y.num.2)) qk b (fun _=>?_);refine jK 0 b ?_;refine jK 1 b ?_;refine jK 2 b ?_;refine jK 3 b ?_;refine jK 4 b ?_;refine jK 5 b ?_;refine jK 6 b ?_;refine jK 7 b ?_;refine jK 8 b ?_;refine jK 9 b ?_;refine jK 10 b ?_;refine wpAnyH_all (rs:=[11]) qk qs ?_;intro i g;rw[List.mem_singleton] at g;subst g;refine rH (f:=84) (args:= #[.agg #[.int .u32 y.num.1,qJ y.num.2],qJ ls.length]) rfl rfl qk (pI _ qo n U) ?_;exact agh
theorem LW{D:qO}{c0:Nat}{ls:qM}(h:At K O w W N bb mp (.slice D ls.length c0) Z)(hb:Z.dh≠[])(Q:dG K ls W (.slice D ls.length c0))(a e x:Nat)(y:ic)(pg pl:qO)(ng cg nl cl:Nat)(hx:0<=y.num.1/\y.num.1<=4294967295)(E:y.num.1<(ls.length:Int))(hs:Z.di.length<=799000):
  qC 213 #[qP bb,.agg (yC a e x y (.slice pg ng cg) (.slice pl nl cl)).toArray] W (Ends K O w W (fun k=>k<W.heap.size) bb mp (.slice D ls.length c0) (iD ls x y Z)):=by
 have R:=hide h.up;have aq:=h.body.lt;have S:=h.locals;obtain⟨T,U⟩:=hx;obtain⟨k,X⟩:∃k:Nat,y.num.1=(k:Int):=⟨y.num.1.toNat,qo⟩;have am:k<ls.length:=qo;obtain⟨g,A,hv,ar,hg,hc,V⟩:=dG.cell Q am;cases hv;have n:qh (iD ls x y Z=match(if x=32 then .ok Z else dP Z [ls.getD k 0]) with | .error e=>.error e | .ok st1=>if x=33 then .ok st1 else .ok (gQ st1 [ls.getD k 0])):=by
  show _=_;have ht:fT y.num ls.length=.ok k:=by
   unfold fT;rw[if_pos E,X];simp
  simp only[iD,ht];rfl
 clear h Q;generalize ls.getD k 0=l at*;obtain⟨d,Y,i,⟨yn,b⟩,aa,j⟩:=y;simp only at X E T U n ⊢;subst X;have n1:=World.new_ne W _ S;have n2:=World.new_ne W _ V;go_enter func213,ntmps213;go_wp2_with fail
 go_cut [4] from 5 to 18 (fun v WW=>v=qB l/\WW=((W.alloc (.cells #[qJ a,qJ e,qB x,.bool d,.slice pg ng cg,.int .u32 i,.int .u32 (k:Int),qJ b,.slice pl nl cl,qJ j] 213)).alloc (.cells #[.int .u32 (k:Int),qJ b] 152)).drew)
 case first=>
  go_region_held3 (fun w'=>w'.cell? (qA bb 1)=some (.slice (some (qA g 0)) ls.length c0)/\w'.cell? (qA W.heap.size 6)=some (.int .u32 (k:Int))/\w'.cell? (qA W.heap.size 7)=some (qJ b)/\w'.cell? (qA g k)=some (qB l)) (go_keep) ((refine eG (f:=84) (args:= #[.agg #[.int .u32 (k:Int),qJ b],qJ ls.length]) (by rfl) (by go_simp) (su _ E T U) ?_;rintro F w' ⟨rfl,rfl⟩;refine⟨_,rfl,?_⟩))
  all_goals
   go_wp2;go_meet;exact⟨rfl,rfl⟩
 obtain⟨rfl,rfl⟩:=hcut;have ab:=((R.o.alloc (.cells #[qJ a,qJ e,qB x,.bool d,.slice pg ng cg,.int .u32 i,.int .u32 (k:Int),qJ b,.slice pl nl cl,qJ j] 213)).alloc (.cells #[.int .u32 (k:Int),qJ b] 152)).drewN 1;have ac:Kept (fun k=>k<W.heap.size/\¬K k) W (((W.alloc (.cells #[qJ a,qJ e,qB x,.bool d,.slice pg ng cg,.int .u32 i,.int .u32 (k:Int),qJ b,.slice pl nl cl,qJ j] 213)).alloc (.cells #[.int .u32 (k:Int),qJ b] 152)).drewN 1):=((qr.alloc _).alloc _).drewN _;have hX:(((W.alloc (.cells #[qJ a,qJ e,qB x,.bool d,.slice pg ng cg,.int .u32 i,.int .u32 (k:Int),qJ b,.slice pl nl cl,qJ j] 213)).alloc (.cells #[.int .u32 (k:Int),qJ b] 152)).drewN 1).cell? (qA W.heap.size 2)=some (qB x):=by
  have X:qK (W.alloc (.cells #[qJ a,qJ e,qB x,.bool d,.slice pg ng cg,.int .u32 i,.int .u32 (k:Int),qJ b,.slice pl nl cl,qJ j] 213)) (((W.alloc (.cells #[qJ a,qJ e,qB x,.bool d,.slice pg ng cg,.int .u32 i,.int .u32 (k:Int),qJ b,.slice pl nl cl,qJ j] 213)).alloc (.cells #[.int .u32 (k:Int),qJ b] 152)).drewN 1):=(qr.alloc _).drewN _;rw[X.cell (p:=(qA W.heap.size 2)) qs (fun c=>c),World.cell?_alloc_new];rfl
 have G:=hide ab;have an:W.heap.size<(((W.alloc (.cells #[qJ a,qJ e,qB x,.bool d,.slice pg ng cg,.int .u32 i,.int .u32 (k:Int),qJ b,.slice pl nl cl,qJ j] 213)).alloc (.cells #[.int .u32 (k:Int),qJ b] 152)).drewN 1).heap.size:=by simp;omega
 clear ab n1 n2 V S;generalize ad:((W.alloc (.cells #[qJ a,qJ e,qB x,.bool d,.slice pg ng cg,.int .u32 i,.int .u32 (k:Int),qJ b,.slice pl nl cl,qJ j] 213)).alloc (.cells #[.int .u32 (k:Int),qJ b] 152)).drewN 1=H at*;have ae:((W.alloc (.cells #[qJ a,qJ e,qB x,.bool d,.slice pg ng cg,.int .u32 i,.int .u32 (k:Int),qJ b,.slice pl nl cl,qJ j] 213)).alloc (.cells #[.int .u32 (k:Int),qJ b] 152)).drew=H:=ad;rw[ae];clear ad ae;by_cases m:x=32
 .have ao:((x:Int) !=32)=false:=by simp[m]
  have af:((x:Int) !=33)=true:=by rw[bne_iff_ne];omega
  have t:qh (iD ls x ⟨d,Y,i,((k:Int),b),aa,j⟩ Z=.ok (gQ Z [l])):=by show _=_;rw[n.o];simp[m]
  clear m n;go_wp2_with fail
  refine(pU (G.o.alloc _) (eX H [l] rfl rfl qs) qs qt).mono ?_;rintro F w3 ⟨u,-,-,I⟩;obtain⟨rfl,z⟩:=u _ rfl;have L:=hide z;clear u z;go_wp2;go_end0;exact Ends.dW t.o L.o ((ac.alloc _).trans I)
 have ao:((x:Int) !=32)=true:=by rw[bne_iff_ne];omega
 go_wp2_with fail
 refine(take_at (G.o.alloc _) hb (eX H [l] rfl rfl qs) G.o.ne qs).mono ?_;rintro F w2 ⟨ag,ah,ap,ai⟩;have M:=(ac.alloc _).trans ai;have au:w2.cell? (qA W.heap.size 2)=some (qB x):=(ai.cell (p:=(qA W.heap.size 2)) qt (fun c=>Nat.lt_irrefl _ c.1)).trans ((World.cell?_alloc_lt _ _ _ an).trans hX);rcases s:dP Z [l] with⟨q,p⟩|P
 .obtain rfl:=ah _ _ s;exact⟨rfl,Ends.dD (by rw[n.o,if_neg m,s]) ap M⟩
 obtain⟨rfl,aj⟩:=ag _ s;have hf:=eH R.o.tidy.dK s;have av:P.di.length<=799000:=qo;have ak:=hide aj;have C:qh (iD ls x ⟨d,Y,i,((k:Int),b),aa,j⟩ Z=if x=33 then .ok P else .ok (gQ P [l])):=by show _=_;rw[n.o,if_neg m,s]
 clear ag ah aj s n hX hf;by_cases B:x=33
 .have af:((x:Int) !=33)=false:=by simp[B]
  have t:=hide (C.o.trans (if_pos B));clear B m C;go_wp2;go_end0;exact Ends.dW t.o ak.o M
 have af:((x:Int) !=33)=true:=by rw[bne_iff_ne];omega
 have t:=hide (C.o.trans (if_neg B));clear B m C;go_wp2_with fail
 refine(pU (ak.o.alloc _) (eX w2 [l] rfl rfl qs) qs qt).mono ?_;rintro F w3 ⟨u,-,-,I⟩;obtain⟨rfl,z⟩:=u _ rfl;have L:=hide z;clear u z;go_wp2;go_end0;exact Ends.dW t.o L.o (M.ig ((qr.alloc _).trans I) rfl)
end
section
variable {K O N:qD} {w W:qW} {bb Y:Nat} {lv:qv} {Z:Bd} {s:qS} {m:fE}
theorem NK(h:At K O w W N bb (qP Y) lv Z)(a:MV s K W Y m)(x:Int×Nat)(hx:0<=x.1/\x.1<=4294967295):
  qC 212 #[qP bb,.agg #[.int .u32 x.1,qJ x.2]] W (Says (fun _=>False) W (iw m x) isGlobal):=by
 obtain⟨d,e,b⟩:=h.body;by_cases c:x.1<(m.dB.length:Int)
 .exact X8 b.blk a hx c
 exact UG b.blk a hx c
theorem MK(h:At K O w W N bb (qP Y) lv Z)(a:MV s K W Y m)(x:Int×Nat)(hx:0<=x.1/\x.1<=4294967295):
  qC 210 #[qP bb,.agg #[.int .u32 x.1,qJ x.2]] W (Says (fun _=>False) W (kG m x) (isTypeOf K)):=by
 obtain⟨d,e,b⟩:=h.body;by_cases c:x.1<(m.dm.length:Int)
 .exact WY b.blk a hx c
 exact Tz b.blk a hx c
theorem UK(a b c d f:qv)(w:qW):(Instr.field 191 (.agg #[a,b,c,d,f]) 0).run prog w=.ok a w:=qk
theorem At.quiet{a:qW}(h:At K O w W N bb (qP Y) lv Z)(X:qK W a):At K O w a N bb (qP Y) lv Z:=by
 obtain⟨b,d,e⟩:=h.body;exact⟨h.kept.fresh X (fun _ _ c=>c.elim),⟨b,d,e.kept X (fun _ _ c=>c.elim)⟩,h.kb,h.x8,h.tidy,h.zK,h.stk⟩
theorem Fy{l:qO}{c0:Nat}{ls:qM}(h:At K O w W N bb (qP Y) (.slice l ls.length c0) Z)(hb:Z.dh≠[])(Q:MV s K W Y m)(R:dG K ls W (.slice l ls.length c0))(a e x:Nat)(y:ic)(pg pl:qO)(ng cg nl cl:Nat)(hx:0<=y.num.1/\y.num.1<=4294967295)(S:Z.di.length<=799000):
  qC 178 #[qP bb,.agg (yC a e x y (.slice pg ng cg) (.slice pl nl cl)).toArray] W (Ends K O w W (fun k=>k<W.heap.size) bb (qP Y) (.slice l ls.length c0) (fG m ls x y Z)):=by
 have i:=hide h.up;have ai:=UK;have T:=hide Q;have ae:=hide R;have C:Kept (fun k=>k<W.heap.size/\¬K k) W (W.alloc (.cells (yC a e x y (.slice pg ng cg) (.slice pl nl cl)).toArray 213)):=qr.alloc _;clear h Q R;by_cases D:x=26
 .subst D;have HN:qh (fG m ls 26 y Z=match fQ Z with | .error e=>.error e | .ok (_,st1)=>.ok st1):=rfl;go_enter func178,ntmps178;go_wp2_with fail
  refine(Cc (i.o.alloc _) hb).mono ?_;rintro j b ⟨hok2,jN,hk2,t⟩;have d:Kept (fun k=>k<W.heap.size/\¬K k) W b:=(qr.alloc _).trans t;rcases hm2:fQ Z with⟨q,p⟩|⟨k2,E⟩
  .obtain rfl:=jN _ _ hm2;exact⟨rfl,Ends.dD (by rw[HN.o,hm2]) hk2 d⟩
  obtain⟨rfl,hA2,-,-,-⟩:=hok2 _ _ hm2;have f:qh (fG m ls 26 y Z=.ok E):=by show _=_;rw[HN.o,hm2]
  have HA2:=hide hA2;clear hok2 jN hm2 hA2 HN C;go_wp2;go_end0;exact Ends.dW f.o HA2.o d
 by_cases F:x=27
 .subst F;have HN:qh (fG m ls 27 y Z=gZ Z):=rfl;go_enter func178,ntmps178;go_wp2_with fail
  refine(Kn (i.o.alloc _) hb S).mono ?_;rintro j b ⟨hok2,jN,hk2,t⟩;have hlow:Kept (fun k=>k<W.heap.size/\¬K k) W b:=((qr.alloc _).trans t).mono (fun k X c=>⟨X,c.2⟩);rcases hm2:gZ Z with⟨q,p⟩|E
  .exact SS
  exact SX
 by_cases G:x=35
 .subst G;have HN:qh (fG m ls 35 y Z=match iw m y.num with | .error e=>.error e | .ok g=>.ok (gQ Z [g.kind])):=rfl;go_enter func178,ntmps178;go_wp2_with fail
  refine(NK (i.o.alloc _) (T.o.kept ((Kept.refl (fun _=>False) _).alloc _) (fun _ _ _ c=>c)) y.num hx).mono ?_;rintro j b ⟨hk2,hok2,jN⟩;have hA2:=(i.o.alloc (.cells #[qJ a,qJ e,qB 35,.bool y.typed,.slice pg ng cg,.int .u32 y.align,.int .u32 y.num.1,qJ y.num.2,.slice pl nl cl,qJ y.val] 213)).quiet hk2;have d:Kept (fun k=>k<W.heap.size/\¬K k) W b:=(qr.alloc _).trans (hk2.mono (fun _ _ c=>c.elim));rcases hm2:iw m y.num with⟨q,p⟩|g
  .obtain rfl:=jN _ _ hm2;exact⟨rfl,Ends.dD (by rw[HN.o,hm2]) hA2.kept d⟩
  obtain⟨v,rfl,H⟩:=hok2 _ hm2;obtain rfl:v=.agg #[qB g.kind,.bool g.xM,qJ g.first.at_,qB g.first.kind,qJ g.first.val]:=H;have f:qh (fG m ls 35 y Z=.ok (gQ Z [g.kind])):=by show _=_;rw[HN.o,hm2]
  have HA2:=hide hA2;clear hok2 jN hm2 hA2 HN C;go_wp2_with fail
  refine(pU (HA2.o.alloc _) (eX b [g.kind] rfl rfl qs) qs qt).mono ?_;rintro j U ⟨u,-,-,I⟩;obtain⟨rfl,z⟩:=u _ rfl;have L:=hide z;clear u z;go_wp2;go_end0;exact Ends.dW f.o L.o ((d.alloc _).trans I)
 by_cases M:x=36
 .subst M;have HN:qh (fG m ls 36 y Z=match iw m y.num with | .error e=>.error e | .ok g=>if g.xM then dP Z [g.kind] else .error (4,Z.at_)):=rfl;go_enter func178,ntmps178;go_wp2_with fail
  refine(NK (i.o.alloc _) (T.o.kept ((Kept.refl (fun _=>False) _).alloc _) (fun _ _ _ c=>c)) y.num hx).mono ?_;rintro j b ⟨hk2,hok2,jN⟩;have hA2:=(i.o.alloc (.cells #[qJ a,qJ e,qB 36,.bool y.typed,.slice pg ng cg,.int .u32 y.align,.int .u32 y.num.1,qJ y.num.2,.slice pl nl cl,qJ y.val] 213)).quiet hk2;have d:Kept (fun k=>k<W.heap.size/\¬K k) W b:=(qr.alloc _).trans (hk2.mono (fun _ _ c=>c.elim));rcases hm2:iw m y.num with⟨q,p⟩|g
  .obtain rfl:=jN _ _ hm2;exact⟨rfl,Ends.dD (by rw[HN.o,hm2]) hA2.kept d⟩
  obtain⟨v,rfl,H⟩:=hok2 _ hm2;obtain rfl:v=.agg #[qB g.kind,.bool g.xM,qJ g.first.at_,qB g.first.kind,qJ g.first.val]:=H;have f:qh (fG m ls 36 y Z=if g.xM then dP Z [g.kind] else .error (4,Z.at_)):=by show _=_;rw[HN.o,hm2]
  have HA2:=hide hA2;clear hok2 jN hm2 hA2 HN C;cases V:g.xM with
  | false=>
   have A:qh (fG m ls 36 y Z=.error (4,Z.at_)):=by show _=_;rw[f.o,V];rfl
   clear f;go_wp2_with fail
   refine(yP (HA2.o.alloc _)).mono ?_;rintro j U ⟨rfl,rfl⟩;exact⟨rfl,Ends.dD A.o (HA2.o.kept.alloc _) (d.alloc _)⟩
  | true=>
   have A:qh (fG m ls 36 y Z=dP Z [g.kind]):=by show _=_;rw[f.o,V];rfl
   clear f;go_wp2_with fail
   refine(take_at ((HA2.o.alloc _).alloc _) hb (eX _ [g.kind] qs rfl qs) (HA2.o.alloc _).ne qs).mono ?_;rintro j U ⟨u,aa,af,I⟩;have ab:=((d.alloc _).alloc _).trans I;rcases B:dP Z [g.kind] with⟨q,p⟩|aj
   .obtain rfl:=aa _ _ B;exact⟨rfl,Ends.dD (A.o.trans B) af ab⟩
   obtain⟨rfl,z⟩:=u _ B;have L:=hide z;have HE:=hide (A.o.trans B);clear u aa B z A;go_wp2;go_end0;exact Ends.dW HE.o L.o ab
 have HN:qh (fG m ls x y Z=iD ls x y Z):=by show _=_;unfold fG;rw[if_neg D,if_neg F,if_neg G,if_neg M]
 have ak:((x:Int)==26)=false:=qe;have am:((x:Int)==27)=false:=qe;have an:((x:Int)==35)=false:=qe;have ao:((x:Int)==36)=false:=qe;clear D F G M C;have ag:qh (∀n,At K O w n (fun k=>k<W.heap.size) bb (qP Y) (.slice l ls.length c0) Z->dG K ls n (.slice l ls.length c0)->qC 213 #[qP bb,.agg (yC a e x y (.slice pg ng cg) (.slice pl nl cl)).toArray] n (Ends K O w n (fun k=>k<n.heap.size) bb (qP Y) (.slice l ls.length c0) (iD ls x y Z))):=by
  intro n ac ah;by_cases ad:y.num.1<(ls.length:Int)
  .exact LW ac hb ah a e x y pg pl ng cg nl cl hx ad S
  exact Kr ac a e x y pg pl ng cg nl cl hx ad
 go_enter func178,ntmps178;go_wp2_with fail
 refine(ag.o _ (i.o.alloc _) (Row.alloc ae.o _)).mono ?_;rintro j b ⟨hok2,jN,hk2,t⟩;have hlow:Kept (fun k=>k<W.heap.size/\¬K k) W b:=((qr.alloc _).trans t).mono (fun k X c=>⟨X,c.2⟩);rcases hm2:iD ls x y Z with⟨q,p⟩|E
 .exact SS
 exact SX
end
theorem R6(w:qW)(a b:Nat):(w.drewN a).drewN b=w.drewN (a+b):=qs
theorem Am{ok ok':qD}{w:qW}{us vs:qM}{pa pb:qO}{ca cb:Nat}(r:dG ok us w (.slice pa us.length ca))(hb:dG ok' vs w (.slice pb vs.length cb))(D:us.length<=50):
  qC 205 #[.slice pa us.length ca,.slice pb vs.length cb] w fun e w'=>e=.returned (.bool (decide (us=vs)))/\∃k,w'=w.drewN k:=by
 by_cases a:us.length=vs.length
 .have t:((us.length:Int) !=(vs.length:Int))=false:=by simp[a]
  have g:=hide a;clear a;go_enter func205,ntmps205;go_wp2;go_loopw [13] (fun q wr=>∃k:Nat,k<=us.length/\q=qJ k/\(∃j,wr=w.drewN j)/\∀i,i<k->us.getD i 0=vs.getD i 0) (fun q _=>us.length - (intOf q).toNat)
  case atStart=>exact⟨0,qZ,rfl,⟨0,rfl⟩,fun i l=>absurd l (Nat.not_lt_zero _)⟩
  obtain⟨k,X,rfl,⟨j,rfl⟩,n⟩:=hrel;have d:=hide n;clear n;by_cases u:k<us.length
  .have hlt':(k:Int)<(us.length:Int):=qo;have E:(k:Int)<(vs.length:Int):=by have:=g.o;omega
   obtain⟨F,c1,v,-,G,-,z⟩:=dG.cell r u;obtain⟨H,c2,A,-,I,-,B⟩:=dG.cell hb (i:=k) qo;cases v;cases A;by_cases b:us.getD k 0=vs.getD k 0
   .have f:(((us.getD k 0:Nat):Int) !=((vs.getD k 0:Nat):Int))=false:=by rw[b,bne_self_eq_false]
    have p:=hide b;have C:qh (∀i,i<k+1->us.getD i 0=vs.getD i 0):=fun i l=>by
     by_cases h:i=k
     .subst h;exact p.o
     exact d.o i qo
    clear b d p;generalize us.getD k 0=x at f z;generalize vs.getD k 0=y at f B;go_wp2;go_quiet (fail)
    go_wp2;go_roundw
    case rel=>exact⟨k+1,qo,by go_num,⟨_,rfl⟩,C.o⟩
    simp[intOf];omega
   have f:(((us.getD k 0:Nat):Int) !=((vs.getD k 0:Nat):Int))=true:=by rw[bne_iff_ne];omega
   have c:qh (decide (us=vs)=false):=decide_eq_false (fun e=>b (by rw[e]));clear b;generalize us.getD k 0=x at*;generalize vs.getD k 0=y at*;go_wp2;go_quiet (fail)
   go_wp2;go_ret;exact⟨by rw[c.o];rfl,_,R6 _ _ _⟩
  have c:qh (decide (us=vs)=true):=by
   refine decide_eq_true (List.ext_getElem (by exact g.o) (fun i U L=>?_));have:=d.o i qo;simpa [U,L] using this
  go_wp2;go_ret;exact⟨by rw[c.o];rfl,_,rfl⟩
 have t:((us.length:Int) !=(vs.length:Int))=true:=by rw[bne_iff_ne];omega
 have c:qh (decide (us=vs)=false):=decide_eq_false (fun e=>a (by rw[e]));clear a;go_enter func205,ntmps205;go_wp2;go_ret;exact⟨by rw[c.o];rfl,0,rfl⟩
section
variable {K O N:qD} {w W:qW} {bb Y:Nat} {lv:qv} {Z:Bd} {s:qS} {m:fE}
theorem Eu(h:At K O w W N bb (qP Y) lv Z)(r:MV s K W Y m)(a e x:Nat)(y:ic)(pg pl:qO)(cg nl cl:Nat)(hx:0<=y.num.1/\y.num.1<=4294967295)(b:dG K y.dH W (.slice pg y.dH.length cg)):
  qC 203 #[qP bb,.agg #[qJ a,qJ e,qB x,.bool y.typed,.slice pg y.dH.length cg,.int .u32 y.align,.int .u32 y.num.1,qJ y.num.2,.slice pl nl cl,qJ y.val]] W (Says (fun _=>False) W (fJ m y) (isTypeOf K)):=by
 have j:=hide h.up;have G:=hide r;have H:=hide b;clear h r b;cases u:y.typed with
 | false=>
  have d:qh (fJ m y=.ok ⟨[],y.dH⟩):=by show _=_;simp[fJ,u]
  go_enter func203,ntmps203;go_wp2;refine bodyPost_ret (v:=.agg #[qN,.slice pg y.dH.length cg]) ?_ rfl ?_
  .simp[results,results203,go_sem]
  have X:=((Kept.refl (fun _=>False) W).alloc (.cells #[qJ a,qJ e,qB x,.bool false,.slice pg y.dH.length cg,.int .u32 y.align,.int .u32 y.num.1,qJ y.num.2,.slice pl nl cl,qJ y.val] 213)).alloc (.cells #[qN,.slice pg y.dH.length cg] 198);exact Says.dW d.o X ⟨_,_,rfl,Row.nil _ _ _ _,Row.kept H.o X (fun _ _ _ c=>c)⟩
 | true=>
  have d:qh (fJ m y=kG m y.num):=by show _=_;simp[fJ,u]
  have z:∀A B,qK W ((W.alloc A).alloc B):=fun A B=>(qr.alloc _).alloc _;go_enter func203,ntmps203;go_wp2_with fail
  refine(MK ((j.o.alloc _).alloc _) (G.o.kept (z _ _) (fun _ _ _ c=>c)) y.num hx).mono ?_;rintro ee w2 ⟨k,C,D⟩;have E:=(z _ _).trans k;have F:=((kY.new' (w:=W.alloc (.cells #[qJ a,qJ e,qB x,.bool true,.slice pg y.dH.length cg,.int .u32 y.align,.int .u32 y.num.1,qJ y.num.2,.slice pl nl cl,qJ y.val] 213)) (g:=W.heap.size+1) (c:= #[qN,qN]) (t:=198) qs)).kept k qs (fun c=>c);have aa:=k.size;rcases f:kG m y.num with⟨q,p⟩|t
  .obtain rfl:=D _ _ f;exact⟨rfl,Says.dD (d.o.trans f) E⟩
  obtain⟨v,rfl,vi,vo,rfl,l,n⟩:=C _ f;obtain⟨I,J,rfl⟩:=Row.shape l;obtain⟨M,P,rfl⟩:=Row.shape n;obtain⟨⟨Q,S0⟩,⟨R,S1⟩⟩:=F.two;have S:=hide (d.o.trans f);have T:=hide l;have V:=hide n;have i:∀g,K g->g≠W.heap.size+1:=fun g b e=>by
   have U:=j.o.kb g b;have L:=j.o.kept.size;omega
  clear C D f l n F d;go_wp2;refine bodyPost_ret (v:=.agg #[.slice I t.ins.length J,.slice M t.outs.length P]) ?_ rfl ?_
  .simp[results,results203,go_sem,Q,R]
  exact Says.dW S.o ((E.new qo _).new qo _) ⟨_,_,rfl,Row.other (Row.other T.o (fun g b=>i g b) _) (fun g b=>i g b) _,Row.other (Row.other V.o (fun g b=>i g b) _) (fun g b=>i g b) _⟩
end
theorem jH{P:Program}{b:Array Oper}{Q:Exit->Act->qW->Prop}{i:Nat}{K:Act->qW->Prop}{a:Act}{w:qW}{o:Oper}{f:FuncId}{args:Array qv}{R:Ending->qW->Prop}(d:b[i]?=some o)(g:o.guard=none)
  (j:(execOp a.eval o).run P w=.ok (.enter f args) w) (hc:Calls P f args w R) (h:∀e w',R e w'->(∃v,e=.returned v/\K (a.put o.dst v) w')\/∃c,e=.panicked c/\Q (.panic c) a w'):wpOp P b Q i K a w:=by
 have hw:Region.wanted o (yielded b a.tmps)=true:=by simp[Region.wanted,g]
 unfold wpOp;rw[d];simp only[hw,if_true];unfold Oper.wp;rw[j];refine .inl (hc.mono ?_);intro e w' k;rcases h e w' k with⟨v,rfl,X⟩ | ⟨c,rfl,hq⟩
 .exact X
 exact hq
section
variable {K O N:qD} {w W:qW} {bb Y:Nat} {lv:qv} {Z:Bd} {s:qS} {m:fE}
theorem G8{pg pl:qO}{cg nl cl:Nat}(h:At K O w W N bb (qP Y) lv Z)(hb:Z.dh≠[])(d:MV s K W Y m)(a e x:Nat)(y:ic)(hx:0<=y.num.1/\y.num.1<=4294967295)(g:dG K y.dH W (.slice pg y.dH.length cg))(A:Z.di.length<=798000)(hbl:Z.dh.length<=54)(l:∀t,fJ m y=.ok t->t.ins.length<=8/\t.outs.length<=8)(j:x=2\/x=3):
  qC 176 #[qP bb,.agg (yC a e x y (.slice pg y.dH.length cg) (.slice pl nl cl)).toArray] W (Ends K O w W (fun k=>k<W.heap.size) bb (qP Y) lv (fe m x y Z)):=by
 have HA:=hide h.up;have B:=hide d;have C:=hide g;have HBT:qh (∀b,At K O w b (fun k=>k<W.heap.size) bb (qP Y) lv Z->qK W b->qC 203 #[qP bb,.agg (yC a e x y (.slice pg y.dH.length cg) (.slice pl nl cl)).toArray] b (Says (fun _=>False) b (fJ m y) (isTypeOf K))):=fun b r n=>Eu r (d.kept n (fun _ _ _ c=>c)) a e x y pg pl cg nl cl hx (Row.kept g n (fun _ _ _ c=>c));have HM:qh (fe m x y Z=match fJ m y with | .error e=>.error e | .ok t=>jR x t Z):=by
  show _=_;unfold fe;rw[if_neg qo,if_pos j]<;>rfl
 have HTY:qh (∀t,fJ m y=.ok t->t.ins.length<=8/\t.outs.length<=8):=l;have D:((x:Int)==0)=false:=qe;have u:(((x:Int)==2)=true)\/(((x:Int)==2)=false/\((x:Int)==3)=true):=by
  rcases j with rfl | rfl
  .exact .inl rfl
  exact .inr ⟨rfl,rfl⟩
 have o:(fun w':qW=>w'.cell? (qA W.heap.size 0)=some (qJ a)/\w'.cell? (qA W.heap.size 1)=some (qJ e)/\w'.cell? (qA W.heap.size 2)=some (qB x)/\w'.cell? (qA W.heap.size 3)=some (.bool y.typed)/\w'.cell? (qA W.heap.size 4)=some (.slice pg y.dH.length cg)/\w'.cell? (qA W.heap.size 5)=some (.int .u32 y.align)/\w'.cell? (qA W.heap.size 6)=some (.int .u32 y.num.1)/\w'.cell? (qA W.heap.size 7)=some (qJ y.num.2)/\w'.cell? (qA W.heap.size 8)=some (.slice pl nl cl)/\w'.cell? (qA W.heap.size 9)=some (qJ y.val)) ((W.alloc (.cells (yC a e x y (.slice pg y.dH.length cg) (.slice pl nl cl)).toArray 213)).drew):=by
  dsimp only;exact⟨qs,qs,qs,qs,qs,qs,qs,qs,qs,qs⟩
 have KP:=hide o;clear h d g l j o;rcases u with z | ⟨z,E⟩
 .exact Zz1
 exact Zz1
end
end Go.Proofs.YtdaafkmhfedkiaaGreat
