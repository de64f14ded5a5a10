import Derived.Test.YtdaafkmhfedkiaaGreatX17
namespace Go.Proofs.YtdaafkmhfedkiaaGreat
set_option maxHeartbeats 6400000
set_option maxRecDepth 100000
open Go.RowKit Go.Proofs.Tryz
section
variable {w0 w:qW} {x tb A i Y:Nat} {ids uses:qv} {r:List (Nat×qV)} {c p:Nat} {s n:qS}
theorem Tryz.aeN:(prog.info? 64).map (fun i=>(i.zero,i.size,i.bytes))=some (some (.agg #[.string ⟨#[]⟩,.string ⟨#[]⟩,qJ 0,qJ 0,qJ 0,qJ 0]),6,64):=qk
theorem aaS(h:fZ w0 w (TL x tb A i Y ids (qN) r))(y:toks[i]?=some (119,s,p))(m:Qh s n)(q:qS)(k:Nat):
  qC 49 #[qP x,.agg #[.string q,.string ⟨#[]⟩,qJ 0,qJ k,qJ 0,qJ 0]] w fun e w'=>∃g f,AJ w0 (qJ 0) (TL x tb A (i+1) Y ids (.slice (some (qA g 0)) 1 f) (r++[(g,[.string q,.string n,qJ p,qJ k,qJ 0,qJ 0])])) e w':=by
 have t:=hide y;have z:=hide m;have hf:=ft;have E:=V7 m;have B:fZ w0 _ (TL x tb A i Y ids (qN) (r++[(w.heap.size,[.string q,.string ⟨#[]⟩,qJ 0,qJ k,qJ 0,qJ 0])])):=h.new #[.string q,.string ⟨#[]⟩,qJ 0,qJ k,qJ 0,qJ 0] 64;have H:=hide B;clear y h m B;go_enter func49,ntmps49;go_wp2_with fail
 refine(Oq H.o t.o z.o).mono ?_;rintro e F ⟨rfl,U⟩;go_wp2_with fail
 refine(iR U t.o).mono ?_;rintro e G ⟨rfl,L⟩;generalize w.heap.size=C at*;obtain⟨I,J⟩:=fZ.cL (l:=TL x tb A i Y ids _ r) L 2 rfl;have M:=fZ.ltL (l:=TL x tb A i Y ids _ r) L;go_wp2_with fail
 refine(Ia (fZ.afG (l:=TL x tb A i Y ids _ r) L 2 (qJ p)) t.o z.o).mono ?_;rintro e N ⟨rfl,h3⟩;obtain⟨O,R⟩:=fZ.cL (l:=TL x tb A (i+1) Y ids _ r) h3 1 rfl;have S:=fZ.ltL (l:=TL x tb A (i+1) Y ids _ r) h3;have h4:fZ w0 _ (TL x tb A (i+1) Y ids (qN) (r++[(C,[.string q,.string n,qJ p,qJ k,qJ 0,qJ 0])])):=fZ.afG (l:=TL x tb A (i+1) Y ids _ r) h3 1 (.string n);have u:=h4.drew;have b:=hide h4;clear h4 h3 L U;go_wp2_with fail
 have T:=b.o.q 0 6;have V:=fZ.qL (l:=TL x tb A (i+1) Y ids _ r) b.o 0 rfl;have X:=fZ.qL (l:=TL x tb A (i+1) Y ids _ r) b.o 1 rfl;have Z:=fZ.qL (l:=TL x tb A (i+1) Y ids _ r) b.o 2 rfl;have q3:=fZ.qL (l:=TL x tb A (i+1) Y ids _ r) b.o 3 rfl;have q4:=fZ.qL (l:=TL x tb A (i+1) Y ids _ r) b.o 4 rfl;have q5:=fZ.qL (l:=TL x tb A (i+1) Y ids _ r) b.o 5 rfl;refine Bv b.o 10 ?_;iterate 6 refine pQ u ?_
 refine Cf (fun K d=>?_);go_simp;refine d _ _ (.inr (u.alloc _)) ?_;refine Cf (fun K d=>?_);refine yL Tryz.aeN underlying42 u (fun g f w5 h5=>d _ _ (.inr h5.left) ?_);have D:=h5.left;iterate 2 refine pQ D ?_
 obtain⟨C6,F6⟩:=h5.c 0 6;have hx:=h5.lt 0;refine uW (fun K d=>?_);go_simp;refine d _ _ ?_;go_wp2;go_ret;exact⟨g,f,rfl,fZ.drop2 (l:=TL x tb A (i+1) Y ids _ r) (h5.set 0 6 (.slice (some (qA g 0)) 1 f) rfl)⟩
theorem Oo(h:fZ w0 w (TL x tb A i Y ids uses r))(a:toks[i]?=some (119,⟨#[105,51,50]⟩,p)):
  qC 46 #[qP x] w (AJ w0 (qB 105) (TL x tb A (i+1) Y ids uses r)):=by
 have H:=hide h;have b:=hide a;have d:IntKind.i64.wrap ((i:Int)+1)=(i:Int)+1:=by have:i<27:=(List.getElem?_eq_some_iff.1 a).1;exact IntWalk.i64_in _ ⟨qo,qo⟩
 clear a h;go_enter func46,ntmps46;go_wp2_with fail
 refine(vG H.o b.o _).mono ?_;rintro e f ⟨rfl,U⟩;go_wp2_with fail
 refine(vG U b.o _).mono ?_;rintro e g ⟨rfl,L⟩;obtain⟨j,k⟩:=L.c 0 1;obtain⟨l,-⟩:=L.c 0 3;have hx:=L.lt 0;go_wp2;go_ret;exact⟨rfl,L.set 0 1 (qJ ((i+1:Nat):Int)) rfl⟩
end
section
variable {w0 w:qW} {x tb A i Y:Nat} {ids uses:qv} {r:List (Nat×qV)} {c p:Nat} {s n:qS}
theorem aaD(W:qW):(convert 86 9 (.slice (some (qA W.heap.size 0)) 1 1)).run prog (W.alloc (.cells #[qB 105] 5))=.ok (.string ⟨#[105]⟩) (W.alloc (.cells #[qB 105] 5)):=
 (jb _ _ _ (rD W 105)).trans (by rw[show strOfNums [(105:Int)]=⟨#[105]⟩ by kernel_rfl])
theorem Vu(h:fZ w0 w (TL x tb A 12 Y ids uses r)):
  qC 68 #[qP x,.string ⟨#[]⟩,qJ 4] w (AJ w0 (.string ⟨#[105]⟩) (TL x tb A 14 Y ids uses r)):=by
 have H:=hide h;have hf:=ft;have d:=aaD;have f:(⟨#[]⟩:qS)++⟨#[105]⟩=⟨#[105]⟩:=qk;obtain⟨a,-⟩:=h.c 0 3;have hx:=h.lt 0;clear h;go_enter func68,ntmps68;go_wp2_with fail
 refine wp_loop_rounds 2 ?_;rw[rounds_succ];go_wp2_with fail
 refine(iR H.o rfl).mono ?_;rintro e g ⟨rfl,U⟩;go_wp2_with fail
 refine(iR U rfl).mono ?_;rintro e j ⟨rfl,L⟩;go_wp2_with fail
 refine(Oo (L.alloc _) rfl).mono ?_;rintro e k ⟨rfl,h3⟩;have h4:=h3.alloc (.cells #[qB 105] 5);obtain⟨a,-⟩:=h3.c 0 3;have hx:=h3.lt 0;go_wp2_with fail
 rw[rounds_succ];go_wp2_with fail
 refine(iR h4 rfl).mono ?_;rintro e l ⟨rfl,h5⟩;go_wp2_with fail
 refine(vJ h5 rfl).mono ?_;rintro e m ⟨rfl,b⟩;go_wp2;go_ret;exact⟨rfl,b⟩
def Cm(dm funcs dw:Value):List Value:=[dm,funcs,.bool false,.bool false,qJ 0,qJ 0,qJ 0,.bool false,.bool false,qJ 0,qJ 0,qJ 0,qN,dw,.bool false,qJ 0,qJ 0,qN,qN]
def Pq(code:Value)(name:qS)(names:Value):List Value:=[qJ 0,qJ 0,.string ⟨#[]⟩,code,qJ 0,.string name,names]
theorem Tryz.aae:(prog.info? 108).map (fun i=>(i.zero,i.size,i.bytes))=some (some (.agg #[qJ 0,.string ⟨#[]⟩]),2,24):=qk
theorem idX:Qh ⟨#[36,120]⟩ ⟨#[120]⟩:=.inr ⟨rfl,rfl⟩
theorem afX:Qh ⟨#[36,105,100]⟩ ⟨#[105,100]⟩:=.inl ⟨rfl,rfl⟩
variable {fb cf:Nat} {dm dw code:qv} {name:qS}
theorem Vq(h:fZ w0 w (TL x tb A 7 Y ids uses ((Y,Cm dm (.slice (some (qA fb 0)) 1 cf) dw)::(fb,Pq code name (qN))::r))):
  qC 67 #[qP x,qJ 0,.bool false] w fun e w'=>∃g b,AJ w0 (qB 105) (TL x tb A 10 Y ids uses ((Y,Cm dm (.slice (some (qA fb 0)) 1 cf) dw)::(fb,Pq code name (.slice (some (qA g 0)) 1 b))::(r++[(g,[qJ 0,.string ⟨#[120]⟩])]))) e w':=by
 have H:=hide h;have hf:=ft;clear h;go_enter func67,ntmps67;go_wp2_with fail
 refine(iR H.o rfl).mono ?_;rintro e z ⟨rfl,U⟩;go_wp2_with fail
 refine(Ia U rfl idX).mono ?_;rintro e B ⟨rfl,L⟩;have j:=L.q 0 2;have k:=L.q 0 10;have l:=L.q 2 1;go_wp2_with fail
 have d:=L.drew;refine Bv L 12 ?_;iterate 12 refine pQ d ?_
 refine uW (fun K f=>?_);go_simp;refine f _ _ ?_;obtain⟨m,t⟩:=d.c 3 6;have u:=d.lt 3;clear j k l;go_wp2_with fail
 refine wp_loop_rounds 1 ?_;rw[rounds_succ];go_wp2_with (at_builtin;refine wpList_plain rfl fun _ f=>Ov Tryz.aae underlying68 d (fun g b C h4=>f _ _ ?_);obtain⟨m,t⟩:=h4.c 3 6;have u:=h4.lt 3 rfl)
 refine(iR (i:=8) (h4.set 3 6 (.slice (some (qA g 0)) 1 b) rfl) rfl).mono ?_;rintro e D ⟨rfl,h5⟩;go_wp2_with fail
 refine(Oo (h5.alloc _) rfl).mono ?_;rintro e E ⟨rfl,v⟩;go_wp2_with fail
 refine(vJ v rfl).mono ?_;rintro e F ⟨rfl,y⟩;go_wp2;go_ret;exact⟨g,b,rfl,y⟩
end
section
variable {w0 w:qW} {x tb A i Y:Nat} {ids uses:qv} {r:List (Nat×qV)} {c p:Nat} {s n:qS} {fb cf:Nat} {dm dw code:qv} {name:qS}
theorem fZ.ins{l1 l2:List (Nat×qV)}{p:Nat×qV}(h:fZ w0 w (l1++l2++[p])):fZ w0 w (l1++p::l2):=by
 have hp:(l1++p::l2).Perm (l1++l2++[p]):=List.perm_middle.trans (List.perm_append_singleton _ _).symm;exact⟨h.kept,fun q hq=>h.blk q (hp.mem_iff.1 hq),(hp.map _).nodup_iff.2 h.nd⟩
theorem rG(h:fZ w0 w (TL x tb A i Y ids uses r))(a:toks[i]?=some (c,s,p))(u:qS)(hc:(c==40)=false):
  qC 17 #[qP x,.string u] w (AJ w0 (.bool false) (TL x tb A i Y ids uses r)):=by
 have:=zz h a (c':=0) (p':=0) (s':=u) (fun e=>by subst e;cases hc) u;rw[hc] at this;exact this
theorem Ol(h:fZ w0 w (TL x tb A i Y ids uses r))(a:toks[i]?=some (c,s,p))(u:qS)(hc:(c==40)=false):
  qC 45 #[qP x,.string u] w (AJ w0 (.bool false) (TL x tb A i Y ids uses r)):=
 KI h a (c':=0) (p':=0) (s':=u) (fun e=>by subst e;cases hc) u (by rw[hc];rfl)
theorem Vs(h:fZ w0 w (TL x tb A 5 Y ids uses ((Y,Cm dm (.slice (some (qA fb 0)) 1 cf) dw)::(fb,Pq code name (qN))::r))):
  qC 42 #[qP x,qJ 0] w fun e w'=>∃g d,AJ w0 (.tuple #[.agg #[.string ⟨#[105]⟩,.string ⟨#[105]⟩],.bool true]) (TL x tb A 14 Y ids uses ((Y,Cm dm (.slice (some (qA fb 0)) 1 cf) dw)::(fb,Pq code name (.slice (some (qA g 0)) 1 d))::(r++[(g,[qJ 0,.string ⟨#[120]⟩])]))) e w':=by
 have k:fZ w0 _ (TL x tb A 5 Y ids uses ((Y,Cm dm (.slice (some (qA fb 0)) 1 cf) dw)::(fb,Pq code name (qN))::(w.heap.size+1,[.string ⟨#[]⟩,.string ⟨#[]⟩])::(w.heap.size,[.string ⟨#[]⟩,.string ⟨#[]⟩])::r)):=fZ.ins (l1:=[_,_,_,_]) (l2:=_::r) ((fZ.ins (l1:=[_,_,_,_]) (l2:=r) (h.new #[.string ⟨#[]⟩,.string ⟨#[]⟩] 83)).Ue #[.string ⟨#[]⟩,.string ⟨#[]⟩] 83 (w.heap.size+1) qs);have H:=hide k;have hf:=ft;have z:=aaD;have B:(⟨#[]⟩:qS)++⟨#[105]⟩=⟨#[105]⟩:=qk;have C:(((⟨#[36,120]⟩:qS)[0]' qx).toNat:Int)=36:=rfl;clear h k;go_enter func42,ntmps42;go_wp2_with fail
 generalize q:(w.alloc _).alloc _=W at*;generalize w.heap.size+1=t at*;generalize w.heap.size=D at*;clear q;refine wp_loop_rounds 2 ?_;rw[rounds_succ];go_wp2_with fail
 refine(Oj H.o rfl rfl).mono ?_;rintro e E ⟨rfl,U⟩;go_wp2_with fail
 refine(iR U rfl).mono ?_;rintro e F ⟨rfl,L⟩;go_wp2_with fail
 refine(iR L rfl).mono ?_;rintro e G ⟨rfl,h3⟩;obtain⟨l,-⟩:=h3.c 4 0;have b:=h3.lt 4;go_wp2_with fail
 refine(Vq h3).mono ?_;rintro e u ⟨g,d,rfl,h4⟩;obtain⟨l,I⟩:=h4.c 4 0;have b:=h4.lt 4;have J:¬u.heap.size=t:=qo;have h5:=(h4.set 4 0 (.string ⟨#[105]⟩) rfl).alloc (.cells #[qB 105] 5);go_wp2_with fail
 rw[rounds_succ];go_wp2_with fail
 refine(KI (i:=10) h5 rfl (fun _=>rfl) _ qk).mono ?_;rintro e K ⟨rfl,y⟩;go_wp2_with fail
 refine wp_loop_rounds 2 ?_;rw[rounds_succ];go_wp2_with fail
 refine(Oj y rfl rfl).mono ?_;rintro e M ⟨rfl,f⟩;obtain⟨m,-⟩:=f.c 4 1;have b:=f.lt 4;go_wp2_with fail
 refine(Vu f).mono ?_;rintro e N ⟨rfl,j⟩;obtain⟨m,O⟩:=j.c 4 1;have b:=j.lt 4;go_wp2_with fail
 rw[rounds_succ];go_wp2_with fail
 refine(Ol (j.set 4 1 (.string ⟨#[105]⟩) rfl) rfl _ rfl).mono ?_;rintro e P ⟨rfl,a⟩;obtain⟨Q,R⟩:=a.c 5 0;obtain⟨S,T⟩:=a.c 5 1;obtain⟨l,-⟩:=a.c 4 0;obtain⟨m,-⟩:=a.c 4 1;have V:=a.lt 5;have b:=a.lt 4;go_wp2;refine bodyPost_ret (v:=.tuple #[.agg #[.string ⟨#[105]⟩,.string ⟨#[105]⟩],.bool true]) ?_ rfl ?_
 .simp[results,results42,go_sem,((a.set 5 0 (.string ⟨#[105]⟩) rfl).c 5 0 rfl rfl).1,(((a.set 5 0 (.string ⟨#[105]⟩) rfl).set 5 1 (.string ⟨#[105]⟩) rfl).c 5 1 rfl rfl).1]
 exact⟨g,d,rfl,((((a.set 5 0 (.string ⟨#[105]⟩) rfl).set 5 1 (.string ⟨#[105]⟩) rfl).rm 4).rm 4)⟩
theorem Tryz.ab7:(prog.info? 83).map (fun i=>(i.zero,i.size,i.bytes))=some (some (.agg #[.string ⟨#[]⟩,.string ⟨#[]⟩]),2,32):=qk
variable {funcs:qv}
theorem Vw(h:fZ w0 w (TL x tb A i Y ids uses ((Y,Cm (qN) funcs dw)::r)))(a b:qS):
  qC 113 #[qP x,.agg #[.string a,.string b]] w fun e w'=>∃g k,AJ w0 (qJ 0) (TL x tb A i Y ids uses ((Y,Cm (.slice (some (qA g 0)) 1 k) funcs dw)::(r++[(g,[.string a,.string b])]))) e w':=by
 have m:fZ w0 _ (TL x tb A i Y ids uses ((Y,Cm (qN) funcs dw)::(r++[(w.heap.size,[.string a,.string b])]))):=h.new #[.string a,.string b] 83;have H:=hide m;obtain⟨z,-⟩:=m.c 0 2;obtain⟨u,-⟩:=m.c 2 0;have hx:=h.lt 0;have hm:=h.lt 2;clear h m;go_enter func113,ntmps113;go_wp2_with fail
 generalize B:w.alloc _=W at*;have J:=H.o.lt 0 rfl;have L:=H.o.lt 2 rfl;generalize w.heap.size=M at*;clear B;refine wp_loop_rounds 1 ?_;rw[rounds_succ];go_wp2_with fail
 have C:=H.o.q 0 2;have D:=H.o.q 2 0;have E:=fZ.qL (l:=TL x tb A i Y ids uses (_::r)) H.o 0 rfl;have F:=fZ.qL (l:=TL x tb A i Y ids uses (_::r)) H.o 1 rfl;have t:=H.o.drew;refine Bv H.o 16 ?_;iterate 12 refine pQ t ?_
 refine Cf (fun K f=>?_);go_simp;refine f _ _ (.inr (t.alloc _)) ?_;refine Cf (fun K f=>?_);refine yL Tryz.ab7 underlying30 t (fun g k G h5=>f _ _ (.inr h5.left) ?_);have y:=h5.left;iterate 2 refine pQ y ?_
 obtain⟨u,N⟩:=h5.c 2 0;have hm:=h5.lt 2;refine uW (fun K f=>?_);go_simp;refine f _ _ ?_;have d:=h5.set 2 0 (.slice (some (qA g 0)) 1 k) rfl;obtain⟨z,-⟩:=d.c 0 2;obtain⟨u,-⟩:=d.c 2 0;have hx:=d.lt 0;have hm:=d.lt 2;have I:=hide d;clear C D E F t y h5 d;generalize G.setCell _ _=O at*;go_wp2;go_ret;exact⟨g,k,rfl,fZ.drop2 (l:=TL x tb A i Y ids uses (_::r)) I.o⟩
theorem SF(h:fZ w0 w (TL x tb A 5 Y ids uses ((Y,Cm (qN) (.slice (some (qA fb 0)) 1 cf) dw)::(fb,Pq code name (qN))::r))):
  qC 69 #[qP x,qJ 0,.bool false,.agg #[.string ⟨#[116,121,112,101]⟩,.string ⟨#[]⟩,qJ 0,qJ 1,qJ 0,qJ 0]] w fun e w'=>∃g b y d,AJ w0 (.tuple #[qJ 0,.agg #[.string ⟨#[105]⟩,.string ⟨#[105]⟩],.bool false]) (TL x tb A 14 Y ids uses ((Y,Cm (.slice (some (qA y 0)) 1 d) (.slice (some (qA fb 0)) 1 cf) dw)::(fb,Pq code name (.slice (some (qA g 0)) 1 b))::(r++[(g,[qJ 0,.string ⟨#[120]⟩])]++[(y,[.string ⟨#[105]⟩,.string ⟨#[105]⟩])]))) e w':=by
 have m:fZ w0 _ (TL x tb A 5 Y ids uses ((Y,Cm (qN) (.slice (some (qA fb 0)) 1 cf) dw)::(fb,Pq code name (qN))::(w.heap.size+1,[.string ⟨#[]⟩,.string ⟨#[]⟩])::r)):=fZ.ins (l1:=[_,_,_,_]) (l2:=r) ((h.alloc (.cells #[.string ⟨#[116,121,112,101]⟩,.string ⟨#[]⟩,qJ 0,qJ 1,qJ 0,qJ 0] 64)).Ue #[.string ⟨#[]⟩,.string ⟨#[]⟩] 83 (w.heap.size+1) qs);have H:=hide m;have hf:=ft;clear h m;go_enter func69,ntmps69;go_wp2_with fail
 refine(Dc H.o rfl).mono ?_;rintro e D ⟨rfl,U⟩;generalize w.heap.size+1=u at*;go_wp2_with fail
 refine(KI U rfl (fun _=>rfl) _ qk).mono ?_;rintro e E ⟨rfl,L⟩;go_wp2_with fail
 refine(Vs L).mono ?_;rintro e t ⟨g,b,rfl,h3⟩;obtain⟨F,-⟩:=h3.c 0 3;have hx:=h3.lt 0;have h4:fZ w0 _ (TL x tb A 14 Y ids uses ((Y,Cm (qN) (.slice (some (qA fb 0)) 1 cf) dw)::(fb,Pq code name (.slice (some (qA g 0)) 1 b))::(t.heap.size,[.string ⟨#[105]⟩,.string ⟨#[105]⟩])::(u,[.string ⟨#[]⟩,.string ⟨#[]⟩])::(r++[(g,[qJ 0,.string ⟨#[120]⟩])]))):=fZ.ins (l1:=[_,_,_,_]) (l2:=_::(r++_)) (h3.new #[.string ⟨#[105]⟩,.string ⟨#[105]⟩] 83);go_wp2_with fail
 refine(Vw h4 _ _).mono ?_;rintro e z ⟨y,d,rfl,h5⟩;generalize t.heap.size=B at*;have f:fZ w0 z (TL x tb A 14 Y ids uses ((Y,Cm (.slice (some (qA y 0)) 1 d) (.slice (some (qA fb 0)) 1 cf) dw)::(fb,Pq code name (.slice (some (qA g 0)) 1 b))::(B,[.string ⟨#[105]⟩,.string ⟨#[105]⟩])::r)):=((h5.rm 5).sub (List.Sublist.append_left (l:=[_,_,_,_,_]) qs));have G:=f.q 4 0;have I:=f.q 4 1;go_wp2_with fail
 have C:=f.drew;refine Bv f 4 ?_;iterate 3 refine pQ C ?_
 obtain⟨J,M⟩:=h5.c 5 0;obtain⟨N,O⟩:=h5.c 5 1;have R:=h5.lt 5;have j:=(h5.set 5 0 (.string ⟨#[105]⟩) rfl).set 5 1 (.string ⟨#[105]⟩) rfl;refine Cf (fun K k=>?_);go_simp;refine k _ _ (.inr ((j.drew.rm 5).sub (List.Sublist.append_left (l:=[_,_,_,_,_]) qs))) ?_;refine uW (fun K k=>?_);go_simp;refine k _ _ ?_;go_wp2;refine bodyPost_ret (v:=.tuple #[qJ 0,.agg #[.string ⟨#[105]⟩,.string ⟨#[105]⟩],.bool false]) ?_ rfl ?_
 .simp[results,results69,go_sem,((h5.set 5 0 (.string ⟨#[105]⟩) rfl).c 5 0 rfl rfl).1,(j.c 5 1 rfl rfl).1]
 exact⟨g,b,y,d,rfl,(j.drew.rm 4).rm 4⟩
end
section
variable {w0 w:qW}
theorem AQ{ok:qD}{l:List qS}{v:qv}(h:jQ ok l w v)(b:0<l.length):∃g A,v=.slice (some (qA g 0)) l.length A/\∀j t,l[j]?=some t->w.cell? (qA g j)=some (.string t):=by
 obtain⟨g,A,rfl,-,-,-,hc⟩:=Row.cells h b;exact⟨g,A,rfl,fun j t a=>(hc j (by have:=(List.getElem?_eq_some_iff.1 a).1;omega)).trans (by simp[a])⟩
theorem Yx(w:qW):qC 144 #[.string ⟨#[108,111,99,97,108,46,103,101,116]⟩] w fun e w'=>e=.returned (qJ 32)/\qK w w':=by
 go_enter func144,ntmps144;go_wp2_with fail
 refine(MX w).mono ?_;rintro e s ⟨v,rfl,⟨g,rfl,c⟩,j⟩;obtain⟨v0,k,l,f⟩:=c 0 qo;obtain⟨t,c0,rfl,b⟩:=AQ f qx;obtain⟨v1,m,n,l1⟩:=c 1 qo;obtain⟨u,c1,rfl,a⟩:=AQ l1 qx;obtain⟨v2,o,p,l2⟩:=c 2 qo;obtain⟨x,c2,rfl,d⟩:=AQ l2 qx;obtain⟨v3,q,r,h⟩:=c 3 qo;obtain⟨y,c3,rfl,i⟩:=AQ h qx;have z:=b 0 _ rfl;have A:=b 1 _ rfl;have B:=b 2 _ rfl;have C:=b 3 _ rfl;have D:=b 4 _ rfl;have E:=b 5 _ rfl;have F:=a 0 _ rfl;have G:=a 1 _ rfl;have H:=a 2 _ rfl;have I:=a 3 _ rfl;have J:=a 4 _ rfl;have K:=a 5 _ rfl;have L:=a 6 _ rfl;have M:=d 0 _ rfl;have N:=d 1 _ rfl;have O:=i 0 _ rfl;simp only[jf,List.getD_cons_zero,List.getD_cons_succ,List.length_cons,List.length_nil] at k m o q l n p r;clear c f l1 l2 h b a d i;go_wp2_with fail
 refine wp_loop_rounds 4 ?_;rw[rounds_succ];go_wp2_with fail
 refine wp_loop_rounds 7 ?_;iterate 7 (rw[rounds_succ];go_wp2_with fail)
 rw[rounds_succ];go_wp2_with fail
 refine wp_loop_rounds 8 ?_;iterate 8 (rw[rounds_succ];go_wp2_with fail)
 rw[rounds_succ];go_wp2_with fail
 refine wp_loop_rounds 3 ?_;iterate 3 (rw[rounds_succ];go_wp2_with fail)
 rw[rounds_succ];go_wp2_with fail
 refine wp_loop_rounds 1 ?_;rw[rounds_succ];go_wp2;go_ret;exact⟨rfl,j⟩
end
abbrev FL(Y fb cf g cp y cy:Nat)(dw code:Value)(name:qS)(q:Nat×List Value)(r:List (Nat×List Value)):List (Nat×List Value):=(Y,Cm (.slice (some (qA y 0)) 1 cy) (.slice (some (qA fb 0)) 1 cf) dw)::(fb,Pq code name (.slice (some (qA g 0)) 1 cp))::q::(g,[qJ 0,.string ⟨#[120]⟩])::(y,[.string ⟨#[105]⟩,.string ⟨#[105]⟩])::r
abbrev x9:List Value:=[qJ 32,qJ 0,qJ 0,qJ 0,qJ 0,qJ 0,qN,qJ 0,qB 0]
section
variable {w0 w:qW} {x tb A i Y fb cf g cp y cy:Nat} {ids uses dw code:qv} {name:qS} {q:Nat×qV} {r:List (Nat×qV)}
theorem Vr(h:fZ w0 w (TL x tb A 15 Y ids uses (FL Y fb cf g cp y cy dw code name q r))):
  qC 185 #[qP x] w (AJ w0 (qJ 0) (TL x tb A 16 Y ids uses (FL Y fb cf g cp y cy dw code name q r))):=by
 have H:=hide h;have hf:=ft;clear h;go_enter func185,ntmps185;go_wp2_with fail
 refine(Oq H.o rfl idX).mono ?_;rintro e m ⟨rfl,U⟩;go_wp2_with fail
 refine(iR U rfl).mono ?_;rintro e n ⟨rfl,L⟩;go_wp2_with fail
 refine(Ia L rfl idX).mono ?_;rintro e p ⟨rfl,h3⟩;have d:=h3.q 0 2;have f:=h3.q 0 10;have j:=h3.q 2 1;have k:=h3.q 3 6;go_wp2_with fail
 have b:=h3.drew;refine Bv h3 14 ?_;iterate 14 refine pQ b ?_
 refine uW (fun K l=>?_);go_simp;refine l _ _ ?_;obtain⟨s,-⟩:=b.c 5 0;obtain⟨t,-⟩:=b.c 5 1;have u:=b.lt 5;clear d f j k;go_wp2_with fail
 refine wp_loop_rounds 1 ?_;rw[rounds_succ];go_wp2;go_ret;exact⟨rfl,b⟩
theorem Yu(h:fZ w0 w (TL x tb A 15 Y ids uses (FL Y fb cf g cp y cy dw code name q r))):
  qC 146 #[qP x,qJ 32] w (AJ w0 (.agg x9.toArray) (TL x tb A 16 Y ids uses (FL Y fb cf g cp y cy dw code name q r))):=by
 have a:fZ w0 _ (TL x tb A 15 Y ids uses (FL Y fb cf g cp y cy dw code name q ((w.heap.size+1,x9)::(w.heap.size,[qJ 0,qJ 0,qJ 0,qJ 0,qJ 0,qJ 0,qN,qJ 0,qB 0])::r))):=fZ.ins (l1:=[_,_,_,_,_,_,_]) (l2:=_::r) ((fZ.ins (l1:=[_,_,_,_,_,_,_]) (l2:=r) (h.new #[qJ 0,qJ 0,qJ 0,qJ 0,qJ 0,qJ 0,qN,qJ 0,qB 0] 79)).Ue x9.toArray 79 (w.heap.size+1) qs);have H:=hide a;have s:dN 32=⟨#[108,111,99,97,108,46,103,101,116]⟩:=qk;clear h a;go_enter func146,ntmps146;go_wp2_with fail
 refine(yg _ 32 qo).mono ?_;rintro e C ⟨rfl,t⟩;rw[s];have U:=H.o.to t;generalize w.heap.size+1=bx at*;generalize w.heap.size=D at*;go_wp2_with fail
 refine(Vr U).mono ?_;rintro e u ⟨rfl,L⟩;obtain⟨E,F⟩:=L.c 7 2;have z:=L.lt 7;have h3:=L.set 7 2 (qJ 0) rfl;go_wp2_with fail
 refine(jF _ 32).mono ?_;rintro e B ⟨rfl,rfl⟩;generalize u.setCell _ _=B at*;obtain⟨G,I⟩:=h3.c 8 0;obtain⟨J,K⟩:=h3.c 8 1;obtain⟨M,N⟩:=h3.c 8 2;obtain⟨O,P⟩:=h3.c 8 3;obtain⟨Q,R⟩:=h3.c 8 4;obtain⟨S,T⟩:=h3.c 8 5;obtain⟨V,W⟩:=h3.c 8 6;obtain⟨X,Z⟩:=h3.c 8 7;obtain⟨R8,S8⟩:=h3.c 8 8;obtain⟨T0,-⟩:=h3.c 7 0;obtain⟨T1,-⟩:=h3.c 7 1;obtain⟨T2,-⟩:=h3.c 7 2;obtain⟨T3,-⟩:=h3.c 7 3;obtain⟨T4,-⟩:=h3.c 7 4;obtain⟨T5,-⟩:=h3.c 7 5;obtain⟨T6,-⟩:=h3.c 7 6;obtain⟨T7,-⟩:=h3.c 7 7;obtain⟨T8,-⟩:=h3.c 7 8;have aa:=h3.lt 8;have z:=h3.lt 7;go_wp2;have b:=h3.set 8 0 (qJ 32) rfl;have d:=b.set 8 1 (qJ 0) rfl;have f:=d.set 8 2 (qJ 0) rfl;have j:=f.set 8 3 (qJ 0) rfl;have k:=j.set 8 4 (qJ 0) rfl;have l:=k.set 8 5 (qJ 0) rfl;have m:=l.set 8 6 (qN) rfl;have n:=m.set 8 7 (qJ 0) rfl;have p:=n.set 8 8 (qB 0) rfl;refine bodyPost_ret (v:=.agg x9.toArray) ?_ rfl ?_
 .simp[results,results146,go_sem,(b.c 8 0 rfl rfl).1,(d.c 8 1 rfl rfl).1,(f.c 8 2 rfl rfl).1,(j.c 8 3 rfl rfl).1,(k.c 8 4 rfl rfl).1,(l.c 8 5 rfl rfl).1,(m.c 8 6 rfl rfl).1,(n.c 8 7 rfl rfl).1,(p.c 8 8 rfl rfl).1]
 exact⟨rfl,(p.rm 7).rm 7⟩
end
section
variable {w0 w:qW} {x tb A i Y fb cf g cp y cy:Nat} {ids uses dw code:qv} {name:qS} {q:Nat×qV} {r:List (Nat×qV)}
theorem Tryz.ab8:(prog.info? 79).map (fun i=>(i.zero,i.size,i.bytes))=some (some (.agg #[qJ 0,qJ 0,qJ 0,qJ 0,qJ 0,qJ 0,qN,qJ 0,qB 0]),9,88):=qk
theorem aaU(h:fZ w0 w (TL x tb A i Y ids uses (FL Y fb cf g cp y cy dw (qN) name q r))):
  qC 148 #[qP x,.agg x9.toArray,qJ 0,qJ 0] w fun e w'=>∃z f,AJ w0 (.tuple #[]) (TL x tb A i Y ids uses (FL Y fb cf g cp y cy dw (.slice (some (qA z 0)) 1 f) name q ((z,x9)::r))) e w':=by
 have b:fZ w0 _ (TL x tb A i Y ids uses (FL Y fb cf g cp y cy dw (qN) name q ((w.heap.size,x9)::r))):=fZ.ins (l1:=[_,_,_,_,_,_,_]) (l2:=r) (h.new x9.toArray 79);have H:=hide b;have m:=b.q 0 2;have n:=b.q 0 10;have p:=b.q 2 1;have s:=b.q 3 3;have t:=b.q 7 0;have u:=b.q 7 1;have v:=b.q 7 2;have B:=b.q 7 3;have C:=b.q 7 4;have D:=b.q 7 5;have E:=b.q 7 6;have F:=b.q 7 7;have G:=b.q 7 8;clear h b;go_enter func148,ntmps148;go_wp2_with fail
 have j:=H.o.drew;refine Bv H.o 12 ?_;iterate 12 refine pQ j ?_
 refine uW (fun K d=>?_);go_simp;refine d _ _ ?_;go_wp2_with fail
 refine wp_loop_rounds 1 ?_;rw[rounds_succ];go_wp2_with fail
 have k:=j.drew;refine Bv j 10 ?_;iterate 6 refine pQ k ?_
 refine Cf (fun K d=>?_);go_simp;refine d _ _ (.inr (k.alloc _)) ?_;refine Cf (fun K d=>?_);refine yL Tryz.ab8 underlying67 k (fun z f I h5=>d _ _ (.inr h5.left) ?_);have l:=h5.left;iterate 2 refine pQ l ?_
 obtain⟨J,L⟩:=h5.c 3 3;have M:=h5.lt 3;refine uW (fun K d=>?_);go_simp;refine d _ _ ?_;go_wp2;go_end0;exact⟨z,f,rfl,(fZ.ins (l1:=[_,_,_,_,_,_,_,_]) (l2:=r) (h5.set 3 3 (.slice (some (qA z 0)) 1 f) rfl)).rm 7⟩
theorem Xy(w:qW):qC 145 #[qJ 32] w fun e w'=>e=.returned (.bool false)/\w'=w:=by
 go_enter func145,ntmps145;go_wp2;go_ret;exact⟨rfl,rfl⟩
theorem Yz(h:fZ w0 w (TL x tb A 14 Y ids (qN) (FL Y fb cf g cp y cy dw (qN) name q r))):
  qC 115 #[qP x,.agg #[qB 119,.string ⟨#[108,111,99,97,108,46,103,101,116]⟩,qJ 46]] w fun e w'=>∃z b,AJ w0 (.tuple #[]) (TL x tb A 16 Y ids (qN) (FL Y fb cf g cp y cy dw (.slice (some (qA z 0)) 1 b) name q ((z,x9)::r))) e w':=by
 have H:=hide (h.alloc (.cells #[qB 119,.string ⟨#[108,111,99,97,108,46,103,101,116]⟩,qJ 46] 54));clear h;go_enter func115,ntmps115;go_wp2_with fail
 refine(Yx _).mono ?_;rintro e m ⟨rfl,j⟩;have U:=H.o.to j;go_wp2_with fail
 refine(Xy _).mono ?_;rintro e n ⟨rfl,rfl⟩;obtain⟨p,s⟩:=U.c 0 1;obtain⟨t,-⟩:=U.c 0 6;have hx:=U.lt 0;go_wp2_with fail
 refine(Yu (U.set 0 1 (qJ 15) rfl)).mono ?_;rintro e k ⟨rfl,h3⟩;have h4:fZ w0 _ (TL x tb A 16 Y ids (qN) (FL Y fb cf g cp y cy dw (qN) name q ((k.heap.size,x9)::r))):=fZ.ins (l1:=[_,_,_,_,_,_,_]) (l2:=r) (h3.new x9.toArray 79);have d:=hide h4;have u:=h4.q 0 6;have v:=h4.q 7 0;have B:=h4.q 7 1;have C:=h4.q 7 2;have D:=h4.q 7 3;have E:=h4.q 7 4;have F:=h4.q 7 5;have G:=h4.q 7 6;have I:=h4.q 7 7;have J:=h4.q 7 8;clear h4;go_wp2_with fail
 have f:=d.o.drew;refine Bv d.o 8 ?_;iterate 8 refine pQ f ?_
 refine uW (fun K l=>?_);refine eG (by rfl) (by go_simp) (aaU (f.rm 7)) ?_;rintro e L ⟨z,b,rfl,h5⟩;refine⟨_,rfl,l _ _ ?_⟩;simp only[Act.put,qy,qz,qw];go_wp2;refine bodyPost_ret (results_none rfl _ _ _) rfl ?_;exact⟨z,b,rfl,h5⟩
theorem SL(h:fZ w0 w (TL x tb A 14 Y ids (qN) (FL Y fb cf g cp y cy dw (qN) name q r))):
  qC 71 #[qP x] w fun e w'=>∃z a,AJ w0 (.tuple #[]) (TL x tb A 16 Y ids (qN) (FL Y fb cf g cp y cy dw (.slice (some (qA z 0)) 1 a) name q ((z,x9)::r))) e w':=by
 have H:=hide h;obtain⟨j,-⟩:=h.c 0 3;have hx:=h.lt 0;clear h;go_enter func71,ntmps71;go_wp2_with fail
 refine wp_loop_rounds 2 ?_;rw[rounds_succ];go_wp2_with fail
 refine(iR H.o rfl).mono ?_;rintro e d ⟨rfl,U⟩;have L:fZ w0 _ (TL x tb A 14 Y ids (qN) (FL Y fb cf g cp y cy dw (qN) name q ((d.heap.size,[qB 119,.string ⟨#[108,111,99,97,108,46,103,101,116]⟩,qJ 46])::r))):=fZ.ins (l1:=[_,_,_,_,_,_,_]) (l2:=r) (U.new #[qB 119,.string ⟨#[108,111,99,97,108,46,103,101,116]⟩,qJ 46] 54);go_wp2_with fail
 refine(rG L rfl _ rfl).mono ?_;rintro e t ⟨rfl,h3⟩;go_wp2_with fail
 refine(rG h3 rfl _ rfl).mono ?_;rintro e u ⟨rfl,h4⟩;generalize d.heap.size=v at*;obtain⟨k,-⟩:=h4.c 7 0;obtain⟨l,-⟩:=h4.c 7 1;obtain⟨B,-⟩:=h4.c 7 2;have m:=h4.lt 7;go_wp2_with fail
 refine(Yz (h4.rm 7)).mono ?_;rintro e C ⟨z,a,rfl,h5⟩;obtain⟨j,-⟩:=h5.c 0 3;have hx:=h5.lt 0;go_wp2_with fail
 rw[rounds_succ];go_wp2_with fail
 refine(iR h5 rfl).mono ?_;rintro e f ⟨rfl,n⟩;have p:fZ w0 _ (TL x tb A 16 Y ids (qN) (FL Y fb cf g cp y cy dw (.slice (some (qA z 0)) 1 a) name q ((f.heap.size,[qB 41,.string ⟨#[41]⟩,qJ 58])::(z,x9)::r))):=fZ.ins (l1:=[_,_,_,_,_,_,_]) (l2:=_::r) (n.new #[qB 41,.string ⟨#[41]⟩,qJ 58] 54);go_wp2_with fail
 refine(rG p rfl _ rfl).mono ?_;rintro e D ⟨rfl,s⟩;go_wp2_with fail
 refine(rG s rfl _ rfl).mono ?_;rintro e E ⟨rfl,b⟩;generalize f.heap.size=F at*;obtain⟨k,-⟩:=b.c 7 0;obtain⟨l,-⟩:=b.c 7 1;have m:=b.lt 7;go_wp2;refine bodyPost_ret (results_none rfl _ _ _) rfl ?_;exact⟨z,a,rfl,b.rm 7⟩
end
section
variable {w0 w:qW} {x tb A Y:Nat} {r:List (Nat×qV)}
theorem Tryz.acd:(prog.info? 70).map (fun i=>(i.zero,i.size,i.bytes))=some (some (.agg #[qJ 0,qJ 0,.string ⟨#[]⟩,qN,qJ 0,.string ⟨#[]⟩,qN]),7,104):=qk
theorem Mo(h:fZ w0 w (TL x tb A 4 Y (qN) (qN) ((Y,Cm (qN) (qN) (qN))::r))):
  qC 43 #[qP x] w fun e w'=>∃fb k g v y B z G d t,AJ w0 (.tuple #[]) (TL x tb A 16 Y (.slice (some (qA d 0)) 1 t) (qN) (FL Y fb k g v y B (qN) (.slice (some (qA z 0)) 1 G) ⟨#[105,100]⟩ (d,[.string ⟨#[102,117,110,99]⟩,.string ⟨#[105,100]⟩,qJ 0]) ((z,x9)::r))) e w':=by
 have H:=hide h;have hf:=ft;obtain⟨C2,-⟩:=h.c 0 2;obtain⟨aa,af⟩:=h.c 0 10;obtain⟨ag,ah⟩:=h.c 0 11;obtain⟨M1,-⟩:=h.c 2 1;have hx:=h.lt 0;have hm:=h.lt 2;have U:fZ w0 _ (TL x tb A 4 Y (qN) (qN) ((Y,Cm (qN) (qN) (qN))::r)):=(h.set 0 10 (qJ 0) rfl).set 0 11 (qN) rfl;have R:=hide U;have D:=U.q 0 2;have E:=U.q 2 1;clear h U;go_enter func43,ntmps43;go_wp2_with fail
 have f:=R.o.drew;refine Bv R.o 16 ?_;iterate 12 refine pQ f ?_
 refine Cf (fun K b=>?_);go_simp;refine b _ _ (.inr (f.alloc _)) ?_;refine Cf (fun K b=>?_);refine yL Tryz.acd underlying31 f (fun fb k w2 L=>b _ _ (.inr L.left) ?_);have T:=L.left;iterate 2 refine pQ T ?_
 obtain⟨M1,N1⟩:=L.c 2 1;have hm:=L.lt 2;refine uW (fun K b=>?_);go_simp;refine b _ _ ?_;have h3:fZ w0 _ (TL x tb A 4 Y (qN) (qN) ((Y,Cm (qN) (.slice (some (qA fb 0)) 1 k) (qN))::(fb,Pq (qN) ⟨#[]⟩ (qN))::r)):=fZ.ins (l1:=[_,_,_]) (l2:=r) (L.set 2 1 (.slice (some (qA fb 0)) 1 k) rfl);clear D E f T L;generalize w2.setCell _ _=w3 at*;obtain⟨aa,-⟩:=h3.c 0 10;have hx:=h3.lt 0;go_wp2_with fail
 refine(Vo h3 rfl afX _).mono ?_;rintro e V ⟨d,t,rfl,h4⟩;have p:fZ w0 V (TL x tb A 5 Y (.slice (some (qA d 0)) 1 t) (qN) ((Y,Cm (qN) (.slice (some (qA fb 0)) 1 k) (qN))::(fb,Pq (qN) ⟨#[]⟩ (qN))::(d,[.string ⟨#[102,117,110,99]⟩,.string ⟨#[105,100]⟩,qJ 0])::r)):=fZ.ins (l1:=[_,_,_,_]) (l2:=r) h4;have D:=p.q 0 2;have E:=p.q 2 1;have I:=p.q 0 10;go_wp2_with fail
 have f:=p.drew;refine Bv p 14 ?_;iterate 14 refine pQ f ?_
 obtain⟨D5,E5⟩:=p.c 3 5;have X:=p.lt 3;refine uW (fun K b=>?_);go_simp;refine b _ _ ?_;have h5:fZ w0 _ (TL x tb A 5 Y (.slice (some (qA d 0)) 1 t) (qN) ((Y,Cm (qN) (.slice (some (qA fb 0)) 1 k) (qN))::(fb,Pq (qN) ⟨#[105,100]⟩ (qN))::(d,[.string ⟨#[102,117,110,99]⟩,.string ⟨#[105,100]⟩,qJ 0])::r)):=p.set 3 5 (.string ⟨#[105,100]⟩) rfl;clear D E I;generalize V.setCell _ _=J at*;go_wp2_with fail
 have F:=h5.drew.drew;have f:=(F.c 0 10 rfl rfl).1;refine kQ (fun W=>W.cell? (qA x 10)=some (qJ 0)) 18 ?_;iterate 10 refine pQ f ?_
 refine Tn (i:=10) (j:=15) qk (dn rfl (fun K b=>?ca)) (dn rfl (fun K b=>?al))
 case' ca=>refine eG (by rfl) (by go_simp) (SF F) ?_;rintro e M ⟨g,v,y,B,rfl,u⟩;have C:=(u.c 0 10 rfl rfl).1;refine⟨_,rfl,b _ _ ⟨.inr C,?_⟩⟩;simp only[Act.put,qy,qz,qw];refine tk 11 [17,16,12] C ?_;refine tk 12 [17,16] C ?_;refine tk 13 [17] C ?_;refine tk 14 [] C ?_;refine dx (i:=15) qk (dn rfl (fun K b=>?_));go_simp;have s:fZ w0 _ (TL x tb A 14 Y _ _ (_::_::_::(M.heap.size,[.string ⟨#[]⟩,.string ⟨#[]⟩])::_)):=fZ.ins (l1:=[_,_,_,_,_]) (l2:=r++_++_) (u.new #[.string ⟨#[]⟩,.string ⟨#[]⟩] 83);have m:=(s.c 0 10 rfl rfl).1;refine b _ _ ⟨.inr m,?_⟩;clear u C;generalize ab:M.alloc _=Z at*;clear ab;generalize M.heap.size=bt at*
 case' al=>go_simp;have u:fZ w0 _ (TL x tb A 5 Y _ _ (_::_::_::(J.heap.size,[.string ⟨#[]⟩,.string ⟨#[]⟩])::r)):=fZ.ins (l1:=[_,_,_,_,_]) (l2:=r) (F.Ue #[.string ⟨#[]⟩,.string ⟨#[]⟩] 83 J.heap.size rfl);refine b _ _ ⟨.inr (u.c 0 10 rfl rfl).1,?_⟩;refine dx (i:=10) qk (dn rfl (fun K b=>?_));refine eG (by rfl) (by go_simp) (SF u) ?_;rintro e Z ⟨g,v,y,B,rfl,s⟩;have m:=(s.c 0 10 rfl rfl).1;refine⟨_,rfl,b _ _ ⟨.inr m,?_⟩⟩;simp only[Act.put,qy,qz,qw];clear u;generalize J.heap.size=bt at*;refine tk 11 [17,16,12] m ?_;refine tk 12 [17,16] m ?_;refine tk 13 [17] m ?_;refine tk 14 [] m ?_
 all_goals
  refine tk 16 [17] m ?_;obtain⟨R0,S0⟩:=s.c 5 0;obtain⟨R1,S1⟩:=s.c 5 1;have ac:=s.lt 5;refine dx (i:=17) qk (dn rfl (fun K b=>?_));go_simp;have N:=(s.set 5 0 (.string ⟨#[105]⟩) rfl).set 5 1 (.string ⟨#[105]⟩) rfl;refine b _ _ ⟨.inr (N.c 0 10 rfl rfl).1,?_⟩;refine dx (i:=18) qk (dn rfl (fun K b=>?_));go_simp;refine b _ _ ⟨.inl rfl,?_⟩;refine dM qk ?_ _;have n:fZ w0 _ (TL x tb A 14 Y (.slice (some (qA d 0)) 1 t) (qN) (FL Y fb k g v y B (qN) (qN) ⟨#[105,100]⟩ (d,[.string ⟨#[102,117,110,99]⟩,.string ⟨#[105,100]⟩,qJ 0]) r)):=fZ.ins (l1:=[_,_,_,_,_]) (l2:=_::r) (fZ.ins (l1:=[_,_,_,_,_]) (l2:=r++_) (N.rm 5));clear N s m R0 S0 R1 S1 ac F f;generalize (Z.setCell _ _).setCell _ _=w9 at*;have D:=n.q 0 2;have E:=n.q 2 1;have I:=n.q 0 10;go_wp2_with fail
  have f:=n.drew;refine Bv n 15 ?_;iterate 15 refine pQ f ?_
  obtain⟨D0,E0⟩:=n.c 3 0;have X:=n.lt 3;refine uW (fun K b=>?_);go_simp;refine b _ _ ?_;have O:fZ w0 _ (TL x tb A 14 Y (.slice (some (qA d 0)) 1 t) (qN) (FL Y fb k g v y B (qN) (qN) ⟨#[105,100]⟩ (d,[.string ⟨#[102,117,110,99]⟩,.string ⟨#[105,100]⟩,qJ 0]) r)):=(n.set 3 0 (qJ 0) rfl).drew;clear D E I n f D0 E0 X;generalize (w9.setCell _ _).drew=ai at*;obtain⟨C3,-⟩:=O.c 0 3;have hx:=O.lt 0;go_wp2_with fail
  refine wp_loop_rounds 1 ?_;rw[rounds_succ];go_wp2_with fail
  refine(Ol O rfl _ rfl).mono ?_;rintro e aj ⟨rfl,h11⟩;go_wp2_with fail
  refine(SL h11).mono ?_;rintro e ak ⟨z,G,rfl,ad⟩;go_wp2_with fail
  refine(iR ad rfl).mono ?_;rintro e am ⟨rfl,ae⟩;go_wp2;go_end0;exact⟨fb,k,g,v,y,B,z,G,d,t,rfl,ae⟩
end
section
variable {w0 w:qW} {x tb A Y:Nat} {ids dm funcs:qv} {r:List (Nat×qV)}
theorem Tryz.ab9:(prog.info? 72).map (fun i=>(i.zero,i.size,i.bytes))=some (some (.agg #[qJ 0,.string ⟨#[]⟩,qJ 0,qJ 0,qJ 0]),5,48):=qk
abbrev Eb(k:Int):List Value:=[qJ 0,.string ⟨#[105,100]⟩,qJ k,qJ 0,qJ 0]
abbrev Ir:List Value:=[.string ⟨#[102,117,110,99]⟩,.string ⟨#[116,97,98,108,101]⟩,.string ⟨#[109,101,109,111,114,121]⟩,.string ⟨#[103,108,111,98,97,108]⟩]
theorem SN(h:fZ w0 w (TL x tb A 19 Y ids (qN) ((Y,Cm dm funcs (qN))::r))):
  qC 48 #[qP x] w fun e w'=>∃u v n y,AJ w0 (.tuple #[]) (TL x tb A 24 Y ids (.slice (some (qA u 0)) 1 v) ((Y,Cm dm funcs (.slice (some (qA n 0)) 1 y))::(r++[(u,[.string ⟨#[102,117,110,99]⟩,.string ⟨#[105,100]⟩,qJ 79,qJ 2,qJ 0,qJ 0])]++[(n,Eb 0)]))) e w':=by
 have H:=hide h;have hf:=ft;clear h;go_enter func48,ntmps48;go_wp2_with fail
 refine(iR H.o rfl).mono ?_;rintro e N ⟨rfl,U⟩;have L:fZ w0 _ (TL x tb A 19 Y ids (qN) (_::(N.heap.size,Eb 0)::r)):=fZ.ins (l1:=[_,_,_]) (l2:=r) (U.new (Eb 0).toArray 72);go_wp2_with fail
 refine(DL ⟨#[105,100]⟩ _ qx).mono ?_;rintro e w2 ⟨rfl,rfl⟩;rw[show kF ⟨#[105,100]⟩ 0=true by kernel_rfl];go_wp2_with fail
 refine(iR L rfl).mono ?_;rintro e w3 ⟨rfl,h3⟩;obtain⟨B,C⟩:=h3.c 0 1;have hx:=h3.lt 0;go_wp2_with fail
 refine(vJ (h3.set 0 1 (qJ 20) rfl) (i:=20) rfl).mono ?_;rintro e j ⟨rfl,h4⟩;clear U L h3 B C hx;generalize N.heap.size=g at*;have h5:fZ w0 _ (TL x tb A 21 Y ids (qN) (_::(j.heap.size,Ir)::(g,Eb (-1))::r)):=fZ.ins (l1:=[_,_,_]) (l2:=_::r) ((h4.set 3 2 (qJ (-1)) rfl).Ue Ir.toArray 9 j.heap.size qs);obtain⟨z,O⟩:=h4.c 3 2;have k:=h4.lt 3;go_wp2_with fail
 have R:∀W,W=(j.setCell (qA g 2) (qJ (-1))).alloc (.cells Ir.toArray 9)->fZ w0 W (TL x tb A 21 Y ids (qN) (_::(j.heap.size,Ir)::(g,Eb (-1))::r)):=fun W T=>T▸h5;generalize (j.setCell _ _).alloc _=w5 at*;replace h5:=R _ rfl
 clear R h4 z O k;generalize j.heap.size=p at*;obtain⟨W0,-⟩:=h5.c 3 0;have D:=h5.lt 3;refine wp_loop_rounds 5 ?_;rw[rounds_succ];go_wp2_with fail
 refine(vG h5 rfl _).mono ?_;rintro e w6 ⟨rfl,E⟩;obtain⟨z,O⟩:=E.c 4 2;have k:=E.lt 4;have F:=E.set 4 2 (qJ 0) rfl;obtain⟨W1,-⟩:=F.c 3 1;have D:=F.lt 3;go_wp2_with fail
 rw[rounds_succ];go_wp2_with fail
 refine(vG F rfl _).mono ?_;rintro e w8 ⟨rfl,G⟩;obtain⟨W2,-⟩:=G.c 3 2;have D:=G.lt 3;go_wp2_with fail
 rw[rounds_succ];go_wp2_with fail
 refine(vG G rfl _).mono ?_;rintro e w9 ⟨rfl,I⟩;obtain⟨W3,-⟩:=I.c 3 3;have D:=I.lt 3;go_wp2_with fail
 rw[rounds_succ];go_wp2_with fail
 refine(vG I rfl _).mono ?_;rintro e V ⟨rfl,b⟩;obtain⟨z,-⟩:=b.c 4 2;obtain⟨X,-⟩:=b.c 0 3;obtain⟨B,C⟩:=b.c 0 1;have k:=b.lt 4;have hx:=b.lt 0;have Z:=b.ne 0 4 rfl rfl qx;have n2:=b.ne 4 0 rfl rfl qx;go_wp2_with fail
 rw[rounds_succ];go_wp2_with fail
 have h11:fZ w0 _ (TL x tb A 22 Y ids (qN) ((Y,Cm dm funcs (qN))::(p,Ir)::(g,Eb 0)::r)):=b.set 0 1 (qJ 22) rfl;generalize V.setCell _ _=ad at*;clear b z X B C k hx Z n2;have J:∀W l c,fZ w0 W ((x,c)::(tb,toks.flatMap zT)::(Y,Cm dm funcs (qN))::(p,Ir)::(g,Eb 0)::l)->c[2]?=some (qP Y)->(W.cell? (qA x 2)=some (qP Y)/\W.cell? (qA Y 13)=some (qN)/\W.cell? (qA p 0)=some (.string ⟨#[102,117,110,99]⟩)/\W.cell? (qA g 2)=some (qJ 0)):=fun W l c h hc=>⟨(h.c 0 2 rfl hc).1,(h.c 2 13 rfl rfl).1,(h.c 3 0 rfl rfl).1,(h.c 4 2 rfl rfl).1⟩;have m:=J _ _ _ h11.drew rfl;refine kQ (fun W=>W.cell? (qA x 2)=some (qP Y)/\W.cell? (qA Y 13)=some (qN)/\W.cell? (qA p 0)=some (.string ⟨#[102,117,110,99]⟩)/\W.cell? (qA g 2)=some (qJ 0)) 18 ?_;iterate 15 refine pQ m ?_
 refine Cf (fun K d=>?_);refine eG (by rfl) (by go_simp) (aaS h11.drew rfl afX ⟨#[102,117,110,99]⟩ 2) ?_;rintro e aa ⟨u,v,rfl,s⟩;have M:=J _ _ _ s rfl;refine⟨_,rfl,d _ _ (.inr M) ?_⟩;simp only[Act.put,qy,qz,qw];iterate 2 refine pQ M ?_
 obtain⟨X3,Y3⟩:=s.c 4 3;have k:=s.lt 4;refine uW (fun K d=>?_);go_simp;refine d _ _ ?_;have ab:fZ w0 _ (TL x tb A 23 Y ids (.slice (some (qA u 0)) 1 v) ((Y,Cm dm funcs (qN))::(p,Ir)::(g,Eb 0)::(r++[(u,[.string ⟨#[102,117,110,99]⟩,.string ⟨#[105,100]⟩,qJ 79,qJ 2,qJ 0,qJ 0])]))):=s.set 4 3 (qJ 0) rfl;clear J m M s X3 Y3 k h11;generalize aa.setCell _ _=ae at*;go_wp2_with fail
 refine(vJ ab rfl).mono ?_;rintro e af ⟨rfl,f⟩;have q0:=f.q 0 2;have q1:=f.q 2 13;have r0:=f.q 4 0;have r1:=f.q 4 1;have r2:=f.q 4 2;have r3:=f.q 4 3;have r4:=f.q 4 4;go_wp2_with fail
 have m:=f.drew;refine Bv f 16 ?_;iterate 12 refine pQ m ?_
 refine Cf (fun K d=>?_);go_simp;refine d _ _ (.inr (m.alloc _)) ?_;refine Cf (fun K d=>?_);refine yL Tryz.ab9 underlying35 m (fun n y ag t=>d _ _ (.inr t.left) ?_);have ac:=t.left;iterate 2 refine pQ ac ?_
 obtain⟨M1,N1⟩:=t.c 2 13;have hm:=t.lt 2;refine uW (fun K d=>?_);go_simp;refine d _ _ ?_;go_wp2;go_end0;exact⟨u,v,n,y,rfl,((t.set 2 13 (.slice (some (qA n 0)) 1 y) rfl).rm 3).rm 3⟩
end
section
variable {w0 w:qW} {x tb A Y i:Nat} {ids uses dm funcs:qv} {r:List (Nat×qV)}
theorem vI(b:Bool){c p c' p':Nat}{s s':qS}(h:fZ w0 w (TL x tb A i Y ids uses r))(a:toks[i]?=some (c,s,p))(d:toks[i+1]?=some (c',s',p'))(q:qS)(hb:(c==40&&(c'==119&&s'.toList==q.toList))=b):
  qC 17 #[qP x,.string q] w (AJ w0 (.bool b) (TL x tb A i Y ids uses r)):=hb▸zz h a (fun _=>d) q
abbrev WT:List Value:=[.string ⟨#[102,117,110,99]⟩,.string ⟨#[105,100]⟩,qJ 79,qJ 2,qJ 0,qJ 0]
abbrev idC:List Value:=[.string ⟨#[102,117,110,99]⟩,.string ⟨#[105,100]⟩,qJ 0]
theorem Vt(h:fZ w0 w (TL x tb A 4 Y (qN) (qN) ((Y,Cm (qN) (qN) (qN))::r))):
  qC 21 #[qP x,.string ⟨#[102,117,110,99]⟩] w fun e w'=>∃fb b g d y f z j a k,AJ w0 (.tuple #[]) (TL x tb A 16 Y (.slice (some (qA a 0)) 1 k) (qN) (FL Y fb b g d y f (qN) (.slice (some (qA z 0)) 1 j) ⟨#[105,100]⟩ (a,idC) ((z,x9)::r))) e w':=by
 have H:=hide h;obtain⟨l,-⟩:=h.c 0 2;have hx:=h.lt 0;clear h;go_enter func21,ntmps21;go_wp2_with fail
 refine(Mo H.o).mono ?_;rintro e m ⟨fb,b,g,d,y,f,z,j,a,k,rfl,U⟩;go_wp2;go_end0;exact⟨fb,b,g,d,y,f,z,j,a,k,rfl,U⟩
theorem Qf(h:fZ w0 w (TL x tb A 19 Y ids (qN) ((Y,Cm dm funcs (qN))::r))):
  qC 21 #[qP x,.string ⟨#[101,120,112,111,114,116]⟩] w fun e w'=>∃u b a d,AJ w0 (.tuple #[]) (TL x tb A 24 Y ids (.slice (some (qA u 0)) 1 b) ((Y,Cm dm funcs (.slice (some (qA a 0)) 1 d))::(r++[(u,WT)]++[(a,Eb 0)]))) e w':=by
 have H:=hide h;obtain⟨f,-⟩:=h.c 0 2;have hx:=h.lt 0;clear h;go_enter func21,ntmps21;go_wp2_with fail
 refine(SN H.o).mono ?_;rintro e g ⟨u,b,a,d,rfl,U⟩;go_wp2;go_end0;exact⟨u,b,a,d,rfl,U⟩
abbrev abj:List Value:=[.string ⟨#[116,121,112,101]⟩,.string ⟨#[102,117,110,99]⟩,.string ⟨#[116,97,98,108,101]⟩,.string ⟨#[109,101,109,111,114,121]⟩,.string ⟨#[103,108,111,98,97,108]⟩,.string ⟨#[101,120,112,111,114,116]⟩,.string ⟨#[115,116,97,114,116]⟩,.string ⟨#[101,108,101,109]⟩,.string ⟨#[100,97,116,97]⟩]
abbrev VX:List Value:=[qJ 20,qJ 20,qJ 1,qJ 1,qJ 10,qJ 20,qJ 1,qJ 5,qJ 10]
theorem SK(h:fZ w0 w (TL x tb A 0 Y (qN) (qN) [(Y,Cm (qN) (qN) (qN))])):
  qC 7 #[qP x] w fun e w'=>∃fb l g m y n z p j q u s k t,AJ w0 (.tuple #[]) (TL x tb A 26 Y (.slice (some (qA j 0)) 1 q) (.slice (some (qA u 0)) 1 s) (FL Y fb l g m y n (.slice (some (qA k 0)) 1 t) (.slice (some (qA z 0)) 1 p) ⟨#[105,100]⟩ (j,idC) [(z,x9),(u,WT),(k,Eb 0)])) e w':=by
 have H:=hide h;have hf:=ft;clear h;go_enter func7,ntmps7;go_wp2_with fail
 refine(vJ H.o rfl).mono ?_;rintro e J ⟨rfl,U⟩;go_wp2_with fail
 refine(Yy U rfl).mono ?_;rintro e d ⟨rfl,L⟩;have h:fZ w0 _ (TL x tb A 2 Y _ _ [_,(d.heap.size,abj),(d.heap.size+1,VX)]):=(L.new abj.toArray 9).Ue VX.toArray 3 (d.heap.size+1) qs;go_wp2_with fail
 have v:∀W,W=(d.alloc (.cells abj.toArray 9)).alloc (.cells VX.toArray 3)->fZ w0 W (TL x tb A 2 Y _ _ [_,(d.heap.size,abj),(d.heap.size+1,VX)]):=fun W B=>B▸h;generalize (d.alloc _).alloc _=W at*;replace h:=v _ rfl
 generalize d.heap.size+1=K at*;generalize d.heap.size=M at*;clear v U L;refine wp_loop_rounds 10 ?_;obtain⟨f,-⟩:=h.c 0 3;obtain⟨b,-⟩:=h.c 3 0;have hw:=h.lt 3;have hx:=h.lt 0;rw[rounds_succ];go_wp2_with fail
 refine wp_loop_rounds 1 ?_;rw[rounds_succ];go_wp2_with fail
 refine(vI false h rfl rfl _ qk).mono ?_;clear h;rintro e a ⟨rfl,h⟩;go_wp2_with fail
 obtain⟨f,-⟩:=h.c 0 3;obtain⟨b,-⟩:=h.c 3 1;have hw:=h.lt 3;have hx:=h.lt 0;rw[rounds_succ];go_wp2_with fail
 refine wp_loop_rounds 2 ?_;rw[rounds_succ];go_wp2_with fail
 refine(vI true h rfl rfl _ qk).mono ?_;clear h;rintro e a ⟨rfl,h⟩;obtain⟨C,-⟩:=h.c 4 1;obtain⟨b,-⟩:=h.c 3 1;obtain⟨D,E⟩:=h.c 0 1;have hx:=h.lt 0;have hw:=h.lt 3;have F:=h.lt 4;have G:=h.ne 0 3 rfl rfl qx;have I:=h.ne 3 0 rfl rfl qx;go_wp2_with fail
 refine(Vt (h.set 0 1 (qJ 4) rfl)).mono ?_;clear h;rintro e a ⟨fb,l,g,m,y,n,z,p,j,q,rfl,h⟩;go_wp2_with fail
 refine(vJ h rfl).mono ?_;clear h;rintro e a ⟨rfl,h⟩;obtain⟨b,-⟩:=h.c 8 1;have hw:=h.lt 8;go_wp2_with fail
 rw[rounds_succ];go_wp2_with fail
 refine(vI false h rfl rfl _ qk).mono ?_;clear h;rintro e a ⟨rfl,h⟩;go_wp2_with fail
 obtain⟨f,-⟩:=h.c 0 3;obtain⟨b,-⟩:=h.c 8 2;have hw:=h.lt 8;have hx:=h.lt 0;rw[rounds_succ];go_wp2_with fail
 refine wp_loop_rounds 1 ?_;rw[rounds_succ];go_wp2_with fail
 refine(vI false h rfl rfl _ qk).mono ?_;clear h;rintro e a ⟨rfl,h⟩;go_wp2_with fail
 obtain⟨f,-⟩:=h.c 0 3;obtain⟨b,-⟩:=h.c 8 3;have hw:=h.lt 8;have hx:=h.lt 0;rw[rounds_succ];go_wp2_with fail
 refine wp_loop_rounds 1 ?_;rw[rounds_succ];go_wp2_with fail
 refine(vI false h rfl rfl _ qk).mono ?_;clear h;rintro e a ⟨rfl,h⟩;go_wp2_with fail
 obtain⟨f,-⟩:=h.c 0 3;obtain⟨b,-⟩:=h.c 8 4;have hw:=h.lt 8;have hx:=h.lt 0;rw[rounds_succ];go_wp2_with fail
 refine wp_loop_rounds 1 ?_;rw[rounds_succ];go_wp2_with fail
 refine(vI false h rfl rfl _ qk).mono ?_;clear h;rintro e a ⟨rfl,h⟩;go_wp2_with fail
 obtain⟨f,-⟩:=h.c 0 3;obtain⟨b,-⟩:=h.c 8 5;have hw:=h.lt 8;have hx:=h.lt 0;rw[rounds_succ];go_wp2_with fail
 refine wp_loop_rounds 2 ?_;rw[rounds_succ];go_wp2_with fail
 refine(vI true h rfl rfl _ qk).mono ?_;clear h;rintro e a ⟨rfl,h⟩;obtain⟨C,-⟩:=h.c 9 5;obtain⟨b,-⟩:=h.c 8 5;obtain⟨D,E⟩:=h.c 0 1;have hx:=h.lt 0;have hw:=h.lt 8;have F:=h.lt 9;have G:=h.ne 0 8 rfl rfl qx;have I:=h.ne 8 0 rfl rfl qx;go_wp2_with fail
 refine(Qf (h.set 0 1 (qJ 19) rfl)).mono ?_;clear h;rintro e a ⟨u,s,k,t,rfl,h⟩;go_wp2_with fail
 refine(vJ h rfl).mono ?_;clear h;rintro e a ⟨rfl,h⟩;obtain⟨b,-⟩:=h.c 8 5;have hw:=h.lt 8;go_wp2_with fail
 rw[rounds_succ];go_wp2_with fail
 refine(rG h rfl _ rfl).mono ?_;clear h;rintro e a ⟨rfl,h⟩;go_wp2_with fail
 obtain⟨f,-⟩:=h.c 0 3;obtain⟨b,-⟩:=h.c 8 6;have hw:=h.lt 8;have hx:=h.lt 0;rw[rounds_succ];go_wp2_with fail
 refine wp_loop_rounds 1 ?_;rw[rounds_succ];go_wp2_with fail
 refine(rG h rfl _ rfl).mono ?_;clear h;rintro e a ⟨rfl,h⟩;go_wp2_with fail
 obtain⟨f,-⟩:=h.c 0 3;obtain⟨b,-⟩:=h.c 8 7;have hw:=h.lt 8;have hx:=h.lt 0;rw[rounds_succ];go_wp2_with fail
 refine wp_loop_rounds 1 ?_;rw[rounds_succ];go_wp2_with fail
 refine(rG h rfl _ rfl).mono ?_;clear h;rintro e a ⟨rfl,h⟩;go_wp2_with fail
 obtain⟨f,-⟩:=h.c 0 3;obtain⟨b,-⟩:=h.c 8 8;have hw:=h.lt 8;have hx:=h.lt 0;rw[rounds_succ];go_wp2_with fail
 refine wp_loop_rounds 1 ?_;rw[rounds_succ];go_wp2_with fail
 refine(rG h rfl _ rfl).mono ?_;clear h;rintro e a ⟨rfl,h⟩;go_wp2_with fail
 obtain⟨f,-⟩:=h.c 0 3;have hx:=h.lt 0;rw[rounds_succ];go_wp2_with fail
 refine(Vv h rfl).mono ?_;clear h;rintro e a ⟨rfl,h⟩;go_wp2_with fail
 refine(iR h rfl).mono ?_;clear h;rintro e a ⟨rfl,h⟩;go_wp2;go_end0;exact⟨fb,l,g,m,y,n,z,p,j,q,u,s,k,t,rfl,(h.rm 8).rm 8⟩
end
section
variable {w0 w:qW} {x tb A Y fb cf g cp y cy z cz ib ci u cu eb ce:Nat}
abbrev ML(Y fb cf g cp y cy z cz ib u eb ce:Nat)(r:List (Nat×List Value)):List (Nat×List Value):=FL Y fb cf g cp y cy (.slice (some (qA eb 0)) 1 ce) (.slice (some (qA z 0)) 1 cz) ⟨#[105,100]⟩ (ib,idC) ((z,x9)::(u,WT)::(eb,Eb 0)::r)
theorem SH(h:fZ w0 w (TL x tb A 26 Y (.slice (some (qA ib 0)) 1 ci) (.slice (some (qA u 0)) 1 cu) (ML Y fb cf g cp y cy z cz ib u eb ce []))):
  qC 8 #[qP x] w (AJ w0 (.tuple #[]) (TL x tb A 26 Y (.slice (some (qA ib 0)) 1 ci) (.slice (some (qA u 0)) 1 cu) (ML Y fb cf g cp y cy z cz ib u eb ce []))):=by
 have H:=hide h;obtain⟨f,-⟩:=h.c 0 2;obtain⟨b,-⟩:=h.c 0 6;obtain⟨i,-⟩:=h.c 8 0;obtain⟨j,-⟩:=h.c 8 1;obtain⟨l,-⟩:=h.c 8 2;obtain⟨m,-⟩:=h.c 8 3;obtain⟨n,-⟩:=h.c 8 4;obtain⟨o,-⟩:=h.c 8 5;have hx:=h.lt 0;have p:=h.lt 8;have U:fZ w0 _ (TL x tb A 26 Y (.slice (some (qA ib 0)) 1 ci) (.slice (some (qA u 0)) 1 cu) (ML Y fb cf g cp y cy z cz ib u eb ce [(w.heap.size,WT)])):=h.new WT.toArray 64;clear h;go_enter func8,ntmps8;go_wp2_with fail
 refine wp_loop_rounds 2 ?_;rw[rounds_succ];go_wp2_with fail
 refine(YA (k:=2) U rfl).mono ?_;rintro e r ⟨rfl,L⟩;generalize w.heap.size=s at*;clear U f b i j l m n o hx p;obtain⟨t,-⟩:=L.c 10 3;have v:=L.lt 10;have B:=L.q 2 13;have C:=L.q 10 4;go_wp2_with fail
 have d:=L.drew;refine Bv L 10 ?_;iterate 10 refine pQ d ?_
 obtain⟨D,E⟩:=L.c 9 3;have F:=L.lt 9;refine uW (fun K G=>?_);go_simp;refine G _ _ ?_;have h3:fZ w0 _ (TL x tb A 26 Y (.slice (some (qA ib 0)) 1 ci) (.slice (some (qA u 0)) 1 cu) (ML Y fb cf g cp y cy z cz ib u eb ce [(s,WT)])):=(L.set 9 3 (qJ 0) rfl).drew;generalize (r.setCell _ _).drew=I at*;clear B C d L t v D E F;obtain⟨b,-⟩:=h3.c 0 6;have hx:=h3.lt 0;go_wp2_with fail
 rw[rounds_succ];go_wp2;go_end0;exact⟨rfl,h3.rm 10⟩
end
def KT(w0:World)(k:Nat)(l:List (Nat×List Value))(e:Ending)(w':World):Prop:=∃s,e=.returned (.string s)/\s.size=k/\fZ w0 w' l
theorem BD(a b:qS):(a++b).size=a.size+b.size:=ByteArray.size_append
section
variable {w0 w:qW} {l:List (Nat×qV)}
theorem wS(b:Nat)(hb:b<256)(h:fZ w0 w l):qC 25 #[qJ b] w (KT w0 1 l):=
 (SI b hb w).mono (fun _ _ ⟨a,X⟩=>⟨_,a,Ba b,h.to X⟩)
theorem Me(n:Nat)(a:n<128)(h:fZ w0 w l):qC 27 #[qJ n] w (KT w0 1 l):=
 (aaR n a w).mono (fun _ _ ⟨b,X⟩=>⟨_,b,Ba n,h.to X⟩)
theorem zy(s:qS){k:Nat}(b:s.size=k)(X:k<128)(h:fZ w0 w l):qC 28 #[.string s] w (KT w0 (k+1) l):=
 (Yw s qo w).mono (fun _ _ ⟨a,hp⟩=>⟨_,a,by rw[BD,Ba];omega,h.to hp⟩)
theorem C9(k:Nat)(s:qS)(h:fZ w0 w l):qC 32 #[qJ k,qJ 0,.string s] w (KT w0 0 l):=
 (Mj k s w).mono (fun _ _ ⟨a,X⟩=>⟨_,a,rfl,X▸h⟩)
theorem vH(b:Nat)(hb:b<256)(s:qS){k:Nat}(a:s.size=k)(X:k<100)(h:fZ w0 w l):qC 32 #[qJ b,qJ 1,.string s] w (KT w0 (k+3) l):=by
 have c:=BD;have d:¬9223372036854775807<1+k:=qo;have f:¬9223372036854775807<1+(1+k+1):=qo;go_enter func32,ntmps32;go_wp2_with fail
 refine(wS b hb h).mono ?_;rintro e g ⟨s1,rfl,i,U⟩;go_wp2_with fail
 refine(Me 1 qo U).mono ?_;rintro e j ⟨s2,rfl,m,L⟩;go_wp2_with fail
 refine(zy _ (k:=1+k) (by rw[BD];omega) qo L).mono ?_;rintro e n ⟨s3,rfl,o,h3⟩;go_wp2;go_ret;exact⟨_,rfl,by rw[BD];omega,h3⟩
theorem Om(h:fZ w0 w l):qC 26 #[.string ⟨#[105]⟩] w (KT w0 2 l):=by
 have a:=BD;have b:(((⟨#[105]⟩:qS)[0]' qx).toNat:Int)=105:=rfl;go_enter func26,ntmps26;go_wp2_with fail
 refine(Me 1 qo h).mono ?_;rintro e c ⟨s1,rfl,d,U⟩;go_wp2_with fail
 refine wp_loop_rounds 2 ?_;rw[rounds_succ];go_wp2_with fail
 refine(wS 127 qo U).mono ?_;rintro e f ⟨s2,rfl,g,L⟩;go_wp2_with fail
 rw[rounds_succ];go_wp2;go_ret;exact⟨_,rfl,by rw[BD];omega,L⟩
theorem aaW(h:fZ w0 w l):qC 51 #[.agg x9.toArray] w (KT w0 2 l):=by
 have f:=BD;have a:dN 32=⟨#[108,111,99,97,108,46,103,101,116]⟩:=qk;have H:=hide (h.new x9.toArray 79);clear h;go_enter func51,ntmps51;go_wp2_with fail
 refine(wS 32 qo H.o).mono ?_;rintro e g ⟨s1,rfl,i,U⟩;generalize w.heap.size=bx at*;obtain⟨b,-⟩:=U.cL 0;have hb:=U.ltL;go_wp2_with fail
 refine(yg _ 32 qo).mono ?_;rintro e j ⟨rfl,c⟩;rw[a];have L:=U.to c;obtain⟨b,-⟩:=L.cL 0;have hb:=L.ltL;go_wp2_with fail
 refine(jF _ 32).mono ?_;rintro e d ⟨rfl,rfl⟩;obtain⟨k,-⟩:=L.cL 2;go_wp2_with fail
 refine(Me 0 qo L).mono ?_;rintro e d ⟨s3,rfl,m,h3⟩;go_wp2;go_ret;exact⟨_,rfl,by rw[BD];omega,h3.left⟩
end
section
variable {P:Program} {md:Region.Mode} {Q:Exit->Act->qW->Prop} {S:qW->Prop} {x:Nat} {l:List Oper} {w0 w:qW} {Lq:List (Nat×qV)}
theorem kN{d:Oper}{v:qv}{fuel:Nat}{b:Array Bool}{a e:Act}(i:Nat)(f:S w)(h:kM P md l.toArray Q S x fuel (b.setIfInBounds i true) e w)
  (j:l[i]?=some d:=by rfl) (k:Region.noSelect l.toArray=true:=by kernel_rfl) (hf:Region.free md l.toArray b i=true:=by kernel_rfl) (m:(Region.ready md l.toArray b).contains i=true:=by kernel_rfl) (hc:chainB md l.toArray b (x::(fc md l.toArray i l.length x).getD []++[i])=true:=by kernel_rfl)
  (n:∀c a w,Q (.panic c) (a.put d.dst v) w->Q (.panic c) a w:=by exact fun _ _ _ h=>h) (hy:YieldsIf P l.toArray S d v a:=by(refine Or.inl ⟨by rfl,?_⟩;intro _ _;go_simp;try with_reducible rfl))
  (o:a.put d.dst v=e:=by(dsimp only[Act.put,qy,qz,qw])):kM P md l.toArray Q S x (fuel+1) b a w:=
 jD _ j k hf m hc n hy f (o▸h)
theorem QA{id:Nat}{a:Act}(_:fZ w0 w Lq)(x:Nat)(hh:kM P .any l.toArray Q (fun W=>fZ w0 W Lq) x l.toArray.size (Array.replicate l.toArray.size false) a w.drew)(hm:P.follows .mixedOrders=true:=by kernel_rfl):(Code.region id l.toArray true).wp P Q a w:=zO _ x hm hh
theorem uI{i fuel k:Nat}{b:Array Bool}{a:Act}{o:Oper}{f:FuncId}{args:Array qv}(hc:Calls P f args w (KT w0 k Lq))
  {c:qS->Act} (h:∀s w',s.size=k->fZ w0 w' Lq->kM P md l.toArray Q (fun W=>fZ w0 W Lq) x fuel (b.setIfInBounds i true) (c s) w')
  (d:l[i]?=some o:=by rfl) (e:Region.ready md l.toArray b=[i]:=by kernel_rfl) (j:o.guard=none:=by rfl) (m:(execOp a.eval o).run P w=.ok (.enter f args) w:=by go_simp) (n:∀s,a.put o.dst (.string s)=c s:=by(intro s;dsimp only[Act.put,qy,qz,qw])):kM P md l.toArray Q (fun W=>fZ w0 W Lq) x (fuel+1) b a w:=
 dx e (dn d (fun _ p=>eG j m hc (fun _ w' ⟨s,q,t,hw⟩=>⟨_,q,p _ _ ⟨.inr hw,n s▸h s w' t hw⟩⟩)))
theorem Ga{fuel:Nat}{b:Array Bool}{a:Act}{o:Oper}(h:∀K':Act->qW->Prop,(∀a w,Q .normal a w->K' a w)->if Region.wanted o (yielded l.toArray a.tmps)=true then Oper.wp P o a w K' Q else K' (a.put o.dst undef) w)
  (c:l[x]?=some o:=by rfl) (d:Region.ready md l.toArray b=[x]:=by kernel_rfl) (e:Region.ready md l.toArray (b.setIfInBounds x true)=[]:=by kernel_rfl):kM P md l.toArray Q S x (fuel+1) b a w:=
 dx d (dn c (fun K f=>h K (fun a w hq=>f a w ⟨.inl rfl,dM e hq _⟩)))
theorem acS{z cz g cp k:Nat}{d:qS}(h:fZ w0 w Lq)(X:Lq[k]?=some (z,x9)):qC 29 #[.agg (Pq (.slice (some (qA z 0)) 1 cz) d (.slice (some (qA g 0)) 1 cp)).toArray] w (KT w0 4 Lq):=by
 have n:=BD;have a:∀p,(Lq++[p])[k]?=some (z,x9):=fun p=>by rw[List.getElem?_append_left (List.getElem?_eq_some_iff.1 X).1];exact X
 have U:=h.new (Pq (.slice (some (qA z 0)) 1 cz) d (.slice (some (qA g 0)) 1 cp)).toArray 70;have b:=hide U;clear h U X;go_enter func29,ntmps29;go_wp2_with fail
 obtain⟨q,-⟩:=b.o.cL 2;have hb:=b.o.ltL;refine wp_loop_rounds 1 ?_;rw[rounds_succ];go_wp2_with fail
 refine(Me 0 qo b.o).mono ?_;rintro e s ⟨s2,rfl,f,L⟩;generalize w.heap.size=bx at*;obtain⟨i,-⟩:=L.cL 3;have hb:=L.ltL;obtain⟨t,-⟩:=L.c k 0 (a _) rfl;obtain⟨u,-⟩:=L.c k 1 (a _) rfl;obtain⟨v,-⟩:=L.c k 2 (a _) rfl;obtain⟨A,-⟩:=L.c k 3 (a _) rfl;obtain⟨B,-⟩:=L.c k 4 (a _) rfl;obtain⟨C,-⟩:=L.c k 5 (a _) rfl;obtain⟨D,-⟩:=L.c k 6 (a _) rfl;obtain⟨E,-⟩:=L.c k 7 (a _) rfl;obtain⟨F,-⟩:=L.c k 8 (a _) rfl;have G:=L.lt k (a _);clear a;go_wp2_with fail
 refine wp_loop_rounds 2 ?_;rw[rounds_succ];go_wp2_with fail
 refine(aaW L).mono ?_;rintro e H ⟨s3,rfl,j,h3⟩;obtain⟨i,-⟩:=h3.cL 3;have hb:=h3.ltL;go_wp2_with fail
 rw[rounds_succ];go_wp2_with fail
 refine(wS 11 qo h3).mono ?_;rintro e I ⟨s4,rfl,m,h4⟩;go_wp2;go_ret;exact⟨_,rfl,by rw[BD,BD,BD,f,j,m];rfl,h4.left⟩
variable {Y fb cf g cp y cy z cz eb ce:Nat} {dm:qv} {r:List (Nat×qV)}
abbrev WL(Y fb cf g cp y cy z cz eb ce:Nat)(r:List (Nat×List Value)):List (Nat×List Value):=(Y,Cm (.slice (some (qA y 0)) 1 cy) (.slice (some (qA fb 0)) 1 cf) (.slice (some (qA eb 0)) 1 ce))::(fb,Pq (.slice (some (qA z 0)) 1 cz) ⟨#[105,100]⟩ (.slice (some (qA g 0)) 1 cp))::(g,[qJ 0,.string ⟨#[120]⟩])::(y,[.string ⟨#[105]⟩,.string ⟨#[105]⟩])::(z,x9)::(eb,Eb 0)::r
theorem aaV(h:fZ w0 w (WL Y fb cf g cp y cy z cz eb ce [])):qC 34 #[qP Y] w (KT w0 22 (WL Y fb cf g cp y cy z cz eb ce [])):=by
 have R:=BD;have U:fZ w0 _ (WL Y fb cf g cp y cy z cz eb ce [(w.heap.size,Pq (.slice (some (qA z 0)) 1 cz) ⟨#[105,100]⟩ (.slice (some (qA g 0)) 1 cp))]):=h.new (Pq (.slice (some (qA z 0)) 1 cz) ⟨#[105,100]⟩ (.slice (some (qA g 0)) 1 cp)).toArray 70;have d:=hide U;obtain⟨t,-⟩:=h.c 0 1;obtain⟨F0,-⟩:=h.c 1 0;obtain⟨T,-⟩:=h.c 1 1;obtain⟨V,-⟩:=h.c 1 2;obtain⟨W,-⟩:=h.c 1 3;obtain⟨X,-⟩:=h.c 1 4;obtain⟨Z,-⟩:=h.c 1 5;obtain⟨F6,-⟩:=h.c 1 6;have hm:=h.lt 0;have aa:=h.lt 1;have q5:=U.q 6 5;have q6:=U.q 6 6;have q0:=U.q 2 0;have q1:=U.q 2 1;clear h U;go_enter func34,ntmps34;go_wp2_with fail
 refine wp_loop_rounds 2 ?_;rw[rounds_succ];go_wp2_with fail
 refine QA d.o 8 ?_;refine kN 0 (d.o.drew) ?_;refine kN 1 (d.o.drew) ?_;refine kN 4 (d.o.drew) ?_;refine kN 5 (d.o.drew) ?_;refine uI (i:=2) (Me 0 qo (d.o.drew)) (fun ab ac u m=>?_);refine kN 3 m ?_;refine uI (i:=6) (zy (k:=2) ⟨#[105,100]⟩ rfl qo m) (fun ad ae v h11=>?_);refine kN 7 h11 ?_;refine Ga (fun K j=>?_);go_simp;refine j _ _ ?_;generalize w.heap.size=bx at*;obtain⟨n,-⟩:=h11.c 6 6;have hb:=h11.lt 6;go_wp2_with fail
 refine QA h11 9 ?_;refine kN 0 (h11.drew) ?_;refine kN 1 (h11.drew) ?_;refine kN 4 (h11.drew) ?_;refine kN 5 (h11.drew) ?_;refine kN 6 (h11.drew) ?_;refine uI (i:=2) (Me 0 qo (h11.drew)) (fun af ag A p=>?_);refine kN 3 p ?_;refine uI (i:=7) (Me 1 qo p) (fun ah ai B b=>?_);refine kN 8 b ?_;refine Ga (fun K j=>?_);go_simp;refine j _ _ ?_;obtain⟨n,-⟩:=b.c 6 6;have hb:=b.lt 6;go_wp2_with fail
 refine wp_loop_rounds 2 ?_;rw[rounds_succ];go_wp2_with fail
 refine QA b 17 ?_;refine kN 0 (b.drew) ?_;refine kN 1 (b.drew) ?_;refine kN 2 (b.drew) ?_;refine kN 3 (b.drew) ?_;refine kN 4 (b.drew) ?_;refine kN 5 (b.drew) ?_;refine kN 6 (b.drew) ?_;refine kN 9 (b.drew) ?_;refine kN 10 (b.drew) ?_;refine kN 11 (b.drew) ?_;refine kN 12 (b.drew) ?_;refine kN 13 (b.drew) ?_;refine kN 14 (b.drew) ?_;refine uI (i:=7) (Me 0 qo (b.drew)) (fun aj ak C s=>?_);refine kN 8 s ?_;refine uI (i:=15) (zy (k:=1) ⟨#[120]⟩ rfl qo s) (fun am an D f=>?_);refine kN 16 f ?_;refine Ga (fun K j=>?_);go_simp;refine j _ _ ?_;obtain⟨n,-⟩:=f.c 6 6;obtain⟨t,-⟩:=f.c 0 1;have hb:=f.lt 6;have hm:=f.lt 0;go_wp2_with fail
 rw[rounds_succ];go_wp2_with fail
 rw[rounds_succ];go_wp2_with fail
 refine(wS 0 qo f).mono ?_;rintro e ao ⟨ap,rfl,E,F⟩;go_wp2_with fail
 refine(zy (k:=4) ⟨#[110,97,109,101]⟩ rfl qo F).mono ?_;rintro e aq ⟨ar,rfl,G,H⟩;go_wp2_with fail
 refine(vH 1 qo _ (k:=4) (by rw[BD,BD,u,v];rfl) qo H).mono ?_;rintro e au ⟨av,rfl,I,J⟩;go_wp2_with fail
 refine(vH 2 qo _ (k:=5) (by rw[BD,BD,BD,BD,A,B,C,D];rfl) qo J).mono ?_;rintro e aw ⟨ax,rfl,L,M⟩;go_wp2_with fail
 refine(zy (k:=20) _ (by rw[BD,BD,G,I,L]) qo M).mono ?_;rintro e ay ⟨az,rfl,N,O⟩;go_wp2;go_ret;exact⟨_,rfl,by rw[BD,E,N],O.rm 6⟩
end
section
variable {w0 w:qW} {Y fb cf g cp y cy z cz eb ce:Nat}
theorem aaQ(h:fZ w0 w (WL Y fb cf g cp y cy z cz eb ce [])):qC 9 #[qP Y] w (KT w0 58 (WL Y fb cf g cp y cy z cz eb ce [])):=by
 have hz:=BD;obtain⟨I,-⟩:=h.c 0 0;have s:=h.lt 0;go_enter func9,ntmps9;go_wp2_with fail
 refine wp_loop_rounds 2 ?_;rw[rounds_succ];go_wp2_with fail
 have n:=h.q 0 0;have o:=h.q 3 0;have t:=h.q 3 1;refine QA h 23 ?_;refine kN 0 (h.drew) ?_;refine kN 3 (h.drew) ?_;refine kN 4 (h.drew) ?_;refine kN 5 (h.drew) ?_;refine kN 6 (h.drew) ?_;refine kN 7 (h.drew) ?_;refine kN 8 (h.drew) ?_;refine kN 9 (h.drew) ?_;refine kN 10 (h.drew) ?_;refine kN 13 (h.drew) ?_;refine kN 14 (h.drew) ?_;refine kN 15 (h.drew) ?_;refine kN 16 (h.drew) ?_;refine kN 17 (h.drew) ?_;refine kN 18 (h.drew) ?_;refine kN 19 (h.drew) ?_;refine kN 20 (h.drew) ?_;refine uI (i:=1) (wS 96 qo (h.drew)) (fun J aB L u=>?_);refine kN 2 u ?_;refine uI (i:=11) (Om u) (fun M aC N h11=>?_);refine kN 12 h11 ?_;refine uI (i:=21) (Om h11) (fun O aD R r=>?_);refine kN 22 r ?_;refine Ga (fun K p=>?_);go_simp;refine p _ _ ?_;clear n o t;obtain⟨I,-⟩:=r.c 0 0;have s:=r.lt 0;go_wp2_with fail
 rw[rounds_succ];obtain⟨v,-⟩:=r.c 0 1;obtain⟨F0,-⟩:=r.c 1 0;have s:=r.lt 0;have l1:=r.lt 1;go_wp2_with fail
 refine wp_loop_rounds 2 ?_;rw[rounds_succ];go_wp2_with fail
 refine(Me 0 qo r).mono ?_;rintro e aE ⟨S,rfl,T,j⟩;obtain⟨v,-⟩:=j.c 0 1;obtain⟨F0,-⟩:=j.c 1 0;obtain⟨F1,-⟩:=j.c 1 1;obtain⟨F2,-⟩:=j.c 1 2;obtain⟨F3,-⟩:=j.c 1 3;obtain⟨F4,-⟩:=j.c 1 4;obtain⟨F5,-⟩:=j.c 1 5;obtain⟨F6,-⟩:=j.c 1 6;have s:=j.lt 0;have l1:=j.lt 1;go_wp2_with fail
 refine(acS (k:=4) j rfl).mono ?_;rintro e aF ⟨aG,rfl,aH,U⟩;go_wp2_with fail
 refine(zy (k:=4) _ (by assumption) qo U).mono ?_;rintro e V ⟨W,rfl,X,m⟩;obtain⟨v,-⟩:=m.c 0 1;obtain⟨aI,-⟩:=m.c 0 12;obtain⟨Z,-⟩:=m.c 0 13;obtain⟨E0,-⟩:=m.c 5 0;obtain⟨E1,-⟩:=m.c 5 1;obtain⟨E2,-⟩:=m.c 5 2;obtain⟨E3,-⟩:=m.c 5 3;obtain⟨E4,-⟩:=m.c 5 4;have s:=m.lt 0;have l5:=m.lt 5;go_wp2_with fail
 rw[rounds_succ];go_wp2_with fail
 refine wp_loop_rounds 1 ?_;rw[rounds_succ];go_wp2_with fail
 refine wp_loop_rounds 2 ?_;rw[rounds_succ];go_wp2_with fail
 have hx:fZ w0 _ (WL Y fb cf g cp y cy z cz eb ce [(V.heap.size,Eb 0)]):=m.new (Eb 0).toArray 72;have n:=hx.q 6 1;have o:=hx.q 6 2;have t:=hx.q 6 3;refine QA hx 14 ?_;refine kN 0 (hx.drew) ?_;refine kN 1 (hx.drew) ?_;refine kN 2 (hx.drew) ?_;refine kN 5 (hx.drew) ?_;refine kN 6 (hx.drew) ?_;refine kN 9 (hx.drew) ?_;refine kN 10 (hx.drew) ?_;refine kN 11 (hx.drew) ?_;refine uI (i:=3) (zy (k:=2) ⟨#[105,100]⟩ rfl qo (hx.drew)) (fun aa aJ ab A=>?_);refine kN 4 A ?_;refine uI (i:=7) (wS 0 qo A) (fun ac aK ad B=>?_);refine kN 8 B ?_;refine uI (i:=12) (Me 0 qo B) (fun ae aL af C=>?_);refine kN 13 C ?_;refine Ga (fun K p=>?_);go_simp;refine p _ _ ?_;clear n o t;have hy:fZ w0 _ (WL Y fb cf g cp y cy z cz eb ce []):=C.rm 6;obtain⟨Z,-⟩:=hy.c 0 13;obtain⟨aM,-⟩:=hy.c 0 17;obtain⟨aN,-⟩:=hy.c 0 18;have s:=hy.lt 0;go_wp2_with fail
 rw[rounds_succ];go_wp2_with fail
 refine wp_loop_rounds 1 ?_;rw[rounds_succ];go_wp2_with fail
 refine wp_loop_rounds 1 ?_;rw[rounds_succ];go_wp2_with fail
 refine(wS 0 qo hy).mono ?_;rintro e aO ⟨aP,rfl,ag,ah⟩;go_wp2_with fail
 refine(wS 1 qo ah).mono ?_;rintro e aQ ⟨aR,rfl,ai,aj⟩;go_wp2_with fail
 refine(wS 0 qo aj).mono ?_;rintro e aS ⟨aT,rfl,ak,am⟩;go_wp2_with fail
 refine(wS 0 qo am).mono ?_;rintro e aU ⟨aV,rfl,an,ao⟩;go_wp2_with fail
 refine(wS 0 qo ao).mono ?_;rintro e aW ⟨aX,rfl,ap,f⟩;go_wp2_with fail
 have n:=f.q 0 0;have o:=f.q 0 1;refine QA f 17 ?_;refine kN 0 (f.drew) ?_;refine kN 1 (f.drew) ?_;refine kN 2 (f.drew) ?_;refine kN 3 (f.drew) ?_;refine kN 4 (f.drew) ?_;refine kN 5 (f.drew) ?_;refine kN 6 (f.drew) ?_;refine kN 9 (f.drew) ?_;refine kN 10 (f.drew) ?_;refine kN 11 (f.drew) ?_;refine kN 12 (f.drew) ?_;refine kN 13 (f.drew) ?_;refine kN 14 (f.drew) ?_;refine uI (i:=7) (vH 1 qo (⟨#[]⟩++J++M++O) (k:=5) (by rw[BD,BD,BD,L,N,R];rfl) qo (f.drew)) (fun aY aZ aq D=>?_);refine kN 8 D ?_;refine uI (i:=15) (vH 3 qo (⟨#[]⟩++S) (k:=1) (by rw[BD,T];rfl) qo D) (fun a0 a1 ar d=>?_);refine kN 16 d ?_;refine Ga (fun K p=>?_);go_simp;refine p _ _ ?_;clear n o;obtain⟨M2,-⟩:=d.c 0 2;obtain⟨M7,-⟩:=d.c 0 7;have s:=d.lt 0;go_wp2_with fail
 have n:=d.q 0 12;have o:=d.q 0 13;refine QA d 17 ?_;refine kN 0 (d.drew) ?_;refine kN 1 (d.drew) ?_;refine kN 2 (d.drew) ?_;refine kN 3 (d.drew) ?_;refine kN 4 (d.drew) ?_;refine kN 5 (d.drew) ?_;refine kN 6 (d.drew) ?_;refine kN 9 (d.drew) ?_;refine kN 10 (d.drew) ?_;refine kN 11 (d.drew) ?_;refine kN 12 (d.drew) ?_;refine kN 13 (d.drew) ?_;refine kN 14 (d.drew) ?_;refine uI (i:=7) (C9 6 ⟨#[]⟩ (d.drew)) (fun a2 a3 au E=>?_);refine kN 8 E ?_;refine uI (i:=15) (vH 7 qo (⟨#[]⟩++aa++ac++ae) (k:=5) (by rw[BD,BD,BD,ab,ad,af];rfl) qo E) (fun a4 a5 av b=>?_);refine kN 16 b ?_;refine Ga (fun K p=>?_);go_simp;refine p _ _ ?_;clear n o;obtain⟨a6,-⟩:=b.c 0 14;have s:=b.lt 0;go_wp2_with fail
 have n:=b.q 0 1;have o:=b.q 0 17;have t:=b.q 0 18;refine QA b 25 ?_;refine kN 0 (b.drew) ?_;refine kN 1 (b.drew) ?_;refine kN 2 (b.drew) ?_;refine kN 3 (b.drew) ?_;refine kN 4 (b.drew) ?_;refine kN 5 (b.drew) ?_;refine kN 6 (b.drew) ?_;refine kN 9 (b.drew) ?_;refine kN 10 (b.drew) ?_;refine kN 11 (b.drew) ?_;refine kN 12 (b.drew) ?_;refine kN 13 (b.drew) ?_;refine kN 14 (b.drew) ?_;refine kN 17 (b.drew) ?_;refine kN 18 (b.drew) ?_;refine kN 19 (b.drew) ?_;refine kN 20 (b.drew) ?_;refine kN 21 (b.drew) ?_;refine kN 22 (b.drew) ?_;refine uI (i:=7) (C9 9 ⟨#[]⟩ (b.drew)) (fun a7 a8 aw F=>?_);refine kN 8 F ?_;refine uI (i:=15) (vH 10 qo (⟨#[]⟩++W) (k:=5) (by rw[BD,X];rfl) qo F) (fun a9 ba ax G=>?_);refine kN 16 G ?_;refine uI (i:=23) (C9 11 ⟨#[]⟩ G) (fun bb bc ay H=>?_);refine kN 24 H ?_;refine Ga (fun K p=>?_);go_simp;refine p _ _ ?_;clear n o t;go_wp2_with fail
 refine(aaV H).mono ?_;rintro e bd ⟨be,rfl,az,aA⟩;go_wp2;go_ret;exact⟨_,rfl,by simp only[BD,ag,ai,ak,an,ap,aq,ar,au,av,aw,ax,ay,az];rfl,aA⟩
end
end Go.Proofs.YtdaafkmhfedkiaaGreat
