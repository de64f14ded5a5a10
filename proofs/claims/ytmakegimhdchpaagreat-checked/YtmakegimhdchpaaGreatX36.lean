import Derived.Test.YtmakegimhdchpaaGreatX35
namespace Go.Proofs.YtmakegimhdchpaaGreat
set_option maxHeartbeats 6400000
set_option maxRecDepth 100000
open Go.RowKit Go.Proofs.Tryz
section
variable {w0 w:qW} {Y fb cf g cp y cy z cz eb ce:Nat}
theorem aaR(h:fZ w0 w (WL Y fb cf g cp y cy z cz eb ce [])):qC 9 #[qP Y] w (KT w0 58 (WL Y fb cf g cp y cy z cz eb ce [])):=by
 have hz:=BD;obtain⟨I,-⟩:=h.c 0 0;have s:=h.lt 0;go_enter func9,ntmps9;go_wp2_with fail
 refine wp_loop_rounds 2 ?_;rw[rounds_succ];go_wp2_with fail
 have n:=h.q 0 0;have o:=h.q 3 0;have t:=h.q 3 1;refine QB h 23 ?_;refine kN 0 (h.drew) ?_;refine kN 3 (h.drew) ?_;refine kN 4 (h.drew) ?_;refine kN 5 (h.drew) ?_;refine kN 6 (h.drew) ?_;refine kN 7 (h.drew) ?_;refine kN 8 (h.drew) ?_;refine kN 9 (h.drew) ?_;refine kN 10 (h.drew) ?_;refine kN 13 (h.drew) ?_;refine kN 14 (h.drew) ?_;refine kN 15 (h.drew) ?_;refine kN 16 (h.drew) ?_;refine kN 17 (h.drew) ?_;refine kN 18 (h.drew) ?_;refine kN 19 (h.drew) ?_;refine kN 20 (h.drew) ?_;refine uI (i:=1) (wS 96 qo (h.drew)) (fun J aB L u=>?_);refine kN 2 u ?_;refine uI (i:=11) (Oo u) (fun M aC N h11=>?_);refine kN 12 h11 ?_;refine uI (i:=21) (Oo h11) (fun O aD R r=>?_);refine kN 22 r ?_;refine Ga (fun K p=>?_);go_simp;refine p _ _ ?_;clear n o t;obtain⟨I,-⟩:=r.c 0 0;have s:=r.lt 0;go_wp2_with fail
 rw[rounds_succ];obtain⟨v,-⟩:=r.c 0 1;obtain⟨F0,-⟩:=r.c 1 0;have s:=r.lt 0;have l1:=r.lt 1;go_wp2_with fail
 refine wp_loop_rounds 2 ?_;rw[rounds_succ];go_wp2_with fail
 refine(Mj 0 qo r).mono ?_;rintro e aE ⟨S,rfl,T,j⟩;obtain⟨v,-⟩:=j.c 0 1;obtain⟨F0,-⟩:=j.c 1 0;obtain⟨F1,-⟩:=j.c 1 1;obtain⟨F2,-⟩:=j.c 1 2;obtain⟨F3,-⟩:=j.c 1 3;obtain⟨F4,-⟩:=j.c 1 4;obtain⟨F5,-⟩:=j.c 1 5;obtain⟨F6,-⟩:=j.c 1 6;have s:=j.lt 0;have l1:=j.lt 1;go_wp2_with fail
 refine(acT (k:=4) j rfl).mono ?_;rintro e aF ⟨aG,rfl,aH,U⟩;go_wp2_with fail
 refine(zy (k:=4) _ (by assumption) qo U).mono ?_;rintro e V ⟨W,rfl,X,m⟩;obtain⟨v,-⟩:=m.c 0 1;obtain⟨aI,-⟩:=m.c 0 12;obtain⟨Z,-⟩:=m.c 0 13;obtain⟨E0,-⟩:=m.c 5 0;obtain⟨E1,-⟩:=m.c 5 1;obtain⟨E2,-⟩:=m.c 5 2;obtain⟨E3,-⟩:=m.c 5 3;obtain⟨E4,-⟩:=m.c 5 4;have s:=m.lt 0;have l5:=m.lt 5;go_wp2_with fail
 rw[rounds_succ];go_wp2_with fail
 refine wp_loop_rounds 1 ?_;rw[rounds_succ];go_wp2_with fail
 refine wp_loop_rounds 2 ?_;rw[rounds_succ];go_wp2_with fail
 have hx:fZ w0 _ (WL Y fb cf g cp y cy z cz eb ce [(V.heap.size,Eb 0)]):=m.new (Eb 0).toArray 72;have n:=hx.q 6 1;have o:=hx.q 6 2;have t:=hx.q 6 3;refine QB hx 14 ?_;refine kN 0 (hx.drew) ?_;refine kN 1 (hx.drew) ?_;refine kN 2 (hx.drew) ?_;refine kN 5 (hx.drew) ?_;refine kN 6 (hx.drew) ?_;refine kN 9 (hx.drew) ?_;refine kN 10 (hx.drew) ?_;refine kN 11 (hx.drew) ?_;refine uI (i:=3) (zy (k:=2) ⟨#[105,100]⟩ rfl qo (hx.drew)) (fun aa aJ ab A=>?_);refine kN 4 A ?_;refine uI (i:=7) (wS 0 qo A) (fun ac aK ad B=>?_);refine kN 8 B ?_;refine uI (i:=12) (Mj 0 qo B) (fun ae aL af C=>?_);refine kN 13 C ?_;refine Ga (fun K p=>?_);go_simp;refine p _ _ ?_;clear n o t;have hy:fZ w0 _ (WL Y fb cf g cp y cy z cz eb ce []):=C.rm 6;obtain⟨Z,-⟩:=hy.c 0 13;obtain⟨aM,-⟩:=hy.c 0 17;obtain⟨aN,-⟩:=hy.c 0 18;have s:=hy.lt 0;go_wp2_with fail
 rw[rounds_succ];go_wp2_with fail
 refine wp_loop_rounds 1 ?_;rw[rounds_succ];go_wp2_with fail
 refine wp_loop_rounds 1 ?_;rw[rounds_succ];go_wp2_with fail
 refine(wS 0 qo hy).mono ?_;rintro e aO ⟨aP,rfl,ag,ah⟩;go_wp2_with fail
 refine(wS 1 qo ah).mono ?_;rintro e aQ ⟨aR,rfl,ai,aj⟩;go_wp2_with fail
 refine(wS 0 qo aj).mono ?_;rintro e aS ⟨aT,rfl,ak,am⟩;go_wp2_with fail
 refine(wS 0 qo am).mono ?_;rintro e aU ⟨aV,rfl,an,ao⟩;go_wp2_with fail
 refine(wS 0 qo ao).mono ?_;rintro e aW ⟨aX,rfl,ap,f⟩;go_wp2_with fail
 have n:=f.q 0 0;have o:=f.q 0 1;refine QB f 17 ?_;refine kN 0 (f.drew) ?_;refine kN 1 (f.drew) ?_;refine kN 2 (f.drew) ?_;refine kN 3 (f.drew) ?_;refine kN 4 (f.drew) ?_;refine kN 5 (f.drew) ?_;refine kN 6 (f.drew) ?_;refine kN 9 (f.drew) ?_;refine kN 10 (f.drew) ?_;refine kN 11 (f.drew) ?_;refine kN 12 (f.drew) ?_;refine kN 13 (f.drew) ?_;refine kN 14 (f.drew) ?_;refine uI (i:=7) (vH 1 qo (⟨#[]⟩++J++M++O) (k:=5) (by rw[BD,BD,BD,L,N,R];rfl) qo (f.drew)) (fun aY aZ aq D=>?_);refine kN 8 D ?_;refine uI (i:=15) (vH 3 qo (⟨#[]⟩++S) (k:=1) (by rw[BD,T];rfl) qo D) (fun a0 a1 ar d=>?_);refine kN 16 d ?_;refine Ga (fun K p=>?_);go_simp;refine p _ _ ?_;clear n o;obtain⟨M2,-⟩:=d.c 0 2;obtain⟨M7,-⟩:=d.c 0 7;have s:=d.lt 0;go_wp2_with fail
 have n:=d.q 0 12;have o:=d.q 0 13;refine QB d 17 ?_;refine kN 0 (d.drew) ?_;refine kN 1 (d.drew) ?_;refine kN 2 (d.drew) ?_;refine kN 3 (d.drew) ?_;refine kN 4 (d.drew) ?_;refine kN 5 (d.drew) ?_;refine kN 6 (d.drew) ?_;refine kN 9 (d.drew) ?_;refine kN 10 (d.drew) ?_;refine kN 11 (d.drew) ?_;refine kN 12 (d.drew) ?_;refine kN 13 (d.drew) ?_;refine kN 14 (d.drew) ?_;refine uI (i:=7) (C9 6 ⟨#[]⟩ (d.drew)) (fun a2 a3 au E=>?_);refine kN 8 E ?_;refine uI (i:=15) (vH 7 qo (⟨#[]⟩++aa++ac++ae) (k:=5) (by rw[BD,BD,BD,ab,ad,af];rfl) qo E) (fun a4 a5 av b=>?_);refine kN 16 b ?_;refine Ga (fun K p=>?_);go_simp;refine p _ _ ?_;clear n o;obtain⟨a6,-⟩:=b.c 0 14;have s:=b.lt 0;go_wp2_with fail
 have n:=b.q 0 1;have o:=b.q 0 17;have t:=b.q 0 18;refine QB b 25 ?_;refine kN 0 (b.drew) ?_;refine kN 1 (b.drew) ?_;refine kN 2 (b.drew) ?_;refine kN 3 (b.drew) ?_;refine kN 4 (b.drew) ?_;refine kN 5 (b.drew) ?_;refine kN 6 (b.drew) ?_;refine kN 9 (b.drew) ?_;refine kN 10 (b.drew) ?_;refine kN 11 (b.drew) ?_;refine kN 12 (b.drew) ?_;refine kN 13 (b.drew) ?_;refine kN 14 (b.drew) ?_;refine kN 17 (b.drew) ?_;refine kN 18 (b.drew) ?_;refine kN 19 (b.drew) ?_;refine kN 20 (b.drew) ?_;refine kN 21 (b.drew) ?_;refine kN 22 (b.drew) ?_;refine uI (i:=7) (C9 9 ⟨#[]⟩ (b.drew)) (fun a7 a8 aw F=>?_);refine kN 8 F ?_;refine uI (i:=15) (vH 10 qo (⟨#[]⟩++W) (k:=5) (by rw[BD,X];rfl) qo F) (fun a9 ba ax G=>?_);refine kN 16 G ?_;refine uI (i:=23) (C9 11 ⟨#[]⟩ G) (fun bb bc ay H=>?_);refine kN 24 H ?_;refine Ga (fun K p=>?_);go_simp;refine p _ _ ?_;clear n o t;go_wp2_with fail
 refine(aaW H).mono ?_;rintro e bd ⟨be,rfl,az,aA⟩;go_wp2;go_ret;exact⟨_,rfl,by simp only[BD,ag,ai,ak,an,ap,aq,ar,au,av,aw,ax,ay,az];rfl,aA⟩
end
end Go.Proofs.YtmakegimhdchpaaGreat
