import Derived.Test.YtdaafkmhfedkiaaGreatX17
namespace Go.Proofs.YtdaafkmhfedkiaaGreat
set_option maxHeartbeats 3200000
set_option maxRecDepth 100000
open Go.RowKit Go.Proofs.Tryz
section
variable {S:qD} {w w':qW} {x Y:Nat} {s:qS} {Z:RS}
def tV(opn:qS):Nat:=if opn.size=0 then 0 else bt opn (opn.size - 1)
theorem Tryz.aeK:(prog.info? 79).map (fun i=>(i.zero,i.size,i.bytes))=some (some (.agg #[qJ 0,qJ 0,qJ 0,qJ 0,qJ 0,qJ 0,qN,qJ 0,qB 0]),9,88):=qk
theorem kW.mono{ok ok':qD}{t:fA}{cs:qV}(h:kW ok t w cs)(a:∀g,g<w.heap.size->ok g->ok' g):kW ok' t w cs:=by
 obtain⟨lv,e,b⟩:=h;exact⟨lv,e,Row.mono b a⟩
theorem Ob{ok ok':qD}{a:List fA}{lv:qv}(h:gu 79 9 kW ok a w lv)(b:∀g,g<w.heap.size->ok g->ok' g):gu 79 9 kW ok' a w lv:=by
 obtain⟨css,c,d⟩:=h;refine⟨css,Row.mono c b,d.to (fun _ _ hh=>⟨?_,hh.2⟩)⟩;obtain⟨lv,e,f⟩:=hh.1;exact⟨lv,e,Row.mono f b⟩
theorem Ju{op a:Nat}{opn:qS}(h:(dN op).data.toList.isEmpty=true):jW op opn a Z=(opn,dL Z a):=by unfold jW;rw[if_pos (.inl h)]
theorem xA{op:Nat}(h:op=5\/op=11\/op=4\/op=2\/op=3):¬(dN op).data.toList.isEmpty=true:=by
 rcases h with rfl | rfl | rfl | rfl | rfl<;>decide+kernel
theorem FX{op a:Nat}{opn:qS}(h:op=5)(b:¬tV opn=105):jW op opn a Z=(opn,dL Z a):=by
 unfold tV at b;have L:opn.size=0\/bt opn (opn.size - 1)≠105:=by
  by_cases c:opn.size=0
  .exact .inl c
  rw[if_neg c] at b;exact .inr b
 unfold jW;rw[if_pos (.inr ⟨h,L⟩)]
theorem FW{op a:Nat}{opn:qS}(h:op=5)(b:tV opn=105):jW op opn a Z=(opn.extract 0 (opn.size - 1)++⟨#[101]⟩,Z):=by
 unfold tV at b;have f:opn.size≠0:=fun c=>by rw[if_pos c] at b;exact absurd b qx
 rw[if_neg f] at b;unfold jW;rw[if_neg (fun c=>c.elim (xA (.inl h)) (fun d=>d.2.elim f (fun e=>e b))),if_neg qo,if_pos h]
theorem Nk{op a:Nat}{opn:qS}(h:op=11):jW op opn a Z=(opn.extract 0 (opn.size - 1),Z):=by
 unfold jW;rw[if_neg (fun c=>c.elim (xA (.inr (.inl h))) (fun d=>qo)),if_pos h]
theorem zg{op a:Nat}{opn:qS}(h:op=4\/op=2\/op=3)(b:50<=opn.size):jW op opn a Z=(opn,dL Z a):=by
 unfold jW;rw[if_neg (fun c=>c.elim (xA (.inr (.inr h))) (fun d=>qo)),if_neg qo,if_neg qo,if_pos ⟨b,h⟩]
theorem QM{op a:Nat}{opn:qS}(h:op=4)(b:¬50<=opn.size):jW op opn a Z=(opn++⟨#[105]⟩,Z):=by
 unfold jW;rw[if_neg (fun c=>c.elim (xA (.inr (.inr (.inl h)))) (fun d=>qo)),if_neg qo,if_neg qo,if_neg (fun c=>b c.1),if_pos h]
theorem FY{op a:Nat}{opn:qS}(h:op=2)(b:¬50<=opn.size):jW op opn a Z=(opn++⟨#[98]⟩,Z):=by
 unfold jW;rw[if_neg (fun c=>c.elim (xA (.inr (.inr (.inr (.inl h))))) (fun d=>qo)),if_neg qo,if_neg qo,if_neg (fun c=>b c.1),if_neg qo,if_pos (.inl h)]
theorem Jv{op a:Nat}{opn:qS}(h:op=3)(b:¬50<=opn.size):jW op opn a Z=(opn++⟨#[98]⟩,Z):=by
 unfold jW;rw[if_neg (fun c=>c.elim (xA (.inr (.inr (.inr (.inr h))))) (fun d=>qo)),if_neg qo,if_neg qo,if_neg (fun c=>b c.1),if_neg qo,if_pos (.inr h)]
theorem FV{op a:Nat}{opn:qS}(h:¬(dN op).data.toList.isEmpty=true)(h5:¬op=5)(h11:¬op=11)(h4:¬op=4)(L:¬op=2)(h3:¬op=3):jW op opn a Z=(opn,Z):=by
 unfold jW;rw[if_neg (fun c=>c.elim h (fun d=>h5 d.1)),if_neg h11,if_neg h5,if_neg qo,if_neg h4,if_neg qo]
theorem Xz{fb f n A:Nat}{cs:qV}(h:eu w x s Z Y)(hm:w.cell? (qA Y 1)=some (.slice (some (qA fb 0)) n A))(hf:f<n)(hO:OB w x fb cs)(hl:f*7+6<cs.length)
  (c2:cs.getD (f*7+2) undef=.string ⟨#[]⟩) (c3:cs.getD (f*7+3) undef=qN) (c4:cs.getD (f*7+4) undef=qJ 0):
  qC 134 #[qP x,qJ f] w (AB w x Y s fb f cs Z):=by
 have bK:∀(W:qW) (z:Int),(convert 86 9 (.slice (some (qA W.heap.size 0)) 1 1)).run prog (W.alloc (.cells #[qB z] 5)).drew=.ok (.string (strOfNums [z])) (W.alloc (.cells #[qB z] 5)).drew:=fun W z=>jb _ _ _ (rD W z);have bL:∀(W:qW) (z:Int),(convert 86 9 (.slice (some (qA W.heap.size 0)) 1 1)).run prog (W.drew.alloc (.cells #[qB z] 5))=.ok (.string (strOfNums [z])) (W.drew.alloc (.cells #[qB z] 5)):=fun W z=>jb _ _ _ (rD W.drew z);have bM:∀(W:qW) (z:Int),(convert 86 9 (.slice (some (qA W.heap.size 0)) 1 1)).run prog (W.drew.alloc (.cells #[qB z] 5)).drew=.ok (.string (strOfNums [z])) (W.drew.alloc (.cells #[qB z] 5)).drew:=fun W z=>jb _ _ _ (rD W.drew z);have bN:=Qo (s:=s) (Z:=Z);have hx:=h.lt;have ch:=hO.lt;have ak:¬fb=x:=hO.ne;have ci:(f:Int)<(n:Int):=qo;obtain⟨-,-,-,-,⟨I4,J4⟩⟩:=h.blk.five;have HI:=hide h;have HO:=hide hO;clear h hO;go_enter func134,ntmps134;go_wp2_with fail
 refine(ou HI.o).mono ?_;rintro e w1 ⟨rfl,av,aO⟩;have o1:=HO.o.call aO;have H0:qh (kH s Z=jh s (uS s Z).1 ⟨#[]⟩ (uS s Z).2):=rfl;generalize uS s Z=us at*;obtain⟨m,st1⟩:=us;simp only at av H0 bN ⊢;go_wp2;go_loopw [6] (fun p wr=>∃(k:Nat) (M:qS) (J:RS),k<=m/\p=qJ (k:Nat)/\M.size<=50/\eu wr x s J Y/\OB wr x fb (cs.set (f*7+2) (.string M))/\OB wr x w1.heap.size [qJ m,qJ Z.at_]/\Kept (fun k=>k=x\/k=fb) w wr/\kH s Z=jh s (m - k) M J) (fun p _=>m - (intOf p).toNat)
 case atStart=>exact⟨0,⟨#[]⟩,st1,qZ,rfl,qZ,av.alloc _,by
   have:=o1.alloc (.cells #[qJ m,qJ Z.at_] 37);rwa[show cs.set (f*7+2) (.string ⟨#[]⟩)=cs from qG qo c2],OB.new (c:= #[qJ m,qJ Z.at_]) av.lt rfl,(aO.mono (fun k _ (c:k=x)=>.inl c)).alloc _,H0.o⟩
 obtain⟨k,M,J,cj,rfl,ck,aa,oF,oV,ab,am⟩:=hrel;have B:=hide am;clear am H0 av o1;have cm:=aa.lt;obtain⟨-,-,-,⟨T,J3⟩,-⟩:=aa.blk.five;obtain⟨⟨V0,a1⟩,-⟩:=oV.blk.two;by_cases cn:k<m
 .have bO:(k:Int)<(m:Int):=qo;by_cases hb:J.bad=none
  .rw[show gX J.bad= -1 by rw[hb];rfl] at T;have C:qh (kH s Z=if 50<M.size+(uS s J).1 then(M,dL (uS s J).2 J.at_) else jh s (m - (k+1)) (DD M (jq s (uS s J).2).1 (uS s J).1) (jq s (uS s J).2).2):=by
    show _=_;rw[B.o,show m - k=m - (k+1)+1 by omega];simp[jh,hb]
   clear B hb;go_wp2_with fail
   refine(ou aa).mono ?_;rintro e w2 ⟨rfl,ac,I⟩;have bP:=Qo (s:=s) (Z:=J);generalize uS s J=us at*;obtain⟨u,a2⟩:=us;simp only at ac C bP ⊢;have aw:=oF.call I;have a3:=oV.call I;have co:=aw.lt;have cp:=a3.lt;obtain⟨F2,G2⟩:=aw.cell (k:=f*7+2) (by rw[List.length_set];omega) (fB qo);by_cases a4:50<M.size+u
   .have D:(50:Int)<(M.size:Int)+(u:Int):=qo;go_wp2_with fail
    go_quiet (fail)
    go_wp2_with fail
    refine(gH ((ac.alloc _).drewN _) J.at_ (fP aa)).mono ?_;rintro e w4 ⟨rfl,ax,ad⟩;have HB:qh (kH s Z=(M,dL a2 J.at_)):=by show _=_;rw[C.o,if_pos a4]
    have K:qh (OB w4 x fb (cs.set (f*7+2) (.string M))):=hide (((aw.alloc _).drewN _).call ad);have N:qh (Kept (fun k=>k=x\/k=fb) w w4):=hide ((((ab.trans (I.mono (fun k _ (c:k=x)=>.inl c))).alloc _).drewN _).trans (ad.mono (fun k _ (c:k=x)=>.inl c)));clear C;go_wp2;first | go_end0 | refine bodyPost_ret (results_none rfl _ _ _) rfl ?_
    exact AB.bad HB.o (jO _) ax K.o N.o hl c3 c4
   have D:¬(50:Int)<(M.size:Int)+(u:Int):=qo;go_wp2_with fail
   go_quiet (fail)
   go_wp2_with fail
   refine(A9 ((ac.alloc _).drewN _)).mono ?_;rintro e w4 ⟨rfl,ax,ad⟩;generalize jq s a2=ks at*;obtain⟨O,aP⟩:=ks;simp only at ax C ⊢;have a5:Kept (fun k=>k=x\/k=fb) w w4:=(((ab.trans (I.mono (fun k _ (c:k=x)=>.inl c))).alloc _).drewN _).trans (ad.mono (fun k _ (c:k=x)=>.inl c));have af:=((aw.alloc (.cells #[qJ u,qJ J.at_] 37)).drewN _).call ad;have a6:=((a3.alloc (.cells #[qJ u,qJ J.at_] 37)).drewN _).call ad;have a7:OB w4 x w2.heap.size [qJ u,qJ J.at_]:=((OB.new (c:= #[qJ u,qJ J.at_]) ac.lt rfl).drewN _).call ad;have HM:qh (kH s Z=jh s (m - (k+1)) (DD M O u) aP):=by show _=_;rw[C.o,if_neg a4]
   have a8:=aO.size;have a9:w.heap.size<=w2.heap.size:=Nat.le_trans ab.size I.size;have cq:=oV.lt;have cr:=I.size;have ay:=hide af;have ba:=hide a6;have bb:=hide a7;have az:=hide a5;clear C F2 G2 T J3 V0 a1 af a6 a7 a5;go_wp2;go_loopw [9] (fun p wr=>∃j:Nat,j<=u/\p=qJ j/\eu wr x s aP Y/\OB wr x fb (cs.set (f*7+2) (.string (DD M O j)))/\OB wr x w1.heap.size [qJ m,qJ Z.at_]/\OB wr x w2.heap.size [qJ u,qJ J.at_]/\Kept (fun k=>k=x\/k=fb) w wr) (fun p _=>u - (intOf p).toNat)
   case atStart=>exact⟨0,qZ,rfl,ax,ay.o,ba.o,bb.o,az.o⟩
   obtain⟨j,hj,rfl,ag,aA,bc,aQ,ae⟩:=hrel;clear ay ba bb az;obtain⟨⟨U0,ct⟩,-⟩:=aQ.blk.two;have cu:=aQ.lt;have cv:=aA.lt;obtain⟨F5,G5⟩:=aA.cell (k:=f*7+2) (by rw[List.length_set];omega) (fB qo);by_cases cw:j<u
   .have bQ:(j:Int)<(u:Int):=qo;have bR:=AY M O j;have aB:¬9223372036854775807<(DD M O j).size+(strOfNums [(O:Int)]).size:=by rw[strOfNums_size,bR];simp;omega
    go_wp2;go_big_region
    go_wp2;go_roundw
    case rel=>exact⟨j+1,qo,by go_num,((ag.other ak _).alloc _).drew,by
     have:=((aA.set (f*7+2) (.string (DD M O j++strOfNums [(O:Int)]))).alloc (.cells #[qB O] 5)).drew;rw[List.set_set] at this;exact this,((bc.other qo _).alloc _).drew,((aQ.other qo _).alloc _).drew,((ae.setCell (p:=⟨fb,f*7+2,none⟩) (fun _=>.inr rfl) _).alloc _).drew⟩
    simp[intOf];omega
   have bQ:¬(j:Int)<(u:Int):=qo;have bS:j=u:=qo;subst bS;go_wp2;go_roundw
   case rel=>exact⟨k+1,DD M O j,aP,qo,by go_num,by rw[AY];omega,ag,aA,bc,ae,HM.o⟩
   simp[intOf];omega
  have hz:=fO hb;have C:qh (kH s Z=(M,J)):=by
   show _=_;rw[B.o,show m - k=m - (k+1)+1 by omega];simp[jh,hb]
  have bT:¬gX J.bad<0:=qo;have K:=hide oF;have N:=hide ab;have HB:=hide hb;clear B hb hz oF ab;go_wp2;go_loopw [10] (fun _ wr=>eu wr x s J Y/\OB wr x fb (cs.set (f*7+2) (.string M))/\Kept (fun k=>k=x\/k=fb) w wr) (fun _ _=>0)
  case atStart=>exact⟨aa,K.o,N.o⟩
  obtain⟨Bh,Q,V⟩:=hrel;clear T J3 K N;obtain⟨-,-,-,⟨T,J3⟩,-⟩:=Bh.blk.five;have K:=hide Q;have N:=hide V;clear Q V;go_wp2;go_end0;exact AB.bad C.o HB.o Bh K.o N.o hl c3 c4
 have bO:¬(k:Int)<(m:Int):=qo;have C:qh (kH s Z=(M,J)):=by show _=_;rw[B.o,show m - k=0 by omega];rfl
 have K:=hide oF;have N:=hide ab;have H2:qh (mF s Z=jr s (s.size+2) ⟨#[]⟩ [] J):=by show _=_;unfold mF;rw[C.o]
 have HL:qh ((kH s Z).1=M):=by show _=_;rw[C.o]
 clear B oF ab C;go_wp2;go_loopw [10] (fun q wr=>∃(opn:qS) (d:List fA) (uj:RS) (pl:qO) (cl:Nat),q=.string opn/\opn.size<=50/\d.length<s.size+2/\(uj.bad=none->d.length<=uj.at_)/\eu wr x s uj Y/\OB wr x fb ((cs.set (f*7+2) (.string M)).set (f*7+3) (.slice pl d.length cl))/\gu 79 9 kW (fun g=>w.heap.size<=g) d wr (.slice pl d.length cl)/\Kept (fun k=>k=x\/k=fb) w wr/\mF s Z=jr s (s.size+2 - d.length) opn d uj) (fun _ wr=>s.size+2 - lenOf (wr.cell? ⟨fb,f*7+3,none⟩))
 case atStart=>refine⟨⟨#[]⟩,[],J,none,0,rfl,qZ,qs,fun _=>qZ,aa,?_,⟨[],Row.nil _ _ _ _,trivial⟩,N.o,H2.o⟩;have e1:(cs.set (f*7+2) (.string M)).set (f*7+3) (qN)=cs.set (f*7+2) (.string M):=qG (by rw[List.length_set];omega) (by rw[getD_set_ne qo];exact c3);exact e1.symm▸K.o
 obtain⟨opn,d,uj,pl,cl,rfl,hos,cx,bd,Bh,Q,be,V,am⟩:=hrel;have B:=hide am;have aR:=hide be;have aC:=hide bd;clear K N T J3 H2 am be aa V0 a1 oV bd bK bL bM;have cy:=Q.lt;have bU:=Bh.lt;have bf:=(Q.cell (k:=f*7+3) (by rw[List.length_set,List.length_set];omega) (fB (by rw[List.length_set];omega))).1;have HC:=hide bf;obtain⟨-,⟨I1,J1⟩,-,⟨T,J3⟩,-⟩:=Bh.blk.five;clear bf;by_cases hb:uj.bad=none
 .rw[show gX uj.bad= -1 by rw[hb];rfl] at T;go_wp2_with fail
  refine(o5 (Bh.alloc _)).mono ?_;rintro e w5 ⟨rfl,ag,ae⟩;have hop:(dO s uj).1<256:=aez;have aS:qh (¬((dO s uj).1=11/\opn.size=0)->mF s Z=jr s (s.size+2 - (d.length+1)) (jW (dO s uj).1 opn uj.at_ (dO s uj).2).1 (d++[(gK s (fV (dO s uj).1 uj.at_) (jW (dO s uj).1 opn uj.at_ (dO s uj).2).2).1]) (gK s (fV (dO s uj).1 uj.at_) (jW (dO s uj).1 opn uj.at_ (dO s uj).2).2).2):=by
   intro hn;rw[B.o,show s.size+2 - d.length=s.size+2 - (d.length+1)+1 by omega];exact Sm hb hn
  have aT:qh (((dO s uj).1=11/\opn.size=0)->mF s Z=(d,uj.at_,(dO s uj).2)):=by
   intro hn;rw[B.o,show s.size+2 - d.length=s.size+2 - (d.length+1)+1 by omega];exact Ve hb hn
  have aU:qh ((dO s uj).2.bad=none->d.length+1<=(dO s uj).2.at_):=fun h=>by
   have U:=ZP h;have L:=aC.o hb;omega
  have bV:qh (d.length<=s.size):=by
   have U:=aC.o hb;have L:=Bh.le;have h3:=Bh.big;show _<=_;omega
  generalize dO s uj=os at*;obtain⟨op,Qk⟩:=os;simp only at ag hop aS aT aU ⊢;have an:OB w5 x wr.heap.size [qJ 0,qJ uj.at_,qJ 0,qJ 0,qJ 0,qJ 0,qN,qJ 0,qB 0]:=(OB.new (c:= #[qJ 0,qJ uj.at_,qJ 0,qJ 0,qJ 0,qJ 0,qN,qJ 0,qB 0]) (t:=79) bU rfl).call ae;obtain⟨⟨A0,B0⟩,⟨A1,B1⟩,-⟩:=an.blk.nine;have bW:=an.lt;go_wp2_with fail
  refine(yg _ op hop).mono ?_;rintro e w7 ⟨rfl,ao⟩;have bX:¬wr.heap.size=x:=an.ne;have bg:¬wr.heap.size=fb:=qo;have cz:=V.size;have Hz:eu w7 x s Qk Y:=(ag.other bX (qJ op)).kept ao (fun c=>c);have aD:OB w7 x wr.heap.size [qJ op,qJ uj.at_,qJ 0,qJ 0,qJ 0,qJ 0,qN,qJ 0,qB 0]:=(an.set 0 (qJ op)).kept ao (fun c=>c);have aE:Kept (fun k=>k=x\/k=wr.heap.size) wr w7:=(((qr.alloc _).trans (ae.mono (fun k _ (c:k=x)=>.inl c))).setCell (p:=(qA wr.heap.size 0)) (fun _=>.inr rfl) (qJ op)).trans (ao.mono (fun _ _ c=>c.elim));have aV:=Q.kept aE (fun c=>c.elim (fun e=>ak e) (fun e=>bg e.symm));have bh:=xG (Ob (ok':=fun g=>w.heap.size<=g/\g<wr.heap.size) aR.o (fun g F R=>⟨R,F⟩)) aE (fun g F R c=>by rcases c with c | c<;>omega);have bi:Kept (fun k=>k=x\/k=fb) w w7:=(((V.alloc _).trans (ae.mono (fun k _ (c:k=x)=>.inl c))).new (g:=wr.heap.size) (o:=0) qo (qJ op)).trans (ao.mono (fun _ _ c=>c.elim));have aF:=hide aV;have bj:=hide aD;have aW:=hide bh;have aX:=hide bi;have cA:=aE.size;have bY:=aD.lt;have bZ:=aV.lt;obtain⟨⟨C0,D0⟩,⟨C1,D1⟩,-⟩:=aD.blk.nine;clear ag ae an A0 B0 A1 B1 bW ao aD aV bh bi aE V Q aR B aC I1 J1 T J3;go_upto_if 89 with fail
  go_cut [13] from 89 to 94 (fun v W=>v=qB ((tV opn:Nat):Int)/\w7=W)
  case first=>
   by_cases h0:opn.size=0
   .have HV:qh (tV opn=0):=by show _=_;unfold tV;rw[if_pos h0]
    have ap:qh (opn.toList.isEmpty=true):=by
     show _=_;rw[ByteArray.toList_eq,List.isEmpty_iff,<-List.length_eq_zero_iff,Array.length_toList];exact h0
    clear h0;go_wp2;all_goals first
     | exact absurd (show(!opn.toList.isEmpty)=true by assumption) (by rw[ap.o];decide)
     | (go_meet;exact⟨by rw[HV.o];rfl,rfl⟩)
   have bk:=zH (s:=opn) (i:=opn.size - 1) qo;have HV:qh (tV opn=opn[opn.size - 1].toNat):=by show _=_;unfold tV;rw[if_neg h0,bk]
   have ap:qh (opn.toList.isEmpty=false):=by
    show _=_;exact agj
   have cB:(opn.size:Int) - 1<(opn.size:Int):=qo;have bm:(0:Int)<=(opn.size:Int) - 1:=qo;have cC:opn.size - 1<opn.size:=qo;clear bk;go_wp2;all_goals first
    | exact absurd (show(!opn.toList.isEmpty)=false by assumption) (by rw[ap.o];decide)
    | (go_meet;exact⟨by rw[HV.o],rfl⟩)
  case rest=>
  obtain⟨rfl,rfl⟩:=hcut;go_upto_block 6 with fail
  go_cut [10] from 95 to 172 (fun v W=>∃(ah:qS) (G:RS),v=.string ah/\jW op opn uj.at_ Qk=(ah,G)/\¬(op=11/\opn.size=0)/\ah.size<=50/\wE Qk G/\eu W x s G Y/\Kept (only x) w7 W)
  case first=>
   by_cases l:(dN op).data.toList.isEmpty=true
   .have HO:=hide (Ju (opn:=opn) (a:=uj.at_) (Z:=Qk) l);have HNE:qh (¬(op=11/\opn.size=0)):=fun c=>by rw[c.1] at l;exact absurd l (by decide+kernel)
    have r:(dN op).toList.isEmpty=true:=by rw[ByteArray.toList_eq];exact l
    have g5:((dN op).toList==[101,108,115,101])=false:=by rw[ByteArray.toList_eq,List.isEmpty_iff] at r;rw[ByteArray.toList_eq,r];rfl
    have ai:((dN op).toList==[101,110,100])=false:=by rw[ByteArray.toList_eq,List.isEmpty_iff] at r;rw[ByteArray.toList_eq,r];rfl
    have g4:((dN op).toList==[105,102])=false:=by rw[ByteArray.toList_eq,List.isEmpty_iff] at r;rw[ByteArray.toList_eq,r];rfl
    have g2:((dN op).toList==[98,108,111,99,107])=false:=by rw[ByteArray.toList_eq,List.isEmpty_iff] at r;rw[ByteArray.toList_eq,r];rfl
    have g3:((dN op).toList==[108,111,111,112])=false:=by rw[ByteArray.toList_eq,List.isEmpty_iff] at r;rw[ByteArray.toList_eq,r];rfl
    clear l;exact aa2
   by_cases h5:op=5
   .have HNE:qh (¬(op=11/\opn.size=0)):=fun c=>qo;have r:(dN op).toList.isEmpty=false:=by rw[ByteArray.toList_eq];simpa using l
    have g5:((dN op).toList==[101,108,115,101])=true:=by
     exact YG
    have ai:((dN op).toList==[101,110,100])=false:=by
     exact YF
    have g4:((dN op).toList==[105,102])=false:=by
     exact YE
    have g2:((dN op).toList==[98,108,111,99,107])=false:=by
     exact YI
    have g3:((dN op).toList==[108,111,111,112])=false:=by
     exact YH
    by_cases X:tV opn=105
    .have HO:=hide (FW (a:=uj.at_) (Z:=Qk) h5 X);have D:(((tV opn:Nat):Int) !=105)=false:=by rw[X];rfl
     have b0:opn.size≠0:=fun c=>by unfold tV at X;rw[if_pos c] at X;exact absurd X qx
     have Rt:qh ((opn.extract 0 (opn.size - 1)++⟨#[101]⟩).size<=50):=by show _<=_;rw[ByteArray.size_append,ByteArray.size_extract];show _+1<=_;omega
     have bm:(0:Int)<=(opn.size:Int) - 1:=qo;have b1:(opn.size:Int) - 1<=(opn.size:Int):=qo;have aB:¬9223372036854775807<(opn.extract 0 (opn.size - 1)).size+(⟨#[101]⟩:qS).size:=by rw[ByteArray.size_extract];show ¬_<_+1;omega
     generalize tV opn=la at*;clear h5 X b0 l;exact aa0
    have HO:=hide (FX (a:=uj.at_) (Z:=Qk) h5 X);have D:(((tV opn:Nat):Int) !=105)=true:=by simp only[bne_iff_ne,ne_eq];omega
    generalize tV opn=la at*;clear h5 X l;exact aa2
   by_cases h11:op=11
   .skip
    have r:(dN op).toList.isEmpty=false:=by rw[ByteArray.toList_eq];simpa using l
    have g5:((dN op).toList==[101,108,115,101])=false:=by
     exact YG
    have ai:((dN op).toList==[101,110,100])=true:=by
     exact YF
    have g4:((dN op).toList==[105,102])=false:=by
     exact YE
    have g2:((dN op).toList==[98,108,111,99,107])=false:=by
     exact YI
    have g3:((dN op).toList==[108,111,111,112])=false:=by
     exact YH
    by_cases h0:opn.size=0
    .have HX:=hide (aT.o ⟨h11,h0⟩);have ap:opn.toList.isEmpty=true:=by
      rw[ByteArray.toList_eq,List.isEmpty_iff,<-List.length_eq_zero_iff,Array.length_toList];exact h0
     obtain⟨F4,G4⟩:=aF.o.cell (k:=f*7+4) (v:=qJ 0) (by rw[List.length_set,List.length_set];omega) (by rw[getD_set_ne qo,getD_set_ne qo];exact c4);clear h11 h5 h0 l;generalize dN op=W at*;go_wp2;first | go_end0 | refine bodyPost_ret (results_none rfl _ _ _) rfl ?_
     refine⟨rfl,by rw[HX.o];exact Hz.other ak _,⟨.slice pl d.length cl,?_,?_⟩,aX.o.setCell (p:=⟨fb,f*7+4,none⟩) (fun _=>.inr rfl) _⟩
     .rw[HX.o,HL.o];exact aF.o.set (f*7+4) (qJ uj.at_)
     rw[HX.o];exact xG (Ob aW.o (fun g _ R=>R.1)) ((Kept.refl (fun k=>k=fb) _).setCell (p:=⟨fb,f*7+4,none⟩) (fun _=>rfl) _) (fun g _ (R:w.heap.size<=g) (c:g=fb)=>qo)
    have HO:=hide (Nk (opn:=opn) (a:=uj.at_) (Z:=Qk) h11);have HNE:qh (¬(op=11/\opn.size=0)):=fun c=>h0 c.2;have ap:opn.toList.isEmpty=false:=by
     exact agj
    have bm:(0:Int)<=(opn.size:Int) - 1:=qo;have b1:(opn.size:Int) - 1<=(opn.size:Int):=qo;have Rt:qh ((opn.extract 0 (opn.size - 1)).size<=50):=by show _<=_;rw[ByteArray.size_extract];omega
    clear h11 h5 h0 l;exact aa0
   have HNE:qh (¬(op=11/\opn.size=0)):=fun c=>h11 c.1;by_cases h4:op=4
   .skip
    have r:(dN op).toList.isEmpty=false:=by rw[ByteArray.toList_eq];simpa using l
    have g5:((dN op).toList==[101,108,115,101])=false:=by
     exact YG
    have ai:((dN op).toList==[101,110,100])=false:=by
     exact YF
    have g4:((dN op).toList==[105,102])=true:=by
     exact YE
    have g2:((dN op).toList==[98,108,111,99,107])=false:=by
     exact YI
    have g3:((dN op).toList==[108,111,111,112])=false:=by
     exact YH
    by_cases hd:50<=opn.size
    .have HO:=hide (zg (opn:=opn) (a:=uj.at_) (Z:=Qk) (op:=op) qo hd);have D:(50:Int)<=(opn.size:Int):=qo;clear h4 h5 h11 l;exact aa2
    have HO:=hide (QM (opn:=opn) (a:=uj.at_) (Z:=Qk) h4 hd);have D:¬(50:Int)<=(opn.size:Int):=qo;have aB:¬9223372036854775807<opn.size+(⟨#[105]⟩:qS).size:=by show ¬_<_+1;omega
    have Rt:qh ((opn++⟨#[105]⟩).size<=50):=by show _<=_;rw[ByteArray.size_append];show _+1<=_;omega
    clear h4 h5 h11 l;exact aa0
   by_cases L:op=2
   .skip
    have r:(dN op).toList.isEmpty=false:=by rw[ByteArray.toList_eq];simpa using l
    have g5:((dN op).toList==[101,108,115,101])=false:=by
     exact YG
    have ai:((dN op).toList==[101,110,100])=false:=by
     exact YF
    have g4:((dN op).toList==[105,102])=false:=by
     exact YE
    have g2:((dN op).toList==[98,108,111,99,107])=true:=by
     exact YI
    have g3:((dN op).toList==[108,111,111,112])=false:=by
     exact YH
    by_cases hd:50<=opn.size
    .have HO:=hide (zg (opn:=opn) (a:=uj.at_) (Z:=Qk) (op:=op) qo hd);have D:(50:Int)<=(opn.size:Int):=qo;clear L h5 h11 l;exact aa2
    have HO:=hide (FY (opn:=opn) (a:=uj.at_) (Z:=Qk) L hd);have D:¬(50:Int)<=(opn.size:Int):=qo;have aB:¬9223372036854775807<opn.size+(⟨#[98]⟩:qS).size:=by show ¬_<_+1;omega
    have Rt:qh ((opn++⟨#[98]⟩).size<=50):=by show _<=_;rw[ByteArray.size_append];show _+1<=_;omega
    clear L h5 h11 l;exact aa0
   by_cases h3:op=3
   .skip
    have r:(dN op).toList.isEmpty=false:=by rw[ByteArray.toList_eq];simpa using l
    have g5:((dN op).toList==[101,108,115,101])=false:=by
     exact YG
    have ai:((dN op).toList==[101,110,100])=false:=by
     exact YF
    have g4:((dN op).toList==[105,102])=false:=by
     exact YE
    have g2:((dN op).toList==[98,108,111,99,107])=false:=by
     exact YI
    have g3:((dN op).toList==[108,111,111,112])=true:=by
     exact YH
    by_cases hd:50<=opn.size
    .have HO:=hide (zg (opn:=opn) (a:=uj.at_) (Z:=Qk) (op:=op) qo hd);have D:(50:Int)<=(opn.size:Int):=qo;clear h3 h5 h11 l;exact aa2
    have HO:=hide (Jv (opn:=opn) (a:=uj.at_) (Z:=Qk) h3 hd);have D:¬(50:Int)<=(opn.size:Int):=qo;have aB:¬9223372036854775807<opn.size+(⟨#[98]⟩:qS).size:=by show ¬_<_+1;omega
    have Rt:qh ((opn++⟨#[98]⟩).size<=50):=by show _<=_;rw[ByteArray.size_append];show _+1<=_;omega
    clear h3 h5 h11 l;exact aa0
   have HO:=hide (FV (opn:=opn) (a:=uj.at_) (Z:=Qk) l h5 h11 h4 L h3);have r:(dN op).toList.isEmpty=false:=by rw[ByteArray.toList_eq];simpa using l
   have g5:((dN op).toList==[101,108,115,101])=false:=by
    exact YG
   have ai:((dN op).toList==[101,110,100])=false:=by
    exact YF
   have g4:((dN op).toList==[105,102])=false:=by
    exact YE
   have g2:((dN op).toList==[98,108,111,99,107])=false:=by
    exact YI
   have g3:((dN op).toList==[108,111,111,112])=false:=by
    exact YH
   clear l h5 h11 h4 L h3;generalize dN op=W at*;by_cases hd:50<=opn.size
   .have D:(50:Int)<=(opn.size:Int):=qo;go_wp2;go_meet;exact⟨opn,Qk,rfl,HO.o,HNE.o,hos,wE.refl _,Hz,Kept.refl _ _⟩
   have D:¬(50:Int)<=(opn.size:Int):=qo;go_wp2;go_meet;exact⟨opn,Qk,rfl,HO.o,HNE.o,hos,wE.refl _,Hz,Kept.refl _ _⟩
  obtain⟨ah,G,rfl,bn,bo,b2,bp,hI8,V8⟩:=hcut;have bq:qh (mF s Z=jr s (s.size+2 - (d.length+1)) ah (d++[(gK s (fV op uj.at_) G).1]) (gK s (fV op uj.at_) G).2):=by
   have U:=aS.o bo;rw[bn] at U;exact U
  have br:qh ((gK s (fV op uj.at_) G).2.bad=none->d.length+1<=(gK s (fV op uj.at_) G).2.at_):=fun h=>by
   have U:=(SC (s:=s) (Z:=G) (fV op uj.at_)).2 h;have L:=bp.2 U.1;have h3:=aU.o L.1;omega
  have bs:=bj.o.call V8;have bu:=aF.o.call V8;have bv:=xG aW.o V8 (fun g _ R (c:g=x)=>qo);have bw:=aX.o.trans (V8.mono (fun k _ (c:k=x)=>.inl c));have cD:=V8.size;clear aS aT aU bn bo bp aF bj aW aX Hz C0 D0 C1 D1 bY bZ;go_wp2_with fail
  refine(Xw hop hI8 bs).mono ?_;rintro e E ⟨rfl,aG,⟨cE,aH,aI⟩,aq⟩;have aJ:=bu.kept aq (fun c=>c.elim (fun e=>ak e) (fun e=>bg e.symm));have b3:=xG bv aq (fun g _ R c=>by rcases c with c | c<;>omega);have aY:=bw.fresh aq (fun i hi c=>by rcases c with c | c<;>omega);have cF:=aq.size;have cG:=aH.lt;have b4:=aJ.lt;generalize gK s (fV op uj.at_) G=rr at*;obtain⟨b,bz⟩:=rr;simp only at aG aH aI bq br;obtain⟨pL,cL,rfl⟩:=Row.shape aI;obtain⟨⟨P0,Q0⟩,⟨P1,Q1⟩,⟨P2,Q2⟩,⟨P3,Q3⟩,⟨P4,Q4⟩,⟨P5,Q5⟩,⟨P6,Q6⟩,⟨P7,Q7⟩,⟨P8,Q8⟩⟩:=aH.blk.nine;obtain⟨F3,G3⟩:=aJ.cell (k:=f*7+3) (v:=.slice pl d.length cl) (by rw[List.length_set,List.length_set];omega) (fB (by rw[List.length_set];omega));obtain⟨i0,b5,b6,a8,a9⟩:=info_parts Tryz.aeK;obtain⟨css,aZ,bA⟩:=b3;have ar:qh (E.drew.ownsRow w.heap.size 79 9 (.slice pl d.length cl) d.length css.flatten):=hide ((Row.kept aZ (S:=fun _=>False) (w':=E.drew) (qr.drew) (fun _ _ _ c=>c)).pO (fun g F=>F.1));have bB:=hide aG;have bC:=hide aJ;have b7:=hide aZ;have bD:=hide bA;have bE:=hide aI;have bF:=hide aY;have cH:=bV.o;have cI:=aG.sz;have cJ:=aY.size;clear aG aJ aZ bA aI aY aH hI8 bs bu bv bw V8 aq HI HO Bh;go_wp2_with fail
  go_region_law (refine step_append_lies _ (by rfl) _ _ _ (by rfl) w.heap.size 79 i0 _ 9 88 underlying67 b5 b6 a8 a9 rfl qo (.slice pl d.length cl) d.length css.flatten (by rfl) (ar.o.alloc _) ⟨E.heap.size,0,none⟩ 1 1 [qJ b.op,qJ b.at_,qJ b.xn,qJ b.pX,qJ b.off,qJ b.val,.slice pL b.dF.length cL,qJ b.dH,qB b.kind] (by rfl) (by rfl) (World.news_of_block (cs:= #[qJ b.op,qJ b.at_,qJ b.xn,qJ b.pX,qJ b.off,qJ b.val,.slice pL b.dF.length cL,qJ b.dH,qB b.kind]) (t:=79) (fr:=(0,0)) (heap_alloc_new E.drew _)) (by simp[Value.oneCell']) qo (by unfold maxLen;omega) qo qt (E.heap.size+1) qs ?_;intro H A w3 bG aj b8 cK;have aK:some fb≠(Value.slice pl d.length cl).ownBlock:=fun e=>absurd (ar.o.lt fb e.symm).1 qo;have q3:w3.cell? ⟨fb,f*7+3,none⟩=some (.slice pl d.length cl):=(aj.cell_far ⟨fb,f*7+3,none⟩ qt aK).trans ((World.cell?_alloc_lt _ _ _ (show fb<E.drew.heap.size from b4)).trans F3);have f3:w3.frozen? ⟨fb,f*7+3,none⟩=false:=(aj.frozen_far ⟨fb,f*7+3,none⟩ qt aK).trans ((World.frozen?_alloc_old _ _ _ qt).trans G3))
  all_goals
   have a0:(E.drew.alloc (.cells #[qJ b.op,qJ b.at_,qJ b.xn,qJ b.pX,qJ b.off,qJ b.val,.slice pL b.dF.length cL,qJ b.dH,qB b.kind] 79)).ownsRow w.heap.size 79 9 (.slice pl d.length cl) d.length css.flatten:=ar.o.alloc _;have aL:qK E (E.drew.alloc (.cells #[qJ b.op,qJ b.at_,qJ b.xn,qJ b.pX,qJ b.off,qJ b.val,.slice pL b.dF.length cL,qJ b.dH,qB b.kind] 79)):=(qr.drew).alloc _;have aM:Kept (fun k=>(Value.slice pl d.length cl).ownBlock=some k) E w3:=(aL.mono (fun _ _ c=>c.elim)).trans (Kept.iB aj);have ac:eu w3 x s bz Y:=bB.o.kept aM (fun c=>absurd (ar.o.lt x c).1 qo);have bH:=bC.o.kept aM (fun c=>aK c.symm);have I:=bF.o.fresh aM (fun i hi c=>absurd (ar.o.lt i c).1 qo);have au:(d++[b]).length=d.length+1:=qs;have aN:Kept (fun k=>k=fb) w3 (w3.setCell ⟨fb,f*7+3,none⟩ (.slice (some (qA H 0)) (d.length+1) A)):=(Kept.refl (fun k=>k=fb) _).setCell (p:=⟨fb,f*7+3,none⟩) (fun _=>rfl) _;have bI:gu 79 9 kW (fun g=>w.heap.size<=g) (d++[b]) (w3.setCell ⟨fb,f*7+3,none⟩ (.slice (some (qA H 0)) (d.length+1) A)) (.slice (some (qA H 0)) (d.length+1) A):=by
    refine⟨css++[[qJ b.op,qJ b.at_,qJ b.xn,qJ b.pX,qJ b.off,qJ b.val,.slice pL b.dF.length cL,qJ b.dH,qB b.kind]],?_,?_⟩
    .have q:=Row.kept (Row.nS (ok:=fun g=>w.heap.size<=g) bG (fun g F _=>F)) aN (fun g _ (F:w.heap.size<=g) (c:g=fb)=>qo);simpa using q
    refine Each.snoc (bD.o.to (fun y cs hh=>⟨(((hh.1.mono (fun g _ R=>R.1)).kept aL (fun _ _ _ c=>c)).grown a0 aj).kept aN (fun g _ (F:w.heap.size<=g) (c:g=fb)=>qo),hh.2⟩)) ⟨?_,rfl⟩;have hn:kW (fun g=>w.heap.size<=g) b E [qJ b.op,qJ b.at_,qJ b.xn,qJ b.pX,qJ b.off,qJ b.val,.slice pL b.dF.length cL,qJ b.dH,qB b.kind]:=⟨_,rfl,Row.mono bE.o (fun g _ F=>qo)⟩;exact((hn.kept aL (fun _ _ _ c=>c)).grown a0 aj).kept aN (fun g _ (F:w.heap.size<=g) (c:g=fb)=>qo)
   have af:OB (w3.setCell ⟨fb,f*7+3,none⟩ (.slice (some (qA H 0)) (d.length+1) A)) x fb ((cs.set (f*7+2) (.string M)).set (f*7+3) (.slice (some (qA H 0)) (d.length+1) A)):=by
    have U:=bH.set (f*7+3) (.slice (some (qA H 0)) (d.length+1) A);rw[List.set_set] at U;exact U
   have bJ:=(af.cell (k:=f*7+3) (v:=(.slice (some (qA H 0)) (d.length+1) A)) (by rw[List.length_set,List.length_set];omega) (fB (by rw[List.length_set];omega))).1;have b9:=hide bJ;have cc:=hide bI;have ay:=hide af;have cd:=hide (ac.other ak (.slice (some (qA H 0)) (d.length+1) A) (o:=f*7+3));have az:=hide (I.setCell (p:=⟨fb,f*7+3,none⟩) (fun _=>.inr rfl) (.slice (some (qA H 0)) (d.length+1) A));clear bI af bJ aN I bH ac aM aL a0 bG aj b8 aK bB bC b7 bD bE bF;go_wp2;go_roundw
   case rel=>exact⟨ah,d++[b],bz,some (qA H 0),A,rfl,b2,by rw[au];omega,fun h=>by rw[au];exact br.o h,cd.o,by rw[au];exact ay.o,by rw[au];exact cc.o,az.o,by rw[au];exact bq.o⟩
   rw[b9.o,HC.o];show s.size+2 - (d.length+1)<s.size+2 - d.length;omega
 have hz:=fO hb;have bT:¬gX uj.bad<0:=qo;have HX:qh (mF s Z=(d,0,uj)):=by
  show _=_;rw[B.o,show s.size+2 - d.length=s.size+2 - (d.length+1)+1 by omega];exact Vf hb
 have ce:=hide Q;have cf:=hide V;clear hb hz Q V B aC;go_wp2;go_end0;refine⟨rfl,by rw[HX.o];exact Bh,⟨.slice pl d.length cl,?_,?_⟩,cf.o⟩
 .rw[HX.o,HL.o];have e1:((cs.set (f*7+2) (.string M)).set (f*7+3) (.slice pl d.length cl)).set (f*7+4) (qJ 0)=(cs.set (f*7+2) (.string M)).set (f*7+3) (.slice pl d.length cl):=qG (by rw[List.length_set,List.length_set];omega) (by rw[getD_set_ne qo,getD_set_ne qo];exact c4);show OB wr x fb (((cs.set (f*7+2) (.string M)).set (f*7+3) (.slice pl d.length cl)).set (f*7+4) (qJ 0));rw[e1];exact ce.o
 rw[HX.o];exact aR.o
end
section
variable {w W V w3:qW} {x Y k n cl A gg size:Nat} {pl:qO} {ms xs ys:qV} {E:TypeId} {s:qS} {Z:RS}
structure ac9(w W w3:World)(x Y k n A gg size:Nat)(own:Option Nat)(ms ys:List Value)(E:TypeId)(s:qS)(Z:RS):Prop where
 cell:w3.cell? (qA Y k)=some (ms.getD k undef)
 free:w3.frozen? (qA Y k)=false
 lt:Y<w3.heap.size
 inn:eu (w3.setCell (qA Y k) (.slice (some (qA gg 0)) (n+1) A)) x s Z Y
 mod:OB (w3.setCell (qA Y k) (.slice (some (qA gg 0)) (n+1) A)) x Y (ms.set k (.slice (some (qA gg 0)) (n+1) A))
 row:Row (fun g=>w.heap.size<=g) (w3.setCell (qA Y k) (.slice (some (qA gg 0)) (n+1) A)) E size (.slice (some (qA gg 0)) (n+1) A) (n+1) ys
 kept:Kept (fun k=>k=x\/k=Y) w (w3.setCell (qA Y k) (.slice (some (qA gg 0)) (n+1) A))
 step:Kept (fun i=>i=Y\/own=some i) W (w3.setCell (qA Y k) (.slice (some (qA gg 0)) (n+1) A))
theorem xH(hI:eu W x s Z Y)(f:OB W x Y ms)(h:k<ms.length)(d:Row (fun g=>w.heap.size<=g) W E size (.slice pl n cl) n xs)(X:Kept (fun k=>k=x\/k=Y) w W)(hx:x<w.heap.size)(r:Y<w.heap.size)
  (j:qK W V) (l:w3.ownsRow w.heap.size E size (.slice (some (qA gg 0)) (n+1) A) (n+1) ys) (a:V.grownBy w3 (Value.slice pl n cl).ownBlock):
  ac9 w W w3 x Y k n A gg size (Value.slice pl n cl).ownBlock ms ys E s Z:=by
 have m:=f.ne;have b:Kept (fun i=>(Value.slice pl n cl).ownBlock=some i) W w3:=(j.mono (fun _ _ c=>c.elim)).trans (Kept.iB a);have o:eu w3 x s Z Y:=hI.kept b (fun c=>absurd (d.at_ x c) qo);have e:OB w3 x Y ms:=f.kept b (fun c=>absurd (d.at_ Y c) qo);have q:Kept (fun k=>k=x\/k=Y) w w3:=X.fresh b (fun i t c=>absurd (d.at_ i c) qo);obtain⟨c1,c2⟩:=e.cell h rfl;refine⟨c1,c2,e.lt,o.other m _,e.set k _,?_,q.setCell (p:=(qA Y k)) (fun _=>.inr rfl) _,(b.mono (fun _ _ c=>.inr c)).setCell (p:=(qA Y k)) (fun _=>.inl rfl) _⟩;exact Row.kept (Row.nS (ok:=fun g=>w.heap.size<=g) l (fun g a _=>a)) ((Kept.refl (fun k=>k=Y) w3).setCell (p:=(qA Y k)) (fun _=>rfl) _) (fun g _ (a:w.heap.size<=g) (c:g=Y)=>qo)
theorem Row.Ce{ok:qD}{v:qv}{n:Nat}(h:Row ok W E size v n xs)(a:qK W V){B:Nat}(hb:∀g,ok g->B<=g):V.ownsRow B E size v n xs:=
 (Row.kept h a (fun _ _ _ c=>c)).pO hb
end
structure sJ where
 kind:Nat
 chg:Bool
 init:MC
def sJ.cells(gl:sJ):List Value:=[qB gl.kind,.bool gl.chg,qB gl.init.kind,qJ gl.init.val,qJ gl.init.at_]
def BL(s:qS)(Z:RS):sJ×RS:=
 let st2:=if 1<(dO s (jq s Z).2).1 then dL (dO s (jq s Z).2).2 (jq s Z).2.at_ else(dO s (jq s Z).2).2
 (⟨(jq s Z).1,(dO s (jq s Z).2).1==1,(jS s st2).1⟩,(jS s st2).2)
def lK(s:qS):Nat->List sJ->RS->List sJ×RS
 | 0,M,Z=>(M,Z)
 | k+1,M,Z=>if Z.bad≠none then(M,Z) else lK s k (M++[(BL s Z).1]) (BL s Z).2
def nV(s:qS)(Z:RS):List sJ×RS:=lK s (dU s 10 Z).1 [] (dU s 10 Z).2
theorem Tryz.aeI:(prog.info? 85).map (fun i=>(i.zero,i.size,i.bytes))=some (some (.agg #[qB 0,.bool false,qB 0,qJ 0,qJ 0]),5,32):=qk
section
variable {S:qD} {w w':qW} {x Y:Nat} {s:qS} {Z:RS}
theorem OZ{u:qV}(h:eu w x s Z Y)(H:OB w x Y u)(hl:18<u.length)(az:u.getD 12 undef=qN):
  qC 97 #[qP x] w fun e w'=>qU e/\eu w' x s (nV s Z).2 Y/\(∃lv,OB w' x Y (u.set 12 lv)/\isRow 85 5 sJ.cells (fun g=>w.heap.size<=g) (nV s Z).1 w' lv)/\Kept (fun k=>k=x\/k=Y) w w':=by
 obtain⟨i0,aA,aB,aC,aD⟩:=info_parts Tryz.aeI;have hx:=h.lt;have aE:=H.lt;have aF:¬Y=x:=H.ne;have HM:=hide H;clear H;go_enter func97,ntmps97;go_wp2_with fail
 refine(mQ h 10).mono ?_;rintro e w1 ⟨rfl,hI,X⟩;have aG:=qX (s:=s) (Z:=Z) 10;have U:qh (nV s Z=lK s (dU s 10 Z).1 [] (dU s 10 Z).2):=rfl;generalize dU s 10 Z=mn at*;obtain⟨n,st1⟩:=mn;simp only at hI aG U ⊢;have aj:=hide (HM.o.call X);go_wp2;go_loopw [3] (fun p wr=>∃(k:Nat) (M:List sJ) (J:RS) (pl:qO) (cl:Nat),k<=n/\p=qJ (k:Nat)/\M.length=k/\eu wr x s J Y/\OB wr x Y (u.set 12 (.slice pl k cl))/\isRow 85 5 sJ.cells (fun g=>w.heap.size<=g) M wr (.slice pl k cl)/\Kept (fun k=>k=x\/k=Y) w wr/\nV s Z=lK s (n - k) M J) (fun p _=>n - (intOf p).toNat)
 case atStart=>exact⟨0,[],st1,none,0,qZ,rfl,rfl,hI,(qG (show 12<u.length by omega) az).symm▸aj.o,Row.nil _ _ _ _,X.mono (fun k _ (c:k=x)=>.inl c),U.o⟩
 obtain⟨k,M,J,pl,cl,aU,rfl,aH,hI2,oM,hrow,hkp,ak⟩:=hrel;have y:=hide ak;clear ak U aj;have aI:=hI2.lt;have aV:=hkp.size;have aW:=oM.lt;obtain⟨-,-,-,⟨I3,J3⟩,-⟩:=hI2.blk.five;by_cases aX:k<n
 .have aJ:(k:Int)<(n:Int):=qo;by_cases hb:J.bad=none
  .rw[show gX J.bad= -1 by rw[hb];rfl] at I3;have HN:qh (nV s Z=lK s (n - (k+1)) (M++[(BL s J).1]) (BL s J).2):=by
    show _=_;rw[y.o,show n - k=n - (k+1)+1 by omega];simp[lK,hb]
   clear y hb;go_wp2_with fail
   refine(A9 (hI2.alloc _)).mono ?_;rintro e w3 ⟨rfl,v,V⟩;have B:OB w3 x wr.heap.size [qB 0,.bool false,qB 0,qJ 0,qJ 0]:=(OB.new (c:= #[qB 0,.bool false,qB 0,qJ 0,qJ 0]) (t:=85) aI rfl).call V;have C:¬wr.heap.size=x:=B.ne;have K3:Kept (fun k=>k=x\/k=wr.heap.size) wr w3:=(qr.alloc _).trans (V.mono (fun k _ (c:k=x)=>.inl c));have I:=fP v;obtain⟨⟨d,aa⟩,ab⟩:=qF (jq s J);rw[ab] at v I ⊢;have am:=hide ab;simp only at v I ⊢;have aK:=B.lt;obtain⟨⟨A0,B0⟩,-⟩:=B.blk.five;obtain⟨-,⟨X1,Y1⟩,-,-,-⟩:=v.blk.five;have aY:=v.lt;clear ab hI2 I3 J3 V;go_wp2_with fail
   refine(o5 (v.other C _)).mono ?_;rintro e w5 ⟨rfl,z,ac⟩;have ad:OB w5 x wr.heap.size [qB d,.bool false,qB 0,qJ 0,qJ 0]:=(B.set 0 (qB d)).call ac;have K5:=(K3.setCell (p:=(qA wr.heap.size 0)) (fun _=>.inr rfl) (qB d)).trans (ac.mono (fun k _ (c:k=x)=>.inl c));obtain⟨⟨b,an⟩,ae⟩:=qF (dO s aa);rw[ae] at z ⊢;have ao:=hide ae;simp only at z ⊢;have aL:=z.lt;clear ae ac v X1 Y1 A0 B0 aK B K3;go_upto_if 32 with fail
   go_cut [] from 32 to 35 (fun W=>∃L,(if 1<b then dL an aa.at_ else an)=L/\eu W x s L Y/\OB W x wr.heap.size [qB d,.bool false,qB 0,qJ 0,qJ 0]/\Kept (fun k=>k=x\/k=wr.heap.size) wr W)
   case first=>
    by_cases ap:1<b
    .have t1:(1:Int)<(b:Int):=qo;go_wp2_with fail
     refine(gH z aa.at_ I).mono ?_;rintro e w6 ⟨rfl,D,aq⟩;go_wp2;go_meet;exact⟨_,by rw[if_pos ap],D,ad.call aq,K5.trans (aq.mono (fun k _ (c:k=x)=>.inl c))⟩
    have t1:¬(1:Int)<(b:Int):=qo;go_wp2;go_meet;exact⟨_,by rw[if_neg ap],z,ad,K5⟩
   case rest=>
   clear z ad K5 aL I;obtain⟨L,h6,D,N,K6⟩:=hcut;have H6:=hide h6;clear h6;have aM:=N.lt;have aN:=D.lt;obtain⟨-,⟨G1,K1⟩,-,-,-⟩:=N.blk.five;go_wp2_with fail
   refine(yA (D.other C _)).mono ?_;rintro e w8 ⟨rfl,O,af⟩;have R:OB w8 x wr.heap.size [qB d,.bool ((b:Int)==1),qB 0,qJ 0,qJ 0]:=(N.set 1 (.bool ((b:Int)==1))).call af;have K8:=(K6.setCell (p:=(qA wr.heap.size 1)) (fun _=>.inr rfl) (.bool ((b:Int)==1))).trans (af.mono (fun k _ (c:k=x)=>.inl c));obtain⟨⟨⟨f,j,ca⟩,ar⟩,ag⟩:=qF (jS s L);rw[ag] at O ⊢;have au:=hide ag;simp only[MC.cells] at O ⊢;clear ag af D G1 K1 aM aN N K6;obtain⟨⟨L0,M0⟩,⟨L1,M1⟩,⟨L2,M2⟩,⟨L3,M3⟩,⟨L4,M4⟩⟩:=R.blk.five;have aO:=R.lt;go_wp2_with fail
   have av:=((R.set 2 (qB f)).set 3 (qJ j)).set 4 (qJ ca);have E:=((K8.setCell (p:=(qA wr.heap.size 2)) (fun _=>.inr rfl) (qB f)).setCell (p:=(qA wr.heap.size 3)) (fun _=>.inr rfl) (qJ j)).setCell (p:=(qA wr.heap.size 4)) (fun _=>.inr rfl) (qJ ca);have aw:=((O.other C (qB f) (o:=2)).other C (qJ j) (o:=3)).other C (qJ ca) (o:=4);clear L0 M0 L1 M1 L2 M2 L3 M3 L4 M4 aO R K8 O;generalize (((w8.setCell (qA wr.heap.size 2) (qB f)).setCell (qA wr.heap.size 3) (qJ j)).setCell (qA wr.heap.size 4) (qJ ca))=m at*;subst aH;have JH:∀i,i=wr.heap.size->¬(Value.slice pl M.length cl).ownBlock=some i:=fun i e c=>by have:=(hrow.own.lt i c).2;omega
   have HG9:qh (OB m x wr.heap.size [qB d,.bool ((b:Int)==1),qB f,qJ j,qJ ca]):=av;have YP:=hide aw;have YO:=hide (oM.kept E (fun c=>c.elim (fun e=>aF e) (fun e=>qo)));have KX:qh (isRow 85 5 sJ.cells (fun g=>w.heap.size<=g) M m (.slice pl M.length cl)):=Row.kept hrow E (fun g hg (hB:w.heap.size<=g) c=>by rcases c with c | c<;>omega);have ax:=hide (hkp.fresh E (fun i hi c=>c.elim (fun e=>Or.inl e) (fun e=>qo)));have aZ:=E.size;clear av E aw hrow oM hkp;have aP:∀W',Kept (fun i=>(Value.slice pl M.length cl).ownBlock=some i) m W'->W'.cell? (qA x 4)=some (qP Y)/\W'.cell? (qA Y 12)=some (.slice pl M.length cl)/\W'.cell? (qA wr.heap.size 0)=some (qB d)/\W'.cell? (qA wr.heap.size 1)=some (.bool ((b:Int)==1))/\W'.cell? (qA wr.heap.size 2)=some (qB f)/\W'.cell? (qA wr.heap.size 3)=some (qJ j)/\W'.cell? (qA wr.heap.size 4)=some (qJ ca):=by
    exact agF
   have hS:Kept (fun i=>(Value.slice pl M.length cl).ownBlock=some i) m m.drew:=qr.drew;refine kQ (Kept (fun i=>(Value.slice pl M.length cl).ownBlock=some i) m) 16 ?_;iterate 12 refine pQ hS ?_
   refine dx (i:=12) qk (dn rfl (fun K r=>?_));go_simp;have F:qK m (m.drew.alloc (.cells #[qB d,.bool ((b:Int)==1),qB f,qJ j,qJ ca] 85)):=(qr.drew).alloc _;refine r _ _ ⟨.inr (F.mono (fun _ _ c=>c.elim)),?_⟩;clear r K;refine dx (i:=13) qk (dn rfl (fun K r=>?_));refine step_append_lies _ (by rfl) _ _ _ (by rfl) w.heap.size 85 i0 _ 5 32 underlying34 aA aB aC aD rfl qo (.slice pl M.length cl) M.length (M.flatMap sJ.cells) (by rfl) (KX.o.Ce F (fun _ c=>c)) ⟨m.heap.size,0,none⟩ 1 1 [qB d,.bool ((b:Int)==1),qB f,qJ j,qJ ca] (by rfl) (by rfl) (World.news_of_block (cs:= #[qB d,.bool ((b:Int)==1),qB f,qJ j,qJ ca]) (t:=85) (fr:=(0,0)) (heap_alloc_new m.drew _)) (by simp[Value.oneCell']) qo (by unfold maxLen;omega) qo qt (m.heap.size+1) qs ?_;intro G A ah ay ai aQ a0;have T:Kept (fun i=>(Value.slice pl M.length cl).ownBlock=some i) m ah:=(F.mono (fun _ _ c=>c.elim)).trans (Kept.iB ai);refine r _ _ ⟨.inr T,?_⟩;clear r K;refine tk 14 [15] T ?_;refine tk 15 [] T ?_;have P:=xH YP.o YO.o (k:=12) (by rw[List.length_set];omega) KX.o ax.o hx aE F ay ai;have P1:=P.cell;have P2:=P.free;have P3:=P.lt;have HP:=hide P;clear P ay ai aQ T F hS aP;refine dx (i:=16) qk (dn rfl (fun K r=>?_));go_simp;refine r _ _ ⟨.inl rfl,?_⟩;clear r K;refine dM qk ?_ _;clear P1 P2 P3;have aR:qh (nV s Z=lK s (n - (M.length+1)) (M++[⟨d,b==1,⟨f,j,ca⟩⟩]) ar):=by
    show _=_;rw[HN.o];simp only[BL,am.o,ao.o,H6.o,au.o]
   have aS:qh (isRow 85 5 sJ.cells (fun g=>w.heap.size<=g) (M++[⟨d,b==1,⟨f,j,ca⟩⟩]) (ah.setCell (qA Y 12) (.slice (some (qA G 0)) (M.length+1) A)) (.slice (some (qA G 0)) (M.length+1) A)):=by
    have q:=HP.o.row;have eb:((b:Int)==1)=(b==1):=by rw[Bool.eq_iff_iff];simp;omega
    rw[eb] at q;show isRow _ _ _ _ _ _ _;simpa [isRow,sJ.cells] using q
   have aT:qh (OB (ah.setCell (qA Y 12) (.slice (some (qA G 0)) (M.length+1) A)) x Y (u.set 12 (.slice (some (qA G 0)) (M.length+1) A))):=by
    exact YD
   clear HN am ao H6 au YP YO KX ax HG9;go_wp2;go_roundw
   case rel=>exact⟨M.length+1,M++[⟨d,b==1,⟨f,j,ca⟩⟩],ar,some (qA G 0),A,qo,by go_num,qs,HP.o.inn,aT.o,aS.o,HP.o.kept,aR.o⟩
   simp[intOf];omega
  have hz:=fO hb;have HN:qh (nV s Z=(M,J)):=by
   show _=_;rw[y.o,show n - k=n - (k+1)+1 by omega];simp[lK,hb]
  have a1:¬gX J.bad<0:=qo;clear y hb hz;exact MB
 have HN:qh (nV s Z=(M,J)):=by show _=_;rw[y.o,show n - k=0 by omega];rfl
 have aJ:¬(k:Int)<(n:Int):=qo;clear y;exact MB
end
structure qc where
 at_:Nat
 name:qS
 what:Nat
 x:Nat×Nat
def qc.cells(e:qc):List Value:=[qJ e.at_,.string e.name,qJ e.what,qJ e.x.1,qJ e.x.2]
def LK(s:qS)(Z:RS):qc×RS:=
 let KU:=if kF (fH s 0 20 Z).1 0=true then(fH s 0 20 Z).2 else dL (fH s 0 20 Z).2 Z.at_
 let uj:=if 3<(dO s KU).1 then dL (dO s KU).2 KU.at_ else(dO s KU).2
 (⟨Z.at_,(fH s 0 20 Z).1,(dO s KU).1,((uS s uj).1,uj.at_)⟩,(uS s uj).2)
def lN(s:qS):Nat->List qc->RS->List qc×RS
 | 0,M,Z=>(M,Z)
 | k+1,M,Z=>if Z.bad≠none then(M,Z) else lN s k (M++[(LK s Z).1]) (LK s Z).2
def nX(s:qS)(Z:RS):List qc×RS:=lN s (dU s 20 Z).1 [] (dU s 20 Z).2
theorem Tryz.aeL:(prog.info? 72).map (fun i=>(i.zero,i.size,i.bytes))=some (some (.agg #[qJ 0,.string ⟨#[]⟩,qJ 0,qJ 0,qJ 0]),5,48):=qk
section
variable {S:qD} {w w':qW} {x Y:Nat} {s:qS} {Z:RS}
theorem IA(b most:Nat):(fH s b most Z).1.size<=most:=by
 have h:fH s b most Z=(let a:=if(uS s Z).1<b\/most<(uS s Z).1 then dL (uS s Z).2 Z.at_ else(uS s Z).2
  if a.bad≠none then(⟨#[]⟩,a) else if a.end_<a.at_+(uS s Z).1 then(⟨#[]⟩,dL a a.end_) else(s.extract a.at_ (a.at_+(uS s Z).1),{a with at_:=a.at_+(uS s Z).1})):=rfl
 rw[h];by_cases hc:(uS s Z).1<b\/most<(uS s Z).1
 .simp only[if_pos hc];rw[if_pos (jO _)];exact qZ
 simp only[if_neg hc];split
 .exact qZ
 split
 .exact qZ
 rw[ByteArray.size_extract];omega
theorem O0{u:qV}(h:eu w x s Z Y)(O:OB w x Y u)(hl:18<u.length)(aE:u.getD 13 undef=qN):
  qC 98 #[qP x] w fun e w'=>qU e/\eu w' x s (nX s Z).2 Y/\(∃lv,OB w' x Y (u.set 13 lv)/\isRow 72 5 qc.cells (fun g=>w.heap.size<=g) (nX s Z).1 w' lv)/\Kept (fun k=>k=x\/k=Y) w w':=by
 obtain⟨i0,aF,aG,aH,aI⟩:=info_parts Tryz.aeL;have hx:=h.lt;have aJ:=O.lt;have aK:¬Y=x:=O.ne;have HM:=hide O;clear O;go_enter func98,ntmps98;go_wp2_with fail
 refine(mQ h 20).mono ?_;rintro e w1 ⟨rfl,hI,X⟩;have aL:=qX (s:=s) (Z:=Z) 20;have H0:qh (nX s Z=lN s (dU s 20 Z).1 [] (dU s 20 Z).2):=rfl;generalize dU s 20 Z=mn at*;obtain⟨n,st1⟩:=mn;simp only at hI aL H0 ⊢;have an:=hide (HM.o.call X);go_wp2;go_loopw [3] (fun p wr=>∃(k:Nat) (M:List qc) (J:RS) (pl:qO) (cl:Nat),k<=n/\p=qJ (k:Nat)/\M.length=k/\eu wr x s J Y/\OB wr x Y (u.set 13 (.slice pl k cl))/\isRow 72 5 qc.cells (fun g=>w.heap.size<=g) M wr (.slice pl k cl)/\Kept (fun k=>k=x\/k=Y) w wr/\nX s Z=lN s (n - k) M J) (fun p _=>n - (intOf p).toNat)
 case atStart=>exact⟨0,[],st1,none,0,qZ,rfl,rfl,hI,(qG (show 13<u.length by omega) aE).symm▸an.o,Row.nil _ _ _ _,X.mono (fun k _ (c:k=x)=>.inl c),H0.o⟩
 obtain⟨k,M,J,pl,cl,a3,rfl,aM,hI2,oM,hrow,hkp,ao⟩:=hrel;have y:=hide ao;clear ao H0 an;have aN:=hI2.lt;have a4:=hkp.size;have a5:=oM.lt;have aO:=fP hI2;obtain⟨-,⟨I1,J1⟩,-,⟨I3,J3⟩,-⟩:=hI2.blk.five;by_cases a6:k<n
 .have aP:(k:Int)<(n:Int):=qo;by_cases hb:J.bad=none
  .rw[show gX J.bad= -1 by rw[hb];rfl] at I3;have HN:qh (nX s Z=lN s (n - (k+1)) (M++[(LK s J).1]) (LK s J).2):=by
    show _=_;rw[y.o,show n - k=n - (k+1)+1 by omega];simp[lN,hb]
   clear y hb;go_wp2_with fail
   refine(ER (hI2.alloc _) 0 20 qo).mono ?_;rintro e w3 ⟨rfl,D,ab⟩;have E:OB w3 x wr.heap.size [qJ J.at_,.string ⟨#[]⟩,qJ 0,qJ 0,qJ 0]:=(OB.new (c:= #[qJ J.at_,.string ⟨#[]⟩,qJ 0,qJ 0,qJ 0]) (t:=72) aN rfl).call ab;have R:¬wr.heap.size=x:=E.ne;have K3:Kept (fun k=>k=x\/k=wr.heap.size) wr w3:=(qr.alloc _).trans (ab.mono (fun k _ (c:k=x)=>.inl c));have ac:=IA (s:=s) (Z:=J) 0 20;obtain⟨⟨t,ap⟩,ad⟩:=qF (fH s 0 20 J);rw[ad] at D ac ⊢;have aq:=hide ad;simp only at D ac ⊢;have aQ:=E.lt;obtain⟨⟨A0,B0⟩,⟨A1,B1⟩,-⟩:=E.blk.five;have aR:=D.lt;clear ad hI2 I3 J3 ab I1 J1;go_wp2_with fail
   refine(DL t _ ac).mono ?_;rintro e w4 ⟨rfl,rfl⟩;have f:OB _ x wr.heap.size [qJ J.at_,.string t,qJ 0,qJ 0,qJ 0]:=E.set 1 (.string t);have j:=D.other R (.string t) (o:=1);have z:=K3.setCell (p:=(qA wr.heap.size 1)) (fun _=>.inr rfl) (.string t);clear A0 B0 A1 B1 aQ E K3 D aR;generalize w3.setCell (qA wr.heap.size 1) (.string t)=w4 at*;have ae:=f.lt;obtain⟨⟨A0,B0⟩,-⟩:=f.blk.five;obtain⟨pb,af⟩:=qF (kF t 0);rw[af];have ar:=hide af;clear af;go_upto_if 33 with fail
   go_cut [] from 33 to 37 (fun W=>∃B,(if pb=true then ap else dL ap J.at_)=B/\eu W x s B Y/\OB W x wr.heap.size [qJ J.at_,.string t,qJ 0,qJ 0,qJ 0]/\Kept (fun k=>k=x\/k=wr.heap.size) wr W)
   case first=>
    cases pb with
    | true=>go_wp2;go_meet;exact⟨_,rfl,j,f,z⟩
    | false=>
     go_wp2_with fail
     refine(gH j J.at_ aO).mono ?_;rintro e w6 ⟨rfl,m,F⟩;go_wp2;go_meet;exact⟨_,rfl,m,f.call F,z.trans (F.mono (fun k _ (c:k=x)=>.inl c))⟩
   case rest=>
   clear j f z A0 B0 ae;obtain⟨B,h4,j,f,z⟩:=hcut;have H4:=hide h4;clear h4;have au:=fP j;have ae:=f.lt;have a7:=j.lt;obtain⟨-,⟨X1,Y1⟩,-,-,-⟩:=j.blk.five;go_wp2_with fail
   refine(o5 j).mono ?_;rintro e w5 ⟨rfl,G,ag⟩;have T:=f.call ag;have K5:=z.trans (ag.mono (fun k _ (c:k=x)=>.inl c));obtain⟨⟨c,av⟩,ah⟩:=qF (dO s B);rw[ah] at G ⊢;have aw:=hide ah;simp only at G ⊢;have aS:=G.lt;have aT:=T.lt;obtain⟨-,-,⟨A2,B2⟩,-⟩:=T.blk.five;clear ah ag X1 Y1 ae f z j;go_upto_if 47 with fail
   go_cut [] from 47 to 50 (fun W=>∃b,(if 3<c then dL av B.at_ else av)=b/\eu W x s b Y/\OB W x wr.heap.size [qJ J.at_,.string t,qJ c,qJ 0,qJ 0]/\Kept (fun k=>k=x\/k=wr.heap.size) wr W)
   case first=>
    have C:OB _ x wr.heap.size [qJ J.at_,.string t,qJ c,qJ 0,qJ 0]:=T.set 2 (qJ c);have m:=G.other R (qJ c) (o:=2);have H:=K5.setCell (p:=(qA wr.heap.size 2)) (fun _=>.inr rfl) (qJ c);by_cases ax:3<c
    .have t1:(3:Int)<(c:Int):=qo;go_wp2_with fail
     refine(gH m B.at_ au).mono ?_;rintro e w6 ⟨rfl,aU,F⟩;go_wp2;go_meet;exact⟨_,by rw[if_pos ax],aU,C.call F,H.trans (F.mono (fun k _ (c:k=x)=>.inl c))⟩
    have t1:¬(3:Int)<(c:Int):=qo;go_wp2;go_meet;exact⟨_,by rw[if_neg ax],m,C,H⟩
   case rest=>
   clear G T K5 aS au A2 B2 aT;obtain⟨b,h6,m,C,H⟩:=hcut;have H6:=hide h6;clear h6;have aV:=C.lt;have aW:=m.lt;go_wp2_with fail
   refine(ou m).mono ?_;rintro e w8 ⟨rfl,U,ai⟩;have V:=C.call ai;have K8:=H.trans (ai.mono (fun k _ (c:k=x)=>.inl c));obtain⟨⟨v,ay⟩,aj⟩:=qF (uS s b);rw[aj] at U ⊢;have az:=hide aj;simp only at U ⊢;clear aj ai m aV aW C H;obtain⟨⟨L0,M0⟩,⟨L1,M1⟩,⟨L2,M2⟩,⟨L3,M3⟩,⟨L4,M4⟩⟩:=V.blk.five;have aX:=V.lt;go_wp2_with fail
   have aA:=(V.set 3 (qJ v)).set 4 (qJ b.at_);have I:=(K8.setCell (p:=(qA wr.heap.size 3)) (fun _=>.inr rfl) (qJ v)).setCell (p:=(qA wr.heap.size 4)) (fun _=>.inr rfl) (qJ b.at_);have aB:=(U.other R (qJ v) (o:=3)).other R (qJ b.at_) (o:=4);clear L0 M0 L1 M1 L2 M2 L3 M3 L4 M4 aX V K8 U;generalize ((w8.setCell (qA wr.heap.size 3) (qJ v)).setCell (qA wr.heap.size 4) (qJ b.at_))=d at*;subst aM;have JH:∀i,i=wr.heap.size->¬(Value.slice pl M.length cl).ownBlock=some i:=fun i e c=>by have:=(hrow.own.lt i c).2;omega
   have HG9:qh (OB d x wr.heap.size [qJ J.at_,.string t,qJ c,qJ v,qJ b.at_]):=aA;have YP:=hide aB;have YO:=hide (oM.kept I (fun c=>c.elim (fun e=>aK e) (fun e=>qo)));have KX:qh (isRow 72 5 qc.cells (fun g=>w.heap.size<=g) M d (.slice pl M.length cl)):=Row.kept hrow I (fun g hg (hB:w.heap.size<=g) c=>by rcases c with c | c<;>omega);have aC:=hide (hkp.fresh I (fun i hi c=>c.elim (fun e=>Or.inl e) (fun e=>qo)));have a8:=I.size;clear aA I aB hrow oM hkp;have aY:∀W',Kept (fun i=>(Value.slice pl M.length cl).ownBlock=some i) d W'->W'.cell? (qA x 4)=some (qP Y)/\W'.cell? (qA Y 13)=some (.slice pl M.length cl)/\W'.cell? (qA wr.heap.size 0)=some (qJ J.at_)/\W'.cell? (qA wr.heap.size 1)=some (.string t)/\W'.cell? (qA wr.heap.size 2)=some (qJ c)/\W'.cell? (qA wr.heap.size 3)=some (qJ v)/\W'.cell? (qA wr.heap.size 4)=some (qJ b.at_):=by
    exact agF
   have hS:Kept (fun i=>(Value.slice pl M.length cl).ownBlock=some i) d d.drew:=qr.drew;refine kQ (Kept (fun i=>(Value.slice pl M.length cl).ownBlock=some i) d) 16 ?_;iterate 12 refine pQ hS ?_
   refine dx (i:=12) qk (dn rfl (fun K r=>?_));go_simp;have L:qK d (d.drew.alloc (.cells #[qJ J.at_,.string t,qJ c,qJ v,qJ b.at_] 72)):=(qr.drew).alloc _;refine r _ _ ⟨.inr (L.mono (fun _ _ c=>c.elim)),?_⟩;clear r K;refine dx (i:=13) qk (dn rfl (fun K r=>?_));refine step_append_lies _ (by rfl) _ _ _ (by rfl) w.heap.size 72 i0 _ 5 48 underlying35 aF aG aH aI rfl qo (.slice pl M.length cl) M.length (M.flatMap qc.cells) (by rfl) (KX.o.Ce L (fun _ c=>c)) ⟨d.heap.size,0,none⟩ 1 1 [qJ J.at_,.string t,qJ (c:Nat),qJ v,qJ b.at_] (by rfl) (by rfl) (World.news_of_block (cs:= #[qJ J.at_,.string t,qJ (c:Nat),qJ v,qJ b.at_]) (t:=72) (fr:=(0,0)) (heap_alloc_new d.drew _)) (by simp[Value.oneCell']) qo (by unfold maxLen;omega) qo qt (d.heap.size+1) qs ?_;intro N A ak aD am aZ a9;have aa:Kept (fun i=>(Value.slice pl M.length cl).ownBlock=some i) d ak:=(L.mono (fun _ _ c=>c.elim)).trans (Kept.iB am);refine r _ _ ⟨.inr aa,?_⟩;clear r K;refine tk 14 [15] aa ?_;refine tk 15 [] aa ?_;have P:=xH YP.o YO.o (k:=13) (by rw[List.length_set];omega) KX.o aC.o hx aJ L aD am;have P1:=P.cell;have P2:=P.free;have P3:=P.lt;have HP:=hide P;clear P aD am aZ aa L hS aY;refine dx (i:=16) qk (dn rfl (fun K r=>?_));go_simp;refine r _ _ ⟨.inl rfl,?_⟩;clear r K;refine dM qk ?_ _;clear P1 P2 P3;have a0:qh (nX s Z=lN s (n - (M.length+1)) (M++[⟨J.at_,t,c,(v,b.at_)⟩]) ay):=by
    show _=_;rw[HN.o];simp only[LK,aq.o,ar.o,H4.o,aw.o,H6.o,az.o]
   have a1:qh (isRow 72 5 qc.cells (fun g=>w.heap.size<=g) (M++[⟨J.at_,t,c,(v,b.at_)⟩]) (ak.setCell (qA Y 13) (.slice (some (qA N 0)) (M.length+1) A)) (.slice (some (qA N 0)) (M.length+1) A)):=by
    have q:=HP.o.row;show isRow _ _ _ _ _ _ _;simpa [isRow,qc.cells] using q
   have a2:qh (OB (ak.setCell (qA Y 13) (.slice (some (qA N 0)) (M.length+1) A)) x Y (u.set 13 (.slice (some (qA N 0)) (M.length+1) A))):=by
    exact YD
   clear HN aq aw ar H4 H6 az YP YO KX aC HG9;go_wp2;go_roundw
   case rel=>exact⟨M.length+1,M++[⟨J.at_,t,c,(v,b.at_)⟩],ay,some (qA N 0),A,qo,by go_num,qs,HP.o.inn,a2.o,a1.o,HP.o.kept,a0.o⟩
   simp[intOf];omega
  have hz:=fO hb;have HN:qh (nX s Z=(M,J)):=by
   show _=_;rw[y.o,show n - k=n - (k+1)+1 by omega];simp[lN,hb]
  have ba:¬gX J.bad<0:=qo;clear y hb hz;exact MB
 have HN:qh (nX s Z=(M,J)):=by show _=_;rw[y.o,show n - k=0 by omega];rfl
 have aP:¬(k:Int)<(n:Int):=qo;clear y;exact MB
end
structure xY where
 locals:qS
 code:List fA
 end_:Nat
def Kj(s:qS)(Z:RS):xY×RS:=
 (⟨(kH s (eP s Z).2).1,(mF s (eP s Z).2).1,(mF s (eP s Z).2).2.1⟩,gV (eP s Z).1.1 (eP s Z).1.2 (mF s (eP s Z).2).2.2)
def jC(s:qS):Nat->List xY->RS->List xY×RS
 | 0,M,Z=>(M,Z)
 | k+1,M,Z=>if Z.bad≠none then(M,Z) else jC s k (M++[(Kj s Z).1]) (Kj s Z).2
def mP(s:qS)(nf:Nat)(Z:RS):List xY×RS:=
 jC s (dU s 20 Z).1 [] (if(dU s 20 Z).1=nf then(dU s 20 Z).2 else dL (dU s 20 Z).2 Z.at_)
section
variable {s:qS} {Z:RS}
theorem Ew:∀(k:Nat) (M:qS) (Z:RS),wE Z (jh s k M Z).2
 | 0,_,Z=>wE.refl Z
 | k+1,M,Z=>by
  unfold jh;split
  .exact wE.refl _
  split
  .exact qa.trans (nC _)
  exact(qa.trans AA).trans (Ew k _ _)
theorem Vn:wE Z (kH s Z).2:=qa.trans (Ew _ _ _)
theorem aaM(op:Nat)(opn:qS)(a:Nat):wE Z (jW op opn a Z).2:=by
 unfold jW;repeat(first | exact wE.refl _ | exact nC _ | split)
theorem KH:∀(f:Nat) (opn:qS) (M:List fA) (Z:RS),wE Z (jr s f opn M Z).2.2
 | 0,_,_,Z=>wE.refl Z
 | f+1,opn,M,Z=>by
  unfold jr;split
  .exact wE.refl _
  split
  .exact oN
  exact((oN.trans (aaM _ _ _)).trans (SC _)).trans (KH f _ _ _)
theorem aaP:wE Z (mF s Z).2.2:=Vn.trans (KH _ _ _ _)
theorem Bo:(eP s Z).2.end_<=(eP s Z).1.1:=by
 unfold eP;simp only;split
 .exact Nat.le_of_lt (by assumption)
 exact qR
theorem rE:(eP s Z).1.1=Z.end_:=qa.1
end
def af5(w:World)(ok:Nat->Prop)(cs:List Value)(ds:List xY)(i:Nat)(ty:Nat×Nat):Prop:=
 cs.getD (i*7) undef=qJ ty.1/\cs.getD (i*7+1) undef=qJ ty.2/\
 (∀d,ds[i]?=some d->cs.getD (i*7+2) undef=.string d.locals/\gu 79 9 kW ok d.code w (cs.getD (i*7+3) undef)/\cs.getD (i*7+4) undef=qJ (d.end_:Nat))/\
 (ds[i]?=none->cs.getD (i*7+2) undef=.string ⟨#[]⟩/\cs.getD (i*7+3) undef=qN/\cs.getD (i*7+4) undef=qJ 0)
def XD(cs:List Value):Prop:=∀k,k<cs.length->(k%7=5->∃t,cs.getD k undef=.string t)/\(k%7=6->∃p n c,cs.getD k undef=.slice p n c)
theorem XD.set{cs:qV}(h:XD cs){k:Nat}(X:k%7<5)(v:qv):XD (cs.set k v):=fun j a=>by
 rw[List.length_set] at a;have:=h j a;exact⟨fun e=>by rw[getD_set_ne (by rintro rfl;omega)];exact this.1 e,fun e=>by rw[getD_set_ne (by rintro rfl;omega)];exact this.2 e⟩
structure iA(w:World)(ok:Nat->Prop)(cs:List Value)(tys:List (Nat×Nat))(ds:List xY):Prop where
 len:cs.length=tys.length*7
 each:∀i ty,tys[i]?=some ty->af5 w ok cs ds i ty
 nm:XD cs
section
variable {S ok:qD} {w w':qW} {x Y fb:Nat} {s:qS} {Z:RS} {cs:qV} {tys:List (Nat×Nat)} {ds:List xY}
theorem ZY{ok ok':qD}{b:List fA}{lv:qv}(h:gu 79 9 kW ok b w lv)(d:∀g,ok g->ok' g):gu 79 9 kW ok' b w lv:=by
 obtain⟨css,f,j⟩:=h;refine⟨css,f.mono (fun g _ c=>d g c),j.to (fun i cs hh=>⟨?_,hh.2⟩)⟩;obtain⟨k,e,a⟩:=hh.1;exact⟨k,e,Row.mono a (fun g _ c=>d g c)⟩
theorem iA.kept(h:iA w ok cs tys ds)(X:Kept S w w')(c:∀g,g<w.heap.size->ok g->¬S g):iA w' ok cs tys ds:=
 ⟨h.len,fun i ty a=>⟨(h.each i ty a).1,(h.each i ty a).2.1,fun d b=>⟨((h.each i ty a).2.2.1 d b).1,xG ((h.each i ty a).2.2.1 d b).2.1 X c,((h.each i ty a).2.2.1 d b).2.2⟩,(h.each i ty a).2.2.2⟩,h.nm⟩
theorem iA.step{d:xY}{lv:qv}(h:iA w ok cs tys ds)(k:ds.length<tys.length)(e:gu 79 9 kW ok d.code w lv):
  iA w ok (((cs.set (ds.length*7+2) (.string d.locals)).set (ds.length*7+3) lv).set (ds.length*7+4) (qJ d.end_)) tys (ds++[d]):=by
 have f:=h.len;refine⟨by simpa using f,fun i ty b=>?_,((h.nm.set qo _).set qo _).set qo _⟩;have a:=h.each i ty b;have l:i<tys.length:=(List.getElem?_eq_some_iff.1 b).1;refine⟨?_,?_,?_,?_⟩
 .rw[getD_set_ne qo,getD_set_ne qo,getD_set_ne qo];exact a.1
 .rw[getD_set_ne qo,getD_set_ne qo,getD_set_ne qo];exact a.2.1
 .intro c hd';by_cases hc:i<ds.length
  .rw[List.getElem?_append_left hc] at hd';rw[getD_set_ne qo,getD_set_ne qo,getD_set_ne qo,getD_set_ne qo,getD_set_ne qo,getD_set_ne qo,getD_set_ne qo,getD_set_ne qo,getD_set_ne qo];exact a.2.2.1 c hd'
  rw[List.getElem?_append_right qo] at hd';have g:i - ds.length=0:=by
   have:=(List.getElem?_eq_some_iff.1 hd').1;simp at this;omega
  rw[g] at hd';obtain rfl:d=c:=by simpa using hd'
  obtain rfl:i=ds.length:=qo;refine⟨?_,?_,?_⟩
  .rw[getD_set_ne qo,getD_set_ne qo,fB qo]
  .rw[getD_set_ne qo,fB qt];exact e
  rw[fB qt]
 intro j;have hc:ds.length+1<=i:=by simpa using List.getElem?_eq_none_iff.1 j
 rw[getD_set_ne qo,getD_set_ne qo,getD_set_ne qo,getD_set_ne qo,getD_set_ne qo,getD_set_ne qo,getD_set_ne qo,getD_set_ne qo,getD_set_ne qo];exact a.2.2.2 (List.getElem?_eq_none_iff.2 qo)
theorem TY{K:qV}{p:qO}{A:Nat}(h:eu w x s Z Y)(B:OB w x Y K)(hl:18<K.length)(c1:K.getD 1 undef=.slice p tys.length A)(hp:tys≠[]->p=some (qA fb 0)/\OB w x fb cs/\fb≠Y)(hc:iA w (fun g=>w.heap.size<=g) cs tys [])(aU:tys.length<=20):
  qC 100 #[qP x] w fun e w'=>qU e/\eu w' x s (mP s tys.length Z).2 Y/\(∃b,(tys≠[]->OB w' x fb b)/\iA w' (fun g=>w.heap.size<=g) b tys (mP s tys.length Z).1)/\Kept (fun k=>k=x\/(tys≠[]/\k=fb)) w w':=by
 have hx:=h.lt;have aV:=B.lt;have aD:¬Y=x:=B.ne;have ac:=fP h;obtain⟨-,⟨I1,J1⟩,-,-,-⟩:=h.blk.five;have HM:=hide B;have HP:=hide hp;have HC:=hide hc;clear B hp hc;go_enter func100,ntmps100;go_wp2_with fail
 refine(mQ h 20).mono ?_;rintro e w1 ⟨rfl,hI,X⟩;have N:qh (mP s tys.length Z=jC s (dU s 20 Z).1 [] (if(dU s 20 Z).1=tys.length then(dU s 20 Z).2 else dL (dU s 20 Z).2 Z.at_)):=rfl;generalize dU s 20 Z=mn at*;obtain⟨n,st1⟩:=mn;simp only at hI N ⊢;have O:=HM.o.call X;have aE:=O.lt;obtain⟨MM,NN⟩:=O.cell (k:=1) (v:=.slice p tys.length A) qo c1;obtain⟨-,-,-,-,⟨I4,J4⟩⟩:=hI.blk.five;clear h I1 J1;go_upto_if 22 with fail
 go_cut [] from 22 to 25 (fun W=>∃l,(if n=tys.length then st1 else dL st1 Z.at_)=l/\eu W x s l Y/\Kept (only x) w W/\(l.bad=none->n=tys.length))
 case first=>
  by_cases P:n=tys.length
  .have t1:(n:Int)=(tys.length:Int):=qo;go_wp2;go_meet;exact⟨_,by rw[if_pos P],hI,X,fun _=>P⟩
  have t1:¬(n:Int)=(tys.length:Int):=qo;go_wp2_with fail
  refine(gH hI Z.at_ ac).mono ?_;rintro e w2 ⟨rfl,Q,aF⟩;go_wp2;go_meet;exact⟨_,by rw[if_neg P],Q,X.trans aF,fun c=>absurd c (jO _)⟩
 case rest=>
 obtain⟨l,L,Q,R,ad⟩:=hcut;have H2:qh (mP s tys.length Z=jC s n [] l):=by show _=_;rw[N.o,L]
 have HG:=hide ad;clear hI X O aE MM NN I4 J4 L N ad ac;go_wp2;go_loopw [4] (fun q wr=>∃(k:Nat) (M:List xY) (J:RS) (b:qV),k<=n/\q=qJ (k:Nat)/\M.length=k/\eu wr x s J Y/\(tys≠[]->OB wr x fb b)/\iA wr (fun g=>w.heap.size<=g) b tys M/\Kept (fun k=>k=x\/(tys≠[]/\k=fb)) w wr/\mP s tys.length Z=jC s (n - k) M J/\(J.bad=none->n=tys.length)) (fun q _=>n - (intOf q).toNat)
 case atStart=>exact⟨0,[],l,cs,qZ,rfl,rfl,Q,fun c=>(HP.o c).2.1.call R,HC.o.kept R (fun g t (C:w.heap.size<=g) (c:g=x)=>qo),R.mono (fun k _ (c:k=x)=>.inl c),H2.o,HG.o⟩
 obtain⟨k,M,J,b,aW,rfl,aG,j,u,D,y,ae,af⟩:=hrel;have m:=hide ae;have T:=hide u;have HD:=hide af;clear ae H2 HG u af;have aX:=j.lt;have aY:=y.size;obtain⟨-,-,-,⟨I3,J3⟩,-⟩:=j.blk.five;by_cases aZ:k<n
 .have aH:(k:Int)<(n:Int):=qo;by_cases hb:J.bad=none
  .rw[show gX J.bad= -1 by rw[hb];rfl] at I3;have U:=HD.o hb;have V:tys≠[]:=by
    rintro rfl;simp at U;omega
   have r:qh (mP s tys.length Z=jC s (n - (k+1)) (M++[(Kj s J).1]) (Kj s J).2):=by
    show _=_;rw[m.o,show n - k=n - (k+1)+1 by omega];simp[jC,hb]
   obtain⟨ag,ah,aI⟩:=HP.o V;have a0:=ah.ne;have a4:=ah.lt;have oM:=HM.o.kept y (fun c=>c.elim (fun e=>aD e) (fun e=>aI e.2.symm));have u:=T.o V;have ai:=Bo (s:=s) (Z:=J);have aj:=rE (s:=s) (Z:=J);have ak:=(aaP (s:=s) (Z:=(eP s J).2)).1;have a5:=j.big;have am:k<tys.length:=qo;have aJ:=hide U;have aK:=hide ag;clear m hb HD U ag;have an:=hide aj;have ao:=hide ak;have ap:=hide ai;clear aj ak ai;go_wp2_with fail
   refine(ze j).mono ?_;rintro e w4 ⟨rfl,aa,z⟩;have aL:=oM.call z;have aM:=u.call z;have aq:=y.trans (z.mono (fun k _ (c:k=x)=>.inl c));have ab:=D.kept z (fun g t (C:w.heap.size<=g) (c:g=x)=>qo);obtain⟨⟨⟨E,en⟩,a⟩,F⟩:=qF (eP s J);have ar:(mF s a).2.2.end_<=E/\E<=s.size:=by
    have a1:=an.o;have a2:=ao.o;have a3:=ap.o;rw[F] at a1 a2 a3;simp only at a1 a2 a3;omega
   have au:=hide ar;rw[F] at aa ⊢;have av:=hide F;simp only at aa ⊢;clear ar an ao ap;have f1:=ab.each k _ (List.getElem?_eq_getElem am);have G:=f1.2.2.2 (List.getElem?_eq_none_iff.2 qo);have a6:=ab.len;have aw:=Xz (f:=k) (fb:=fb) aa (n:=tys.length) (A:=A) (aL.cell (k:=1) qo (c1.trans (by rw[aK.o]))).1 qo aM qo G.1 G.2.1 G.2.2;have ax:=hide aw;clear aw F j I3 J3 f1 G z oM u D;go_wp2_with fail
   refine ax.o.mono ?_;rintro e w5 ⟨rfl,ay,⟨lv,aN,az⟩,H⟩;have aO:=ay.le;have a7:=H;clear ax;go_wp2_with fail
   refine(vW ay E en (Nat.le_trans aO au.o.1) au.o.2).mono ?_;rintro e w6 ⟨rfl,aP,I⟩;have aQ:Kept (fun k=>k=x\/(tys≠[]/\k=fb)) w w6:=(aq.fresh H (fun i hi c=>c.elim (fun e=>Or.inl e) (fun e=>Or.inr ⟨V,e⟩))).trans (I.mono (fun k _ (c:k=x)=>.inl c));have a8:=aq.size;have a9:=H.size;have aA:gu 79 9 kW (fun g=>w.heap.size<=g) (mF s a).1 w6 lv:=xG (ok:=fun g=>w.heap.size<=g) (ZY az (fun g (t:w4.heap.size<=g)=>qo)) I (fun g t (C:w.heap.size<=g) (c:g=x)=>qo);have aB:iA w6 (fun g=>w.heap.size<=g) b tys M:=(ab.kept H (fun g t (C:w.heap.size<=g) c=>by rcases c with c | c<;>omega)).kept I (fun g t (C:w.heap.size<=g) (c:g=x)=>qo);subst aG;have aC:=aB.step (d:=⟨(kH s a).1,(mF s a).1,(mF s a).2.1⟩) am aA;have aR:qh (mP s tys.length Z=jC s (n - (M.length+1)) (M++[⟨(kH s a).1,(mF s a).1,(mF s a).2.1⟩]) (gV E en (mF s a).2.2)):=by
    show _=_;rw[r.o];simp only[Kj,av.o]
   have aS:=hide aC;have aT:=aN.call I;clear aC r av az aA aB;go_wp2;go_roundw
   case rel=>exact⟨M.length+1,M++[⟨(kH s a).1,(mF s a).1,(mF s a).2.1⟩],_,_,qo,by go_num,qs,aP,fun _=>aT,aS.o,aQ,aR.o,fun _=>aJ.o⟩
   simp[intOf];omega
  have hz:=fO hb;have r:qh (mP s tys.length Z=(M,J)):=by
   show _=_;rw[m.o,show n - k=n - (k+1)+1 by omega];simp[jC,hb]
  have ba:¬gX J.bad<0:=qo;clear m hb hz;go_wp2;go_end0;rw[r.o];exact⟨rfl,j,⟨_,T.o,D⟩,y⟩
 have r:qh (mP s tys.length Z=(M,J)):=by show _=_;rw[m.o,show n - k=0 by omega];rfl
 have aH:¬(k:Int)<(n:Int):=qo;clear m;go_wp2;go_end0;rw[r.o];exact⟨rfl,j,⟨_,T.o,D⟩,y⟩
end
end Go.Proofs.YtdaafkmhfedkiaaGreat
