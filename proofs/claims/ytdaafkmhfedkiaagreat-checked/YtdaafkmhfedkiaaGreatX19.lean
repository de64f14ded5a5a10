import Derived.Test.YtdaafkmhfedkiaaGreatX18
namespace Go.Proofs.YtdaafkmhfedkiaaGreat
set_option maxHeartbeats 3200000
set_option maxRecDepth 100000
open Go.RowKit Go.Proofs.Tryz
def iG(t:qS×qS):List Value:=[.string t.1,.string t.2]
def OE(s:qS)(Z:RS):(qS×qS)×RS:=
 (((nU s 8 (gY s 96 Z)).1,(nU s 4 (nU s 8 (gY s 96 Z)).2).1),(nU s 4 (nU s 8 (gY s 96 Z)).2).2)
def mX(s:qS):Nat->List (qS×qS)->RS->List (qS×qS)×RS
 | 0,M,Z=>(M,Z)
 | k+1,M,Z=>if Z.bad≠none then(M,Z) else mX s k (M++[(OE s Z).1]) (OE s Z).2
def xI(s:qS)(Z:RS):List (qS×qS)×RS:=mX s (dU s 20 Z).1 [] (dU s 20 Z).2
theorem Tryz.aeJ:(prog.info? 83).map (fun i=>(i.zero,i.size,i.bytes))=some (some (.agg #[.string ⟨#[]⟩,.string ⟨#[]⟩]),2,32):=qk
section
variable {S:qD} {w w':qW} {x Y:Nat} {s:qS} {Z:RS}
theorem Jf{f:qV}(h:eu w x s Z Y)(B:OB w x Y f)(hl:18<f.length)(c0:f.getD 0 undef=qN):
  qC 61 #[qP x,qJ 1] w fun e w'=>qU e/\eu w' x s (xI s Z).2 Y/\(∃lv,OB w' x Y (f.set 0 lv)/\isRow 83 2 iG (fun g=>w.heap.size<=g) (xI s Z).1 w' lv)/\Kept (fun k=>k=x\/k=Y) w w':=by
 obtain⟨i0,aj,ak,am,an⟩:=info_parts Tryz.aeJ;have hx:=h.lt;have ao:=B.lt;have aA:¬Y=x:=B.ne;have HM:=hide B;clear B;go_enter func61,ntmps61;go_wp2_with fail
 refine(mQ h 20).mono ?_;rintro e w1 ⟨rfl,hI,X⟩;have ap:=qX (s:=s) (Z:=Z) 20;have G:qh (xI s Z=mX s (dU s 20 Z).1 [] (dU s 20 Z).2):=rfl;generalize dU s 20 Z=mn at*;obtain⟨n,st1⟩:=mn;simp only at hI ap G ⊢;have T:=hide (HM.o.call X);go_wp2;go_loopw [5] (fun p wr=>∃(k:Nat) (M:List (qS×qS)) (J:RS) (pl:qO) (cl:Nat),k<=n/\p=qJ (k:Nat)/\M.length=k/\eu wr x s J Y/\OB wr x Y (f.set 0 (.slice pl k cl))/\isRow 83 2 iG (fun g=>w.heap.size<=g) M wr (.slice pl k cl)/\Kept (fun k=>k=x\/k=Y) w wr/\xI s Z=mX s (n - k) M J) (fun p _=>n - (intOf p).toNat)
 case atStart=>exact⟨0,[],st1,none,0,qZ,rfl,rfl,hI,(qG (show 0<f.length by omega) c0).symm▸T.o,Row.nil _ _ _ _,X.mono (fun k _ (c:k=x)=>.inl c),G.o⟩
 obtain⟨k,M,J,pl,cl,aB,rfl,aq,hI2,oM,hrow,hkp,U⟩:=hrel;have j:=hide U;clear U G T;have aC:=hI2.lt;have aD:=hkp.size;have aE:=oM.lt;obtain⟨-,-,-,⟨V,J3⟩,-⟩:=hI2.blk.five;by_cases aF:k<n
 .have ar:(k:Int)<(n:Int):=qo;by_cases hb:J.bad=none
  .rw[show gX J.bad= -1 by rw[hb];rfl] at V;have HN:qh (xI s Z=mX s (n - (k+1)) (M++[(OE s J).1]) (OE s J).2):=by
    show _=_;rw[j.o,show n - k=n - (k+1)+1 by omega];simp[mX,hb]
   clear j hb;go_wp2_with fail
   refine(nP hI2 96).mono ?_;rintro e w3 ⟨rfl,W,aa⟩;clear V J3;go_wp2_with fail
   refine(Jo W 8 qo).mono ?_;rintro e w4 ⟨rfl,C,ab⟩;obtain⟨⟨m,au⟩,H⟩:=qF (nU s 8 (gY s 96 J));rw[H] at C ⊢;have ac:=hide H;simp only at C ⊢;clear H;go_wp2_with fail
   refine(Jo C 4 qo).mono ?_;rintro e b ⟨rfl,D,ad⟩;obtain⟨⟨r,ae⟩,I⟩:=qF (nU s 4 au);rw[I] at D ⊢;have af:=hide I;simp only at D ⊢;clear I;have u:Kept (only x) wr b:=(aa.trans ab).trans ad;clear aa ab ad W C hI2;go_wp2_with fail
   subst aq;have L:=hide D;have N:=hide (oM.call u);have v:qh (isRow 83 2 iG (fun g=>w.heap.size<=g) M b (.slice pl M.length cl)):=Row.kept hrow u (fun g hg (hB:w.heap.size<=g) (c:g=x)=>qo);have ag:=hide (hkp.fresh u (fun i hi (c:i=x)=>Or.inl c));have aG:=u.size;clear u D hrow oM hkp;have av:∀E,Kept (fun i=>(Value.slice pl M.length cl).ownBlock=some i) b E->E.cell? (qA x 4)=some (qP Y)/\E.cell? (qA Y 0)=some (.slice pl M.length cl):=by
    intro E ah;exact⟨(L.o.kept ah (fun c=>absurd (v.o.at_ x c) qo)).blk.five.2.2.2.2.1,((N.o.kept ah (fun c=>absurd (v.o.at_ Y c) qo)).cell (by rw[List.length_set];omega) (fB qo)).1⟩
   have hS:Kept (fun i=>(Value.slice pl M.length cl).ownBlock=some i) b b.drew:=qr.drew;refine kQ (Kept (fun i=>(Value.slice pl M.length cl).ownBlock=some i) b) 18 ?_;iterate 14 refine pQ hS ?_
   refine dx (i:=14) qk (dn rfl (fun K d=>?_));go_simp;have y:qK b (b.drew.alloc (.cells #[.string m,.string r] 83)):=(qr.drew).alloc _;refine d _ _ ⟨.inr (y.mono (fun _ _ c=>c.elim)),?_⟩;clear d K;refine dx (i:=15) qk (dn rfl (fun K d=>?_));refine step_append_lies _ (by rfl) _ _ _ (by rfl) w.heap.size 83 i0 _ 2 32 underlying30 aj ak am an rfl qo (.slice pl M.length cl) M.length (M.flatMap iG) (by rfl) (v.o.Ce y (fun _ c=>c)) ⟨b.heap.size,0,none⟩ 1 1 [.string m,.string r] (by rfl) (by rfl) (World.news_of_block (cs:= #[.string m,.string r]) (t:=83) (fr:=(0,0)) (heap_alloc_new b.drew _)) (by simp[Value.oneCell']) qo (by unfold maxLen;omega) qo qt (b.heap.size+1) qs ?_;intro z A O ai R aw aH;have F:Kept (fun i=>(Value.slice pl M.length cl).ownBlock=some i) b O:=(y.mono (fun _ _ c=>c.elim)).trans (Kept.iB R);refine d _ _ ⟨.inr F,?_⟩;clear d K;refine tk 16 [17] F ?_;refine tk 17 [] F ?_;have P:=xH L.o N.o (k:=0) (by rw[List.length_set];omega) v.o ag.o hx ao y ai R;have P1:=P.cell;have P2:=P.free;have P3:=P.lt;have HP:=hide P;clear P ai R aw F y hS av;refine dx (i:=18) qk (dn rfl (fun K d=>?_));go_simp;refine d _ _ ⟨.inl rfl,?_⟩;clear d K;refine dM qk ?_ _;clear P1 P2 P3;have ax:qh (xI s Z=mX s (n - (M.length+1)) (M++[(m,r)]) ae):=by
    show _=_;rw[HN.o];simp only[OE,ac.o,af.o]
   have ay:qh (isRow 83 2 iG (fun g=>w.heap.size<=g) (M++[(m,r)]) (O.setCell (qA Y 0) (.slice (some (qA z 0)) (M.length+1) A)) (.slice (some (qA z 0)) (M.length+1) A)):=by
    have q:=HP.o.row;show isRow _ _ _ _ _ _ _;simpa [isRow,iG] using q
   have az:qh (OB (O.setCell (qA Y 0) (.slice (some (qA z 0)) (M.length+1) A)) x Y (f.set 0 (.slice (some (qA z 0)) (M.length+1) A))):=by
    exact YD
   clear HN ac af L N v ag;go_wp2;go_roundw
   case rel=>exact⟨M.length+1,M++[(m,r)],ae,some (qA z 0),A,qo,by go_num,qs,HP.o.inn,az.o,ay.o,HP.o.kept,ax.o⟩
   simp[intOf];omega
  have hz:=fO hb;have HN:qh (xI s Z=(M,J)):=by
   show _=_;rw[j.o,show n - k=n - (k+1)+1 by omega];simp[mX,hb]
  have aI:¬gX J.bad<0:=qo;clear j hb hz;exact MB
 have HN:qh (xI s Z=(M,J)):=by show _=_;rw[j.o,show n - k=0 by omega];rfl
 have ar:¬(k:Int)<(n:Int):=qo;clear j;exact MB
end
end Go.Proofs.YtdaafkmhfedkiaaGreat
