import Derived.ChangeSlices
import Derived.Deep.CutRange
import Derived.Deep.LoopGhost
import Derived.Deep.Strs
import Derived.LaidMore
import Derived.OpenShut
import Derived.ProofKit
import Derived.SevenTiedAt
import Derived.SliceStrings
import Derived.Stop.Joined
import Derived.WideKeyArgs
import Derived.Test.YtfkcodlceoghpaaGreatDoorCards
import Derived.Test.YtfkcodlceoghpaaGreatDoorRows
import Derived.Test.YtfkcodlceoghpaaGreatDoorTie
import Derived.Test.YtfkcodlceoghpaaGreatDoorX33
import Derived.Test.YtfkcodlceoghpaaGreatDoorX34
import Derived.Test.YtfkcodlceoghpaaGreatDoorX40
namespace Go.Proofs.YtfkcodlceoghpaaGreatDoor
set_option maxHeartbeats 12800000
set_option maxRecDepth 100000
set_option linter.unusedSimpArgs false
set_option linter.unusedVariables false
open Go.RowKit Go.Proofs.Tryz Go.ChangeShapes Go.WideShapes Go.ChangeAt
structure Ix where
 b:Nat
 tv:Value
 fv:Value
 ev:Value
 bv:Value
abbrev MJ(I:Ix)(most:Nat)(vm vg:Value)(mem:List Nat)(dW:List Int):List It:=
 [.b I.b [I.tv,I.fv,I.ev,I.bv,vm,qJ most,vg],.r 5 1 vm mem.length (jr mem),.r 2 1 vg dW.length (eD dW)]
theorem permA{a B C Xq:List It}{r b:It}:(a++((B++(C++Xq))++[r])++[b]).Perm (B++(a++(C++(Xq++[r,b])))):=by
 have e:a++((B++(C++Xq))++[r])++[b]=a++(B++(C++(Xq++[r,b]))):=qs;rw[e];exact qau _ _ _
theorem VU{a B C Xq:List It}{r b:It}:(a++((B++(C++Xq))++[r])++[b]).Perm (C++(B++(a++(Xq++[r,b])))):=by
 have e:a++((B++(C++Xq))++[r])++[b]=a++(B++(C++(Xq++[r,b]))):=qs;rw[e];refine(qau _ _ _).trans ?_;refine(qbw B (qau _ _ _)).trans ?_;exact qau _ _ _
theorem VT{a B C Xq:List It}{r b:It}:(a++((B++(C++Xq))++[r])++[b]).Perm (B++(C++(a++(Xq++[r,b])))):=by
 have e:a++((B++(C++Xq))++[r])++[b]=a++(B++(C++(Xq++[r,b]))):=qs;rw[e];refine(qau _ _ _).trans ?_;exact qbw B (qau _ _ _)
theorem P7{a R:List It}{b r:It}:(a++((R++[b])++[r])).Perm (b::(a++(R++[r]))):=by
 have e:a++((R++[b])++[r])=(a++R)++b::[r]:=qs;rw[e];have c:b::(a++(R++[r]))=b::((a++R)++[r]):=qs;rw[c];exact qdn
theorem Sx.cm{w0 w:qW}{l:List It}{g j:Nat}{cs:qV}{v:qv}(h:Sx w0 w l)(hm:It.b g cs∈l)(a:cs[j]?=some v):w.cell? (qA g j)=some v/\w.frozen? (qA g j)=false:=by
 obtain⟨k,X⟩:=qbx.1 hm;exact h.c k j X a
theorem Sx.XM{w0 w:qW}{l:List It}{g:Nat}{cs:qV}(h:Sx w0 w l)(hm:It.b g cs∈l):g<w.heap.size:=(h.it _ hm).2.1
theorem Sx.EH{w0 w:qW}{l:List It}{E:TypeId}{sz n:Nat}{v:qv}{xs:qV}(h:Sx w0 w l)(hm:It.r E sz v n xs∈l):Row (λg=>w0.heap.size<=g) w E sz v n xs:=jl.row (tl:=l) (.inr (.inl hm)) h (λ_ hp=>hp)
section
variable {B w:qW}{I:Ix}{T:Nat->Int}{m:dX}{E:Ev}{xs:List Xp}{most:Nat}{vm vg:qv}{mem:qM}{dW:List Int}{Yq:List It}
theorem oN{nm:qS}{az:List Int}{av:qv}{fuel:Nat}{r:VN}(h:Sx B w (MJ I most vm vg mem dW++Yq))(d:Made T m E xs I.tv I.fv I.ev I.bv most Yq)(l:Gz T B)(a:Eh m E xs mem dW)(f:fuel<=4000)(g:pX B az av)(i:oH E xs nm az fuel mem dW r):
  qC 7 #[qP I.b,.string nm,av,qJ fuel] w λe w'=>∃j n o,e=.returned (.tuple #[.agg #[qJ r.wy,j,qJ r.lf],qJ r.er])/\Sx B w' (MJ I most n o r.mem r.dW++(Yq++[.r 2 1 j r.rs.length (eD r.rs)])):=by
 by_cases k:E.fs=[]
 .exact D5 (G:=⟨0,λ_=>0,λ_=>0⟩) (Q:=λ_=>⟨.nilFunc,.nilFunc,0,.nilFunc,λ_=>.nilFunc⟩) (Ti:=λ_=>.nilFunc) (To:=λ_=>.nilFunc) (Xq:=Yq) h (λc=>absurd k c) d.exp a.xl a.h8 a.gl a.me f g i
 obtain⟨G,Q,Ti,To,p⟩:=d.run k;exact D5 (Xq:=Yq) h (λ_=>p B I.b l) d.exp a.xl a.h8 a.gl a.me f g i
end
abbrev Stp:=qS×List Int×Int
def StepsIn(W:World)(uX:List Stp)(p:Option Addr):Prop:=0<uX.length->∃xb xo,p=some (qA xb xo)/\xb<W.heap.size/\∀j (hj:j<uX.length),W.cell? ⟨xb,xo+j*3,none⟩=some (.string uX[j].1)/\(∃av,W.cell? ⟨xb,xo+j*3+1,none⟩=some av/\pX W uX[j].2.1 av)/\W.cell? ⟨xb,xo+j*3+2,none⟩=some (qJ uX[j].2.2)/\ -9223372036854775808<=uX[j].2.2/\uX[j].2.2<=9223372036854775807
structure sH(W W':World):Prop where
 os:W'.os=W.os
 output:W'.output=W.output
 size:W.heap.size<=W'.heap.size
 block:∀b,b<W.heap.size->W'.heap[b]?=W.heap[b]?
theorem sH.kept{W a d:qW}(h:sH W a)(X:qK a d):sH W d:=
 ⟨X.os.trans h.os,X.output.trans h.output,qam h.size X.size,λb hb=>(X.block b (qad hb h.size) (λc=>c)).trans (h.block b hb)⟩
theorem sH.cell{W a:qW}(h:sH W a){b j:Nat}(hb:b<W.heap.size):a.cell? (qA b j)=W.cell? (qA b j):=by
 unfold World.cell?;simp only[h.block b hb]
theorem pX.G9{W a:qW}{az:List Int}{av:qv}(h:pX W az av)(X:sH W a):pX a az av:=by
 obtain⟨pa,ca,e,U⟩:=h;refine⟨pa,ca,e,λh0=>?_⟩;obtain⟨c,d,f,b,g,i⟩:=U h0;exact⟨c,d,f,qad b X.size,g,λj k=>(X.cell b).trans (i j k)⟩
theorem StepsIn.G9{W b:qW}{uX:List Stp}{p:qO}(h:StepsIn W uX p)(X:sH W b):StepsIn b uX p:=by
 intro h0;obtain⟨c,d,e,a,f⟩:=h h0;refine⟨c,d,e,qad a X.size,λj g=>?_⟩;obtain⟨i,⟨av,k,l⟩,n,o⟩:=f j g;exact⟨(X.cell a).trans i,⟨av,(X.cell a).trans k,l.G9 X⟩,(X.cell a).trans n,o⟩
theorem Gz.G9{T:Nat->Int}{W a:qW}(h:Gz T W)(X:sH W a):Gz T a:=⟨qad h.1 X.size,λj b=>(X.cell h.1).trans (h.2 j b)⟩
section
variable {W0:qW}{s:qS}{uX:List Stp}{ps:qO}{cs:Nat}{more:Int}{T:Nat->Int}
theorem Kg(bc:qC 4 #[] W0 λe W'=>e=.returned (.bool true)/\sH W0 W')(hG:Gz T W0)(bd:StepsIn W0 uX ps)(hz:s.size<=9223372036854775807)(hl:uX.length<=9223372036854775807)(be: -9223372036854775808<=more)(bf:more<=9223372036854775807):
  qC 3 #[.string s,qX ps uX cs,qJ more] W0 λe W'=>e=.returned (.bool true)/\sH W0 W':=by
 have bZ:∀(x:Bool)(w:qW),(Op.unary .not (.bool x)).run prog w=.ok (.bool (!x)) w:=λ_ _=>rfl;obtain⟨nf,bg⟩:=Va T;have bi:=qH bc;have bj:=qH bd;have HG:=qH hG;have ay:=qH bg;have b0:(P5 more 1000:Int)<1000:=PZ qo;have bk:=qH (λw=>DR more 1000 be bf (.inl rfl) w);generalize P5 more 1000=L at*;clear bc bd hG bg be bf;go_enter func3,ntmps3;go_wp2_with fail
 refine bi.o.mono ?_;rintro e Wa⟨rfl,aH⟩;have ap:=HG.o.G9 aH;have bF:=qH (bj.o.G9 aH);have HKB:=qH aH;clear bi bj aH;go_wp2_with fail
 refine(uz hz ap ay.o).mono ?_;rintro e W1⟨aA,a6,a7⟩;rcases hi:sD nf s with⟨q,p⟩|x
 .obtain rfl:=a7 q p hi;have O:=Oi hi;have tq:¬(q:Int)=0:=qo;have bG:((q:Int) !=0)=true:=by simp;omega
  have b1:((q:Int)==0)=false:=by simp;omega
  have b2:(!((q:Int) !=0))=false:=by rw[bG];rfl
  clear a6 a7 O;go_wp2_with fail
  refine(uz hz (ap.kept aA) ay.o).mono ?_;rintro e W2⟨aC,-,bm⟩;obtain rfl:=bm q p hi;clear bm;go_wp2_with fail
  refine(uz hz ((ap.kept aA).kept aC) ay.o).mono ?_;rintro e W3⟨a8,-,bn⟩;obtain rfl:=bn q p hi;clear bn hi;go_wp2;go_ret;exact⟨rfl,HKB.o.kept ((aA.trans aC).trans a8)⟩
 obtain⟨m,E,jW,jK⟩:=x;have X:=JV (λx a b=>(ay.o x a b).2) hi;obtain⟨ib,aI,aJ,aK,aL,aq,ar,X1,rfl,U,M1⟩:=a6 _ _ _ _ hi;clear a6 a7;go_wp2_with fail
 refine(uz hz (ap.kept aA) ay.o).mono ?_;rintro e W2⟨aC,bo,-⟩;obtain⟨kb,aM,aN,aO,aP,ah,ai,X2,rfl,aD,M2⟩:=bo _ _ _ _ hi;clear bo;go_wp2_with fail
 refine(uz hz ((ap.kept aA).kept aC) ay.o).mono ?_;rintro e W3⟨a8,bp,-⟩;obtain⟨lb,aQ,aR,aS,aT,Y,aa,X3,rfl,h3,M3⟩:=bp _ _ _ _ hi;clear bp hi;obtain⟨z,aU⟩:∃I:Ix,I=⟨ib,aI,aJ,aK,aL⟩:=⟨_,rfl⟩;obtain⟨A,aV⟩:∃I:Ix,I=⟨kb,aM,aN,aO,aP⟩:=⟨_,rfl⟩;obtain⟨D,aW⟩:∃I:Ix,I=⟨lb,aQ,aR,aS,aT⟩:=⟨_,rfl⟩;have bH:ib=z.b:=by rw[aU]
 have bI:kb=A.b:=by rw[aV]
 have bJ:lb=D.b:=by rw[aW]
 have hS:Sx Wa W3 (MJ z (eH m) aq ar jW jK++(MJ A (eH m) ah ai jW jK++(MJ D (eH m) Y aa jW jK++(X1++(X2++X3))))):=by
  have K:=U.join (aD.join h3);rw[aU,aV,aW];refine K.perm ?_;have e1:MI ib aI aJ aK aL (eH m) aq ar jW jK X1=MJ ⟨ib,aI,aJ,aK,aL⟩ (eH m) aq ar jW jK++X1:=rfl;have e2:MI kb aM aN aO aP (eH m) ah ai jW jK X2=MJ ⟨kb,aM,aN,aO,aP⟩ (eH m) ah ai jW jK++X2:=rfl;have e3:MI lb aQ aR aS aT (eH m) Y aa jW jK X3=MJ ⟨lb,aQ,aR,aS,aT⟩ (eH m) Y aa jW jK++X3:=rfl;rw[e1,e2,e3];generalize MJ ⟨ib,aI,aJ,aK,aL⟩ (eH m) aq ar jW jK=Aq;generalize MJ ⟨kb,aM,aN,aO,aP⟩ (eH m) ah ai jW jK=B;generalize MJ ⟨lb,aQ,aR,aS,aT⟩ (eH m) Y aa jW jK=C;rw[qaj,qaj];refine qbw Aq ((qau _ _ _).trans (qbw B ?_));refine(qbw X1 (qau _ _ _)).trans ?_;exact qau _ _ _
 have bq:∀Yq,(∀p∈X1++(X2++X3),p∈Yq)->Made T m E (gU m.dw) z.tv z.fv z.ev z.bv (eH m) Yq:=λYq hY=>by rw[aU];exact M1.mono (λp hp=>hY p (by simp[hp]))
 have br:∀Yq,(∀p∈X1++(X2++X3),p∈Yq)->Made T m E (gU m.dw) A.tv A.fv A.ev A.bv (eH m) Yq:=λYq hY=>by rw[aV];exact M2.mono (λp hp=>hY p (by simp[hp]))
 have bs:∀Yq,(∀p∈X1++(X2++X3),p∈Yq)->Made T m E (gU m.dw) D.tv D.fv D.ev D.bv (eH m) Yq:=λYq hY=>by rw[aW];exact M3.mono (λp hp=>hY p (by simp[hp]))
 clear aU aV aW;subst bH bI bJ;generalize X1++(X2++X3)=M at*;have HM:qh ((∀Yq,(∀p∈M,p∈Yq)->Made T m E (gU m.dw) z.tv z.fv z.ev z.bv (eH m) Yq)/\(∀Yq,(∀p∈M,p∈Yq)->Made T m E (gU m.dw) A.tv A.fv A.ev A.bv (eH m) Yq)/\∀Yq,(∀p∈M,p∈Yq)->Made T m E (gU m.dw) D.tv D.fv D.ev D.bv (eH m) Yq):=⟨bq,br,bs⟩;have ac:=qH X;have HS:=qH hS;have aB:=qH ap;clear bq br bs X hS ap U aD h3 M1 M2 M3 aA aC a8 HG;go_wp2_with fail
 refine(bk.o _).mono ?_;rintro e w4⟨rfl,rfl⟩;clear bk;go_wp2_with fail
 go_loopg [18,19,20,21,22,23,24,25,26,27] uX.length (λgk bK b3 b4 b5 b6 b7 b8 b9 cc cd wr=>∃(n:Nat)(mem:qM)(dW:List Int)(aq ar ah ai Y aa:qv),gk=uX.length - n/\n<=uX.length/\n<=20/\bK=qJ n/\Eh m E (gU m.dw) mem dW/\Sx Wa wr (MJ z (eH m) aq ar mem dW++(MJ A (eH m) ah ai mem dW++(MJ D (eH m) Y aa mem dW++M))))
 case atStart=>exact⟨0,jW,jK,_,_,_,_,_,_,rfl,qZ,qo,rfl,ac.o,HS.o⟩
 clear HS ac;obtain⟨n,mem,dW,aq,ar,ah,ai,Y,aa,ce,hn,ch,rfl,X,hS⟩:=hrel;have ac:=qH X;have bu:=X.me;have ci:=X.mo;by_cases hlt:n<uX.length/\n<20
 .obtain⟨hlt,hl2⟩:=hlt;have t1:(n:Int)<(uX.length:Int):=qo;have t2:(n:Int)<20:=qo;obtain⟨xb,xo,bL,aX,bw⟩:=bF.o qo;subst bL;obtain⟨C0,⟨av,C1,am⟩,C2,r1,r2⟩:=bw n hlt;have aY:=qH (λw=>DR uX[n].2.2 3000 r1 r2 (.inr rfl) w);have bM:(P5 uX[n].2.2 3000:Int)<3000:=PZ qo;generalize P5 uX[n].2.2 3000=R at aY bM;generalize uX[n]=Z at*;obtain⟨nm,az,fz⟩:=Z;simp only at C0 C1 C2 am aY;obtain⟨pa,ca,bN⟩:∃pa ca,av=qX pa az ca:=by obtain⟨pa,ca,h,-⟩:=am;exact⟨pa,ca,h⟩
  subst bN;obtain⟨r,hr⟩:=IB (nm:=nm) (az:=az) (fuel:=R) (mem:=mem) (xs:=gU m.dw) (λ_=>X.en) X.xp X.gl;have aZ:∃d,oH E (gU m.dw) nm az (R+L) mem dW d/\d.er=r.er/\((r.er=0->r.wy≠8)->d=if r.er=0 then {r with lf:=r.lf+L} else r):=by
   by_cases hw:r.er=0->r.wy≠8
   .refine⟨_,KL L hr hw,?_,λ_=>rfl⟩;split<;>rfl
   obtain⟨d,U⟩:=IB (nm:=nm) (az:=az) (fuel:=R+L) (mem:=mem) (xs:=gU m.dw) (λ_=>X.en) X.xp X.gl;exact⟨d,U,RQ hr U,λh=>absurd h hw⟩
  obtain⟨d,aZ,bz,bA⟩:=aZ;have F:∀V Lq,Sx Wa V Lq->(λV:qW=>V.cell? ⟨xb,xo+n*3,none⟩=some (.string nm)/\V.cell? ⟨xb,xo+n*3+1,none⟩=some (qX pa az ca)) V:=λV Lq hV=>⟨(hV.kept.cell (p:=⟨xb,xo+n*3,none⟩) aX (λc=>c)).trans C0,(hV.kept.cell (p:=⟨xb,xo+n*3+1,none⟩) aX (λc=>c)).trans C1⟩;have D2:=(hS.kept.cell (p:=⟨xb,xo+n*3+2,none⟩) aX (λc=>c)).trans C2;have bO:=qad aX hS.kept.size;have cj:IntKind.i64.wrap ((R:Int)+(L:Int))=(R:Int)+(L:Int):=qaf _ ⟨qo,qo⟩;have HS:=qH hS;have HR:=qH (And.intro bz bA);have a3:=qH hlt;clear hS bw C0 C1 C2 bz bA X hlt hl2;go_wp2_with fail
  refine(aY.o _).mono ?_;rintro e w5⟨rfl,rfl⟩;clear aY D2 bO;go_wp2_with fail
  go_cut [20,21] from 20 to 20 (λvb ve W=>∃(b:Nat)(H vB vC:qv),vb=qP b/\ve=qJ r.er/\Sx Wa W (MJ A (eH m) ah ai mem dW++(MJ z (eH m) vB vC r.mem r.dW++(MJ D (eH m) Y aa mem dW++(M++[.r 2 1 H r.rs.length (eD r.rs),.b b [qJ r.wy,H,qJ r.lf]])))))
  case first=>
   have g:=F _ _ HS.o.drew;refine jU (λV:qW=>V.cell? ⟨xb,xo+n*3,none⟩=some (.string nm)/\V.cell? ⟨xb,xo+n*3+1,none⟩=some (qX pa az ca)) 18 ?_;unfold jh;refine jb 0 g ?_ (hy:=qQ);refine jb 1 g ?_ (hy:=qQ);refine jb 2 g ?_ (hy:=qQ);refine jb 3 g ?_ (hy:=qQ);refine jb 4 g ?_ (hy:=qQ);refine jb 5 g ?_ (hy:=qQ);refine jb 6 g ?_ (hy:=qQ);refine jb 7 g ?_ (hy:=qQ);refine jb 8 g ?_ (hy:=qQ);refine jb 9 g ?_ (hy:=qQ);refine jb 10 g ?_ (hy:=qQ);refine jb 11 g ?_ (hy:=qQ);refine SB (i:=12) (j:=16) qk (jm rfl (λK' hK'=>?_)) (jm rfl (λK' hK'=>?_))
   .refine dP (f:=7) (args:= #[qP z.b,.string nm,qX pa az ca,qJ R]) (by rfl) (by go_simp) (oN (Yq:=MJ A (eH m) ah ai mem dW++(MJ D (eH m) Y aa mem dW++M)) HS.o.drew (HM.o.1 _ (λp hp=>by simp[hp])) aB.o ac.o qo am hr) ?_;rintro e V1⟨H,vB,vC,rfl,k⟩;obtain⟨pr,cr,ad⟩:=Row.shape (k.EH (E:=2) (sz:=1) (v:=H) (n:=r.rs.length) (xs:=eD r.rs) qs);subst ad;refine⟨_,rfl,hK' _ _ ⟨.inr (F _ _ k),?_⟩⟩;clear hK' K' g;simp only[Act.put,qy,qz,qw];have G:=F _ _ k;refine jb 13 G ?_;refine jb 14 G ?_;refine jb 15 G ?_;have t:=k.alloc (.cells #[qJ 0,qN,qJ 0] 33);refine oJ 16 (λK' hK'=>?_);go_simp;refine hK' _ _ (.inr (F _ _ t)) ?_;clear hK' K' t;have u:=k.new #[qJ r.wy,qX pr r.rs cr,qJ r.lf] 33;have H7:=qH u;refine oJ 17 (λK' hK'=>?_);go_simp;refine hK' _ _ (.inr (F _ _ u)) ?_;clear hK' K' k u G;exact Wv
   have K:=(HS.o.new #[qJ 0,qN,qJ 0] 33).drew;have G:=F _ _ K;go_simp;refine hK' _ _ ⟨.inr G,?_⟩;clear hK' K' g;rw[qaj]at K;refine oJ 12 (λK' hK'=>?_);refine dP (f:=7) (args:= #[qP z.b,.string nm,qX pa az ca,qJ R]) (by rfl) (by go_simp) (oN (Yq:=(MJ A (eH m) ah ai mem dW++(MJ D (eH m) Y aa mem dW++M))++[.b w5.heap.size [qJ 0,qN,qJ 0]]) K (HM.o.1 _ (λp hp=>by simp[hp])) aB.o ac.o qo am hr) ?_;rintro e V1⟨H,vB,vC,rfl,k⟩;obtain⟨pr,cr,ad⟩:=Row.shape (k.EH (E:=2) (sz:=1) (v:=H) (n:=r.rs.length) (xs:=eD r.rs) qs);subst ad;have J:=F _ _ k;refine⟨_,rfl,hK' _ _ (.inr J) ?_⟩;clear hK' K' G K;simp only[Act.put,qy,qz,qw];refine jb 13 J ?_;refine jb 14 J ?_;refine jb 15 J ?_;have t:=k.perm P7;obtain⟨y0,x0⟩:=t.c 0 0 rfl rfl;obtain⟨y1,x1⟩:=t.c 0 1 rfl rfl;obtain⟨y2,x2⟩:=t.c 0 2 rfl rfl;have m6:=t.lt 0 rfl;have u:=((t.set 0 0 (qJ r.wy) rfl).set 0 1 (qX pr r.rs cr) rfl).set 0 2 (qJ r.lf) rfl;have H7:=qH (u.perm (qbc _ _).symm);refine oJ 17 (λK' hK'=>?_);go_simp;refine hK' _ _ (.inr (F _ _ u)) ?_;clear hK' K' k t u J y0 y1 y2 x0 x1 x2;exact Wv
  clear HS;obtain⟨N,ab,ae,af,rfl,rfl,aD⟩:=hcut;have H2:=qH aD;clear aD;go_wp2_with fail
  go_cut [22,23] from 22 to 22 (λvb ve W=>∃(b:Nat)(H vB vC:qv),vb=qP b/\ve=qJ r.er/\Sx Wa W (MJ D (eH m) Y aa mem dW++(MJ z (eH m) ae af r.mem r.dW++(MJ A (eH m) vB vC r.mem r.dW++((M++[.r 2 1 ab r.rs.length (eD r.rs),.b N [qJ r.wy,ab,qJ r.lf]])++[.r 2 1 H r.rs.length (eD r.rs),.b b [qJ r.wy,H,qJ r.lf]])))))
  case first=>
   have g:=F _ _ H2.o.drew;refine jU (λV:qW=>V.cell? ⟨xb,xo+n*3,none⟩=some (.string nm)/\V.cell? ⟨xb,xo+n*3+1,none⟩=some (qX pa az ca)) 18 ?_;unfold jh;refine jb 0 g ?_ (hy:=qQ);refine jb 1 g ?_ (hy:=qQ);refine jb 2 g ?_ (hy:=qQ);refine jb 3 g ?_ (hy:=qQ);refine jb 4 g ?_ (hy:=qQ);refine jb 5 g ?_ (hy:=qQ);refine jb 6 g ?_ (hy:=qQ);refine jb 7 g ?_ (hy:=qQ);refine jb 8 g ?_ (hy:=qQ);refine jb 9 g ?_ (hy:=qQ);refine jb 10 g ?_ (hy:=qQ);refine jb 11 g ?_ (hy:=qQ);refine SB (i:=12) (j:=16) qk (jm rfl (λK' hK'=>?_)) (jm rfl (λK' hK'=>?_))
   .refine dP (f:=7) (args:= #[qP A.b,.string nm,qX pa az ca,qJ R]) (by rfl) (by go_simp) (oN (Yq:=MJ z (eH m) ae af r.mem r.dW++(MJ D (eH m) Y aa mem dW++(M++[.r 2 1 ab r.rs.length (eD r.rs),.b N [qJ r.wy,ab,qJ r.lf]]))) H2.o.drew (HM.o.2.1 _ (λp hp=>by simp[hp])) aB.o ac.o qo am hr) ?_;rintro e V1⟨H,vB,vC,rfl,k⟩;obtain⟨pr,cr,ad⟩:=Row.shape (k.EH (E:=2) (sz:=1) (v:=H) (n:=r.rs.length) (xs:=eD r.rs) qs);subst ad;refine⟨_,rfl,hK' _ _ ⟨.inr (F _ _ k),?_⟩⟩;clear hK' K' g;simp only[Act.put,qy,qz,qw];have G:=F _ _ k;refine jb 13 G ?_;refine jb 14 G ?_;refine jb 15 G ?_;have t:=k.alloc (.cells #[qJ 0,qN,qJ 0] 33);refine oJ 16 (λK' hK'=>?_);go_simp;refine hK' _ _ (.inr (F _ _ t)) ?_;clear hK' K' t;have u:=k.new #[qJ r.wy,qX pr r.rs cr,qJ r.lf] 33;have H7:=qH u;refine oJ 17 (λK' hK'=>?_);go_simp;refine hK' _ _ (.inr (F _ _ u)) ?_;clear hK' K' k u G;exact Ww
   have K:=(H2.o.new #[qJ 0,qN,qJ 0] 33).drew;have G:=F _ _ K;go_simp;refine hK' _ _ ⟨.inr G,?_⟩;clear hK' K' g;rw[qaj]at K;refine oJ 12 (λK' hK'=>?_);refine dP (f:=7) (args:= #[qP A.b,.string nm,qX pa az ca,qJ R]) (by rfl) (by go_simp) (oN (Yq:=(MJ z (eH m) ae af r.mem r.dW++(MJ D (eH m) Y aa mem dW++(M++[.r 2 1 ab r.rs.length (eD r.rs),.b N [qJ r.wy,ab,qJ r.lf]])))++[.b wc.heap.size [qJ 0,qN,qJ 0]]) K (HM.o.2.1 _ (λp hp=>by simp[hp])) aB.o ac.o qo am hr) ?_;rintro e V1⟨H,vB,vC,rfl,k⟩;obtain⟨pr,cr,ad⟩:=Row.shape (k.EH (E:=2) (sz:=1) (v:=H) (n:=r.rs.length) (xs:=eD r.rs) qs);subst ad;have J:=F _ _ k;refine⟨_,rfl,hK' _ _ (.inr J) ?_⟩;clear hK' K' G K;simp only[Act.put,qy,qz,qw];refine jb 13 J ?_;refine jb 14 J ?_;refine jb 15 J ?_;have t:=k.perm P7;obtain⟨y0,x0⟩:=t.c 0 0 rfl rfl;obtain⟨y1,x1⟩:=t.c 0 1 rfl rfl;obtain⟨y2,x2⟩:=t.c 0 2 rfl rfl;have m6:=t.lt 0 rfl;have u:=((t.set 0 0 (qJ r.wy) rfl).set 0 1 (qX pr r.rs cr) rfl).set 0 2 (qJ r.lf) rfl;have H7:=qH (u.perm (qbc _ _).symm);refine oJ 17 (λK' hK'=>?_);go_simp;refine hK' _ _ (.inr (F _ _ u)) ?_;clear hK' K' k t u J y0 y1 y2 x0 x1 x2;exact Ww
  clear H2;obtain⟨ag,au,an,ao,rfl,rfl,h3⟩:=hcut;have H3:=qH h3;clear h3;go_wp2_with fail
  go_cut [24,25] from 24 to 24 (λvb ve W=>∃(b:Nat)(H vB vC:qv),vb=qP b/\ve=qJ d.er/\Sx Wa W (MJ z (eH m) ae af r.mem r.dW++(MJ A (eH m) an ao r.mem r.dW++(MJ D (eH m) vB vC d.mem d.dW++(((M++[.r 2 1 ab r.rs.length (eD r.rs),.b N [qJ r.wy,ab,qJ r.lf]])++[.r 2 1 au r.rs.length (eD r.rs),.b ag [qJ r.wy,au,qJ r.lf]])++[.r 2 1 H d.rs.length (eD d.rs),.b b [qJ d.wy,H,qJ d.lf]])))))
  case first=>
   have g:=F _ _ H3.o.drew;refine jU (λV:qW=>V.cell? ⟨xb,xo+n*3,none⟩=some (.string nm)/\V.cell? ⟨xb,xo+n*3+1,none⟩=some (qX pa az ca)) 20 ?_;unfold jh;refine jb 0 g ?_ (hy:=qQ);refine jb 1 g ?_ (hy:=qQ);refine jb 2 g ?_ (hy:=qQ);refine jb 3 g ?_ (hy:=qQ);refine jb 4 g ?_ (hy:=qQ);refine jb 5 g ?_ (hy:=qQ);refine jb 6 g ?_ (hy:=qQ);refine jb 7 g ?_ (hy:=qQ);refine jb 8 g ?_ (hy:=qQ);refine jb 9 g ?_ (hy:=qQ);refine jb 10 g ?_ (hy:=qQ);refine jb 11 g ?_ (hy:=qQ);refine jb 12 g ?_ (hy:=qQ);refine jb 13 g ?_ (hy:=qQ);refine SB (i:=14) (j:=18) qk (jm rfl (λK' hK'=>?_)) (jm rfl (λK' hK'=>?_))
   .refine dP (f:=7) (args:= #[qP D.b,.string nm,qX pa az ca,qJ ((R:Int)+(L:Int))]) (by rfl) (by go_simp) (oN (Yq:=MJ z (eH m) ae af r.mem r.dW++(MJ A (eH m) an ao r.mem r.dW++((M++[.r 2 1 ab r.rs.length (eD r.rs),.b N [qJ r.wy,ab,qJ r.lf]])++[.r 2 1 au r.rs.length (eD r.rs),.b ag [qJ r.wy,au,qJ r.lf]]))) H3.o.drew (HM.o.2.2 _ (λp hp=>by simp[hp])) aB.o ac.o (show R+L<=4000 by omega) am aZ) ?_;rintro e V1⟨H,vB,vC,rfl,k⟩;obtain⟨pr,cr,ad⟩:=Row.shape (k.EH (E:=2) (sz:=1) (v:=H) (n:=d.rs.length) (xs:=eD d.rs) qs);subst ad;refine⟨_,rfl,hK' _ _ ⟨.inr (F _ _ k),?_⟩⟩;clear hK' K' g;simp only[Act.put,qy,qz,qw];have G:=F _ _ k;refine jb 15 G ?_;refine jb 16 G ?_;refine jb 17 G ?_;have t:=k.alloc (.cells #[qJ 0,qN,qJ 0] 33);refine oJ 18 (λK' hK'=>?_);go_simp;refine hK' _ _ (.inr (F _ _ t)) ?_;clear hK' K' t;have u:=k.new #[qJ d.wy,qX pr d.rs cr,qJ d.lf] 33;have H7:=qH u;refine oJ 19 (λK' hK'=>?_);go_simp;refine hK' _ _ (.inr (F _ _ u)) ?_;clear hK' K' k u G;exact Wx
   have K:=(H3.o.new #[qJ 0,qN,qJ 0] 33).drew;have G:=F _ _ K;go_simp;refine hK' _ _ ⟨.inr G,?_⟩;clear hK' K' g;rw[qaj]at K;refine oJ 14 (λK' hK'=>?_);refine dP (f:=7) (args:= #[qP D.b,.string nm,qX pa az ca,qJ ((R:Int)+(L:Int))]) (by rfl) (by go_simp) (oN (Yq:=(MJ z (eH m) ae af r.mem r.dW++(MJ A (eH m) an ao r.mem r.dW++((M++[.r 2 1 ab r.rs.length (eD r.rs),.b N [qJ r.wy,ab,qJ r.lf]])++[.r 2 1 au r.rs.length (eD r.rs),.b ag [qJ r.wy,au,qJ r.lf]])))++[.b wc.heap.size [qJ 0,qN,qJ 0]]) K (HM.o.2.2 _ (λp hp=>by simp[hp])) aB.o ac.o (show R+L<=4000 by omega) am aZ) ?_;rintro e V1⟨H,vB,vC,rfl,k⟩;obtain⟨pr,cr,ad⟩:=Row.shape (k.EH (E:=2) (sz:=1) (v:=H) (n:=d.rs.length) (xs:=eD d.rs) qs);subst ad;have J:=F _ _ k;refine⟨_,rfl,hK' _ _ (.inr J) ?_⟩;clear hK' K' G K;simp only[Act.put,qy,qz,qw];refine jb 15 J ?_;refine jb 16 J ?_;refine jb 17 J ?_;have t:=k.perm P7;obtain⟨y0,x0⟩:=t.c 0 0 rfl rfl;obtain⟨y1,x1⟩:=t.c 0 1 rfl rfl;obtain⟨y2,x2⟩:=t.c 0 2 rfl rfl;have m6:=t.lt 0 rfl;have u:=((t.set 0 0 (qJ d.wy) rfl).set 0 1 (qX pr d.rs cr) rfl).set 0 2 (qJ d.lf) rfl;have H7:=qH (u.perm (qbc _ _).symm);refine oJ 19 (λK' hK'=>?_);go_simp;refine hK' _ _ (.inr (F _ _ u)) ?_;clear hK' K' k t u J y0 y1 y2 x0 x1 x2;exact Wx
  clear H3;obtain⟨ak,bP,aE,aF,rfl,rfl,K⟩:=hcut;have H4:=qH K;clear K;have a4:=ac.o;obtain⟨k1,k2,k3,k4,k5,k6,k7,k8⟩:=BV (λ_=>a4.eb) a4.h8 hr a4.me;have bB:=a4.next hr;rw[HR.o.1];have a5:=H4.o.EH (E:=2) (sz:=1) (v:=ab) (n:=r.rs.length) (xs:=eD r.rs) qs;have a9:=H4.o.EH (E:=2) (sz:=1) (v:=au) (n:=r.rs.length) (xs:=eD r.rs) qs;have aw:=H4.o.EH (E:=2) (sz:=1) (v:=bP) (n:=d.rs.length) (xs:=eD d.rs) qs;have bC:=qH (alike_any (y:=r.wy) (l1:=r.lf) (l2:=r.lf) a5 a9 qo);obtain⟨p1,c1,bQ⟩:=Row.shape a5;obtain⟨p2,c2,bR⟩:=Row.shape a9;obtain⟨p3,c3,bS⟩:=Row.shape aw;subst bQ;subst bR;subst bS;have ax:qh (∀V,qK wc V->(N<V.heap.size/\ag<V.heap.size/\ak<V.heap.size)/\(V.cell? (qA N 0)=some (qJ r.wy)/\V.cell? (qA N 1)=some (qX p1 r.rs c1)/\V.cell? (qA N 2)=some (qJ r.lf))/\(V.cell? (qA ag 0)=some (qJ r.wy)/\V.cell? (qA ag 1)=some (qX p2 r.rs c2)/\V.cell? (qA ag 2)=some (qJ r.lf))/\V.cell? (qA ak 0)=some (qJ d.wy)/\V.cell? (qA ak 1)=some (qX p3 d.rs c3)/\V.cell? (qA ak 2)=some (qJ d.lf)):=by
   intro V hV;have O:=H4.o.to hV;have q1:It.b N [qJ r.wy,qX p1 r.rs c1,qJ r.lf]∈(MJ z (eH m) ae af r.mem r.dW++(MJ A (eH m) an ao r.mem r.dW++(MJ D (eH m) aE aF d.mem d.dW++(((M++[.r 2 1 (qX p1 r.rs c1) r.rs.length (eD r.rs),.b N [qJ r.wy,(qX p1 r.rs c1),qJ r.lf]])++[.r 2 1 (qX p2 r.rs c2) r.rs.length (eD r.rs),.b ag [qJ r.wy,(qX p2 r.rs c2),qJ r.lf]])++[.r 2 1 (qX p3 d.rs c3) d.rs.length (eD d.rs),.b ak [qJ d.wy,(qX p3 d.rs c3),qJ d.lf]])))):=qs;have q2:It.b ag [qJ r.wy,qX p2 r.rs c2,qJ r.lf]∈(MJ z (eH m) ae af r.mem r.dW++(MJ A (eH m) an ao r.mem r.dW++(MJ D (eH m) aE aF d.mem d.dW++(((M++[.r 2 1 (qX p1 r.rs c1) r.rs.length (eD r.rs),.b N [qJ r.wy,(qX p1 r.rs c1),qJ r.lf]])++[.r 2 1 (qX p2 r.rs c2) r.rs.length (eD r.rs),.b ag [qJ r.wy,(qX p2 r.rs c2),qJ r.lf]])++[.r 2 1 (qX p3 d.rs c3) d.rs.length (eD d.rs),.b ak [qJ d.wy,(qX p3 d.rs c3),qJ d.lf]])))):=qs;have q3:It.b ak [qJ d.wy,qX p3 d.rs c3,qJ d.lf]∈(MJ z (eH m) ae af r.mem r.dW++(MJ A (eH m) an ao r.mem r.dW++(MJ D (eH m) aE aF d.mem d.dW++(((M++[.r 2 1 (qX p1 r.rs c1) r.rs.length (eD r.rs),.b N [qJ r.wy,(qX p1 r.rs c1),qJ r.lf]])++[.r 2 1 (qX p2 r.rs c2) r.rs.length (eD r.rs),.b ag [qJ r.wy,(qX p2 r.rs c2),qJ r.lf]])++[.r 2 1 (qX p3 d.rs c3) d.rs.length (eD d.rs),.b ak [qJ d.wy,(qX p3 d.rs c3),qJ d.lf]])))):=qs;exact⟨⟨O.XM q1,O.XM q2,O.XM q3⟩,⟨(O.cm q1 (j:=0) rfl).1,(O.cm q1 (j:=1) rfl).1,(O.cm q1 (j:=2) rfl).1⟩,⟨(O.cm q2 (j:=0) rfl).1,(O.cm q2 (j:=1) rfl).1,(O.cm q2 (j:=2) rfl).1⟩,(O.cm q3 (j:=0) rfl).1,(O.cm q3 (j:=1) rfl).1,(O.cm q3 (j:=2) rfl).1⟩
  obtain⟨⟨m1,m2,m3⟩,⟨a0,a1,a2⟩,⟨d0,d1,d2⟩,-⟩:=ax.o wc qr;have bT:=qH aw;have bU:=qH a5;have ba:=qH bB;clear a5 a9 aw bB;go_wp2_with fail
  refine bC.o.mono ?_;rintro e w6⟨rfl,aj⟩;clear bC m1 m2 m3 a0 a1 a2 d0 d1 d2;obtain⟨⟨m1,m2,m3⟩,⟨a0,a1,a2⟩,⟨d0,d1,d2⟩,g0,g1,g2⟩:=ax.o w6 aj;by_cases he:r.er=0
  .have te:(r.er:Int)=0:=qo;have ck:¬(r.lf:Int)<0:=qo;have cn:¬(R:Int)<(r.lf:Int):=qo;have co:¬(r.wy:Int)<0:=qo;have cp:¬(8:Int)<(r.wy:Int):=qo;have H6:=qH (H4.o.to aj);by_cases hw:r.wy=8
   .have bV:((r.wy:Int)==8)=true:=by simp;omega
    have bW:(r.wy:Int)=8:=qo;have ct:((r.lf:Int) !=0)=false:=by have:=k5 hw;simp;omega
    have cu:(r.lf:Int)=0:=by have:=k5 hw;omega
    have bX:=qH (AA (ib:=z.b) (kb:=A.b) H6.o (H6.o.perm (qau _ _ _)) (by have:=ba.o.me;omega) ba.o.me.1);clear he hw;go_wp2_with fail
    refine bX.o.mono ?_;rintro e w7⟨rfl,rfl⟩;go_wp2;go_ret;exact⟨rfl,HKB.o.kept H6.o.kept⟩
   have bV:((r.wy:Int)==8)=false:=by simp;omega
   have bW:¬(r.wy:Int)=8:=qo;have al:d={r with lf:=r.lf+L}:=by rw[HR.o.2 (λ_=>hw),qac he]
   have e1:d.wy=r.wy:=by rw[al]
   have e2:d.rs=r.rs:=by rw[al]
   have e3:d.lf=r.lf+L:=by rw[al]
   have e4:d.mem=r.mem:=by rw[al]
   have e5:d.dW=r.dW:=by rw[al]
   have aw:=bT.o;rw[e2]at g1 aw;rw[e1]at g0;rw[e3]at g2;have bb:=qH (alike_any (y:=r.wy) (l1:=r.lf) (l2:=r.lf+L) (Row.kept bU.o aj (λ_ _ _ c=>c)) (Row.kept aw aj (λ_ _ _ c=>c)) qo);have wl:IntKind.i64.wrap ((r.lf:Int)+(L:Int))=(r.lf:Int)+(L:Int):=qaf _ ⟨qo,qo⟩;rw[show((r.lf+L:Nat):Int)=(r.lf:Int)+(L:Int) by omega]at g2 bb;have bD:=qH (And.intro e4 e5);clear he hw al e1 e2 e3 e4 e5 aw;go_wp2_with fail
   refine bb.o.mono ?_;rintro e w7⟨rfl,aG⟩;clear bb m1 m2 m3 a0 a1 a2 d0 d1 d2;have cv:=(aG.cell (p:=(qA N 2)) ((ax.o w6 aj).1.1) (λc=>c)).trans (ax.o w6 aj).2.1.2.2;have cw:=(aG.cell (p:=(qA ak 2)) ((ax.o w6 aj).1.2.2) (λc=>c)).trans g2;have m1:=qad (ax.o w6 aj).1.1 aG.size;have m3:=qad (ax.o w6 aj).1.2.2 aG.size;have H7:=qH (H6.o.to aG);clear g0 g1 g2;go_wp2;go_roundg (uX.length - (n+1))
   case measure=>have:=a3.o;omega
   have u:=H7.o;rw[bD.o.1,bD.o.2]at u;refine⟨n+1,r.mem,r.dW,ae,af,an,ao,aE,aF,rfl,a3.o,qo,by push_cast;rfl,ba.o,u.sub ?_⟩;exact WQ
  have al:d=r:=by rw[HR.o.2 (λc=>absurd c he),qaa he]
  have te:¬(r.er:Int)=0:=qo;have cx:((r.er:Int) !=0)=true:=by simp;omega
  obtain⟨-,-,-,q4,q5⟩:=k6 he;have H6:=qH (H4.o.to aj);have bY:=qH al;have HQ:=qH (And.intro q4 q5);clear al q4 q5 he;go_wp2;go_roundg (uX.length - (n+1))
  case measure=>have:=a3.o;omega
  have u:=H6.o;rw[bY.o,HQ.o.1,HQ.o.2]at u;refine⟨n+1,mem,dW,ae,af,an,ao,aE,aF,rfl,a3.o,qo,by push_cast;rfl,ac.o,u.sub ?_⟩;exact WQ
 have J:=hS.perm (qau _ _ _);have bE:=hS.perm ((qbw _ (qau _ _ _)).trans (qau _ _ _));have X4:=qH (AA (ib:=z.b) (kb:=A.b) hS J qo bu.1);have XZ:=qH (AA (ib:=z.b) (kb:=D.b) hS bE qo bu.1);have HS:=qH hS;clear hS J bE;by_cases hA:n<uX.length
 .have t1:(n:Int)<(uX.length:Int):=qo;have t2:¬(n:Int)<20:=qo;exact W9
 have t1:¬(n:Int)<(uX.length:Int):=qo;exact W9
end
theorem Uo{n:Int}(h:(Lit.int .i64 n).wf=true): -9223372036854775808<=n/\n<=9223372036854775807:=by
 simp only[Lit.wf,qaz,qcd]at h;have a:IntKind.i64.min= -9223372036854775808:=qx;have b:IntKind.i64.max=9223372036854775807:=qx;rw[a,b]at h;omega
theorem sH.same{W a:qW}(h:sH W a):∀x:MemPlace,x.block<W.heap.size->W.sameAt a x
 | .cell b o,hb=>h.cell hb
 | .map b,hb=>h.block b hb
section
variable {H:Type}{enc:TypeId×Value->H}{W:qW}
theorem TS{fuel:Nat}{v:qv}{x:DataW H×List MemPlace}(hf:DataW.trod enc Tryz.prog W 0 (λ_=>true) true fuel 29 [v]=some x):∃az,pX W az v:=by
 obtain⟨b,hx⟩ | ⟨a,e,A,d,b,_,hl,hm,f,hx,c,n⟩:=open_ints Tryz.underlying29 Tryz.underlying2 qk hf
 .cases b;exact⟨[],none,0,rfl,λh=>by simp at h⟩
 cases b;simp only[qda]at f;refine⟨d.take e,some a,A,?_,λh0=>?_⟩
 .rw[qca,qcj qo]
 rw[qca,qcj qo]at h0;obtain⟨g,i,k⟩:=a;have l:k=none:=by simpa [Addr.add] using World.cell?_spot (c 0 qo)
 subst l;refine⟨g,i,rfl,?_,qt,λj m=>?_⟩
 .have U:=cells?_one (base:=0) qZ (c 0 qo);exact World.cells?_block U qo
 simp at m;have:=c j qo;rw[qdm]at this;rw[this];simp[List.getD,qab (show j<d.length by omega)]
theorem SF{fuel:Nat}{cs:qV}{x:DataW H×List MemPlace}(hf:DataW.trod enc Tryz.prog W 0 (λ_=>true) true fuel 31 cs=some x):∃Z:Stp,∃av,cs=[.string Z.1,av,qJ Z.2.2]/\pX W Z.2.1 av/\ -9223372036854775808<=Z.2.2/\Z.2.2<=9223372036854775807:=by
 obtain⟨h,i,j,n,-,hl,h0,U,a⟩:=Go.Deep.trod_struct3 Tryz.underlying31 hf;have hc:Tryz.prog.cellsOf 31=3:=qk;have c0:Tryz.prog.cellsOf 9=1:=qk;have c1:Tryz.prog.cellsOf 29=1:=qk;have c2:Tryz.prog.cellsOf 3=1:=qk;rw[hc]at hl;match cs,hl with
 | [v0,v1,v2],_=>simp only[c0,c1,c2,List.drop_zero,List.drop_succ_cons,qdp,List.take_zero]at h0 U a;obtain⟨s,b,-,-⟩:=DataW.trod_string Tryz.underlying9 h0;obtain⟨az,c⟩:=TS U;obtain⟨z,d,-,e⟩:=DataW.trod_int Tryz.underlying3 a;cases b;cases d;obtain⟨f,g⟩:=Uo e;exact⟨(s,az,z),v1,rfl,c,f,g⟩
theorem Ph{p:qO}{n c:Nat}{d:DataW H}{ps:List MemPlace}(h:DataW.Trod enc Tryz.prog W 0 (λ_=>true) true 22 (.slice p n c) d ps):∃uX:List Stp,uX.length=n/\n<=maxLen/\StepsIn W uX p:=by
 obtain⟨fuel,hf⟩:=h;have hc:Tryz.prog.cellsOf 31=3:=qk;obtain⟨b,-⟩ | ⟨a,C,A,elems,D,k,-,b,-,hb,hl,hm,E,u,-,-⟩:=DataW.trod_slice Tryz.underlying22 hf
 .simp[Value.cells]at b;obtain⟨rfl,rfl,rfl⟩:=b;exact⟨[],rfl,qZ,λh=>by simp at h⟩
 simp[Value.cells]at b;obtain⟨rfl,rfl,rfl⟩:=b;rw[hc]at u;have e:∀i,i<n->∃Z:Stp,∃av cs,W.cells? 0 (a.add (i*3)) 3=some cs/\cs=[.string Z.1,av,qJ Z.2.2]/\pX W Z.2.1 av/\ -9223372036854775808<=Z.2.2/\Z.2.2<=9223372036854775807:=λi hi=>by
  have U:=u i hi;rw[qab qo,Option.bind_eq_some_iff]at U;obtain⟨cs,g,l⟩:=U;obtain⟨Z,av,m,o⟩:=SF l;exact⟨Z,av,cs,g,m,o⟩
 refine⟨(List.range n).map λi=>if h:i<n then Classical.choose (e i h) else(ByteArray.empty,[],0),qs,qo,λh0=>?_⟩;simp only[qdu,List.length_range]at h0;obtain⟨v,w,x⟩:=a;have y:x=none:=by
  obtain⟨Z,av,cs,U,rfl,-⟩:=e 0 h0;have:=(World.cells?_some U).2.2 0 qo;simpa [Addr.add] using World.cell?_spot this
 subst y;have z:v<W.heap.size:=by
  obtain⟨Z,av,cs,U,-⟩:=e 0 h0;have:=World.cells?_block U qo;simpa [Addr.add] using this
 refine⟨v,w,rfl,z,λj f=>?_⟩;simp only[qdu,List.length_range]at f;simp only[List.getElem_map,List.getElem_range,dif_pos f];have B:=Classical.choose_spec (e j f);revert B
 generalize Classical.choose (e j f)=Z;rintro⟨av,cs,U,g,l,m,o⟩;have q:=(World.cells?_some U).2.2;have r:=q 0 qo;have s:=q 1 qo;have t:=q 2 qo;rw[g]at r s t;simp only[qdm]at r s t;exact⟨by simpa using r,⟨av,by simpa [Nat.add_assoc] using s,l⟩,by simpa [Nat.add_assoc] using t,m,o⟩
end
theorem Og{W a:qW}(h:sH W a)(b:MemPlace->Prop):W.keptBut a b:=by
 refine⟨h.os,h.output,λi hi=>?_⟩;rw[h.block i hi];split<;>simp_all
theorem P9:ownKnob Tryz.prog.godebug=none:=qk
theorem G7:laidOutB Tryz.prog=true:=qk
theorem Rw(os:Os)(args:Array qv):laidMetH Tryz.prog Rows.fueledRow.laid ((World.doorLaid Tryz.prog 77 os).forCall (λ_ _=>0) ⟨#[],args,[]⟩).memory:=
 laidMetH_of_parts3 (fuel:=8) (laidMet_of_run' 8 qk qk) qk qk
theorem Rf{W:qW}(h:laidMetH Tryz.prog Rows.fueledRow.laid W):∃T:Nat->Int,Gz T W:=by
 obtain⟨d,e,b⟩:=Zev.zF (Zev.gLaid h);have c:∀j:Nat,j<64->∃n:Int,Zev.zw[j]?=some (qB n):=by
  have:(Zev.zw.all λv=>match v with | Value.int .u8 _=>true | _=>false)=true/\Zev.zw.length=64:=by decide+kernel
  intro j a;rw[qab qo];have U:=List.all_eq_true.1 this.1 Zev.zw[j] (qaw _);revert U
  generalize Zev.zw[j]' qo=v;intro U;split at U
  .exact⟨_,rfl⟩
  cases U
 refine⟨λj=>if a:j<64 then Classical.choose (c j a) else 0,(qah.1 b).1,λj a=>?_⟩;simp only[dif_pos a];rw[<-Classical.choose_spec (c j a)];unfold World.cell?;simp only[b];simp
theorem CX(os:Os)(r:os.Started)(H:Type)(enc:TypeId×Value->H):
  ReturnsInHanded {} Tryz.checked os 3 .any (λw args=>(Rows.fueledSpec.pre enc Tryz.prog Tryz.f3 [] false w args/\laidMetH Tryz.prog Rows.fueledRow.laid w)/\sizedMet enc Tryz.prog Tryz.f3 (OpenSpec.ofChange Rows.fueledSpec) false w args)
   (Rows.fueledSpec.post enc Tryz.prog Tryz.f3 false true false false):=by
 refine returnsInHanded_of_change_and (C:=Tryz.checked) (X:=λw _=>laidMetH Tryz.prog Rows.fueledRow.laid w) (λ_ _ _ hh h=>h.of_heap hh) P9 r qk Tryz.func3
  (ChangeSpec.witness_shaped (enc:=enc) (C:=Tryz.checked) (os:=os) (X:=λw _=>laidMetH Tryz.prog Rows.fueledRow.laid w) false (World.doorLaid Tryz.prog 77 os) #[.string ⟨#[]⟩,qN,qJ 0] 8 rfl (World.shaped_of_RefB qk qk) qk qk qk (Rw os _)) ?_
 intro W base args u gs Q d f _ _ g _;have a:∀(j:Nat) t v,Tryz.f3.params[j]?=some t->args[j]?=some v->Value.okWide Tryz.prog W .any base t v:=d;have i:=f;obtain⟨p,q,k,y,rfl,R,_⟩:=f;have l:DataW.TrodAll enc Tryz.prog W 0 (λ_=>true) true Tryz.f3.params.toList args.toList u p:=k;rw[Tryz.params3]at l a;obtain⟨v0,v1,v2,S,V,Y,m,n,p2,rfl,rfl,rfl,h0,U,A⟩:=trodAll_three l;obtain⟨rfl,rfl⟩:=trodVars_none y;obtain⟨sb,rfl⟩:=okWide_string Tryz.underlying9 (a 0 9 v0 rfl rfl);obtain⟨B,Z,c1,rfl⟩:=okWide_slice Tryz.underlying22 (a 1 22 v1 rfl rfl);obtain⟨z,rfl,rfl,rfl,o⟩:=open_int Tryz.underlying3 (a 2 3 v2 rfl rfl) A;have b:∀x∈m++n,x.block<W.heap.size:=λx hx=>i.lt x (by simpa using hx);obtain⟨uX,D,aa,E⟩:=Ph U;have ab:sb.size<=maxLen:=by
  obtain⟨fuel,hf⟩:=h0;obtain⟨s',e,-,F⟩:=DataW.trod_string Tryz.underlying9 hf;simp[Value.cells]at e;rw[e];exact F
 clear k d;obtain⟨T,G⟩:=Rf g;obtain⟨I,J⟩:=Uo o;have ac:maxLen<=9223372036854775807:=by unfold maxLen;omega
 subst D;refine(Kg (s:=sb) (uX:=uX) (ps:=B) (cs:=c1) (more:=z) (T:=T) ((Zev.awake_ok g).mono λe K ⟨c,L,M,N,O⟩=>⟨c,⟨L,M,N,O⟩⟩) G E qo qo I J).mono λe K ⟨c,X⟩=>?_;subst c;refine⟨_,rfl,_,_,_,[],m++(n++[]),[],i,?_,?_,?_,Og X _,λh=>by cases h⟩
 .exact trodAll_mk1 (shut_bool Tryz.underlying4 true)
 .exact trodAll_mk3 (WideElems.Trod_stays (P:=Tryz.prog) G7 qk (of_decide_eq_true qk) h0 (λx hx=>X.same x (b x (List.mem_append_left _ hx))) (λx hx=>by simpa using b x (List.mem_append_left _ hx)))
   (WideElems.Trod_stays (P:=Tryz.prog) G7 qk (of_decide_eq_true qk) U (λx hx=>X.same x (b x (List.mem_append_right _ hx))) (λx hx=>by simpa using b x (List.mem_append_right _ hx)))
   (shut_int Tryz.underlying3 o)
 rfl
end Go.Proofs.YtfkcodlceoghpaaGreatDoor
