import Derived.Test.YtdaafkmhfedkiaaGreatX6
import Derived.Test.YtdaafkmhfedkiaaGreatX15
import Derived.Test.YtdaafkmhfedkiaaGreatX16
namespace Go.Proofs.YtdaafkmhfedkiaaGreat
set_option maxHeartbeats 3200000
set_option maxRecDepth 100000
open Go.RowKit Go.Proofs.Tryz
def xE:List qS:=[⟨#[101,113,122]⟩,⟨#[101,113]⟩,⟨#[110,101]⟩,⟨#[108,116,95,115]⟩,⟨#[108,116,95,117]⟩,⟨#[103,116,95,115]⟩,⟨#[103,116,95,117]⟩,⟨#[108,101,95,115]⟩,⟨#[108,101,95,117]⟩,⟨#[103,101,95,115]⟩,⟨#[103,101,95,117]⟩]
def xD:List qS:=[⟨#[99,108,122]⟩,⟨#[99,116,122]⟩,⟨#[112,111,112,99,110,116]⟩,⟨#[97,100,100]⟩,⟨#[115,117,98]⟩,⟨#[109,117,108]⟩,⟨#[100,105,118,95,115]⟩,⟨#[100,105,118,95,117]⟩,⟨#[114,101,109,95,115]⟩,⟨#[114,101,109,95,117]⟩,⟨#[97,110,100]⟩,⟨#[111,114]⟩,⟨#[120,111,114]⟩,⟨#[115,104,108]⟩,⟨#[115,104,114,95,115]⟩,⟨#[115,104,114,95,117]⟩,⟨#[114,111,116,108]⟩,⟨#[114,111,116,114]⟩]
def aah:qS:=⟨#[105,51,50,46]⟩
def aag:qS:=⟨#[105,54,52,46]⟩
def jQ(ok:Nat->Prop)(l:List qS)(w:World)(v:Value):Prop:=Row ok w 9 1 v l.length (l.map .string)
def ahO(ok:Nat->Prop)(x:Nat×List qS)(w:World)(cs:List Value):Prop:=∃lv,cs=[qJ x.1,lv]/\jQ ok x.2 w lv
section
variable {S ok:qD} {w w':qW}
theorem EK(w:qW){g:Nat}(l:List qS){c:Array qv}(a:g=w.heap.size)(hc:c.toList=l.map .string)(d:l.length<=1000):jQ (fun k=>k=w.heap.size) l (w.alloc (.cells c 9)) (.slice (some (qA g 0)) l.length l.length):=by
 subst a;have b:c.size=l.length:=by rw[<-Array.length_toList,hc];simp
 refine⟨⟨qs,.inr ⟨w.heap.size,l.length,c,rfl,qZ,heap_alloc_new w _,qR,by unfold maxLen;omega,by rw[b];simp,?_⟩⟩,fun k X=>by simp[Value.ownBlock] at X;exact X.symm⟩;rw[hc,List.take_of_length_le qs]
theorem BG(w:qW):qC 153 #[] w fun e w'=>∃v,e=.returned v/\jQ (fun k=>w.heap.size<=k) xE w' v/\qK w w':=by
 go_enter func153,ntmps153;go_wp2;go_ret;exact⟨_,rfl,Row.mono (EK w xE rfl rfl qx) (fun g _ (e:g=_)=>qo),qr.alloc _⟩
theorem BF(w:qW):qC 154 #[] w fun e w'=>∃v,e=.returned v/\jQ (fun k=>w.heap.size<=k) xD w' v/\qK w w':=by
 go_enter func154,ntmps154;go_wp2;go_ret;exact⟨_,rfl,Row.mono (EK w xD rfl rfl qx) (fun g _ (e:g=_)=>qo),qr.alloc _⟩
theorem Tryz.info9:(prog.info? 9).map (fun i=>(i.zero,i.size,i.bytes))=some (some (.string ⟨#[]⟩),1,16):=qk
theorem AZ(a:qS)(l:List qS)(v:qv)(R:l.length<=50)(hp:a.size<=100)(E:∀t∈l,t.size<=100)(r:jQ ok l w v):qC 152 #[.string a,v] w fun e w'=>∃u,e=.returned u/\jQ (fun k=>w.heap.size<=k) (l.map (a++ ·)) w' u/\qK w w':=by
 obtain⟨F,G,H,I,J⟩:=info_parts Tryz.info9;obtain⟨p,c,rfl⟩:=Row.shape r;go_enter func152,ntmps152;go_wp2;go_loopw [5,6] (fun q p wr=>∃k:Nat,k<=l.length/\p=qJ (k:Nat)/\qK w wr/\jQ (fun k=>w.heap.size<=k) ((l.take k).map (a++ ·)) wr q) (fun _ p _=>l.length - (intOf p).toNat)
 case atStart=>exact⟨0,qZ,rfl,Kept.refl _ _,Row.nil _ _ _ _⟩
 obtain⟨k,X,rfl,d,b⟩:=hrel;have f:((l.take k).map (a++ ·)).length=k:=by simp;omega
 obtain⟨T,U,hq⟩:=Row.shape b;rw[f] at hq;subst hq;by_cases h:k<l.length
 .have K:(k:Int)<(l.length:Int):=qo;have s:jQ ok l wr (.slice p l.length c):=Row.kept r d (fun _ _ _ hc=>hc);obtain⟨g,A,L,-,V,W,x⟩:=Row.cells s qo;cases L;have c0:wr.cell? (qA g k)=some (.string l[k]):=(x k qo).trans (by simp[h]);have Y:=E _ (List.getElem_mem h);have y:qh ((l.take (k+1)).map (a++ ·)=(l.take k).map (a++ ·)++[a++l[k]]):=by show _=_;rw[List.take_succ_eq_append_getElem h,List.map_append];rfl
  clear x s;generalize l[k]=t at*;have Z:¬9223372036854775807<a.size+t.size:=qo;have i:=(Row.pO (B:=w.heap.size) b (fun g j=>j)).alloc (.cells #[.string (a++t)] 9);rw[f] at i;have m:=hide i;have aa:=d.size;clear i b f;go_wp2_with (at_builtin;refine wpList_append_own _ rfl _ _ 43 rfl w.heap.size 9 F (.string ⟨#[]⟩) 1 16 underlying43 G H I J rfl qx _ _ _ rfl m.o ⟨wr.heap.size,0,none⟩ 1 1 [.string (a++t)] rfl rfl ?c1 ?c2 ?c3 ?c4 ?c5 ?_)
  case c2=>rfl
  case c3=>unfold maxLen;omega
  case c4=>omega
  case c5=>omega
  intro M N z C _;have O:=iP (d.alloc _) m.o qR C;have D:jQ (fun k=>w.heap.size<=k) ((l.take (k+1)).map (a++ ·)) N M:=by
   have:=Row.nS (ok:=fun g=>w.heap.size<=g) z (fun g j _=>j);unfold jQ;rw[y.o];have P:((l.take k).map (a++ ·)++[a++t]).length=k+1:=by simp;omega
   rw[P];simpa using this
  have n:=hide D;clear z C D m y;go_wp2;go_roundw
  case rel=>exact⟨k+1,qo,by go_num,O,n.o⟩
  simp[intOf];omega
 have Q:k=l.length:=qo;subst Q;rw[List.take_of_length_le qR] at b;have K:¬(l.length:Int)<(l.length:Int):=qo;have n:=hide b;clear b f;go_wp2;go_ret;exact⟨_,rfl,n.o,d⟩
end
section
variable {S ok:qD} {w w':qW} {v:qv} {l:List qS}
theorem dI(h:jQ (fun _=>True) l w v)(o:Obj):jQ (fun _=>True) l (w.alloc o) v:=Row.kept h ((Kept.refl (fun _=>False) _).alloc o) (fun _ _ _ hc=>hc)
theorem eF(h:jQ (fun _=>True) l w v)(X:qK w w'):jQ (fun _=>True) l w' v:=Row.kept h X (fun _ _ _ hc=>hc)
theorem ql(w:qW){g:Nat}(l:List qS){c:Array qv}(a:g=w.heap.size)(hc:c.toList=l.map .string)(b:l.length<=1000):jQ (fun _=>True) l (w.alloc (.cells c 9)) (.slice (some (qA g 0)) l.length l.length):=Row.mono (EK w l a hc b) (fun _ _ _=>trivial)
def aeG(w:World)(v:Value):Prop:=∃g,v=.slice (some (qA g 0)) 15 15/\∀i,i<15->∃lv,w.cell? ⟨g,2*i,none⟩=some (qJ ((jf.getD i (0,[])).1:Nat))/\w.cell? ⟨g,2*i+1,none⟩=some lv/\jQ (fun _=>True) (jf.getD i (0,[])).2 w lv
theorem Xt(w:qW){a:qW}(b:a=(((((((((w.alloc (.cells #[.string ⟨#[117,110,114,101,97,99,104,97,98,108,101]⟩,.string ⟨#[110,111,112]⟩,.string ⟨#[98,108,111,99,107]⟩,.string ⟨#[108,111,111,112]⟩,.string ⟨#[105,102]⟩,.string ⟨#[101,108,115,101]⟩] 9)).alloc (.cells #[.string ⟨#[101,110,100]⟩,.string ⟨#[98,114]⟩,.string ⟨#[98,114,95,105,102]⟩,.string ⟨#[98,114,95,116,97,98,108,101]⟩,.string ⟨#[114,101,116,117,114,110]⟩,.string ⟨#[99,97,108,108]⟩,.string ⟨#[99,97,108,108,95,105,110,100,105,114,101,99,116]⟩] 9)).alloc (.cells #[.string ⟨#[100,114,111,112]⟩,.string ⟨#[115,101,108,101,99,116]⟩] 9)).alloc (.cells #[.string ⟨#[108,111,99,97,108,46,103,101,116]⟩,.string ⟨#[108,111,99,97,108,46,115,101,116]⟩,.string ⟨#[108,111,99,97,108,46,116,101,101]⟩,.string ⟨#[103,108,111,98,97,108,46,103,101,116]⟩,.string ⟨#[103,108,111,98,97,108,46,115,101,116]⟩] 9)).alloc (.cells #[.string ⟨#[105,51,50,46,108,111,97,100]⟩,.string ⟨#[105,54,52,46,108,111,97,100]⟩] 9)).alloc (.cells #[.string ⟨#[105,51,50,46,108,111,97,100,56,95,115]⟩,.string ⟨#[105,51,50,46,108,111,97,100,56,95,117]⟩] 9)).alloc (.cells #[.string ⟨#[105,51,50,46,115,116,111,114,101]⟩,.string ⟨#[105,54,52,46,115,116,111,114,101]⟩] 9)).alloc (.cells #[.string ⟨#[105,51,50,46,115,116,111,114,101,56]⟩] 9)).alloc (.cells #[.string ⟨#[109,101,109,111,114,121,46,115,105,122,101]⟩,.string ⟨#[109,101,109,111,114,121,46,103,114,111,119]⟩,.string ⟨#[105,51,50,46,99,111,110,115,116]⟩,.string ⟨#[105,54,52,46,99,111,110,115,116]⟩] 9))):qK w a/\
  jQ (fun _=>True) (jf.getD 0 (0,[])).2 a (.slice (some (qA w.heap.size 0)) 6 6)/\
  jQ (fun _=>True) (jf.getD 1 (0,[])).2 a (.slice (some ⟨w.heap.size+1,0,none⟩) 7 7)/\
  jQ (fun _=>True) (jf.getD 2 (0,[])).2 a (.slice (some ⟨w.heap.size+1+1,0,none⟩) 2 2)/\
  jQ (fun _=>True) (jf.getD 3 (0,[])).2 a (.slice (some ⟨w.heap.size+1+1+1,0,none⟩) 5 5)/\
  jQ (fun _=>True) (jf.getD 4 (0,[])).2 a (.slice (some ⟨w.heap.size+1+1+1+1,0,none⟩) 2 2)/\
  jQ (fun _=>True) (jf.getD 5 (0,[])).2 a (.slice (some ⟨w.heap.size+1+1+1+1+1,0,none⟩) 2 2)/\
  jQ (fun _=>True) (jf.getD 6 (0,[])).2 a (.slice (some ⟨w.heap.size+1+1+1+1+1+1,0,none⟩) 2 2)/\
  jQ (fun _=>True) (jf.getD 7 (0,[])).2 a (.slice (some ⟨w.heap.size+1+1+1+1+1+1+1,0,none⟩) 1 1)/\
  jQ (fun _=>True) (jf.getD 8 (0,[])).2 a (.slice (some ⟨w.heap.size+1+1+1+1+1+1+1+1,0,none⟩) 4 4):=by
 subst b;refine⟨(((((((((qr.alloc _).alloc _).alloc _).alloc _).alloc _).alloc _).alloc _).alloc _).alloc _),?s0,?s1,?s2,?s3,?s4,?s5,?s6,?s7,?s8⟩
 case s0=>exact(dI (dI (dI (dI (dI (dI (dI (dI (ql _ [⟨#[117,110,114,101,97,99,104,97,98,108,101]⟩,⟨#[110,111,112]⟩,⟨#[98,108,111,99,107]⟩,⟨#[108,111,111,112]⟩,⟨#[105,102]⟩,⟨#[101,108,115,101]⟩] qs rfl qx) _) _) _) _) _) _) _) _)
 case s1=>exact(dI (dI (dI (dI (dI (dI (dI (ql _ [⟨#[101,110,100]⟩,⟨#[98,114]⟩,⟨#[98,114,95,105,102]⟩,⟨#[98,114,95,116,97,98,108,101]⟩,⟨#[114,101,116,117,114,110]⟩,⟨#[99,97,108,108]⟩,⟨#[99,97,108,108,95,105,110,100,105,114,101,99,116]⟩] qs rfl qx) _) _) _) _) _) _) _)
 case s2=>exact(dI (dI (dI (dI (dI (dI (ql _ [⟨#[100,114,111,112]⟩,⟨#[115,101,108,101,99,116]⟩] qs rfl qx) _) _) _) _) _) _)
 case s3=>exact(dI (dI (dI (dI (dI (ql _ [⟨#[108,111,99,97,108,46,103,101,116]⟩,⟨#[108,111,99,97,108,46,115,101,116]⟩,⟨#[108,111,99,97,108,46,116,101,101]⟩,⟨#[103,108,111,98,97,108,46,103,101,116]⟩,⟨#[103,108,111,98,97,108,46,115,101,116]⟩] qs rfl qx) _) _) _) _) _)
 case s4=>exact(dI (dI (dI (dI (ql _ [⟨#[105,51,50,46,108,111,97,100]⟩,⟨#[105,54,52,46,108,111,97,100]⟩] qs rfl qx) _) _) _) _)
 case s5=>exact(dI (dI (dI (ql _ [⟨#[105,51,50,46,108,111,97,100,56,95,115]⟩,⟨#[105,51,50,46,108,111,97,100,56,95,117]⟩] qs rfl qx) _) _) _)
 case s6=>exact(dI (dI (ql _ [⟨#[105,51,50,46,115,116,111,114,101]⟩,⟨#[105,54,52,46,115,116,111,114,101]⟩] qs rfl qx) _) _)
 case s7=>exact(dI (ql _ [⟨#[105,51,50,46,115,116,111,114,101,56]⟩] qs rfl qx) _)
 exact(ql _ [⟨#[109,101,109,111,114,121,46,115,105,122,101]⟩,⟨#[109,101,109,111,114,121,46,103,114,111,119]⟩,⟨#[105,51,50,46,99,111,110,115,116]⟩,⟨#[105,54,52,46,99,111,110,115,116]⟩] qs rfl qx)
theorem MX(w:qW):qC 117 #[] w fun e w'=>∃v,e=.returned v/\aeG w' v/\qK w w':=by
 go_enter func117,ntmps117;go_wp2_with fail
 generalize G:(((((((((w.alloc (.cells #[.string ⟨#[117,110,114,101,97,99,104,97,98,108,101]⟩,.string ⟨#[110,111,112]⟩,.string ⟨#[98,108,111,99,107]⟩,.string ⟨#[108,111,111,112]⟩,.string ⟨#[105,102]⟩,.string ⟨#[101,108,115,101]⟩] 9)).alloc (.cells #[.string ⟨#[101,110,100]⟩,.string ⟨#[98,114]⟩,.string ⟨#[98,114,95,105,102]⟩,.string ⟨#[98,114,95,116,97,98,108,101]⟩,.string ⟨#[114,101,116,117,114,110]⟩,.string ⟨#[99,97,108,108]⟩,.string ⟨#[99,97,108,108,95,105,110,100,105,114,101,99,116]⟩] 9)).alloc (.cells #[.string ⟨#[100,114,111,112]⟩,.string ⟨#[115,101,108,101,99,116]⟩] 9)).alloc (.cells #[.string ⟨#[108,111,99,97,108,46,103,101,116]⟩,.string ⟨#[108,111,99,97,108,46,115,101,116]⟩,.string ⟨#[108,111,99,97,108,46,116,101,101]⟩,.string ⟨#[103,108,111,98,97,108,46,103,101,116]⟩,.string ⟨#[103,108,111,98,97,108,46,115,101,116]⟩] 9)).alloc (.cells #[.string ⟨#[105,51,50,46,108,111,97,100]⟩,.string ⟨#[105,54,52,46,108,111,97,100]⟩] 9)).alloc (.cells #[.string ⟨#[105,51,50,46,108,111,97,100,56,95,115]⟩,.string ⟨#[105,51,50,46,108,111,97,100,56,95,117]⟩] 9)).alloc (.cells #[.string ⟨#[105,51,50,46,115,116,111,114,101]⟩,.string ⟨#[105,54,52,46,115,116,111,114,101]⟩] 9)).alloc (.cells #[.string ⟨#[105,51,50,46,115,116,111,114,101,56]⟩] 9)).alloc (.cells #[.string ⟨#[109,101,109,111,114,121,46,115,105,122,101]⟩,.string ⟨#[109,101,109,111,114,121,46,103,114,111,119]⟩,.string ⟨#[105,51,50,46,99,111,110,115,116]⟩,.string ⟨#[105,54,52,46,99,111,110,115,116]⟩] 9))=w9;obtain⟨P,s0,s1,s2,s3,s4,s5,s6,s7,s8⟩:=Xt w G.symm;have n:=hide s0;have p:=hide s1;have q:=hide s2;have r:=hide s3;have s:=hide s4;have u:=hide s5;have x:=hide s6;have y:=hide s7;have z:=hide s8;clear G s0 s1 s2 s3 s4 s5 s6 s7 s8;refine(BG _).mono ?_;rintro e u0 ⟨Q,rfl,H,j⟩;have aa:=j.size;go_wp2_with fail
 refine(AZ aah xE Q qx qx qx H).mono ?_;rintro e v0 ⟨ab,rfl,B,m⟩;obtain⟨I,c0,rfl⟩:=Row.shape B;have R:=(P.trans j).trans m;have S9:qh (jQ (fun _=>True) (jf.getD 9 (0,[])).2 v0 (.slice I xE.length c0)):=hide (Row.mono B (fun _ _ _=>trivial));clear H B;have n:=hide (eF n.o (j.trans m));have p:=hide (eF p.o (j.trans m));have q:=hide (eF q.o (j.trans m));have r:=hide (eF r.o (j.trans m));have s:=hide (eF s.o (j.trans m));have u:=hide (eF u.o (j.trans m));have x:=hide (eF x.o (j.trans m));have y:=hide (eF y.o (j.trans m));have z:=hide (eF z.o (j.trans m));go_wp2_with fail
 refine(BG _).mono ?_;rintro e u1 ⟨T,rfl,J,f⟩;have ac:=f.size;go_wp2_with fail
 refine(AZ aag xE T qx qx qx J).mono ?_;rintro e v1 ⟨ad,rfl,C,k⟩;obtain⟨K,c1,rfl⟩:=Row.shape C;have U:=(R.trans f).trans k;have A:qh (jQ (fun _=>True) (jf.getD 10 (0,[])).2 v1 (.slice K xE.length c1)):=hide (Row.mono C (fun _ _ _=>trivial));clear J C;have n:=hide (eF n.o (f.trans k));have p:=hide (eF p.o (f.trans k));have q:=hide (eF q.o (f.trans k));have r:=hide (eF r.o (f.trans k));have s:=hide (eF s.o (f.trans k));have u:=hide (eF u.o (f.trans k));have x:=hide (eF x.o (f.trans k));have y:=hide (eF y.o (f.trans k));have z:=hide (eF z.o (f.trans k));have S9:=hide (eF S9.o (f.trans k));go_wp2_with fail
 refine(BF _).mono ?_;rintro e u2 ⟨V,rfl,L,b⟩;have ae:=b.size;go_wp2_with fail
 refine(AZ aah xD V qx qx qx L).mono ?_;rintro e v2 ⟨af,rfl,D,h⟩;obtain⟨M,c2,rfl⟩:=Row.shape D;have W:=(U.trans b).trans h;have E:qh (jQ (fun _=>True) (jf.getD 11 (0,[])).2 v2 (.slice M xD.length c2)):=hide (Row.mono D (fun _ _ _=>trivial));clear L D;have n:=hide (eF n.o (b.trans h));have p:=hide (eF p.o (b.trans h));have q:=hide (eF q.o (b.trans h));have r:=hide (eF r.o (b.trans h));have s:=hide (eF s.o (b.trans h));have u:=hide (eF u.o (b.trans h));have x:=hide (eF x.o (b.trans h));have y:=hide (eF y.o (b.trans h));have z:=hide (eF z.o (b.trans h));have S9:=hide (eF S9.o (b.trans h));have A:=hide (eF A.o (b.trans h));go_wp2_with fail
 refine(BF _).mono ?_;rintro e u3 ⟨X,rfl,N,a⟩;have ag:=a.size;go_wp2_with fail
 refine(AZ aag xD X qx qx qx N).mono ?_;rintro e v3 ⟨ah,rfl,F,d⟩;obtain⟨O,c3,rfl⟩:=Row.shape F;have Y:=(W.trans a).trans d;have Z:qh (jQ (fun _=>True) (jf.getD 12 (0,[])).2 v3 (.slice O xD.length c3)):=hide (Row.mono F (fun _ _ _=>trivial));clear N F;have n:=hide (eF n.o (a.trans d));have p:=hide (eF p.o (a.trans d));have q:=hide (eF q.o (a.trans d));have r:=hide (eF r.o (a.trans d));have s:=hide (eF s.o (a.trans d));have u:=hide (eF u.o (a.trans d));have x:=hide (eF x.o (a.trans d));have y:=hide (eF y.o (a.trans d));have z:=hide (eF z.o (a.trans d));have S9:=hide (eF S9.o (a.trans d));have A:=hide (eF A.o (a.trans d));have E:=hide (eF E.o (a.trans d));go_wp2;go_ret;refine⟨_,rfl,⟨v3.heap.size+1+1,rfl,?_⟩,((Y.alloc _).alloc _).alloc _⟩;have hb:=kY.new' (w:=(v3.alloc (.cells #[.string ⟨#[105,51,50,46,119,114,97,112,95,105,54,52]⟩] 9)).alloc (.cells #[.string ⟨#[105,54,52,46,101,120,116,101,110,100,95,105,51,50,95,115]⟩,.string ⟨#[105,54,52,46,101,120,116,101,110,100,95,105,51,50,95,117]⟩] 9)) (g:=v3.heap.size+1+1) (t:=180) (c:= #[qJ 0,.slice (some (qA w.heap.size 0)) 6 6,qJ 11,.slice (some ⟨w.heap.size+1,0,none⟩) 7 7,qJ 26,.slice (some ⟨w.heap.size+1+1,0,none⟩) 2 2,qJ 32,.slice (some ⟨w.heap.size+1+1+1,0,none⟩) 5 5,qJ 40,.slice (some ⟨w.heap.size+1+1+1+1,0,none⟩) 2 2,qJ 44,.slice (some ⟨w.heap.size+1+1+1+1+1,0,none⟩) 2 2,qJ 54,.slice (some ⟨w.heap.size+1+1+1+1+1+1,0,none⟩) 2 2,qJ 58,.slice (some ⟨w.heap.size+1+1+1+1+1+1+1,0,none⟩) 1 1,qJ 63,.slice (some ⟨w.heap.size+1+1+1+1+1+1+1+1,0,none⟩) 4 4,qJ 69,.slice I 11 c0,qJ 80,.slice K 11 c1,qJ 103,.slice M 18 c2,qJ 121,.slice O 18 c3,qJ 167,.slice (some (qA v3.heap.size 0)) 1 1,qJ 172,.slice (some ⟨v3.heap.size+1,0,none⟩) 2 2]) qs;intro i hi;match i,hi with
 | 0,_=>exact⟨_,(hb 0 qs).1,(hb 1 qs).1,dI (dI (dI n.o _) _) _⟩
 | 1,_=>exact⟨_,(hb 2 qs).1,(hb 3 qs).1,dI (dI (dI p.o _) _) _⟩
 | 2,_=>exact⟨_,(hb 4 qs).1,(hb 5 qs).1,dI (dI (dI q.o _) _) _⟩
 | 3,_=>exact⟨_,(hb 6 qs).1,(hb 7 qs).1,dI (dI (dI r.o _) _) _⟩
 | 4,_=>exact⟨_,(hb 8 qs).1,(hb 9 qs).1,dI (dI (dI s.o _) _) _⟩
 | 5,_=>exact⟨_,(hb 10 qs).1,(hb 11 qs).1,dI (dI (dI u.o _) _) _⟩
 | 6,_=>exact⟨_,(hb 12 qs).1,(hb 13 qs).1,dI (dI (dI x.o _) _) _⟩
 | 7,_=>exact⟨_,(hb 14 qs).1,(hb 15 qs).1,dI (dI (dI y.o _) _) _⟩
 | 8,_=>exact⟨_,(hb 16 qs).1,(hb 17 qs).1,dI (dI (dI z.o _) _) _⟩
 | 9,_=>exact⟨_,(hb 18 qs).1,(hb 19 qs).1,dI (dI (dI S9.o _) _) _⟩
 | 10,_=>exact⟨_,(hb 20 qs).1,(hb 21 qs).1,dI (dI (dI A.o _) _) _⟩
 | 11,_=>exact⟨_,(hb 22 qs).1,(hb 23 qs).1,dI (dI (dI E.o _) _) _⟩
 | 12,_=>exact⟨_,(hb 24 qs).1,(hb 25 qs).1,dI (dI (dI Z.o _) _) _⟩
 | 13,_=>exact⟨_,(hb 26 qs).1,(hb 27 qs).1,dI (dI (ql v3 [⟨#[105,51,50,46,119,114,97,112,95,105,54,52]⟩] rfl rfl qx) _) _⟩
 | 14,_=>exact⟨_,(hb 28 qs).1,(hb 29 qs).1,dI (ql _ [⟨#[105,54,52,46,101,120,116,101,110,100,95,105,51,50,95,115]⟩,⟨#[105,54,52,46,101,120,116,101,110,100,95,105,51,50,95,117]⟩] qs rfl qx) _⟩
end
section
variable {S ok:qD} {w w':qW} {v:qv} {l:List qS}
theorem WQ{op k:Nat}(X:k<15):BP op (jf.drop k)=if(jf.getD k (0,[])).1<=op/\op - (jf.getD k (0,[])).1<(jf.getD k (0,[])).2.length then(jf.getD k (0,[])).2.getD (op - (jf.getD k (0,[])).1) ⟨#[]⟩ else BP op (jf.drop (k+1)):=by
 have a:jf.length=15:=rfl;have:jf.drop k=jf.getD k (0,[])::jf.drop (k+1):=by
  rw[List.drop_eq_getElem_cons qo];simp[List.getD_eq_getElem?_getD,a,X]
 rw[this];rfl
theorem Xu:∀k:Fin 15,(jf.getD k.val (0,[])).1<=300/\(jf.getD k.val (0,[])).2.length<=50:=qx
theorem yg(w:qW)(op:Nat)(D:op<256):qC 75 #[qJ op] w fun e w'=>e=.returned (.string (dN op))/\qK w w':=by
 go_enter func75,ntmps75;go_wp2_with fail
 refine(MX w).mono ?_;rintro e x ⟨v,rfl,⟨g,rfl,i⟩,j⟩;have b:=hide i;clear i;go_wp2;go_loopw [4] (fun p wr=>∃k:Nat,k<=15/\p=qJ k/\wr=x/\dN op=BP op (jf.drop k)) (fun p _=>15 - (intOf p).toNat)
 case atStart=>exact⟨0,qZ,rfl,rfl,rfl⟩
 obtain⟨k,X,rfl,rfl,d⟩:=hrel;by_cases f:k<15
 .have hlt':(k:Int)<15:=qo;obtain⟨lv,hf,y,hl⟩:=b.o k f;obtain⟨m,n⟩:=Xu ⟨k,f⟩;have HW:qh (dN op=_):=d.trans (WQ f);simp only at m n;rw[Nat.mul_comm] at hf y;clear d b;generalize jf.getD k (0,[])=r at*;obtain⟨fr,a⟩:=r;simp only at m n hf hl HW;obtain⟨p,c,rfl⟩:=Row.shape hl;by_cases q:fr<=op
  .have s:(0:Int)<=(op:Int) - (fr:Int):=qo;by_cases U:op - fr<a.length
   .have t:(op:Int) - (fr:Int)<(a.length:Int):=qo;have HN:qh (dN op=a.getD (op - fr) ⟨#[]⟩):=by show _=_;rw[HW.o,if_pos ⟨q,U⟩]
    clear HW;obtain⟨z,A,B,-,E,F,u⟩:=Row.cells hl qo;cases B;have c0:wr.cell? ⟨z,op - fr,none⟩=some (.string a[op - fr]):=(u (op - fr) qo).trans (by simp[U]);rw[show((op:Int) - (fr:Int))=((op - fr:Nat):Int) by omega] at s t;clear u hl;have G:qh (((op:Int) - (fr:Int))=((op - fr:Nat):Int)):=by show _=_;omega
    go_wp2;go_ret;exact⟨by rw[HN.o];simp[U],j⟩
   have t:¬(op:Int) - (fr:Int)<(a.length:Int):=qo;have HN:qh (dN op=BP op (jf.drop (k+1))):=by show _=_;rw[HW.o,if_neg (fun c=>U c.2)]
   exact adO
  have s:¬(0:Int)<=(op:Int) - (fr:Int):=qo;have HN:qh (dN op=BP op (jf.drop (k+1))):=by show _=_;rw[HW.o,if_neg (fun c=>q c.1)]
  exact adO
 have C:k=15:=qo;subst C;clear b;go_wp2;go_ret;exact⟨by rw[d];rfl,j⟩
end
def fV(op at_:Nat):fA:=⟨op,at_,0,0,0,0,[],0,0⟩
def uX(s:qS)(i:fA)(Z:RS):fA×RS:=({i with xn:=((uS s Z).1:Nat),pX:=Z.at_},(uS s Z).2)
def gK(s:qS)(i:fA)(Z:RS):fA×RS:=
 if i.op=2\/i.op=3\/i.op=4 then iZ s i Z
 else if i.op=65 then({i with val:=(sS s 4 8 16 7 Z).1},(sS s 4 8 16 7 Z).2)
 else if i.op=66 then({i with val:=(sS s 9 1 2 63 Z).1},(sS s 9 1 2 63 Z).2)
 else if i.op=63\/i.op=64 then(i,gY s 0 Z)
 else if i.op=17 then((uX s i Z).1,gY s 0 (uX s i Z).2)
 else if i.op=14 then uX s {i with dF:=(lQ s 20 Z).1} (lQ s 20 Z).2
 else if i.op=12\/i.op=13\/i.op=16\/(32<=i.op/\i.op<=36) then uX s i Z
 else if 40<=i.op/\i.op<=58 then({(uX s i Z).1 with off:=((uS s (uX s i Z).2).1:Nat)},(uS s (uX s i Z).2).2)
 else(i,Z)
section
variable {S:qD} {w w':qW} {x Y:Nat} {s:qS} {Z:RS}
theorem LF(i:fA):(iZ s i Z).1.dF=i.dF:=by
 unfold iZ;split
 .rfl
 split
 .rfl
 split<;>rfl
theorem Yb(i:fA):(iZ s i Z).1.op=i.op:=by
 unfold iZ;split
 .rfl
 split
 .rfl
 split<;>rfl
theorem jF(w:qW)(op:Nat):qC 76 #[qJ op] w fun e w'=>e=.returned (.bool (decide (40<=op/\op<=58)))/\w'=w:=by
 by_cases U:40<=op
 .by_cases L:op<=58
  .have a:(40:Int)<=(op:Int):=qo;have b:(op:Int)<=58:=qo;go_enter func76,ntmps76;go_wp2;go_ret;exact⟨by simp[U,L],rfl⟩
  have a:(40:Int)<=(op:Int):=qo;have b:¬(op:Int)<=58:=qo;exact ad1
 have a:¬(40:Int)<=(op:Int):=qo;exact ad1
def kL(w:World)(x Y:Nat)(s:qS)(ib:Nat)(r:fA×RS)(e:Ending)(w':World):Prop:=
 qU e/\eu w' x s r.2 Y/\(∃lv,OB w' x ib (r.1.cells lv)/\isRow 37 2 fU (fun g=>w.heap.size<=g) r.1.dF w' lv)/\Kept (fun k=>k=x\/k=ib) w w'
theorem zb{a op at_:Nat}(h:eu w x s Z Y)(b:OB w x a ((fV op at_).cells (qN))){W:qS}(U:(op=2/\W=⟨#[98,108,111,99,107]⟩)\/(op=3/\W=⟨#[108,111,111,112]⟩)\/(op=4/\W=⟨#[105,102]⟩)):qC 181 #[qP x,.string W,qP a] w (kL w x Y s a (gK s (fV op at_) Z)):=by
 rcases U with⟨U,rfl⟩ | ⟨U,rfl⟩ | ⟨U,rfl⟩;all_goals
  have q:decide (40<=op/\op<=58)=false:=by simp;omega
  have hx:=h.lt;have r:=b.lt;have t:¬a=x:=b.ne;have k:=hide h;have l:qh (OB w x a [qJ op,qJ at_,qJ 0,qJ 0,qJ 0,qJ 0,qN,qJ 0,qB 0]):=hide b;clear h b;have d:qh (gK s (fV op at_) Z=iZ s (fV op at_) Z):=by show _=_;subst U;rfl
  clear U;go_enter func181,ntmps181;go_wp2_with fail
  have f:=LF (s:=s) (Z:=Z) (fV op at_);refine(TW (i:=fV op at_) k.o l.o).mono ?_;rintro e u ⟨rfl,g,c,m⟩;have j:(iZ s (fV op at_) Z).1.op=op:=Yb _;generalize iZ s (fV op at_) Z=n at*;obtain⟨v,st1⟩:=n;simp only at g c f j d ⊢;obtain⟨⟨p,y⟩,-⟩:=c.blk.nine;rw[j] at p;have l1:=c.lt;go_wp2_with fail
  refine(jF _ op).mono ?_;rintro e z ⟨rfl,rfl⟩;go_wp2;go_end0;unfold kL;rw[d.o];exact⟨rfl,g,⟨_,c,by rw[f];exact Row.nil _ _ _ _⟩,m⟩
theorem Gx{ib op at_:Nat}(h:eu w x s Z Y)(a:OB w x ib ((fV op at_).cells (qN)))(U:op=65):qC 181 #[qP x,.string ⟨#[105,51,50,46,99,111,110,115,116]⟩,qP ib] w (kL w x Y s ib (gK s (fV op at_) Z)):=by
 have f:decide (40<=op/\op<=58)=false:=by simp;omega
 have hx:=h.lt;have g:=a.lt;have hne:¬ib=x:=a.ne;have b:=hide h;have d:qh (OB w x ib [qJ op,qJ at_,qJ 0,qJ 0,qJ 0,qJ 0,qN,qJ 0,qB 0]):=hide a;clear h a;have HM:qh (gK s (fV op at_) Z=({(fV op at_) with val:=(sS s 4 8 16 7 Z).1},(sS s 4 8 16 7 Z).2)):=by show _=_;subst U;rfl
 clear U;go_enter func181,ntmps181;go_wp2_with fail
 refine(QH b.o).mono ?_;rintro e i ⟨rfl,hI1,hk1⟩;have o1:=d.o.call hk1;obtain⟨⟨j,l⟩,⟨m,n⟩,⟨q,r⟩,⟨t,u⟩,⟨v,y⟩,⟨A,B⟩,⟨C,D⟩,⟨E,F⟩,⟨G,H⟩⟩:=o1.blk.nine;have l1:=o1.lt;generalize sS s 4 8 16 7 Z=ss at*;exact agC
theorem Gw{ib op at_:Nat}(h:eu w x s Z Y)(a:OB w x ib ((fV op at_).cells (qN)))(U:op=66):qC 181 #[qP x,.string ⟨#[105,54,52,46,99,111,110,115,116]⟩,qP ib] w (kL w x Y s ib (gK s (fV op at_) Z)):=by
 have f:decide (40<=op/\op<=58)=false:=by simp;omega
 have hx:=h.lt;have g:=a.lt;have hne:¬ib=x:=a.ne;have b:=hide h;have d:qh (OB w x ib [qJ op,qJ at_,qJ 0,qJ 0,qJ 0,qJ 0,qN,qJ 0,qB 0]):=hide a;clear h a;have HM:qh (gK s (fV op at_) Z=({(fV op at_) with val:=(sS s 9 1 2 63 Z).1},(sS s 9 1 2 63 Z).2)):=by show _=_;subst U;rfl
 clear U;go_enter func181,ntmps181;go_wp2_with fail
 refine(QG b.o).mono ?_;rintro e i ⟨rfl,hI1,hk1⟩;have o1:=d.o.call hk1;obtain⟨⟨j,l⟩,⟨m,n⟩,⟨q,r⟩,⟨t,u⟩,⟨v,y⟩,⟨A,B⟩,⟨C,D⟩,⟨E,F⟩,⟨G,H⟩⟩:=o1.blk.nine;have l1:=o1.lt;generalize sS s 9 1 2 63 Z=ss at*;exact agC
theorem xO{a op at_:Nat}(h:eu w x s Z Y)(b:OB w x a ((fV op at_).cells (qN))){W:qS}(U:(op=63/\W=⟨#[109,101,109,111,114,121,46,115,105,122,101]⟩)\/(op=64/\W=⟨#[109,101,109,111,114,121,46,103,114,111,119]⟩)):qC 181 #[qP x,.string W,qP a] w (kL w x Y s a (gK s (fV op at_) Z)):=by
 rcases U with⟨U,rfl⟩ | ⟨U,rfl⟩;all_goals
  have m:decide (40<=op/\op<=58)=false:=by simp;omega
  have hx:=h.lt;have n:=b.lt;have p:¬a=x:=b.ne;have g:=hide h;have i:qh (OB w x a [qJ op,qJ at_,qJ 0,qJ 0,qJ 0,qJ 0,qN,qJ 0,qB 0]):=hide b;clear h b;have j:qh (gK s (fV op at_) Z=(fV op at_,gY s 0 Z)):=by show _=_;subst U;rfl
  clear U;go_enter func181,ntmps181;go_wp2_with fail
  refine(nP g.o 0).mono ?_;rintro e q ⟨rfl,l,f⟩;have d:=i.o.call f;obtain⟨⟨r,t⟩,-⟩:=d.blk.nine;have l1:=d.lt;go_wp2_with fail
  refine(jF _ op).mono ?_;rintro e u ⟨rfl,rfl⟩;go_wp2;go_end0;unfold kL;rw[j.o];exact⟨rfl,l,⟨_,d,Row.nil _ _ _ _⟩,f.mono (fun k _ (c:k=x)=>.inl c)⟩
theorem Bw{a op at_:Nat}(h:eu w x s Z Y)(b:OB w x a ((fV op at_).cells (qN)))(U:op=17):qC 181 #[qP x,.string ⟨#[99,97,108,108,95,105,110,100,105,114,101,99,116]⟩,qP a] w (kL w x Y s a (gK s (fV op at_) Z)):=by
 have y:decide (40<=op/\op<=58)=false:=by simp;omega
 have hx:=h.lt;have z:=b.lt;have g:¬a=x:=b.ne;have q:=hide h;have r:qh (OB w x a [qJ op,qJ at_,qJ 0,qJ 0,qJ 0,qJ 0,qN,qJ 0,qB 0]):=hide b;clear h b;have i:qh (gK s (fV op at_) Z=({(fV op at_) with xn:=((uS s Z).1:Nat),pX:=Z.at_},gY s 0 (uS s Z).2)):=by show _=_;subst U;rfl
 clear U;go_enter func181,ntmps181;go_wp2_with fail
 refine(ou q.o).mono ?_;rintro e A ⟨rfl,j,l⟩;have d:=r.o.call l;obtain⟨⟨B,C⟩,⟨D,E⟩,⟨F,G⟩,⟨H,I⟩,⟨J,K⟩,⟨L,M⟩,⟨N,O⟩,⟨P,Q⟩,⟨R,T⟩⟩:=d.blk.nine;have l1:=d.lt;generalize uS s Z=us at*;obtain⟨m,st1⟩:=us;simp only at j i ⊢;have t:=(d.set 2 (qJ m)).set 3 (qJ Z.at_);have u:=((l.mono (fun k _ (c:k=x)=>.inl c)).setCell (S:=fun k=>k=x\/k=a) (p:=(qA a 2)) (fun _=>.inr rfl) (qJ m)).setCell (p:=(qA a 3)) (fun _=>.inr rfl) (qJ Z.at_);go_wp2_with fail
 refine(nP ((j.other g _).other g _) 0).mono ?_;rintro e V ⟨rfl,v,n⟩;have f:=t.call n;obtain⟨⟨W,X⟩,-⟩:=f.blk.nine;have l3:=f.lt;go_wp2_with fail
 refine(jF _ op).mono ?_;rintro e wz ⟨rfl,rfl⟩;go_wp2;go_end0;unfold kL;rw[i.o];exact⟨rfl,v,⟨_,f,Row.nil _ _ _ _⟩,u.trans (n.mono (fun k _ (c:k=x)=>.inl c))⟩
theorem Jm{a op at_:Nat}(h:eu w x s Z Y)(b:OB w x a ((fV op at_).cells (qN)))(U:op=14):qC 181 #[qP x,.string ⟨#[98,114,95,116,97,98,108,101]⟩,qP a] w (kL w x Y s a (gK s (fV op at_) Z)):=by
 have I:decide (40<=op/\op<=58)=false:=by simp;omega
 have hx:=h.lt;have J:=b.lt;have i:¬a=x:=b.ne;have A:=hide h;have B:qh (OB w x a [qJ op,qJ at_,qJ 0,qJ 0,qJ 0,qJ 0,qN,qJ 0,qB 0]):=hide b;clear h b;have j:qh (gK s (fV op at_) Z=({(fV op at_) with dF:=(lQ s 20 Z).1,xn:=((uS s (lQ s 20 Z).2).1:Nat),pX:=(lQ s 20 Z).2.at_},(uS s (lQ s 20 Z).2).2)):=by show _=_;subst U;rfl
 clear U;go_enter func181,ntmps181;go_wp2_with fail
 refine(EU A.o 20 qx).mono ?_;rintro e K ⟨⟨lv,rfl,d⟩,r,l⟩;have m:=B.o.call l;obtain⟨⟨L,M⟩,⟨N,O⟩,⟨P,Q⟩,⟨R,T⟩,⟨V,W⟩,⟨X,N5⟩,⟨M6,N6⟩,⟨M7,N7⟩,⟨M8,N8⟩⟩:=m.blk.nine;have l1:=m.lt;generalize lQ s 20 Z=rs at*;obtain⟨f,st1⟩:=rs;simp only at r d j ⊢;obtain⟨p,c,rfl⟩:=Row.shape d;have C:=m.set 6 (.slice p f.length c);have D:=(l.mono (fun k _ (c:k=x)=>.inl c)).setCell (S:=fun k=>k=x\/k=a) (p:=(qA a 6)) (fun _=>.inr rfl) (.slice p f.length c);have t:=hide d;have aa:=l.size;clear d;go_wp2_with fail
 refine(ou (r.other i _)).mono ?_;rintro e E ⟨rfl,u,n⟩;have q:=C.call n;have v:isRow 37 2 fU (fun g=>w.heap.size<=g) f E (.slice p f.length c):=Row.kept (Row.kept t.o ((Kept.refl (fun k=>k=a) _).setCell (p:=(qA a 6)) (fun _=>rfl) _) (fun g _ y (c:g=a)=>qo)) n (fun g _ y (c:g=x)=>qo);have F:=hide v;obtain⟨⟨P0,Q0⟩,-,⟨P2,Q2⟩,⟨P3,Q3⟩,-⟩:=q.blk.nine;have l3:=q.lt;clear v t;generalize uS s st1=us at*;obtain⟨z,ab⟩:=us;simp only at u j ⊢;have G:=(q.set 2 (qJ z)).set 3 (qJ st1.at_);have H:=((D.trans (n.mono (fun k _ (c:k=x)=>.inl c))).setCell (S:=fun k=>k=x\/k=a) (p:=(qA a 2)) (fun _=>.inr rfl) (qJ z)).setCell (p:=(qA a 3)) (fun _=>.inr rfl) (qJ st1.at_);go_wp2_with fail
 refine(jF _ op).mono ?_;rintro e wz ⟨rfl,rfl⟩;go_wp2;go_end0;unfold kL;rw[j.o];exact⟨rfl,(u.other i _).other i _,⟨_,G,Row.kept F.o (((Kept.refl (fun k=>k=a) _).setCell (p:=(qA a 2)) (fun _=>rfl) _).setCell (p:=(qA a 3)) (fun _=>rfl) _) (fun g _ y (c:g=a)=>qo)⟩,H⟩
theorem tQ{a op at_:Nat}(h:eu w x s Z Y)(b:OB w x a ((fV op at_).cells (qN))){W:qS}(U:(op=12/\W=⟨#[98,114]⟩)\/(op=13/\W=⟨#[98,114,95,105,102]⟩)\/(op=16/\W=⟨#[99,97,108,108]⟩)\/(op=32/\W=⟨#[108,111,99,97,108,46,103,101,116]⟩)\/(op=33/\W=⟨#[108,111,99,97,108,46,115,101,116]⟩)\/(op=34/\W=⟨#[108,111,99,97,108,46,116,101,101]⟩)\/(op=35/\W=⟨#[103,108,111,98,97,108,46,103,101,116]⟩)\/(op=36/\W=⟨#[103,108,111,98,97,108,46,115,101,116]⟩)):qC 181 #[qP x,.string W,qP a] w (kL w x Y s a (gK s (fV op at_) Z)):=by
 rcases U with⟨U,rfl⟩ | ⟨U,rfl⟩ | ⟨U,rfl⟩ | ⟨U,rfl⟩ | ⟨U,rfl⟩ | ⟨U,rfl⟩ | ⟨U,rfl⟩ | ⟨U,rfl⟩;all_goals
  have q:decide (40<=op/\op<=58)=false:=by simp;omega
  have hx:=h.lt;have r:=b.lt;have f:¬a=x:=b.ne;have l:=hide h;have m:qh (OB w x a [qJ op,qJ at_,qJ 0,qJ 0,qJ 0,qJ 0,qN,qJ 0,qB 0]):=hide b;clear h b;have g:qh (gK s (fV op at_) Z=({(fV op at_) with xn:=((uS s Z).1:Nat),pX:=Z.at_},(uS s Z).2)):=by show _=_;subst U;rfl
  clear U;go_enter func181,ntmps181;go_wp2_with fail
  refine(ou l.o).mono ?_;rintro e t ⟨rfl,i,j⟩;have d:=m.o.call j;obtain⟨⟨u,v⟩,⟨y,z⟩,⟨A,B⟩,⟨C,D⟩,⟨E,F⟩,⟨G,H⟩,⟨I,J⟩,⟨K,L⟩,⟨M,N⟩⟩:=d.blk.nine;have l1:=d.lt;generalize uS s Z=us at*;obtain⟨n,st1⟩:=us;simp only at i g ⊢;go_wp2_with fail
  refine(jF _ op).mono ?_;rintro e O ⟨rfl,rfl⟩;go_wp2;go_end0;unfold kL;rw[g.o];exact⟨rfl,(i.other f _).other f _,⟨_,(d.set 2 (qJ n)).set 3 (qJ Z.at_),Row.nil _ _ _ _⟩,((j.mono (fun k _ (c:k=x)=>.inl c)).setCell (p:=(qA a 2)) (fun _=>.inr rfl) _).setCell (p:=(qA a 3)) (fun _=>.inr rfl) _⟩
theorem QI{a op at_:Nat}{W:qS}(h:eu w x s Z Y)(b:OB w x a ((fV op at_).cells (qN)))(U:40<=op/\op<=58)(z:(W.toList==[98,108,111,99,107])=false)(A:(W.toList==[108,111,111,112])=false)(B:(W.toList==[105,102])=false)(C:(W.toList==[105,51,50,46,99,111,110,115,116])=false)(D:(W.toList==[105,54,52,46,99,111,110,115,116])=false)(E:(W.toList==[109,101,109,111,114,121,46,115,105,122,101])=false)(F:(W.toList==[109,101,109,111,114,121,46,103,114,111,119])=false)(G:(W.toList==[99,97,108,108,95,105,110,100,105,114,101,99,116])=false)(H:(W.toList==[98,114,95,116,97,98,108,101])=false)(I:(W.toList==[98,114])=false)(J:(W.toList==[98,114,95,105,102])=false)(K:(W.toList==[99,97,108,108])=false)(L:(W.toList==[108,111,99,97,108,46,103,101,116])=false)(M:(W.toList==[108,111,99,97,108,46,115,101,116])=false)(N:(W.toList==[108,111,99,97,108,46,116,101,101])=false)(O:(W.toList==[103,108,111,98,97,108,46,103,101,116])=false)(P:(W.toList==[103,108,111,98,97,108,46,115,101,116])=false):qC 181 #[qP x,.string W,qP a] w (kL w x Y s a (gK s (fV op at_) Z)):=by
 have Q:decide (40<=op/\op<=58)=true:=by simp;omega
 have hx:=h.lt;have R:=b.lt;have d:¬a=x:=b.ne;have t:=hide h;have j:qh (OB w x a [qJ op,qJ at_,qJ 0,qJ 0,qJ 0,qJ 0,qN,qJ 0,qB 0]):=hide b;clear h b;have f:qh (gK s (fV op at_) Z=({(fV op at_) with xn:=((uS s Z).1:Nat),pX:=Z.at_,off:=((uS s (uS s Z).2).1:Nat)},(uS s (uS s Z).2).2)):=by
  show _=_;unfold gK;rw[if_neg (by simp only[fV];omega),if_neg (by simp only[fV];omega),if_neg (by simp only[fV];omega),if_neg (by simp only[fV];omega),if_neg (by simp only[fV];omega),if_neg (by simp only[fV];omega),if_neg (by simp only[fV];omega),if_pos (by simp only[fV];omega)];rfl
 clear U;obtain⟨⟨T,V⟩,-⟩:=j.o.blk.nine;go_enter func181,ntmps181;go_wp2_with fail
 refine(jF _ op).mono ?_;rintro e X ⟨rfl,rfl⟩;go_wp2_with fail
 refine(ou t.o).mono ?_;rintro e w1 ⟨rfl,l,m⟩;have g:=j.o.call m;obtain⟨⟨M0,N0⟩,⟨M1,N1⟩,⟨M2,N2⟩,⟨M3,N3⟩,⟨M4,N4⟩,⟨M5,N5⟩,⟨M6,N6⟩,⟨M7,N7⟩,⟨M8,N8⟩⟩:=g.blk.nine;have l1:=g.lt;generalize uS s Z=us at*;obtain⟨n,st1⟩:=us;simp only at l f ⊢;have u:=(g.set 2 (qJ n)).set 3 (qJ Z.at_);have v:=((m.mono (fun k _ (c:k=x)=>.inl c)).setCell (S:=fun k=>k=x\/k=a) (p:=(qA a 2)) (fun _=>.inr rfl) (qJ n)).setCell (p:=(qA a 3)) (fun _=>.inr rfl) (qJ Z.at_);go_wp2_with fail
 refine(ou ((l.other d _).other d _)).mono ?_;rintro e w3 ⟨rfl,q,r⟩;have i:=u.call r;obtain⟨-,-,-,-,⟨P4,Q4⟩,-⟩:=i.blk.nine;have l3:=i.lt;generalize uS s st1=us at*;obtain⟨y,aa⟩:=us;simp only at q f ⊢;go_wp2;go_end0;unfold kL;rw[f.o];exact⟨rfl,(q.other d _).alloc _,⟨_,(i.set 4 (qJ y)).alloc _,Row.nil _ _ _ _⟩,((v.trans (r.mono (fun k _ (c:k=x)=>.inl c))).setCell (p:=(qA a 4)) (fun _=>.inr rfl) _).alloc _⟩
theorem TU{a op at_:Nat}{W:qS}(h:eu w x s Z Y)(b:OB w x a ((fV op at_).cells (qN)))(U:¬(40<=op/\op<=58))(L:¬(op=2\/op=3\/op=4)/\op≠65/\op≠66/\¬(op=63\/op=64)/\op≠17/\op≠14/\¬(op=12\/op=13\/op=16\/(32<=op/\op<=36)))(g:(W.toList==[98,108,111,99,107])=false)(i:(W.toList==[108,111,111,112])=false)(j:(W.toList==[105,102])=false)(k:(W.toList==[105,51,50,46,99,111,110,115,116])=false)(l:(W.toList==[105,54,52,46,99,111,110,115,116])=false)(m:(W.toList==[109,101,109,111,114,121,46,115,105,122,101])=false)(n:(W.toList==[109,101,109,111,114,121,46,103,114,111,119])=false)(p:(W.toList==[99,97,108,108,95,105,110,100,105,114,101,99,116])=false)(q:(W.toList==[98,114,95,116,97,98,108,101])=false)(r:(W.toList==[98,114])=false)(t:(W.toList==[98,114,95,105,102])=false)(u:(W.toList==[99,97,108,108])=false)(v:(W.toList==[108,111,99,97,108,46,103,101,116])=false)(y:(W.toList==[108,111,99,97,108,46,115,101,116])=false)(z:(W.toList==[108,111,99,97,108,46,116,101,101])=false)(A:(W.toList==[103,108,111,98,97,108,46,103,101,116])=false)(B:(W.toList==[103,108,111,98,97,108,46,115,101,116])=false):qC 181 #[qP x,.string W,qP a] w (kL w x Y s a (gK s (fV op at_) Z)):=by
 have C:decide (40<=op/\op<=58)=false:=by simp;omega
 have hx:=h.lt;have D:=b.lt;have E:¬a=x:=b.ne;have d:=hide h;have c:qh (OB w x a [qJ op,qJ at_,qJ 0,qJ 0,qJ 0,qJ 0,qN,qJ 0,qB 0]):=hide b;clear h b;have f:qh (gK s (fV op at_) Z=(fV op at_,Z)):=by
  show _=_;unfold gK;rw[if_neg (by simp only[fV];omega),if_neg (by simp only[fV];omega),if_neg (by simp only[fV];omega),if_neg (by simp only[fV];omega),if_neg (by simp only[fV];omega),if_neg (by simp only[fV];omega),if_neg (by simp only[fV];omega),if_neg (by simp only[fV];omega)]
 clear U L;obtain⟨⟨F,G⟩,-⟩:=c.o.blk.nine;go_enter func181,ntmps181;go_wp2_with fail
 refine(jF _ op).mono ?_;rintro e H ⟨rfl,rfl⟩;go_wp2;go_end0;unfold kL;rw[f.o];exact⟨rfl,d.o,⟨_,c.o,Row.nil _ _ _ _⟩,Kept.refl _ _⟩
theorem Xw{c op at_:Nat}(b:op<256)(h:eu w x s Z Y)(a:OB w x c ((fV op at_).cells (qN))):qC 181 #[qP x,.string (dN op),qP c] w (kL w x Y s c (gK s (fV op at_) Z)):=by
 by_cases d:op=2
 .have hw:dN op=⟨#[98,108,111,99,107]⟩:=by subst d;rfl
  rw[hw];exact zb h a (.inl ⟨d,rfl⟩)
 by_cases e:op=3
 .have hw:dN op=⟨#[108,111,111,112]⟩:=by subst e;rfl
  rw[hw];exact zb h a (.inr (.inl ⟨e,rfl⟩))
 by_cases f:op=4
 .have hw:dN op=⟨#[105,102]⟩:=by subst f;rfl
  rw[hw];exact zb h a (.inr (.inr ⟨f,rfl⟩))
 by_cases g:op=65
 .have hw:dN op=⟨#[105,51,50,46,99,111,110,115,116]⟩:=by subst g;rfl
  rw[hw];exact Gx h a g
 by_cases i:op=66
 .have hw:dN op=⟨#[105,54,52,46,99,111,110,115,116]⟩:=by subst i;rfl
  rw[hw];exact Gw h a i
 by_cases j:op=63
 .have hw:dN op=⟨#[109,101,109,111,114,121,46,115,105,122,101]⟩:=by subst j;rfl
  rw[hw];exact xO h a (.inl ⟨j,rfl⟩)
 by_cases k:op=64
 .have hw:dN op=⟨#[109,101,109,111,114,121,46,103,114,111,119]⟩:=by subst k;rfl
  rw[hw];exact xO h a (.inr ⟨k,rfl⟩)
 by_cases l:op=17
 .have hw:dN op=⟨#[99,97,108,108,95,105,110,100,105,114,101,99,116]⟩:=by subst l;rfl
  rw[hw];exact Bw h a l
 by_cases m:op=14
 .have hw:dN op=⟨#[98,114,95,116,97,98,108,101]⟩:=by subst m;rfl
  rw[hw];exact Jm h a m
 by_cases n:op=12
 .have hw:dN op=⟨#[98,114]⟩:=by subst n;rfl
  rw[hw];exact tQ h a (.inl ⟨n,rfl⟩)
 by_cases o:op=13
 .have hw:dN op=⟨#[98,114,95,105,102]⟩:=by subst o;rfl
  rw[hw];exact tQ h a (.inr (.inl ⟨o,rfl⟩))
 by_cases p:op=16
 .have hw:dN op=⟨#[99,97,108,108]⟩:=by subst p;rfl
  rw[hw];exact tQ h a (.inr (.inr (.inl ⟨p,rfl⟩)))
 by_cases q:op=32
 .have hw:dN op=⟨#[108,111,99,97,108,46,103,101,116]⟩:=by subst q;rfl
  rw[hw];exact tQ h a (.inr (.inr (.inr (.inl ⟨q,rfl⟩))))
 by_cases r:op=33
 .have hw:dN op=⟨#[108,111,99,97,108,46,115,101,116]⟩:=by subst r;rfl
  rw[hw];exact tQ h a (.inr (.inr (.inr (.inr (.inl ⟨r,rfl⟩)))))
 by_cases t:op=34
 .have hw:dN op=⟨#[108,111,99,97,108,46,116,101,101]⟩:=by subst t;rfl
  rw[hw];exact tQ h a (.inr (.inr (.inr (.inr (.inr (.inl ⟨t,rfl⟩))))))
 by_cases u:op=35
 .have hw:dN op=⟨#[103,108,111,98,97,108,46,103,101,116]⟩:=by subst u;rfl
  rw[hw];exact tQ h a (.inr (.inr (.inr (.inr (.inr (.inr (.inl ⟨u,rfl⟩)))))))
 by_cases v:op=36
 .have hw:dN op=⟨#[103,108,111,98,97,108,46,115,101,116]⟩:=by subst v;rfl
  rw[hw];exact tQ h a (.inr (.inr (.inr (.inr (.inr (.inr (.inr ⟨v,rfl⟩)))))))
 have y:((dN op).toList==[98,108,111,99,107])=false:=by
  rw[ByteArray.toList_eq];exact(Io ⟨op,b⟩).trans (by simp[d])
 have z:((dN op).toList==[108,111,111,112])=false:=by
  rw[ByteArray.toList_eq];exact(MG ⟨op,b⟩).trans (by simp[e])
 have A:((dN op).toList==[105,102])=false:=by
  rw[ByteArray.toList_eq];exact(VD ⟨op,b⟩).trans (by simp[f])
 have B:((dN op).toList==[105,51,50,46,99,111,110,115,116])=false:=by
  rw[ByteArray.toList_eq];exact(Il ⟨op,b⟩).trans (by simp[g])
 have C:((dN op).toList==[105,54,52,46,99,111,110,115,116])=false:=by
  rw[ByteArray.toList_eq];exact(Ik ⟨op,b⟩).trans (by simp[i])
 have D:((dN op).toList==[109,101,109,111,114,121,46,115,105,122,101])=false:=by
  rw[ByteArray.toList_eq];exact(EC ⟨op,b⟩).trans (by simp[j])
 have E:((dN op).toList==[109,101,109,111,114,121,46,103,114,111,119])=false:=by
  rw[ByteArray.toList_eq];exact(ED ⟨op,b⟩).trans (by simp[k])
 have F:((dN op).toList==[99,97,108,108,95,105,110,100,105,114,101,99,116])=false:=by
  rw[ByteArray.toList_eq];exact(BO ⟨op,b⟩).trans (by simp[l])
 have G:((dN op).toList==[98,114,95,116,97,98,108,101])=false:=by
  rw[ByteArray.toList_eq];exact(KY ⟨op,b⟩).trans (by simp[m])
 have H:((dN op).toList==[98,114])=false:=by
  rw[ByteArray.toList_eq];exact(abh ⟨op,b⟩).trans (by simp[n])
 have I:((dN op).toList==[98,114,95,105,102])=false:=by
  rw[ByteArray.toList_eq];exact(Tp ⟨op,b⟩).trans (by simp[o])
 have J:((dN op).toList==[99,97,108,108])=false:=by
  rw[ByteArray.toList_eq];exact(WS ⟨op,b⟩).trans (by simp[p])
 have K:((dN op).toList==[108,111,99,97,108,46,103,101,116])=false:=by
  rw[ByteArray.toList_eq];exact(Ij ⟨op,b⟩).trans (by simp[q])
 have L:((dN op).toList==[108,111,99,97,108,46,115,101,116])=false:=by
  rw[ByteArray.toList_eq];exact(Ii ⟨op,b⟩).trans (by simp[r])
 have M:((dN op).toList==[108,111,99,97,108,46,116,101,101])=false:=by
  rw[ByteArray.toList_eq];exact(Ih ⟨op,b⟩).trans (by simp[t])
 have N:((dN op).toList==[103,108,111,98,97,108,46,103,101,116])=false:=by
  rw[ByteArray.toList_eq];exact(Gq ⟨op,b⟩).trans (by simp[u])
 have O:((dN op).toList==[103,108,111,98,97,108,46,115,101,116])=false:=by
  rw[ByteArray.toList_eq];exact(Gp ⟨op,b⟩).trans (by simp[v])
 by_cases P:40<=op/\op<=58
 .exact QI h a P y z A B C D E F G H I J K L M N O
 exact TU h a P qo y z A B C D E F G H I J K L M N O
end
theorem yz(x:Nat)(w:qW):qC 39 #[qB x] w fun e w'=>e=.returned (.bool (kT x))/\w'=w:=by
 have a:decide ((97:Int)<=(x:Int))=decide (97<=x):=decide_eq_decide.2 qo;have b:decide ((x:Int)<=(122:Int))=decide (x<=122):=decide_eq_decide.2 qo;have c:decide ((65:Int)<=(x:Int))=decide (65<=x):=decide_eq_decide.2 qo;have d:decide ((x:Int)<=(90:Int))=decide (x<=90):=decide_eq_decide.2 qo;have f:decide ((48:Int)<=(x:Int))=decide (48<=x):=decide_eq_decide.2 qo;have g:decide ((x:Int)<=(57:Int))=decide (x<=57):=decide_eq_decide.2 qo;have h:((x:Int)==95)=(x==95):=by rw[Bool.eq_iff_iff];simp;omega
 have i:((x:Int)==46)=(x==46):=by rw[Bool.eq_iff_iff];simp;omega
 have j:qh (kT x=((decide ((97:Int)<=(x:Int))&&decide ((x:Int)<=(122:Int)))||(decide ((65:Int)<=(x:Int))&&decide ((x:Int)<=(90:Int)))||(decide ((48:Int)<=(x:Int))&&decide ((x:Int)<=(57:Int)))||(x:Int)==95||(x:Int)==46)):=by
  show _=_;rw[a,b,c,d,f,g,h,i];rfl
 clear a b c d f g h i;generalize (x:Int)=z at*;cases k:decide ((97:Int)<=z)<;>cases l:decide (z<=(122:Int))<;>cases m:decide ((65:Int)<=z)<;>cases n:decide (z<=(90:Int))<;>cases p:decide ((48:Int)<=z)<;>cases q:decide (z<=(57:Int))<;>cases r:(z==95);all_goals first
  | (exfalso;simp at k l m n p q r;omega)
  | skip
 all_goals
  have s:=hide (j.o.trans (by rw[k,l,m,n,p,q,r]));clear j;go_enter func39,ntmps39;go_wp2;go_ret;exact⟨by rw[s.o];rfl,rfl⟩
theorem FT(t:qS)(w:qW)(l:t.size<=20):qC 112 #[.string t] w fun e w'=>e=.returned (.bool (iE t))/\w'=w:=by
 have m:∀(x:Bool) (w:qW),(Op.unary .not (.bool x)).run prog w=.ok (.bool (!x)) w:=fun _ _=>rfl;have n:¬(20:Int)<(t.size:Int):=qo;by_cases a:t.size=0
 .have HB:qh (iE t=false):=by show _=_;simp[iE,a]
  have i:(t.size:Int)<1:=qo;clear a;go_enter func112,ntmps112;go_wp2;go_ret;exact⟨by rw[HB.o];rfl,rfl⟩
 have i:¬(t.size:Int)<1:=qo;have c:(t.size !=0)=true:=by simp[a]
 have d:qh (iE t=(tl t 0).all kT):=by show _=_;unfold iE;rw[c];simp
 clear a c;go_enter func112,ntmps112;go_wp2;go_loop [3] (fun q=>∃k:Nat,k<=t.size/\q=qJ k/\(tl t 0).all kT=(tl t k).all kT) (fun q=>t.size - (intOf q).toNat)
 case atStart=>exact⟨0,qZ,rfl,rfl⟩
 obtain⟨k,X,rfl,f⟩:=hrel;have b:=hide f;clear f;by_cases g:k<t.size
 .have j:(k:Int)<(t.size:Int):=qo;cases hx:kT t[k].toNat with
  | true=>
   have HN:=hide (b.o.trans (WG g hx));have HX:=hide hx;clear hx;go_wp2_with fail
   refine(yz _ _).mono ?_;exact ae6
  | false=>
   have HN:=hide (b.o.trans (aaL g hx));have HX:=hide hx;clear hx;go_wp2_with fail
   refine(yz _ _).mono ?_;rintro e w3 ⟨rfl,rfl⟩;rw[HX.o];go_wp2;go_ret;exact⟨by rw[d.o,HN.o];rfl,rfl⟩
 have HN:qh ((tl t 0).all kT=true):=b.o.trans (by rw[OH qo];rfl);have j:¬(k:Int)<(t.size:Int):=qo;go_wp2;go_ret;exact⟨by rw[d.o,HN.o];rfl,rfl⟩
theorem DL(t:qS)(w:qW)(l:t.size<=20):qC 74 #[.string t] w fun e w'=>e=.returned (.bool (kF t 0))/\w'=w:=by
 have m:¬(20:Int)<(t.size:Int):=qo;go_enter func74,ntmps74;go_wp2;go_loop [3] (fun q=>∃k:Nat,k<=t.size/\q=qJ k/\kF t 0=kF t k) (fun q=>t.size - (intOf q).toNat)
 case atStart=>exact⟨0,qZ,rfl,rfl⟩
 obtain⟨k,X,rfl,c⟩:=hrel;have a:=hide c;clear c;by_cases b:k<t.size
 .have d:(k:Int)<(t.size:Int):=qo;by_cases U:32<=t[k].toNat
  .have f:¬((t[k].toNat:Nat):Int)<32:=qo;by_cases L:t[k].toNat<=126
   .have g:¬(126:Int)<((t[k].toNat:Nat):Int):=qo;by_cases h3:t[k].toNat=34
    .have i:(((t[k].toNat:Nat):Int)==34)=true:=by simp;omega
     have HN:=hide (a.o.trans (y5 b (by simp[Bz,h3])));clear U L h3;exact YC
    have i:(((t[k].toNat:Nat):Int)==34)=false:=by simp;omega
    by_cases h4:t[k].toNat=92
    .have j:(((t[k].toNat:Nat):Int)==92)=true:=by simp;omega
     have HN:=hide (a.o.trans (y5 b (by simp[Bz,h4])));clear U L h3 h4;exact YC
    have j:(((t[k].toNat:Nat):Int)==92)=false:=by simp;omega
    have HN:=hide (a.o.trans (KD b (by simp[Bz,U,L,h3,h4])));clear U L h3 h4;go_wp2;go_round
    case rel=>exact⟨k+1,qo,by go_num,HN.o⟩
    simp[intOf];omega
   have g:(126:Int)<((t[k].toNat:Nat):Int):=qo;have HN:=hide (a.o.trans (y5 b (by simp[Bz,L])));clear U L;exact YC
  have f:((t[k].toNat:Nat):Int)<32:=qo;have HN:=hide (a.o.trans (y5 b (by simp[Bz,U])));clear U;exact YC
 have HN:=hide (a.o.trans (KE qo));have d:¬(k:Int)<(t.size:Int):=qo;exact YC
section
def wE(Z J:RS):Prop:=J.end_=Z.end_/\(J.bad=none->Z.bad=none/\Z.at_<=J.at_)
variable {s:qS} {Z J afF:RS}
theorem wE.refl(Z:RS):wE Z Z:=⟨rfl,fun h=>⟨h,qR⟩⟩
theorem wE.trans(a:wE Z J)(b:wE J afF):wE Z afF:=⟨b.1.trans a.1,fun h=>⟨(a.2 (b.2 h).1).1,Nat.le_trans (a.2 (b.2 h).1).2 (b.2 h).2⟩⟩
theorem nC(p:Nat):wE Z (dL Z p):=⟨tZ p,fun h=>absurd h (jO p)⟩
theorem oN:wE Z (dO s Z).2:=by
 obtain⟨a,e,b⟩:=Z;cases b with
 | some q=>exact wE.refl _
 | none=>refine⟨vX,fun h=>⟨rfl,?_⟩⟩;by_cases hc:a<e<;>simp[dO,hc]
theorem ZP(h:(dO s Z).2.bad=none):(dO s Z).2.at_=Z.at_+1/\Z.at_<Z.end_/\(dO s Z).1=bt s Z.at_:=by
 obtain⟨a,e,b⟩:=Z;cases b with
 | some q=>simp[dO] at h
 | none=>
  by_cases hc:a<e
  .simp[dO,hc]
  simp[dO,hc] at h
theorem aez:(dO s Z).1<256:=by
 unfold dO;split
 .exact Nat.zero_lt_succ _
 split
 .exact xg _ _
 exact Nat.zero_lt_succ _
theorem Az(b:Nat):wE Z (gY s b Z):=by
 unfold gY;split
 .exact oN
 exact oN.trans (nC _)
theorem AA:wE Z (jq s Z).2:=by
 unfold jq;split
 .exact oN
 split
 .exact oN
 exact oN.trans (nC _)
theorem WH:∀(k i n a:Nat) (Z:RS),wE Z (vv s k i n a Z).2
 | 0,_,_,_,Z=>wE.refl Z
 | k+1,i,n,a,Z=>by
  have L:wE Z (if i=4/\15<(dO s Z).1 then dL (dO s Z).2 Z.at_ else(dO s Z).2):=by
   split
   .exact oN.trans (nC _)
   exact oN
  unfold vv;generalize (if i=4/\15<(dO s Z).1 then dL (dO s Z).2 Z.at_ else(dO s Z).2)=b at*;simp only;split
  .exact L
  exact L.trans (WH k _ _ _ _)
theorem qa:wE Z (uS s Z).2:=WH 5 0 0 1 Z
theorem WI(K a b c:Nat):∀(m k:Nat) (z:Int) (Z:RS),wE Z (rX s K a b c m k z Z).2
 | 0,_,_,Z=>wE.refl Z
 | m+1,k,z,Z=>by
  unfold rX;split
  .exact oN
  split
  .exact oN.trans (nC _)
  split
  .exact oN
  exact oN.trans (WI K a b c m _ _ _)
theorem SA(K a b c:Nat):wE Z (sS s K a b c Z).2:=WI K a b c _ _ _ _
theorem mG(most:Nat):wE Z (dU s most Z).2:=by
 unfold dU;simp only;split
 .exact qa.trans (nC _)
 exact qa
theorem KF:∀(k:Nat) (M:List (Nat×Nat)) (Z:RS),wE Z (rM s k M Z).2
 | 0,_,Z=>wE.refl Z
 | k+1,M,Z=>by
  unfold rM;split
  .exact wE.refl _
  exact qa.trans (KF k _ _)
theorem KG(most:Nat):wE Z (lQ s most Z).2:=(mG most).trans (KF _ _ _)
theorem Yr(i:fA):wE Z (iZ s i Z).2:=by
 unfold iZ;split
 .exact wE.refl _
 split
 .exact⟨rfl,fun h=>⟨h,Nat.le_succ _⟩⟩
 split
 .exact AA
 simp only;split
 .exact(SA _ _ _ _).trans (nC _)
 exact SA _ _ _ _
theorem SC(i:fA):wE Z (gK s i Z).2:=by
 unfold gK;split
 .exact Yr i
 split
 .exact SA _ _ _ _
 split
 .exact SA _ _ _ _
 split
 .exact Az 0
 split
 .exact qa.trans (Az 0)
 split
 .exact(KG 20).trans qa
 split
 .exact qa
 split
 .exact qa.trans qa
 exact wE.refl _
end
def DD(M:qS)(kd:Nat):Nat->qS
 | 0=>M
 | j+1=>DD M kd j++strOfNums [(kd:Int)]
def jh(s:qS):Nat->qS->RS->qS×RS
 | 0,M,Z=>(M,Z)
 | k+1,M,Z=>if Z.bad≠none then(M,Z)
  else if 50<M.size+(uS s Z).1 then(M,dL (uS s Z).2 Z.at_)
  else jh s k (DD M (jq s (uS s Z).2).1 (uS s Z).1) (jq s (uS s Z).2).2
def jW(op:Nat)(opn:qS)(at_:Nat)(Z:RS):qS×RS:=
 if(dN op).data.toList.isEmpty\/(op=5/\(opn.size=0\/bt opn (opn.size - 1)≠105)) then(opn,dL Z at_)
 else if op=11 then(opn.extract 0 (opn.size - 1),Z)
 else if op=5 then(opn.extract 0 (opn.size - 1)++⟨#[101]⟩,Z)
 else if 50<=opn.size/\(op=4\/op=2\/op=3) then(opn,dL Z at_)
 else if op=4 then(opn++⟨#[105]⟩,Z)
 else if op=2\/op=3 then(opn++⟨#[98]⟩,Z)
 else(opn,Z)
def jr(s:qS):Nat->qS->List fA->RS->List fA×Nat×RS
 | 0,_,M,Z=>(M,0,Z)
 | f+1,opn,M,Z=>if Z.bad≠none then(M,0,Z)
  else if(dO s Z).1=11/\opn.size=0 then(M,Z.at_,(dO s Z).2)
  else jr s f (jW (dO s Z).1 opn Z.at_ (dO s Z).2).1 (M++[(gK s (fV (dO s Z).1 Z.at_) (jW (dO s Z).1 opn Z.at_ (dO s Z).2).2).1]) (gK s (fV (dO s Z).1 Z.at_) (jW (dO s Z).1 opn Z.at_ (dO s Z).2).2).2
def kH(s:qS)(Z:RS):qS×RS:=jh s (uS s Z).1 ⟨#[]⟩ (uS s Z).2
def mF(s:qS)(Z:RS):List fA×Nat×RS:=jr s (s.size+2) ⟨#[]⟩ [] (kH s Z).2
def kW(ok:Nat->Prop)(i:fA)(w:World)(cs:List Value):Prop:=∃lv,cs=i.cells lv/\isRow 37 2 fU ok i.dF w lv
theorem fB{cs:qV}{k:Nat}{v:qv}(h:k<cs.length):(cs.set k v).getD k undef=v:=by simp[List.getD_eq_getElem?_getD,h]
theorem qG{cs:qV}{k:Nat}{v:qv}(h:k<cs.length)(a:cs.getD k undef=v):cs.set k v=cs:=by
 subst a;rw[List.getD_eq_getElem?_getD,List.getElem?_eq_getElem h];exact List.set_getElem_self h
theorem getD_set_ne{cs:qV}{k j:Nat}{v:qv}(h:k≠j):(cs.set k v).getD j undef=cs.getD j undef:=by simp[List.getD_eq_getElem?_getD,List.getElem?_set_ne h]
theorem OB.cell{w:qW}{b g k:Nat}{cs:qV}{v:qv}(h:OB w b g cs)(X:k<cs.length)(a:cs.getD k undef=v):w.cell? (qA g k)=some v/\w.frozen? (qA g k)=false:=by
 have:=h.blk k X;rw[a] at this;exact this
theorem AY(M:qS)(a:Nat):∀j,(DD M a j).size=M.size+j
 | 0=>rfl
 | j+1=>by rw[DD,ByteArray.size_append,strOfNums_size,AY M a j];rfl
section
variable {S:qD} {w w':qW} {x Y:Nat} {s:qS} {Z:RS}
theorem jb(V:qW)(g:Nat)(z:Int)(h:V.cell? (qA g 0)=some (qB z)):(convert 86 9 (.slice (some (qA g 0)) 1 1)).run prog V=.ok (.string (strOfNums [z])) V:=by
 refine run_convert_bytes_arg (P:=prog) V 86 5 underlying86 underlying5 g 0 1 1 [z] rfl (fun i a=>?_) 9 underlying9;obtain rfl:i=0:=qo;simpa using h
theorem rD(W:qW)(z:Int):(W.alloc (.cells #[qB z] 5)).cell? (qA W.heap.size 0)=some (qB z):=(kY.new W #[qB z] 5 0 qs).1
def AB(w:World)(x Y:Nat)(s:qS)(fb f:Nat)(cs:List Value)(Z:RS)(e:Ending)(w':World):Prop:=
 qU e/\eu w' x s (mF s Z).2.2 Y/\(∃lv,OB w' x fb (((cs.set (f*7+2) (.string (kH s Z).1)).set (f*7+3) lv).set (f*7+4) (qJ ((mF s Z).2.1:Nat)))/\gu 79 9 kW (fun g=>w.heap.size<=g) (mF s Z).1 w' lv)/\Kept (fun k=>k=x\/k=fb) w w'
theorem AB.bad{fb f:Nat}{cs:qV}{M:qS}{J:RS}(b:kH s Z=(M,J))(hb:J.bad≠none)(hI:eu w' x s J Y)(c:OB w' x fb (cs.set (f*7+2) (.string M)))(X:Kept (fun k=>k=x\/k=fb) w w')(hc:f*7+6<cs.length)
  (c3:cs.getD (f*7+3) undef=qN) (c4:cs.getD (f*7+4) undef=qJ 0):AB w x Y s fb f cs Z (.returned (.tuple #[])) w':=by
 have a:mF s Z=([],0,J):=by
  unfold mF;rw[b];show jr s (s.size+1+1) ⟨#[]⟩ [] J=_;rw[jr,if_pos hb]
 refine⟨rfl,by rw[a];exact hI,⟨qN,?_,?_⟩,X⟩
 .rw[a,b];have d:(cs.set (f*7+2) (.string M)).set (f*7+3) (qN)=cs.set (f*7+2) (.string M):=qG (by rw[List.length_set];omega) (by rw[getD_set_ne qo];exact c3);have e:(cs.set (f*7+2) (.string M)).set (f*7+4) (qJ 0)=cs.set (f*7+2) (.string M):=qG (by rw[List.length_set];omega) (by rw[getD_set_ne qo];exact c4);show OB w' x fb (((cs.set (f*7+2) (.string M)).set (f*7+3) (qN)).set (f*7+4) (qJ 0));rw[d,e];exact c
 rw[a];exact⟨[],Row.nil _ _ _ _,trivial⟩
theorem kW.kept{S ok:qD}{w w':qW}{t:fA}{cs:qV}(h:kW ok t w cs)(X:Kept S w w')(b:∀g,g<w.heap.size->ok g->¬S g):kW ok t w' cs:=by
 obtain⟨c,e,a⟩:=h;exact⟨c,e,Row.kept a X b⟩
theorem kW.grown{ok:qD}{w w':qW}{t:fA}{cs:qV}{b n B:Nat}{v:qv}{xs:qV}(h:kW ok t w cs)(c:w.ownsRow B 79 b v n xs)(d:w.grownBy w' v.ownBlock):kW ok t w' cs:=by
 obtain⟨f,e,a⟩:=h;exact⟨f,e,Row.grown a c qx d⟩
theorem xG{S ok:qD}{w w':qW}{a:List fA}{lv:qv}(h:gu 79 9 kW ok a w lv)(X:Kept S w w')(b:∀g,g<w.heap.size->ok g->¬S g):gu 79 9 kW ok a w' lv:=by
 obtain⟨css,c,d⟩:=h;exact⟨css,Row.kept c X b,d.to (fun _ _ hh=>⟨hh.1.kept X b,hh.2⟩)⟩
theorem Sm{a:Nat}{opn:qS}{b:List fA}{Z:RS}(hb:Z.bad=none)(c:¬((dO s Z).1=11/\opn.size=0)):jr s (a+1) opn b Z=jr s a (jW (dO s Z).1 opn Z.at_ (dO s Z).2).1 (b++[(gK s (fV (dO s Z).1 Z.at_) (jW (dO s Z).1 opn Z.at_ (dO s Z).2).2).1]) (gK s (fV (dO s Z).1 Z.at_) (jW (dO s Z).1 opn Z.at_ (dO s Z).2).2).2:=by
 rw[jr,if_neg (by simp[hb]),if_neg c]
theorem Ve{b:Nat}{opn:qS}{a:List fA}{Z:RS}(hb:Z.bad=none)(c:(dO s Z).1=11/\opn.size=0):jr s (b+1) opn a Z=(a,Z.at_,(dO s Z).2):=by
 rw[jr,if_neg (by simp[hb]),if_pos c]
theorem Vf{b:Nat}{opn:qS}{a:List fA}{Z:RS}(hb:Z.bad≠none):jr s (b+1) opn a Z=(a,0,Z):=by
 rw[jr,if_pos hb]
def lenOf:Option Value->Nat
 | some (.slice _ n _)=>n
 | _=>0
end
def vM(x:Nat):Bool:=kT x||decide (x=36)||decide (x=45)||decide (x=61)
theorem Gn(x:Nat)(w:qW):qC 14 #[qB x] w fun e w'=>e=.returned (.bool (vM x))/\w'=w:=by
 go_enter func14,ntmps14;go_wp2_with fail
 refine(yz x _).mono ?_;rintro e a ⟨rfl,rfl⟩;cases hb:kT x
 .by_cases U:x=36
  .subst U;go_wp2;go_ret;exact⟨by simp[vM],rfl⟩
  have b:((x:Int)==36)=false:=qe;by_cases L:x=45
  .subst L;go_wp2;go_ret;exact⟨by simp[vM],rfl⟩
  have c:((x:Int)==45)=false:=qe;by_cases h3:x=61
  .subst h3;go_wp2;go_ret;exact⟨by simp[vM],rfl⟩
  have d:((x:Int)==61)=false:=qe;go_wp2;go_ret;exact⟨by simp[vM,hb,U,L,h3],rfl⟩
 go_wp2;go_ret;exact⟨by simp[vM,hb],rfl⟩
theorem aeZ(a b:Int)(w:qW):qC 24 #[qJ a,qJ b] w fun e w'=>e=.returned (qJ (if a<0\/b<a then b else a))/\w'=w:=by
 go_enter func24,ntmps24;by_cases U:a<0
 .go_wp2;go_ret;exact⟨by simp[*],rfl⟩
 by_cases L:b<a
 .go_wp2;go_ret;exact⟨by simp[*],rfl⟩
 go_wp2;go_ret;exact⟨by simp[*],rfl⟩
theorem SI(b:Nat)(hb:b<256)(w:qW):qC 25 #[qJ b] w fun e w'=>e=.returned (.string (strOfNums [(b:Int)]))/\qK w w':=by
 have hw:IntKind.u8.wrap (b:Int)=(b:Int):=by
  exact IntWalk.u8_in _ ⟨qo,qo⟩
 have a:∀(W:qW) (z:Int),(convert 86 9 (.slice (some (qA W.heap.size 0)) 1 1)).run prog (W.alloc (.cells #[qB z] 5))=.ok (.string (strOfNums [z])) (W.alloc (.cells #[qB z] 5)):=fun W z=>jb _ _ _ (rD W z);go_enter func25,ntmps25;go_wp2;go_ret;exact⟨rfl,qr.alloc _⟩
def XA(n:Nat):qS:=strOfNums [(n:Int)]
theorem Ba(n:Nat):(XA n).size=1:=by unfold XA;rw[strOfNums_size];rfl
theorem aaR(n:Nat)(b:n<128)(w:qW):qC 27 #[qJ n] w fun e w'=>e=.returned (.string (XA n))/\qK w w':=by
 have c:¬(127:Int)<(n:Int):=qo;have hc:¬9223372036854775807<(0:Nat)+(strOfNums [(n:Int)]).size:=by rw[strOfNums_size];simp
 go_enter func27,ntmps27;go_wp2_with fail
 refine wp_loop_rounds 1 ?_;rw[rounds_succ];go_wp2_with fail
 refine(SI n qo _).mono ?_;rintro e d ⟨rfl,a⟩;have f:(⟨#[]⟩:qS)++strOfNums [(n:Int)]=strOfNums [(n:Int)]:=by ext1;simp
 go_wp2;go_ret;exact⟨by simp[XA],a⟩
theorem Yw(s:qS)(a:s.size<128)(w:qW):qC 28 #[.string s] w fun e w'=>e=.returned (.string (XA s.size++s))/\qK w w':=by
 have hc:¬9223372036854775807<(XA s.size).size+s.size:=by rw[Ba];omega
 go_enter func28,ntmps28;go_wp2_with fail
 refine(aaR s.size a _).mono ?_;rintro e c ⟨rfl,b⟩;go_wp2;go_ret;exact⟨rfl,b⟩
theorem Mj(k:Nat)(s:qS)(w:qW):qC 32 #[qJ k,qJ 0,.string s] w fun e w'=>e=.returned (.string ⟨#[]⟩)/\w'=w:=by
 go_enter func32,ntmps32;go_wp2;go_ret;exact⟨rfl,rfl⟩
section
variable {w0 w:qW} {x tb A i Y:Nat} {ids uses:qv} {r:List (Nat×qV)} {c p:Nat} {s n:qS}
theorem XV(a:Qh s n)(w:qW):qC 112 #[.string n] w fun e w'=>e=.returned (.bool true)/\w'=w:=by
 have h:n.size<=20/\iE n=true:=by rcases a with⟨rfl,rfl⟩ | ⟨rfl,rfl⟩<;>exact⟨qx,qk⟩
 rw[<-h.2];exact FT n w h.1
theorem Ia(h:fZ w0 w (TL x tb A i Y ids uses r))(a:toks[i]?=some (119,s,p))(b:Qh s n):
  qC 66 #[qP x] w (AJ w0 (.string n) (TL x tb A (i+1) Y ids uses r)):=by
 have f:=hide b;have g:1<=s.size/\s.extract 1 s.size=n/\∀h:0<s.size,s[0].toNat=36:=by
  rcases b with⟨rfl,rfl⟩ | ⟨rfl,rfl⟩<;>exact⟨qx,rfl,fun _=>rfl⟩
 obtain⟨U,L,h3⟩:=g;have k:(1:Int)<=s.size:=qo;have l:(0:Int)<s.size:=qo;have m:(((s[0]' qo).toNat:Nat):Int)=36:=by rw[h3 qo];rfl
 have H:=hide h;have j:=hide a;have hf:=ft;have q:IntKind.i64.wrap ((i:Int)+1)=(i:Int)+1:=by have:i<27:=(List.getElem?_eq_some_iff.1 a).1;exact IntWalk.i64_in _ ⟨qo,qo⟩
 have d:=hide L;clear a h b L h3;go_enter func66,ntmps66;go_wp2_with fail
 refine(iR H.o j.o).mono ?_;rintro e t ⟨rfl,U⟩;obtain⟨u,v⟩:=U.c 0 1;obtain⟨y,-⟩:=U.c 0 3;have hx:=U.lt 0;go_wp2_with fail
 rw[d.o];refine(XV f.o _).mono ?_;rintro e z ⟨rfl,rfl⟩;go_wp2;go_ret;exact⟨by rw[<-d.o];rfl,(U.set 0 1 (qJ ((i+1:Nat):Int)) rfl).alloc _⟩
theorem Tryz.acu:(prog.info? 105).map (fun i=>(i.zero,i.size,i.bytes))=some (some (.agg #[.string ⟨#[]⟩,.string ⟨#[]⟩,qJ 0]),3,40):=qk
theorem V7(a:Qh s n):n.toList.isEmpty=false:=by
 rcases a with⟨rfl,rfl⟩ | ⟨rfl,rfl⟩<;>kernel_rfl
theorem Vo(h:fZ w0 w (TL x tb A i Y (qN) uses r))(d:toks[i]?=some (119,s,p))(b:Qh s n)(q:qS):
  qC 41 #[qP x,.string q,qJ 0] w fun e w'=>∃g a,AJ w0 (.string n) (TL x tb A (i+1) Y (.slice (some (qA g 0)) 1 a) uses (r++[(g,[.string q,.string n,qJ 0])])) e w':=by
 have H:=hide h;have f:=hide d;have j:=hide b;have hf:=ft;have t:=V7 b;clear d h b;go_enter func41,ntmps41;go_wp2_with fail
 refine(iR H.o f.o).mono ?_;rintro e u ⟨rfl,U⟩;go_wp2_with fail
 refine(Ia U f.o j.o).mono ?_;rintro e v ⟨rfl,L⟩;go_wp2_with fail
 refine(YB L _ _).mono ?_;rintro e y ⟨rfl,h3⟩;obtain⟨k,l⟩:=h3.c 0 5;have hx:=h3.lt 0;go_wp2_with (at_builtin;refine wpList_plain rfl fun _ m=>Ov Tryz.acu underlying41 h3 (fun g a z h4=>m _ _ ?_);obtain⟨k,l⟩:=h4.c 0 5;have hx:=h4.lt 0 rfl)
 go_ret;exact⟨g,a,rfl,h4.set 0 5 (.slice (some (qA g 0)) 1 a) rfl⟩
end
end Go.Proofs.YtdaafkmhfedkiaaGreat
