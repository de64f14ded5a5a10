import Derived.BigQuiet
import Derived.BigRegion
import Derived.Deep.AppendLies
import Derived.Deep.CutBlock
import Derived.Deep.CutRange
import Derived.Deep.DrawnRows
import Derived.Deep.QuietTactic
import Derived.Deep.RegionHeld3
import Derived.Deep.RegionLaw
import Derived.Defers
import Derived.Laws.Bits64b
import Derived.Laws.BitsLemmas
import Derived.Laws.BytesArg
import Derived.Laws.EntriesVeiled
import Derived.Laws.Pointers
import Derived.Lib.AppendZeros
import Derived.LoopIn
import Derived.OpenShut
import Derived.OrdersHeld
import Derived.OwnWalk
import Derived.ProofKit
import Derived.RangeFuncCalls
import Derived.RangeFuncIn
import Derived.RangeFuncLeaves
import Derived.RangeFuncRecord
import Derived.Recover
import Derived.RegionDies
import Derived.RegionIn
import Derived.TacticsIn
import Derived.WalkKit
import Derived.WalkLawsBesides
import Derived.WalkSpells
import Derived.Test.YtdaafkmhfedkiaaGreatProg
namespace Go.Proofs.YtdaafkmhfedkiaaGreat
set_option maxHeartbeats 800000
open Go.RowKit Go.Proofs.Tryz
abbrev qJ (n:Int):Value:=.int .i64 n
abbrev qB (n:Int):Value:=.int .u8 n
abbrev qA (b o:Nat):Addr:=⟨b,o,none⟩
abbrev qP (b:Nat):Value:=.pointer (some ⟨b,0,none⟩)
abbrev qN:Value:=.slice none 0 0
abbrev qS:=ByteArray
theorem qo {p:Prop} (h:p:=by omega):p:=h
theorem qs {p:Prop} (h:p:=by simp):p:=h
theorem qt {p:Prop} (h:p:=by simp;omega):p:=h
theorem qk {p:Prop} (h:p:=by kernel_rfl):p:=h
theorem qx {p:Prop} (h:p:=by decide):p:=h
theorem qd {p:Prop} [Decidable p] (h:¬p:=by omega):decide p=false:=decide_eq_false h
theorem qe {α:Type} [BEq α] [LawfulBEq α] {a b:α} (h:a≠b:=by omega):(a==b)=false:=beq_eq_false_iff_ne.2 h
def qh (p:Prop):Prop:=p
theorem qh.o {p:Prop} (h:qh p):p:=h
theorem qR {n:Nat}:n<=n:=Nat.le_refl n
theorem qZ {n:Nat}:0<=n:=Nat.zero_le n
theorem qE {α:Sort _} (a:α):∃x,x=a:=⟨a,rfl⟩
theorem qF {α:Sort _} (a:α):∃x,a=x:=⟨a,rfl⟩
abbrev qW:=World
abbrev qv:=Value
abbrev qV:=List Value
abbrev qM:=List Nat
abbrev qD:=Nat->Prop
abbrev qO:=Option Addr
theorem qy {α:Type} (l:List α) (i:Nat) (a:α):l.toArray.setIfInBounds i a=(l.set i a).toArray:=List.setIfInBounds_toArray ..
theorem qz {α:Type} (a:α) (l:List α) (b:α):(a::l).set 0 b=b::l:=rfl
theorem qw {α:Type} (a:α) (l:List α) (i:Nat) (b:α):(a::l).set (i+1) b=a::l.set i b:=rfl
abbrev qC:=Calls Go.Proofs.Tryz.prog
abbrev qU (e:Ending):Prop:=e=.returned (.tuple #[])
structure Kept(S:Nat->Prop)(w w':World):Prop where
 os:w'.os=w.os
 tape:w'.tape=w.tape
 output:w'.output=w.output
 size:w.heap.size<=w'.heap.size
 block:∀k,k<w.heap.size->¬S k->w'.heap[k]?=w.heap[k]?
theorem Kept.refl(S:qD)(w:qW):Kept S w w:=⟨rfl,rfl,rfl,qR,fun _ _ _=>rfl⟩
theorem Kept.trans{S:qD}{a b c:qW}(h:Kept S a b)(k:Kept S b c):Kept S a c:=
 ⟨k.os.trans h.os,k.tape.trans h.tape,k.output.trans h.output,Nat.le_trans h.size k.size,
  fun i d e=>(k.block i (Nat.lt_of_lt_of_le d h.size) e).trans (h.block i d e)⟩
theorem Kept.mono{S S':qD}{w w':qW}(h:Kept S w w')(a:∀k,k<w.heap.size->S k->S' k):Kept S' w w':=
 ⟨h.os,h.tape,h.output,h.size,fun k X b=>h.block k X (fun x=>b (a k X x))⟩
theorem Kept.drew{S:qD}{a w:qW}(h:Kept S a w):Kept S a w.drew:=⟨h.os,h.tape,h.output,h.size,h.block⟩
theorem Kept.alloc{S:qD}{a w:qW}(h:Kept S a w)(o:Obj):Kept S a (w.alloc o):=
 h.trans ⟨rfl,rfl,rfl,qs,fun k X _=>Below.heap_alloc _ _ _ X⟩
theorem Kept.setCell{S:qD}{a w:qW}(h:Kept S a w){p:Addr}(hp:p.block<a.heap.size->S p.block)(u:qv):Kept S a (w.setCell p u):=by
 refine⟨h.os,h.tape,h.output,by simpa [World.setCell] using h.size,fun k X b=>?_⟩;rw[Below.heap_setCell _ _ _ _ (fun e=>b (by subst e;exact hp X))];exact h.block k X b
theorem Kept.cell{S:qD}{w w':qW}(h:Kept S w w'){p:Addr}(hp:p.block<w.heap.size)(a:¬S p.block):w'.cell? p=w.cell? p:=
 World.cell?_of_block (w:=w) (h.block p.block hp a)
theorem Kept.frozen{S:qD}{w w':qW}(h:Kept S w w'){p:Addr}(hp:p.block<w.heap.size)(a:¬S p.block):w'.frozen? p=w.frozen? p:=
 World.frozen?_of_block (w:=w) (h.block p.block hp a)
theorem Kept.below{w w':qW}(h:Kept (fun _=>False) w w'):Below w.heap.size w w':=
 ⟨h.os,h.tape,h.output,h.size,fun k X=>h.block k X (fun x=>x)⟩
def only(b:Nat):Nat->Prop:=fun k=>k=b
structure Rd(w:World)(b:Nat)(s:qS)(i n:Nat):Prop where
 c0:w.cell? (qA b 0)=some (.string s)
 c1:w.cell? (qA b 1)=some (qJ i)
 c2:w.cell? (qA b 2)=some (qJ n)
 f0:w.frozen? (qA b 0)=false
 f1:w.frozen? (qA b 1)=false
 f2:w.frozen? (qA b 2)=false
 le:i<=n
 big:n<=s.size
 sz:s.size<=5000
theorem Rd.lt{w:qW}{b:Nat}{s:qS}{i n:Nat}(h:Rd w b s i n):b<w.heap.size:=World.block_lt_of_cell? _ _ h.c0
theorem Rd.kept{S:qD}{w w':qW}{b:Nat}{s:qS}{i n:Nat}(h:Rd w b s i n)(k:Kept S w w')(a:¬S b):Rd w' b s i n:=by
 have c:=h.lt;exact⟨by rw[k.cell c a];exact h.c0,by rw[k.cell c a];exact h.c1,by rw[k.cell c a];exact h.c2,
  by rw[k.frozen c a];exact h.f0,by rw[k.frozen c a];exact h.f1,by rw[k.frozen c a];exact h.f2,h.le,h.big,h.sz⟩
theorem Rd.drew{w:qW}{b:Nat}{s:qS}{i n:Nat}(h:Rd w b s i n):Rd w.drew b s i n:=
 ⟨h.c0,h.c1,h.c2,h.f0,h.f1,h.f2,h.le,h.big,h.sz⟩
theorem Rd.move{w:qW}{b:Nat}{s:qS}{i n:Nat}(h:Rd w b s i n)(j:Nat)(a:j<=n){z:Int}(c:z=(j:Int)):Rd (w.setCell (qA b 1) (qJ z)) b s j n:=by
 subst c;refine⟨?_,World.cell?_setCell_same _ _ _ h.c1,?_,by simp[h.f0],by simp[h.f1],by simp[h.f2],a,h.big,h.sz⟩
 .rw[World.cell?_setCell_other _ _ _ _ qs];exact h.c0
 rw[World.cell?_setCell_other _ _ _ _ qs];exact h.c2
abbrev qK (w w':World):Prop:=Kept (fun _=>False) w w'
theorem qr {S:Nat->Prop} {w:World}:Kept S w w:=Kept.refl _ _
theorem Zz1{P:Prop}(h:P:=by
 go_enter Tryz.func176,Tryz.ntmps176;go_wp2_with fail
 refine wp_region_held_drew (S:=fun w':qW=>w'.cell? (qA W.heap.size 0)=some (qJ a)/\w'.cell? (qA W.heap.size 1)=some (qJ e)/\w'.cell? (qA W.heap.size 2)=some (qB x)/\w'.cell? (qA W.heap.size 3)=some (.bool y.typed)/\w'.cell? (qA W.heap.size 4)=some (.slice pg y.dH.length cg)/\w'.cell? (qA W.heap.size 5)=some (.int .u32 y.align)/\w'.cell? (qA W.heap.size 6)=some (.int .u32 y.num.1)/\w'.cell? (qA W.heap.size 7)=some (qJ y.num.2)/\w'.cell? (qA W.heap.size 8)=some (.slice pl nl cl)/\w'.cell? (qA W.heap.size 9)=some (qJ y.val)) qk KP.o (fun _=>?_);refine jK 0 KP.o ?_;refine jK 1 KP.o ?_;refine jK 2 KP.o ?_;refine jK 3 KP.o ?_;refine jK 4 KP.o ?_;refine wpAnyH_all (rs:=[5]) qk qs ?_;intro i hi;rw[List.mem_singleton] at hi;subst hi;refine jH (f:=203) (args:= #[qP bb,.agg (yC a e x y (.slice pg y.dH.length cg) (.slice pl nl cl)).toArray]) rfl rfl qk (HBT.o _ ((HA.o.alloc _).drewN 1) ((qr.alloc _).drewN 1)) ?_;rintro ee w2 ⟨hk2,hok2,jN⟩;have hA2:=((HA.o.alloc (.cells (yC a e x y (.slice pg y.dH.length cg) (.slice pl nl cl)).toArray 213)).drewN 1).quiet hk2;have ahr:qK W w2:=((qr.alloc _).drewN 1).trans hk2;have hl2:Kept (fun k=>k<W.heap.size/\¬K k) W w2:=ahr.mono (fun _ _ c=>c.elim);rcases hm2:fJ m y with⟨q,p⟩|t
 .obtain rfl:=jN _ _ hm2;exact .inr ⟨_,rfl,rfl,Ends.dD (by rw[HM.o,hm2]) hA2.kept hl2⟩
 obtain⟨v,rfl,vi,vo,rfl,k1,k2⟩:=hok2 _ hm2;obtain⟨l1,l2⟩:=HTY.o _ hm2;have HS2:qh ((fun w':qW=>w'.cell? (qA W.heap.size 0)=some (qJ a)/\w'.cell? (qA W.heap.size 1)=some (qJ e)/\w'.cell? (qA W.heap.size 2)=some (qB x)/\w'.cell? (qA W.heap.size 3)=some (.bool y.typed)/\w'.cell? (qA W.heap.size 4)=some (.slice pg y.dH.length cg)/\w'.cell? (qA W.heap.size 5)=some (.int .u32 y.align)/\w'.cell? (qA W.heap.size 6)=some (.int .u32 y.num.1)/\w'.cell? (qA W.heap.size 7)=some (qJ y.num.2)/\w'.cell? (qA W.heap.size 8)=some (.slice pl nl cl)/\w'.cell? (qA W.heap.size 9)=some (qJ y.val)) w2):=by
  show(fun w':qW=>w'.cell? (qA W.heap.size 0)=some (qJ a)/\w'.cell? (qA W.heap.size 1)=some (qJ e)/\w'.cell? (qA W.heap.size 2)=some (qB x)/\w'.cell? (qA W.heap.size 3)=some (.bool y.typed)/\w'.cell? (qA W.heap.size 4)=some (.slice pg y.dH.length cg)/\w'.cell? (qA W.heap.size 5)=some (.int .u32 y.align)/\w'.cell? (qA W.heap.size 6)=some (.int .u32 y.num.1)/\w'.cell? (qA W.heap.size 7)=some (qJ y.num.2)/\w'.cell? (qA W.heap.size 8)=some (.slice pl nl cl)/\w'.cell? (qA W.heap.size 9)=some (qJ y.val)) w2;dsimp only;have hc:=fun(i:Nat) (v:qv) (hv:((W.alloc (.cells (yC a e x y (.slice pg y.dH.length cg) (.slice pl nl cl)).toArray 213)).drew).cell? (qA W.heap.size i)=some v)=>(hk2.cell (p:=(qA W.heap.size i)) qs (fun c=>c)).trans hv;obtain⟨q0,q1,q2,q3,q4,q5,q6,q7,q8,q9⟩:=KP.o;exact⟨hc _ _ q0,hc _ _ q1,hc _ _ q2,hc _ _ q3,hc _ _ q4,hc _ _ q5,hc _ _ q6,hc _ _ q7,hc _ _ q8,hc _ _ q9⟩
 refine .inl ⟨_,rfl,HS2.o,?_⟩;refine wpAnyH_all (rs:=[6]) qk qs ?_;intro i hi;rw[List.mem_singleton] at hi;subst hi;refine jH (f:=130) (args:= #[qP bb,qB x,.agg #[vi,vo]]) rfl rfl qk (enter_at x hA2 (fun _=>hb) k1 k2 l1 l2 hbl qo) ?_;rintro ee w3 ⟨ahp,BK,hk3,adC⟩;have hl3:=hl2.ig adC rfl;rcases zD:jR x t Z with⟨q,p⟩|st3
 .obtain rfl:=BK _ _ zD;exact .inr ⟨_,rfl,rfl,Ends.dD (by rw[HM.o,hm2];exact zD) hk3 hl3⟩
 obtain⟨rfl,hA3⟩:=ahp _ zD;have HE:qh (fe m x y Z=.ok st3):=by show _=_;rw[HM.o,hm2];exact zD
 have HA3:=hide hA3;refine .inl ⟨_,rfl,?_,?_⟩
 .have hc:=fun(i:Nat) (v:qv) (hv:w2.cell? (qA W.heap.size i)=some v)=>(adC.cell (p:=(qA W.heap.size i)) (show W.heap.size<w2.heap.size by have h9:=hk2.size;simp at h9;omega) (fun c=>Nat.lt_irrefl _ c.1)).trans hv;obtain⟨q0,q1,q2,q3,q4,q5,q6,q7,q8,q9⟩:=HS2.o;exact⟨hc _ _ q0,hc _ _ q1,hc _ _ q2,hc _ _ q3,hc _ _ q4,hc _ _ q5,hc _ _ q6,hc _ _ q7,hc _ _ q8,hc _ _ q9⟩
 refine wpAnyH_done qk ?_ _;go_end0;exact Ends.dW HE.o HA3.o hl3):P:=h
theorem Zz2{P:Prop}(h:P:=by
 rw[HM.o];rintro ee w1 ⟨hok1,adF,hk1,hlow1⟩;have adB:Kept (fun k=>k<W.heap.size/\¬K k) W w1:=((qr.alloc _).trans hlow1).mono (fun k X c=>⟨X,c.2⟩);clear HM;rcases m with⟨q,p⟩ | st1
 .obtain rfl:=adF _ _ rfl;exact⟨rfl,Ends.dD rfl hk1 adB⟩
 obtain⟨rfl,hA1⟩:=hok1 _ rfl;have HA1:=hide hA1;clear hok1 adF hA1;go_wp2;go_end0;exact Ends.dW rfl HA1.o adB):P:=h
theorem Zz3{P:Prop}(h:P:=by
 go_wp2_with fail
 refine(gH LC J.at_ hat).mono ?_;rintro e w5 ⟨rfl,HY,hk5⟩;have hm5:=HM4.o.kept' hk5 (fun g (c:g=x)=>.inl c);have hK5:=hK4.fresh hk5 (fun i hi (c:i=x)=>absurd hi qo);have ahC:qh ((dL st1 J.at_).bad=none->8<nx->m.ds.length=m.tys.length):=fun c=>absurd c (jO _);clear HM4 LC oO4 agU;have oMt:=hm5.ob;obtain⟨T1,U1⟩:=oMt.cell (k:=1) (by rw[hm5.len];omega) hm5.fv;have lMt:=oMt.lt;obtain⟨-,-,-,-,⟨T4,U4⟩⟩:=HY.blk.five;by_cases hq1:nx<=8
 .have aai:(nx:Int)<=8:=qo;by_cases hq2:0<m.tys.length
  .have HQ:qh ((dR s).2=dL (dL st1 J.at_) s.size):=by show _=_;rw[dR,Hg.o];simp only;rw[if_pos ⟨hq1,hq2⟩]
   clear hq1;go_wp2_with fail
   refine(gH HY s.size hs).mono ?_;rintro e wF ⟨rfl,hIF,hkF⟩;have hMF:=hm5.kept' hkF (fun g (c:g=x)=>.inl c);have hKF:=(hK5).fresh hkF (fun i hi (c:i=x)=>absurd hi qo);have agT:=Hg;clear T1 U1 T4 U4;go_wp2_with fail
   obtain⟨-,-,-,⟨Y3,V3⟩,⟨Y4,V4⟩⟩:=hIF.blk.five;go_quiet (fail)
   go_wp2;go_ret2
   refine⟨x,Y,fb,ms,cs,p,A,nx,by rw[show(dR s).2=dL (dL st1 J.at_) s.size from HQ.o];rfl,?_,?_,(hKF).drewN _⟩
   .rw[show(dR s).1=m by rw[dR,Hg.o]];exact(hMF).kept' ((Kept.refl (fun _=>False) _).drewN _) (fun _ c=>c.elim)
   rw[HQ.o];exact fun c=>absurd c (jO _)
  have JI:m.tys.length=0:=qo;have hz:decide (0<m.tys.length)=false:=by simp[JI]
  have HQ:qh ((dR s).2=(dL st1 J.at_)):=by show _=_;rw[dR,Hg.o];simp only;rw[if_neg (fun c=>hq2 c.2)]
  have HZ:=hide JI;have HQ1:=hide hq1;clear JI hq2 hq1;go_wp2_with fail
  obtain⟨-,-,-,⟨Y3,V3⟩,⟨Y4,V4⟩⟩:=HY.blk.five;go_quiet (fail)
  go_wp2;go_ret2
  refine⟨x,Y,fb,ms,cs,p,A,nx,by rw[show(dR s).2=(dL st1 J.at_) from HQ.o];rfl,?_,?_,(hK5).drewN _⟩
  .rw[show(dR s).1=m by rw[dR,Hg.o]];exact(hm5).kept' ((Kept.refl (fun _=>False) _).drewN _) (fun _ c=>c.elim)
  rw[show(dR s).1=m by rw[dR,Hg.o]];exact fun _=>by have a1:=HZ.o;have a2:=hm5.z8 HQ1.o;rw[a1,a2];rfl
 have aai:¬(nx:Int)<=8:=qo;have HQ:qh ((dR s).2=(dL st1 J.at_)):=by show _=_;rw[dR,Hg.o];simp only;rw[if_neg (fun c=>hq1 c.1)]
 have HQ1:=hide hq1;clear hq1;go_wp2_with fail
 obtain⟨-,-,-,⟨Y3,V3⟩,⟨Y4,V4⟩⟩:=HY.blk.five;go_quiet (fail)
 go_wp2;go_ret2
 refine⟨x,Y,fb,ms,cs,p,A,nx,by rw[show(dR s).2=(dL st1 J.at_) from HQ.o];rfl,?_,?_,(hK5).drewN _⟩
 .rw[show(dR s).1=m by rw[dR,Hg.o]];exact(hm5).kept' ((Kept.refl (fun _=>False) _).drewN _) (fun _ c=>c.elim)
 rw[show(dR s).1=m by rw[dR,Hg.o],HQ.o];exact fun c=>ahC.o c (Nat.lt_of_not_le HQ1.o)):P:=h
theorem Zz4{P:Prop}(h:P:=by
 go_enter Tryz.func217,Tryz.ntmps217;go_wp2_with fail
 refine(ZI HI.o).mono ?_;rintro ee w2 ⟨rfl,hI2,hk2⟩;generalize sS s 4 16 32 3 ⟨a,e,none⟩=ss at*;obtain⟨z,st2⟩:=ss;simp only at hI2 vK ⊢;by_cases hz:z<0
 .have Tf:qh (iZ s i ⟨a,e,none⟩=({i with dH:=2,xn:=z,pX:=a},dL st2 a)):=by show _=_;rw[vK.o,if_pos hz]
  clear vK;go_wp2_with fail
  refine(gH hI2 a hat).mono ?_;rintro ee w3 ⟨rfl,Td,hk3⟩;have o2:=((HO.o.call hk2).call hk3);obtain⟨-,-,⟨M2,N2⟩,⟨M3,N3⟩,-,-,-,⟨M7,N7⟩,-⟩:=o2.blk.nine;have l2:=o2.lt;go_wp2;first | go_end0 | refine bodyPost_ret (results_none rfl _ _ _) rfl ?_
  rw[Tf.o];exact⟨rfl,((Td.other hne _).other hne _).other hne _,((o2.set 7 (qJ 2)).set 2 (qJ z)).set 3 (qJ a),(((((hk2.trans hk3).mono (fun k _ (c:k=x)=>.inl c)).setCell (p:=(qA ib 7)) (fun _=>.inr rfl) _).setCell (p:=(qA ib 2)) (fun _=>.inr rfl) _).setCell (p:=(qA ib 3)) (fun _=>.inr rfl) _)⟩
 have Tf:qh (iZ s i ⟨a,e,none⟩=({i with dH:=2,xn:=z,pX:=a},st2)):=by show _=_;rw[vK.o,if_neg hz]
 clear vK;have o2:=(HO.o.call hk2);obtain⟨-,-,⟨M2,N2⟩,⟨M3,N3⟩,-,-,-,⟨M7,N7⟩,-⟩:=o2.blk.nine;have l2:=o2.lt;go_wp2;first | go_end0 | refine bodyPost_ret (results_none rfl _ _ _) rfl ?_
 rw[Tf.o];exact⟨rfl,((hI2.other hne _).other hne _).other hne _,((o2.set 7 (qJ 2)).set 2 (qJ z)).set 3 (qJ a),((((hk2.mono (fun k _ (c:k=x)=>.inl c)).setCell (p:=(qA ib 7)) (fun _=>.inr rfl) _).setCell (p:=(qA ib 2)) (fun _=>.inr rfl) _).setCell (p:=(qA ib 3)) (fun _=>.inr rfl) _)⟩):P:=h
theorem Zz5{P:Prop}(h:P:=by
 have hsz3:=hk3.size;clear X0 Y0 X1 Y1 X2 Y2 ox2 oy2 oz2 vK HM1 hk2 XY;obtain⟨X0,Y0⟩:=ox3.blk.yB;obtain⟨X1,Y1⟩:=oy3.blk.yB;obtain⟨X2,Y2⟩:=oz3.blk.yB;go_wp2_with fail
 refine(BQ (S:=both b Y) (K:=123) (A:= #[qP w.heap.size,.pointer (some ⟨w.heap.size+1,0,none⟩),qP w1.heap.size]) (uZ m x)
  (fun W=>OB W b w.heap.size [qP Y]/\OB W b (w.heap.size+1) [qP b]/\OB W b w1.heap.size [qB x]/\kC s (fun g=>B<=g) W b Y m)
  (fun y W=>kC s (fun g=>B<=g) W b Y y) GG ⟨ox3,oy3,oz3,Tf.o⟩ Fu (.inl rfl) ?_ ?_ ?_).mono ?_
 .rintro W W' ⟨U,L,h3,h4⟩ X;exact⟨U.call X,L.call X,h3.call X,h4.call X qo⟩
 .rintro y W W' U X;exact U.call X qo
 .rintro W j n' hrd ⟨U,L,h3,h4⟩ hsz;exact Le x hrd h4 hb hmb qo HRD.o U.blk.yB.1 L.blk.yB.1 h3.blk.yB.1
 rintro e w4 ⟨hx4,hok,jY⟩;have hk4:=hk3.trans hx4;have oz4:=oz3.kept hx4 (fun hh=>hh.elim (fun e=>qo) (fun e=>qo));clear hx4 ox3 oy3 oz3 Tf X0 Y0 X1 Y1 X2 Y2;rcases ho:fK (uZ m x) s n j with⟨q,p⟩|⟨m1,j1⟩
 .obtain rfl:=jY _ _ ho;exact⟨rfl,fC.dD (aa8.o.trans (by rw[ho])) hk4⟩
 obtain⟨u,rfl,⟨rfl,hm4⟩,aho⟩:=hok _ _ ho;have HS2:=hide (aa8.o.trans (by rw[ho]));have HM4:=hide hm4;clear hok jY ho hm4;obtain⟨X2,Y2⟩:=oz4.blk.yB;go_wp2_with fail
 refine(xN _ _).mono ?_;rintro e w5 ⟨rfl,rfl⟩;go_wp2;go_ret;exact fC.dW (x:=(m1,jL x)) (j:=j1) HS2.o hk4 ⟨rfl,HM4.o⟩ aho):P:=h
theorem Zz6{P:Prop}(h:P:=by
 go_wp2_with fail
 obtain⟨-,-,⟨I2,J2⟩,-⟩:=LC.blk.gI;have hxv:=LC.lt;have hsn:(strOfNums [(b:Int)]).size=1:=by rw[strOfNums_size];rfl
 have acC:¬9223372036854775807<KU.di.size+1:=qo;have nk:=dX hxv I2;have hS0:qK w4 w4.drew:=qr.drew;refine kQ (qK w4) 11 ?_;iterate 6 refine pQ hS0 ?_
 refine dx (i:=6) qk (dn rfl (fun K hK=>?_));go_simp;have hS1:qK w4 (w4.drew.alloc (.cells #[qB b] 5)):=hS0.alloc _;refine hK _ _ ⟨.inr hS1,?_⟩;clear hK K;refine dx (i:=7) qk (dn rfl (fun K hK=>?_));have hcv:=jb (w4.alloc (.cells #[qB b] 5)).drew w4.heap.size (b:Nat) (rD w4 (b:Nat));have hS2:qK w4 (w4.alloc (.cells #[qB b] 5)).drew:=(qr.alloc _).drew;go_simp;refine hK _ _ ⟨.inr hS2,?_⟩;clear hK K hcv;refine tk 8 [] hS2 ?_;refine tk 9 [10] hS2 ?_;refine tk 10 [] hS2 ?_;refine dx (i:=11) qk (dn rfl (fun K hK=>?_));go_simp;refine hK _ _ ⟨.inl rfl,?_⟩;clear hK K;refine dM qk ?_ _;clear nk;have hI8:=((LC.dH (strOfNums [(b:Int)]) qo).alloc (.cells #[qB b] 5)).drew;have V8:=((acA.own (o:=2) (.string (KU.di++strOfNums [(b:Int)]))).alloc (.cells #[qB b] 5)).drew;clear hS0 hS1 hS2 I2 J2;go_wp2;go_end0;rw[HR.o];exact⟨rfl,hI8,V8⟩):P:=h
theorem Zz7{P:Prop}(h:P:=by
 go_wp2_with fail
 obtain⟨-,-,⟨I2,J2⟩,-⟩:=LC.blk.gI;have hxv:=LC.lt;have hsn:(strOfNums [(a:Int)]).size=1:=by rw[strOfNums_size];rfl
 have acC:¬9223372036854775807<KU.di.size+1:=qo;have nk:=dX hxv I2;have hS0:qK w4 w4.drew:=qr.drew;refine kQ (qK w4) 11 ?_;iterate 6 refine pQ hS0 ?_
 refine dx (i:=6) qk (dn rfl (fun K hK=>?_));go_simp;have hS1:qK w4 (w4.drew.alloc (.cells #[qB a] 5)):=hS0.alloc _;refine hK _ _ ⟨.inr hS1,?_⟩;clear hK K;refine dx (i:=7) qk (dn rfl (fun K hK=>?_));have hcv:=jb (w4.alloc (.cells #[qB a] 5)).drew w4.heap.size (a:Nat) (rD w4 (a:Nat));have hS2:qK w4 (w4.alloc (.cells #[qB a] 5)).drew:=(qr.alloc _).drew;go_simp;refine hK _ _ ⟨.inr hS2,?_⟩;clear hK K hcv;refine tk 8 [] hS2 ?_;refine tk 9 [10] hS2 ?_;refine tk 10 [] hS2 ?_;refine dx (i:=11) qk (dn rfl (fun K hK=>?_));go_simp;refine hK _ _ ⟨.inl rfl,?_⟩;clear hK K;refine dM qk ?_ _;clear nk;have hI8:=((LC.dH (strOfNums [(a:Int)]) qo).alloc (.cells #[qB a] 5)).drew;have V8:=((acA.own (o:=2) (.string (KU.di++strOfNums [(a:Int)]))).alloc (.cells #[qB a] 5)).drew;clear hS0 hS1 hS2 I2 J2;go_wp2;go_end0;rw[HR.o];exact⟨rfl,hI8,V8⟩):P:=h
theorem Zz8{P:Prop}(h:P:=by
 have NJ:(b:Int)<128:=qo;by_cases h64:64<=b
 .have UF:(64:Int)<=(b:Int):=qo;have h7:7*k+7<64:=qo;have h7':7*(k:Int)+7<64:=qo;have HW:qh (zN (gm z b k) b k=wrap64 (wrap64 (z+wrap64 ((b:Int)%128*2 ^ (7*k))) - wrap64 (2 ^ (7*k+7)))):=by show _=_;simp only[zN,gm,h64,h7,and_self,if_true]
  clear Ez;go_wp2;go_ret;rw[HN.o];exact⟨by rw[HW.o];rfl,hI1,GH⟩
 have UF:¬(64:Int)<=(b:Int):=qo;have HW:qh (zN (gm z b k) b k=wrap64 (z+wrap64 ((b:Int)%128*2 ^ (7*k)))):=by show _=_;simp only[zN,gm,h64,false_and,if_false]
 clear Ez;go_wp2;go_ret;rw[HN.o];exact⟨by rw[HW.o];rfl,hI1,GH⟩):P:=h
theorem Zz9{P:Prop}(h:P:=by
 clear Ez;go_wp2_with fail
 refine(gH hI1 J.at_ hat').mono ?_;rintro e w2 ⟨rfl,hI2,hk2⟩;go_wp2;go_ret;rw[HN.o];exact⟨rfl,hI2,GH.trans hk2⟩):P:=h
theorem SX{P:Prop}(h:P:=by
 obtain⟨rfl,hA2⟩:=hok2 _ hm2;have HA2:=hide hA2;have HE2:=hide (HN.o.trans hm2);clear hok2 jN hA2 hm2 HN;go_wp2;go_end0;exact Ends.dW HE2.o HA2.o hlow):P:=h
theorem BA{P:Prop}(h:P:=by
 go_quiet (fail)
 go_wp2;go_meet;exact⟨by rw[HO.o],qr.drewN _⟩):P:=h
theorem Vz{P:Prop}(h:P:=by
 obtain⟨rfl,hA2⟩:=hok2 _ hm2;have HA2:=hide hA2;have HE2:=hide (HE.o.trans hm2);clear hok2 jN hA2 hm2 HE;go_wp2;go_end0;exact Ends.dW HE2.o HA2.o hlow):P:=h
theorem aa2{P:Prop}(h:P:=by
 generalize dN op=W at*;go_wp2_with fail
 refine(gH Hz uj.at_ (fP Bh)).mono ?_;rintro e w8 ⟨rfl,hI8,V8⟩;go_wp2;go_meet;exact⟨opn,dL Qk uj.at_,rfl,HO.o,HNE.o,hos,nC _,hI8,V8⟩):P:=h
theorem agQ{P:Prop}(h:P:=by
 obtain⟨pl,nl,cl,rfl⟩:=hlv;have hx:=h.lt;have HI:=hide h;have HO:=hide ho;have HG:=hide hg;unfold fA.cells;clear h ho hg;go_enter Tryz.func109,Tryz.ntmps109;have oI:OB (w.alloc (.cells (iC i i.xn (.slice pl nl cl)).toArray 79)) x w.heap.size (iC i i.xn (.slice pl nl cl)):=OB.new (c:=(iC i i.xn (.slice pl nl cl)).toArray) (t:=79) hx rfl;have hI1:=HI.o.alloc (.cells (iC i i.xn (.slice pl nl cl)).toArray 79);have hk1:Kept S9 w (w.alloc (.cells (iC i i.xn (.slice pl nl cl)).toArray 79)):=qr.alloc _;clear HI;obtain⟨ib,hib⟩:=qE w.heap.size;rw[<-hib] at oI;go_upto_block 0 with fail
 rw[<-hib];clear hib hx;generalize (w.alloc (.cells (iC i i.xn (.slice pl nl cl)).toArray 79))=W1 at*;clear oI;go_wp2;go_ret;exact⟨rfl,uP.of hI1 HO.o,hk1⟩):P:=h
theorem YL{P:Prop}(h:P:=by
 have HR:=hide hrow3;clear hown' hgrow hrow3 HW;go_wp2;go_roundw
 case rel=>exact⟨k+1,j2,ks++[x],qo,by simp[hl],by go_num,GG,hk4,HR.o,HH.o⟩
 simp[intOf];omega):P:=h
theorem zL{P:Prop}(h:P:=by
 go_wp2;go_meet;exact⟨by rw[HO.o],by rw[HO.o],rfl⟩):P:=h
theorem agP{P:Prop}(h:P:=by
 go_wp2;go_roundw
 case rel=>exact⟨k+1,j2,ks++[x],qo,by simp[hl],by go_num,GG,hk4,HR.o,HH.o⟩
 simp[intOf];omega):P:=h
theorem agO{P:Prop}(h:P:=by
 go_wp2_with fail
 obtain⟨-,-,⟨I2,J2⟩,-⟩:=Td.blk.gI;have hxv:=Td.lt;have acC:¬9223372036854775807<st2.di.size+b.fo.size:=qo;have nk:=dX hxv I2;have ru:=dX lT T2;have hS0:qK W3 W3.drew:=qr.drew;refine kQ (qK W3) 11 ?_;iterate 11 refine pQ hS0 ?_
 refine dx (i:=11) qk (dn rfl (fun K hK=>?_));go_simp;refine hK _ _ ⟨.inl rfl,?_⟩;clear hK K;refine dM qk ?_ _;clear nk ru;have hI9:=(Td.dH b.fo qo).drew;have hk9:=(hk3.setCell (p:=(qA x 2)) (fun _=>hB) (.string (st2.di++b.fo))).drew;clear hS0 I2 J2 T2 lT;go_wp2;go_ret;rw[HEN.o];exact⟨rfl,uP.of (Z:=st2) hI9 HO4.o,hk9⟩):P:=h
theorem agN{P:Prop}(h:P:=by
 obtain⟨n,st3⟩:=us;simp only at Td vK ⊢;have lL:=YS.lt;have lR:=XB.lt;obtain⟨⟨L0,K0⟩,⟨L1,K1⟩,⟨L2,K2⟩,⟨L3,K3⟩,⟨L4,K4⟩⟩:=YS.blk.five;obtain⟨⟨R0,Q0⟩,⟨R1,Q1⟩,⟨R2,Q2⟩,⟨R3,Q3⟩,⟨R4,Q4⟩⟩:=XB.blk.five;go_wp2;refine bodyPost_ret (v:=.agg #[.bool true,.bool false,qJ n,qJ 0,qJ Z.at_]) ?_ rfl ⟨by rw[vK.o];rfl,by rw[vK.o];exact((((((((Td).other YS.ne _).other YS.ne _).other XB.ne _).other XB.ne _).other XB.ne _).other XB.ne _).other XB.ne _).alloc _,((((((((XZ).new qo _).new qo _).new qo _).new qo _).new qo _).new qo _).new qo _).alloc _⟩;simp[results,Tryz.results96,go_sem,R0,R1,R2,R3,R4,lR]):P:=h
theorem YK{P:Prop}(h:P:=by
 go_wp2_with fail
 refine(Oz (pY z x k) x k _ qo).mono ?_;rintro e w3 ⟨rfl,rfl⟩;go_wp2;go_ret;exact Out.dW HH.o hkw rfl UE):P:=h
theorem YJ{P:Prop}(h:P:=by
 clear Ez;go_wp2;go_ret;rw[HN.o];exact⟨by rw[HW.o];rfl,hI1,GH⟩):P:=h
theorem agM{P:Prop}(h:P:=by
 clear h64 hb X h127 t2;go_enter Tryz.func217,Tryz.ntmps217;go_wp2_with fail
 refine(A9 (HI.o.other hne _)).mono ?_;rintro ee w2 ⟨rfl,hI2,hk2⟩;generalize jq s ⟨a,e,none⟩=ks at*;obtain⟨kd,st2⟩:=ks;simp only at hI2 vK ⊢;have o2:=(HO.o.set 7 (qJ 1)).call hk2;obtain⟨-,-,-,-,-,-,-,-,⟨M8,N8⟩⟩:=o2.blk.nine;have l2:=o2.lt;go_wp2;first | go_end0 | refine bodyPost_ret (results_none rfl _ _ _) rfl ?_
 rw[vK.o];exact⟨rfl,hI2.other hne _,o2.set 8 (qB kd),(((qr.setCell (p:=(qA ib 7)) (fun _=>.inr rfl) _).trans (hk2.mono (fun k _ (c:k=x)=>.inl c)))).setCell (p:=(qA ib 8)) (fun _=>.inr rfl) _⟩):P:=h
theorem agL{P:Prop}(h:P:=by
 obtain⟨T0,U0⟩:=oT6.blk 0 qs;obtain⟨T1,U1⟩:=oT6.blk 1 qs;simp only[List.getD_cons_zero,List.getD_cons_succ] at T0 T1;have lT:=oT6.lt;have hs6:=hg6.1;have hl6:=hg6.2.1;have hx6:=Bh.lt;clear hg6;go_wp2_with fail
 refine(CP Bh W ta tb qo qo).mono ?_;rintro e w7 ⟨rfl,⟨p7,ahy,Hz,ho7⟩,Rq⟩;have ahq:=acz.trans (o7 Rq (ownB hB HO6.o));have HF:qh (uP S9 w7 x c (nZ W ta tb uj)):=⟨p7,ahy,Hz,fun g hg=>(ho7 g hg).elim (HO6.o g) (fun h=>HN9.o g (Nat.le_trans acz.size h))⟩;clear T0 U0 T1 U1 lT oT6 Bh acz Rq Hz ho7;go_wp2;go_ret;rw[HOP.o,<-HWB.o];exact⟨rfl,HF.o,ahq⟩):P:=h
theorem ac4{P:Prop}(h:P:=by
 rintro ee w4 ⟨Po,-,-,aal⟩;obtain⟨rfl,hA4⟩:=Po _ rfl;have HA4:=hide hA4;clear Po hA4;go_wp2;go_end0;exact Ends.dW HM.o HA4.o (hl3.ig ((qr.alloc _).trans aal) rfl)):P:=h
theorem agK{P:Prop}(h:P:=by
 clear oZ hS6 hk5 hS7;refine dx (i:=7) qk (dn rfl (fun K hK=>?_));go_simp;refine hK _ _ ⟨.inl rfl,?_⟩;clear hK K;refine dM qk ?_ _;clear nk ru uE Wn Wm Wl Wj Wi Wh We;have hI9:=(Hz.other (o:=0) oZ5.ne hog (.string ta)).other (o:=1) oZ5.ne hog (.string tb);have oT:=(oZ5.set 0 (.string ta)).set 1 (.string tb);have hk9:=(Rq.setCell (p:=(qA gb 0)) (fun _=>hgB) (.string ta)).setCell (p:=(qA gb 1)) (fun _=>hgB) (.string tb);clear T0 U0 T1 U1 lT;go_wp2;go_meet;exact⟨_,rfl,hI9,oT,hk9⟩):P:=h
theorem aa1{P:Prop}(h:P:=by
 have HH:qh (dY most tM s n i=.ok (ks,j)):=by show _=_;rw[HE.o,show cnt - k=0 by omega];rfl
 go_wp2;go_ret;exact Out.dW HH.o hkp hrow hrd):P:=h
theorem SV{P:Prop}(h:P:=by
 obtain rfl:=jY _ _ ho;exact⟨rfl,Out.dD (HE.o.trans (CE qo ho)) hk3⟩):P:=h
theorem afe{P:Prop}(h:P:=by
 go_wp2;refine bodyPost_ret (v:=.agg #[qJ N',qJ Z.at_]) ?_ rfl ⟨by rw[HN.o],by rw[HN.o];exact((hI1.other oL1.ne _).other oR1.ne _).other oR1.ne _,((GH.new qo _).new qo _).new qo _⟩;simp[results,Tryz.results92,go_sem,R0,R1]):P:=h
theorem SS{P:Prop}(h:P:=by
 obtain rfl:=jN _ _ hm2;exact⟨rfl,Ends.dD (HN.o.trans hm2) hk2 hlow⟩):P:=h
theorem MB{P:Prop}(h:P:=by
 go_wp2;go_end0;rw[HN.o];exact⟨rfl,hI2,⟨_,oM,hrow⟩,hkp⟩):P:=h
theorem Ey{P:Prop}(h:P:=by
 go_wp2;go_ret;exact⟨by rw[HH.o];rfl,rfl⟩):P:=h
theorem SQ{P:Prop}(h:P:=by
 obtain rfl:=jY _ _ ho;exact⟨rfl,Out.dD (by simp[dY,ho]) hk1⟩):P:=h
theorem aa0{P:Prop}(h:P:=by
 generalize dN op=W at*;go_wp2;go_meet;exact⟨_,Qk,rfl,HO.o,HNE.o,Rt.o,wE.refl _,Hz,Kept.refl _ _⟩):P:=h
theorem agJ{P:Prop}(h:P:=by
 have HN:qh (dV (jk m) m.starts=.error (4,xp)):=HE.o.trans (HB.o _ (by rw[YU.o,if_neg qo]));have hb:(0:Int)<(b:Int)+1:=qo;clear HB HO HE YU HTY;go_wp2_with fail
 refine(mD _ _ _).mono ?_;rintro e w9 ⟨rfl,rfl⟩;exact⟨rfl,Says.dD HN.o (((kp1.trans kA).setCell (p:=⟨wr.heap.size+1+1,0,none⟩) (fun h=>absurd h qt) _).setCell (p:=⟨wr.heap.size+1+1,1,none⟩) (fun h=>absurd h qt) _)⟩):P:=h
theorem Vy{P:Prop}(h:P:=by
 obtain rfl:=jN _ _ hm2;exact⟨rfl,Ends.dD (HE.o.trans hm2) hk2 hlow⟩):P:=h
theorem afd{P:Prop}(h:P:=by
 have t3:(bits BinOp.and IntKind.u8 ((bt s j:Nat):Int) 128==0)=false:=zJ;clear zJ;generalize bt s j=x at*;go_wp2;go_roundw
 case rel=>exact⟨k+1,pY z x k,j+1,qo,by go_num,rfl,UE,hkw,HH.o⟩
 simp[intOf];omega):P:=h
theorem agI{P:Prop}(h:P:=by
 have HN:qh (dV (jk m) m.starts=.error (4,xp)):=HE.o.trans (HB.o _ (by rw[YU.o,if_neg qo]));have hb:(0:Int)<(b:Int)+1:=qo;clear HB HO HE YU HTY;go_wp2_with fail
 refine(mD _ _ _).mono ?_;rintro e w9 ⟨rfl,rfl⟩;exact⟨rfl,Says.dD HN.o (((kp1.trans kA).setCell (p:=⟨wr.heap.size+1,0,none⟩) (fun h=>absurd h qt) _).setCell (p:=⟨wr.heap.size+1,1,none⟩) (fun h=>absurd h qt) _)⟩):P:=h
theorem agH{P:Prop}(h:P:=by
 intro W' hW';have q:=HG9.o.kept hW' (JH _ rfl);exact⟨(YP.o.kept hW' (fun c=>absurd (KX.o.at_ x c) qo)).blk.five.2.2.2.2.1,((YO.o.kept hW' (fun c=>absurd (KX.o.at_ Y c) qo)).cell (by rw[List.length_set];omega) (fB qo)).1,(q.cell (k:=0) qs rfl).1,(q.cell (k:=1) qs rfl).1,(q.cell (k:=2) qs rfl).1,(q.cell (k:=3) qs rfl).1,(q.cell (k:=4) qs rfl).1,(q.cell (k:=5) qs rfl).1⟩):P:=h
theorem agG{P:Prop}(h:P:=by
 have t3:(bits BinOp.and IntKind.u8 ((bt s j:Nat):Int) 128==0)=true:=zJ;clear h4 zJ;generalize bt s j=x at*;go_wp2;refine bodyPost_ret (v:=.agg #[.int .u32 (wW z x k),qJ i]) ?_ rfl (Out.dW HH.o ((hkw.new qR _).new qR _) rfl ((UE.dA (Nat.ne_of_gt HB.o) _).dA (Nat.ne_of_gt HB.o) _));simp[results,Tryz.results156,go_sem,wW,q0,q1]):P:=h
theorem agF{P:Prop}(h:P:=by
 intro W' hW';have q:=HG9.o.kept hW' (JH _ rfl);exact⟨(YP.o.kept hW' (fun c=>absurd (KX.o.at_ x c) qo)).blk.five.2.2.2.2.1,((YO.o.kept hW' (fun c=>absurd (KX.o.at_ Y c) qo)).cell (by rw[List.length_set];omega) (fB qo)).1,(q.cell (k:=0) qs rfl).1,(q.cell (k:=1) qs rfl).1,(q.cell (k:=2) qs rfl).1,(q.cell (k:=3) qs rfl).1,(q.cell (k:=4) qs rfl).1⟩):P:=h
theorem aaZ{P:Prop}(h:P:=by
 have HN:=hide (HE.o.trans (xX hlt));clear HE;go_wp2;go_end0;exact Says.dW HN.o hkp rfl):P:=h
theorem aaY{P:Prop}(h:P:=by
 go_enter Tryz.func103,Tryz.ntmps103;go_wp2;go_ret;rw[HO.o];exact⟨rfl,qr.alloc _⟩):P:=h
theorem ac3{P:Prop}(h:P:=by
 split at h
 .cases h
 cases h;exact⟨⟨hf.dm,hf.ins,hf.funcs,hf.nums,hf.QW⟩,fun _=>h8 qo,fun _=>h10 qo,fun _=>h12 qo⟩):P:=h
theorem ac2{P:Prop}(h:P:=by
 go_enter Tryz.func61,Tryz.ntmps61;go_wp2_with fail
 refine hgo.mono ?_;rintro e w1 ⟨rfl,hp⟩;go_wp2;go_end0;exact⟨rfl,hp⟩):P:=h
theorem afc{P:Prop}(h:P:=by
 obtain⟨-,-,-,⟨I3,J3⟩,-⟩:=hI2.blk.five;generalize gX (dL st1 Z.at_).bad=z at*;have hx2:=hI2.lt;go_wp2;go_ret;rw[vK.o];exact⟨rfl,hI2,(X.alloc _).trans hk2⟩):P:=h
theorem ac1{P:Prop}(h:P:=by
 rw[show(dR s).1=m by rw[dR,Hg.o]];exact(zD).kept' ((Kept.refl (fun _=>False) _).drewN _) (fun _ c=>c.elim)):P:=h
theorem agE{P:Prop}(h:P:=by
 rw[show(dR s).1=m by rw[dR,Hg.o]];exact(hMF).kept' ((Kept.refl (fun _=>False) _).drewN _) (fun _ c=>c.elim)):P:=h
theorem agD{P:Prop}(h:P:=by
 rintro e5 w5 ⟨rfl,HY,hk5⟩;refine⟨_,rfl,hK _ _ ⟨.inl rfl,?_⟩⟩;clear hK K;refine dM qk ?_ _;simp only[Act.put,qy,qz,qw];clear nk ru uE hS0;have XC:=oI.drew.call hk5;have Fg:=hk1.drew.trans hk5;go_wp2;go_meet;exact⟨_,HO.o,HY,XC,Fg⟩):P:=h
theorem agC{P:Prop}(h:P:=by
 obtain⟨z,st1⟩:=ss;simp only at hI1 HM ⊢;go_wp2_with fail
 refine(jF _ op).mono ?_;rintro e wz ⟨rfl,rfl⟩;go_wp2;go_end0;unfold kL;rw[HM.o];exact⟨rfl,hI1.other hne _,⟨_,o1.set 5 (qJ z),Row.nil _ _ _ _⟩,(hk1.mono (fun k _ (c:k=x)=>.inl c)).setCell (p:=(qA ib 5)) (fun _=>.inr rfl) _⟩):P:=h
theorem ac0{P:Prop}(h:P:=by
 have HV:=hide hv;have HO:=hide ho;clear hv hok jY ho;go_wp2;go_end0;exact fC.dW HO.o X ⟨rfl,HV.o⟩ hrd):P:=h
theorem acZ{P:Prop}(h:P:=by
 go_wp2_with fail
 go_quiet (fail)
 have HK8:=hide (HK9.o.drewN nq);go_wp2;go_ret2
 rw[HE2.o];exact⟨rfl,HK8.o⟩):P:=h
theorem acY{P:Prop}(h:P:=by
 go_wp2_with fail
 refine(iY _ _).mono ?_;rintro e w3 ⟨rfl,rfl⟩;exact⟨rfl,Out.dD HH.o hkw⟩):P:=h
theorem agB{P:Prop}(h:P:=by
 have HN:qh (dV (jk m) m.starts=.error (4,xp)):=HE.o.trans (HB.o _ (by rw[YU.o,if_neg qo]));have hb:(0:Int)<(b:Int)+1:=qo;clear HB HO HE YU HTY;go_wp2_with fail
 refine(mD _ _ _).mono ?_;rintro e w9 ⟨rfl,rfl⟩;exact⟨rfl,Says.dD HN.o ((kp1.trans k3).alloc _)⟩):P:=h
theorem agA{P:Prop}(h:P:=by
 go_wp2_with fail
 refine(vW Bh outer en (Nat.le_trans acw (by rw[HEN.o];exact VB.o.1)) VB.o.2).mono ?_;rintro e w7 ⟨rfl,Hz,Rq⟩;go_wp2;go_end0;rw[HE4.o];exact⟨rfl,Hz,⟨cs',Lx,fun c=>(HF6.o c).call Rq⟩,hk6.trans (Rq.mono (fun k _ (c:k=x)=>.inl c))⟩):P:=h
theorem agz{P:Prop}(h:P:=by
 intro hg';rcases h.own.2 with⟨rfl,_⟩ | ⟨g1,aia,ah9,rfl,_,hh1,_⟩
 .simp[Value.ownBlock] at hg
 rcases h'.own.2 with⟨rfl,_⟩ | ⟨g2,cap2,ah8,rfl,_,hh2,_⟩
 .simp[Value.ownBlock] at hg'
 simp[Value.ownBlock] at hg hg';subst hg hg';rw[hh1] at hh2;simp at hh2;exact hne hh2.2):P:=h
theorem afb{P:Prop}(h:P:=by
 go_wp2_with fail
 refine(nW hI2 3 i.at_ qx).mono ?_;rintro e5 w5 ⟨rfl,HY,hk5⟩;go_wp2;go_end0;rw[HR.o];exact⟨rfl,HY,hk2.trans hk5⟩):P:=h
theorem afa{P:Prop}(h:P:=by
 obtain⟨C1,F1⟩:=U.c 0 1;obtain⟨C3,-⟩:=U.c 0 3;have hx:=U.lt 0;go_wp2;go_end0;exact⟨rfl,U.set 0 1 (qJ ((i+1:Nat):Int)) rfl⟩):P:=h
theorem YI{P:Prop}(h:P:=by
 rw[ByteArray.toList_eq];exact(Io ⟨op,hop⟩).trans qt):P:=h
theorem YH{P:Prop}(h:P:=by
 rw[ByteArray.toList_eq];exact(MG ⟨op,hop⟩).trans qt):P:=h
theorem YG{P:Prop}(h:P:=by
 rw[ByteArray.toList_eq];exact(WR ⟨op,hop⟩).trans qt):P:=h
theorem agy{P:Prop}(h:P:=by
 go_wp2;refine bodyPost_ret (v:=.agg #[qJ N',qJ Z.at_]) ?_ rfl ⟨by rw[HN.o],by rw[HN.o];exact((hI2.other oL1.ne _).other oR1.ne _).other oR1.ne _,((JJ.new qo _).new qo _).new qo _⟩;simp[results,Tryz.results92,go_sem,R0',R1']):P:=h
theorem YF{P:Prop}(h:P:=by
 rw[ByteArray.toList_eq];exact(YX ⟨op,hop⟩).trans qt):P:=h
theorem agx{P:Prop}(h:P:=by
 go_wp2_with fail
 refine(vW Bh outer en (Nat.le_trans acw VB.o.1) VB.o.2).mono ?_;rintro e w7 ⟨rfl,Hz,Rq⟩;go_wp2;go_meet;exact⟨_,cs',aa9.o,Hz,Lx,fun c=>(HF6.o c).call Rq,hk6.trans (Rq.mono (fun k _ (c:k=x)=>.inl c))⟩):P:=h
theorem YE{P:Prop}(h:P:=by
 rw[ByteArray.toList_eq];exact(VD ⟨op,hop⟩).trans qt):P:=h
theorem ae9{P:Prop}(h:P:=by
 go_wp2_with fail
 go_quiet (fail)
 go_wp2_with fail
 go_quiet (fail)
 go_wp2;go_ret2
 rw[HR2.o];exact⟨rfl,(JJ.drewN _).drewN _⟩):P:=h
theorem acX{P:Prop}(h:P:=by
 have:k=0\/k=1\/k=2\/k=3\/k=4:=qo;rcases this with rfl | rfl | rfl | rfl | rfl<;>decide):P:=h
theorem aaX{P:Prop}(h:P:=by
 go_enter Tryz.func183,Tryz.ntmps183;go_wp2;go_ret;exact⟨rfl,rfl⟩):P:=h
theorem ae8{P:Prop}(h:P:=by
 clear Ez hoff;go_wp2;go_roundw
 case rel=>exact⟨k+1,gm z b k,st1,qo,rfl,by go_num,hI1,GH,HN.o⟩
 simp[intOf];omega):P:=h
theorem Vx{P:Prop}(h:P:=by
 rw[hq] at ht;exact Bg (by rw[hidx];exact ht)):P:=h
theorem acW{P:Prop}(h:P:=by
 obtain rfl:=jN _ _ hm2;exact⟨rfl,Ends.dD (by rw[HM.o,hm2]) hA2.kept hl2⟩):P:=h
theorem agw{P:Prop}(h:P:=by
 intro j u hj;have hjl:j<ks.length:=by
  have:=(List.getElem?_eq_some_iff.1 hj).1;simpa [kindCells] using this
 have hadd:(⟨gk,0,none⟩:Addr).add j=⟨gk,j,none⟩:=by unfold Addr.add;split<;>simp_all
 rw[hadd,hcells j qo];exact hj):P:=h
theorem agv{P:Prop}(h:P:=by
 go_wp2_with fail
 refine(Fx HA3.o hb3).mono ?_;rintro ee w4 ⟨Po,-,-,aal⟩;obtain⟨rfl,hA4⟩:=Po _ rfl;have HA4:=hide hA4;clear Po hA4;go_wp2;go_end0;exact Ends.dW Tf.o HA4.o (hl3.ig aal rfl)):P:=h
theorem ae7{P:Prop}(h:P:=by
 go_wp2_with fail
 refine(iY _ _).mono ?_;rintro e w3 ⟨rfl,rfl⟩;exact⟨rfl,Out.dD HH.o (X.alloc _)⟩):P:=h
theorem agu{P:Prop}(h:P:=by
 go_wp2_with fail
 refine(sO (HA.o.alloc _) _).mono ?_;rintro ee w1 ⟨rfl,he⟩;rw[if_pos (by first | rfl | exact hz)] at he;subst he;exact⟨rfl,Ends.dD HM.o (HA.o.alloc _).kept (qr.alloc _)⟩):P:=h
theorem acV{P:Prop}(h:P:=by
 obtain rfl:=BK _ _ zD;exact⟨rfl,Ends.dD (by rw[vK.o,zD]) hk3 hl3⟩):P:=h
theorem ae6{P:Prop}(h:P:=by
 rintro e w3 ⟨rfl,rfl⟩;rw[HX.o];go_wp2;go_round
 case rel=>exact⟨k+1,qo,by go_num,HN.o⟩
 simp[intOf];omega):P:=h
theorem agt{P:Prop}(h:P:=by
 have:∀l:List kX,(l.flatMap kX.cells).length=l.length*5:=by
  intro l;induction l with
  | nil=>rfl
  | cons a l ih=>rw[List.flatMap_cons,List.length_append,ih];simp[kX.cells];omega
 rw[this,List.length_reverse]):P:=h
theorem ags{P:Prop}(h:P:=by
 have hm1:=HMM.o V hV;obtain⟨tp,tc,htv,hcell⟩:=D7 hm1.c.dB;obtain⟨g,rfl,hg,hcap,q0,q1,-,-⟩:=hcell _ _ hr;exact⟨g,tc,(hm1.cell (k:=12) qo).trans (congrArg some htv),hm1.ob.lt,hcap,hg,q0,q1⟩):P:=h
theorem agq{P:Prop}(h:P:=by
 go_wp2_with fail
 refine(wo h').mono ?_;rintro e w' ⟨rfl,k,rfl⟩;go_wp2_with fail
 refine(iY _ _).mono ?_;rintro e w' ⟨rfl,rfl⟩;exact⟨rfl,Out.dD HR.o (qr.drewN _)⟩):P:=h
theorem ae5{P:Prop}(h:P:=by
 have HZ:=hide h0;go_enter Tryz.func234,Tryz.ntmps234;go_wp2;go_ret;exact⟨by rw[HH.o,HZ.o];rfl,rfl⟩):P:=h
theorem agp{P:Prop}(h:P:=by
 dsimp only;exact⟨(((Kept.refl (fun _=>False) w).alloc _).alloc _).drew.cell hbw (fun c=>c) |>.trans I0,(((Kept.refl (fun _=>False) w).alloc _).alloc _).drew.cell hmw (fun c=>c) |>.trans F0,qs,qs⟩):P:=h
theorem YD{P:Prop}(h:P:=by
 have q:=HP.o.mod;rw[List.set_set] at q;exact q):P:=h
theorem agn{P:Prop}(h:P:=by
 rw[List.getD_eq_getElem?_getD,<-h4,List.getElem?_take_of_lt hi',Array.getElem?_toList];have:i<cur.size:=by
  have h5:=congrArg List.length h4;simp at h5;omega
 simp[World.cell?,hgg,this]):P:=h
theorem ae4{P:Prop}(h:P:=by
 go_wp2_with fail
 refine(mD _ _ _).mono ?_;rintro e w3 ⟨rfl,rfl⟩;exact⟨rfl,rfl,rfl⟩):P:=h
theorem agm{P:Prop}(h:P:=by
 rintro ee w1 ⟨hok1,-,-,hlow1⟩;obtain⟨rfl,hA1⟩:=hok1 _ rfl;have HA1:=hide hA1;clear hok1 hA1;go_wp2;go_end0;exact Ends.dW rfl HA1.o ((qr.alloc _).trans hlow1)):P:=h
theorem YC{P:Prop}(h:P:=by
 go_wp2;go_ret;exact⟨by rw[HN.o];rfl,rfl⟩):P:=h
theorem ae3{P:Prop}(h:P:=by
 obtain rfl:=jY _ _ (iW hi);exact⟨rfl,Out.dD (HM.o.trans (OW X hi)) hkw⟩):P:=h
theorem agl{P:Prop}(h:P:=by
 dsimp only;exact⟨(((Kept.refl (fun _=>False) W).alloc _).drew.cell hbw (fun c=>c)).trans I0,(((Kept.refl (fun _=>False) W).alloc _).drew.cell hmw (fun c=>c)).trans F1,qs,qs⟩):P:=h
theorem agk{P:Prop}(h:P:=by
 go_enter Tryz.func237,Tryz.ntmps237;go_wp2_with fail
 refine(iY _ _).mono ?_;rintro e w3 ⟨rfl,rfl⟩;exact⟨rfl,oQ.dD HH.o (qr.alloc _)⟩):P:=h
theorem ae2{P:Prop}(h:P:=by
 generalize gX st1.bad=y at*;clear VC hb;go_wp2;go_ret;rw[HN.o];exact⟨rfl,hI1,GH⟩):P:=h
theorem agj{P:Prop}(h:P:=by
 rw[ByteArray.toList_eq];cases hd:opn.data.toList with
 | nil=>exact absurd (show opn.size=0 by show opn.data.size=0;rw[<-Array.length_toList,hd];rfl) h0
 | cons _ _=>rfl):P:=h
theorem acT{P:Prop}(h:P:=by
 go_wp2;go_ret;rw[HN.o];exact⟨⟨_,rfl,YN.o⟩,hI2,hkp⟩):P:=h
theorem agi{P:Prop}(h:P:=by
 obtain⟨rfl,hA4⟩:=Po _ hm4;have HA4:=hide hA4;have HE:=hide (Tf.o.trans hm4);clear Po V9 hm4 hA4 Tf;go_wp2;go_end0;exact Ends.dW HE.o HA4.o hl4):P:=h
theorem agh{P:Prop}(h:P:=by
 rintro ee w2 ⟨rfl,rfl⟩;refine⟨_,rfl,?_⟩;exact⟨rfl,Ends.dD HM.o ((((HA.o.alloc _).kept.drew).alloc _)) ((qr.alloc _).drew.alloc _)⟩):P:=h
theorem agf{P:Prop}(h:P:=by
 exact⟨_,rfl,⟨rfl,rfl,hnb,fun _=>⟨rfl,rfl,Int.natCast_nonneg _⟩,fun c=>absurd c Ro,fun c=>qo,fun _=>rfl,Int.natCast_nonneg _,qZ⟩,qo,qo⟩):P:=h
theorem age{P:Prop}(h:P:=by
 obtain⟨css,hr,he⟩:=h;refine⟨css,vV hr X hs,he.to (fun p cs hh=>⟨?_,hh.2⟩)⟩;obtain⟨lv,e1,a1⟩:=hh.1;exact⟨lv,e1,vV a1 X hs⟩):P:=h
theorem ae1{P:Prop}(h:P:=by
 go_enter Tryz.func242,Tryz.ntmps242;go_wp2;go_ret;exact⟨by rw[HF.o];rfl,rfl⟩):P:=h
theorem ae0{P:Prop}(h:P:=by
 go_wp2;go_end0;exact Ends.dW HM.o (HA.o.alloc _) (qr.alloc _)):P:=h
theorem agd{P:Prop}(h:P:=by
 have HH:qh (dY most tM s n i=.ok (ks,j)):=by show _=_;rw[HE.o,show cnt - k=0 by omega];rfl
 go_wp2;go_ret;exact Out.dW HH.o hkp HL.o hrd):P:=h
theorem WM{P:Prop}(h:P:=by
 obtain rfl:=jY _ _ ho;exact⟨rfl,fC.dD rfl X⟩):P:=h
theorem aed{P:Prop}(h:P:=by
 rcases ho:uM s n i with e|⟨⟨v,a⟩,j2⟩
 .rw[ho] at h;cases h
 rw[ho] at h;have:=mW ho;simp only at h;split at h
 .cases h
 cases h;omega):P:=h
theorem aec{P:Prop}(h:P:=by
 rintro e w2 ⟨rfl,rfl⟩;refine⟨_,rfl,?_⟩;refine⟨rfl,Says.dD HR.o ?_⟩;exact(((qr.alloc _).alloc _).drew.alloc _)):P:=h
theorem aeb{P:Prop}(h:P:=by
 generalize ks.getD j 0=kj at*;go_wp2;go_roundw
 case rel=>exact⟨j,st2,qo,by go_num,⟨HS2.o,aht,hl2⟩,HB2.o,hk4,HN.o⟩
 simp[intOf]):P:=h
theorem WK{P:Prop}(h:P:=by
 rintro⟨ys',g1,g2,g3,g4⟩;exact⟨ys',g1,g2,qo,g4⟩):P:=h
theorem aea{P:Prop}(h:P:=by
 rw[g1];exact⟨_,rfl,⟨rfl,rfl,hnb,fun c=>absurd c hni,fun c=>absurd c Ro,fun c=>qo,fun _=>rfl,Int.le_refl _,qZ⟩,g3,g4⟩):P:=h
theorem ad9{P:Prop}(h:P:=by
 split at h
 .cases h
 cases h;exact⟨⟨hf.dm,hf.ins,hf.funcs,hf.nums,hf.QW⟩,fun c=>absurd c qx,fun _=>h10 qo,fun _=>h12 qo⟩):P:=h
theorem ad8{P:Prop}(h:P:=by
 intro j hj;have:j=0\/j=1\/j=2\/j=3\/j=4:=by simp[RM.none,wh] at hj;omega
 rcases this with rfl | rfl | rfl | rfl | rfl<;>rfl):P:=h
theorem WJ{P:Prop}(h:P:=by
 rintro x cs ⟨a,e,c⟩;exact⟨a,e,Row.mono c hm⟩):P:=h
theorem ad7{P:Prop}(h:P:=by
 clear ha;go_quiet (refine Calls.quiet_of_same (O1 _ i.op))
 go_wp2;go_meet;exact⟨by rw[HO.o],qr.drewN _⟩):P:=h
theorem ad6{P:Prop}(h:P:=by
 go_enter Tryz.func116,Tryz.ntmps116;go_wp2_with fail
 refine wp_loop_rounds 1 ?_;rw[rounds_succ];go_wp2;go_ret2
 exact⟨rfl,rfl⟩):P:=h
theorem ad5{P:Prop}(h:P:=by
 go_enter Tryz.func23,Tryz.ntmps23;go_wp2_with fail
 refine wp_loop_rounds 1 ?_;rw[rounds_succ];go_wp2;go_ret;exact⟨rfl,H.o⟩):P:=h
theorem ad4{P:Prop}(h:P:=by
 cases hO:OL f1 with
 | nil=>exact absurd hO hne
 | cons a l=>rw[hO] at htl;simp only[List.tail_cons] at htl ⊢;rw[hpush htl]):P:=h
theorem ad3{P:Prop}(h:P:=by
 have t3:decide (54<=op/\op<=58)=false:=by simp;omega
 go_enter Tryz.func182,Tryz.ntmps182;go_wp2;go_ret;exact⟨rfl,rfl⟩):P:=h
theorem ad2{P:Prop}(h:P:=by
 exact TT (Y:=c.Y) (lv:=.slice pl nl cl) (i:=i) (hm1.cell (k:=0) qo) hm1.c.dm HX0.o HI2.o ⟨pl,nl,cl,rfl⟩):P:=h
theorem ad1{P:Prop}(h:P:=by
 have t3:decide (40<=op/\op<=58)=false:=by simp;omega
 go_enter Tryz.func76,Tryz.ntmps76;go_wp2;go_ret;exact⟨rfl,rfl⟩):P:=h
theorem adZ{P:Prop}(h:P:=by
 rcases L with L | ⟨L,h3,h4⟩
 .split
  .exact iy L
  exact L
 rw[if_pos (.inr h3),h4];unfold dL;rw[L]):P:=h
theorem adY{P:Prop}(h:P:=by
 rw[show(dR s).1=m by rw[dR,Hg.o]];exact fun _=>by have a1:=HZ.o;have a2:=zD.z8 HQ1.o;rw[a1,a2];rfl):P:=h
theorem adX{P:Prop}(h:P:=by
 rw[Oe.GX trivial ha hj];by_cases hjn:j<n
 .rw[eB hjn];simp only;rw[ih _ _ _ qo]
 rw[iW hjn]):P:=h
theorem adW{P:Prop}(h:P:=by
 go_wp2;go_ret;exact Out.dW HH.o (X.alloc _) (by show Value.int _ _=Value.int _ _;congr 1;omega) (hrd.alloc _)):P:=h
theorem adV{P:Prop}(h:P:=by
 refine⟨⟨qR,trivial⟩,?_⟩;intro b hb;simp at hb;subst hb;exact⟨qs,(vN hm f).2⟩):P:=h
theorem adU{P:Prop}(h:P:=by
 intro ys ha;have:ys=[]:=List.eq_nil_of_length_eq_zero (by rw[<-ha.1];rfl);subst this;exact .inl ⟨rfl,rfl⟩):P:=h
theorem adT{P:Prop}(h:P:=by
 clear HE HO HB ho hok jY;go_wp2;go_roundw
 case rel=>exact⟨k+1,qo,by go_num,hk3,HN.o⟩
 simp[intOf];omega):P:=h
theorem adS{P:Prop}(h:P:=by
 rename_i hc;cases h;have:=(zu (ls:=ls) hm hy (bt s j) _ hst hne qt).1 _ _ hc;exact⟨qo,qo,this.2⟩):P:=h
theorem adR{P:Prop}(h:P:=by
 have HT:=hide t3;go_enter Tryz.func220,Tryz.ntmps220;go_wp2;go_ret;exact⟨by rw[HH.o,HT.o];rfl,rfl⟩):P:=h
theorem adQ{P:Prop}(h:P:=by
 rcases h.own.2 with⟨hv,_⟩ | ⟨g',A,cur,hv,hb,hgg,_⟩
 .cases hv
 cases hv;simp[World.frozen?,hgg]):P:=h
theorem adP{P:Prop}(h:P:=by
 have L:=qX (s:=s) (Z:=Z) most;simp only[List.length_nil] at this;exact Nat.le_trans this qo):P:=h
theorem adO{P:Prop}(h:P:=by
 clear HW hl;go_wp2;go_roundw
 case rel=>exact⟨k+1,qo,by go_num,trivial,HN.o⟩
 simp[intOf];omega):P:=h
theorem aa3{P:Prop}(h:P:=by
 rintro e w1 ⟨X,hok,jY⟩;exact⟨jY _ _ hu,X⟩):P:=h
theorem adN{P:Prop}(h:P:=by
 go_wp2_with fail
 go_quiet (fail)
 go_wp2;go_ret2
 rw[HR8.o];exact⟨rfl,(afZ.alloc _).drewN _⟩):P:=h
theorem adM{P:Prop}(h:P:=by
 clear h0 U L;go_enter Tryz.func120,Tryz.ntmps120;go_wp2;go_ret;exact⟨by rw[HR.o];rfl,rfl⟩):P:=h
abbrev Err:=Nat×Nat
def bt(s:qS)(i:Nat):Nat:=if h:i<s.size then s[i].toNat else 0
theorem zH{s:qS}{i:Nat}(h:i<s.size):bt s i=s[i].toNat:=by simp[bt,h]
theorem xg(s:qS)(i:Nat):bt s i<256:=by
 unfold bt;split
 .exact UInt8.toNat_lt _
 omega
def lD(s:qS)(n i:Nat):Except Err (Nat×Nat):=if i<n then .ok (bt s i,i+1) else .error (2,n)
def o6(s:qS)(n i:Nat):Except Err (Nat×Nat):=if i<n then .ok (bt s i,i) else .error (2,n)
def iO(these:List Nat)(s:qS)(n i:Nat):Except Err (Nat×Nat):=
 if i<n then(if bt s i∈these then .ok (bt s i,i+1) else .error (2,i)) else .error (2,n)
def iK(errno at_:Int):Ending:=.panicked [{v:=.iface 128 (.agg #[qJ errno,qJ at_]),recovered:=false}]
structure Out{α:Type}(w:World)(b:Nat)(s:qS)(n:Nat)(V:α->World->Value->Prop)(r:Except Err (α×Nat))(e:Ending)(w':World):Prop where
 kept:Kept (only b) w w'
 ok:∀x j,r=.ok (x,j)->∃v,e=.returned v/\V x w' v/\Rd w' b s j n
 err:∀q p,r=.error (q,p)->e=iK q p
theorem Out.dW{a:Type}{w w':qW}{b:Nat}{s:qS}{n:Nat}{V:a->qW->qv->Prop}{r:Except Err (a×Nat)}{x:a}{j:Nat}{v:qv}
  (c:r=.ok (x,j)) (X:Kept (only b) w w') (d:V x w' v) (e:Rd w' b s j n):Out w b s n V r (.returned v) w':=
 ⟨X,fun f g h=>by rw[c] at h;cases h;exact⟨v,rfl,d,e⟩,fun q p h=>by rw[c] at h;cases h⟩
theorem Out.dD{a:Type}{w w':qW}{b:Nat}{s:qS}{n:Nat}{V:a->qW->qv->Prop}{r:Except Err (a×Nat)}{q p:Nat}
  (c:r=.error (q,p)) (X:Kept (only b) w w'):Out w b s n V r (iK q p) w':=
 ⟨X,fun d e h=>by(rw[c] at h;cases h),fun f p' h=>by rw[c] at h;cases h;rfl⟩
def isByte(x:Nat)(_:World)(v:Value):Prop:=v=qB x
theorem Kept.drewN{S:qD}{a w:qW}(h:Kept S a w)(k:Nat):Kept S a (w.drewN k):=⟨h.os,h.tape,h.output,h.size,h.block⟩
theorem Rd.drewN{w:qW}{b:Nat}{s:qS}{i n:Nat}(h:Rd w b s i n)(k:Nat):Rd (w.drewN k) b s i n:=
 ⟨h.c0,h.c1,h.c2,h.f0,h.f1,h.f2,h.le,h.big,h.sz⟩
theorem Kept.own{a w:qW}{b o:Nat}(h:Kept (only b) a w)(u:qv):Kept (only b) a (w.setCell (qA b o) u):=h.setCell (p:=(qA b o)) (fun _=>show b=b from rfl) u
theorem Kept.other{w a:qW}{b g j:Nat}(X:Kept (only b) w a)(c:g<w.heap.size)(d:g≠b):a.cell? (qA g j)=w.cell? (qA g j):=
 X.cell (p:=(qA g j)) c (fun(e:g=b)=>d e)
theorem Kept.oz{w a:qW}{b g j:Nat}(X:Kept (only b) w a)(c:g<w.heap.size)(d:g≠b):a.frozen? (qA g j)=w.frozen? (qA g j):=
 X.frozen (p:=(qA g j)) c (fun(e:g=b)=>d e)
def Bts(w:World)(g:Nat)(ts:List Nat):Prop:=∀j,j<ts.length->w.cell? (qA g j)=some (qB (ts.getD j 0:Nat))
theorem Bts.kept{w a:qW}{b g:Nat}{ts:qM}(h:Bts w g ts)(X:Kept (only b) w a)(c:g<w.heap.size)(d:g≠b):Bts a g ts:=
 fun j e=>(X.other c d).trans (h j e)
theorem Rd.alloc{w:qW}{b:Nat}{s:qS}{i n:Nat}(h:Rd w b s i n)(o:Obj):Rd (w.alloc o) b s i n:=
 h.kept (S:=fun _=>False) (qr.alloc o) (fun x=>x)
theorem Kept.vC{S:qD}{w a:qW}{o:Obj}(h:Kept S (w.alloc o) a):Kept S w a:=
 ((Kept.refl S w).alloc o).trans h
theorem WB(w:qW)(x:Nat)(t:TypeId):Bts (w.alloc (.cells #[qB x] t)) w.heap.size [x]:=by
 intro j a;have:j=0:=by simp at a;omega
 subst this;simp
theorem acQ(w:qW)(x y:Nat)(t:TypeId):Bts (w.alloc (.cells #[qB x,qB y] t)) w.heap.size [x,y]:=by
 intro j a;have:j=0\/j=1:=by simp at a;omega
 rcases this with rfl | rfl<;>simp
def gz:List Nat->qS->Nat->Nat->Except Err (Unit×Nat)
 | [],_,_,i=>.ok ((),i)
 | t::ts,s,n,i=>match iO [t] s n i with
  | .error e=>.error e
  | .ok (_,j)=>gz ts s n j
def tl(t:qS)(k:Nat):List Nat:=(t.data.toList.drop k).map UInt8.toNat
theorem AL{t:qS}{k:Nat}(h:k<t.size):tl t k=t[k].toNat::tl t (k+1):=by
 unfold tl;rw[List.drop_eq_getElem_cons (by simpa using h)];rfl
theorem OH{t:qS}{k:Nat}(h:t.size<=k):tl t k=[]:=by
 unfold tl;rw[List.drop_of_length_le (by simpa using h)];rfl
theorem PK{t:qS}{k:Nat}{s:qS}{n j:Nat}{e:Err}(h:k<t.size)(a:iO [t[k].toNat] s n j=.error e):gz (tl t k) s n j=.error e:=by
 rw[AL h];simp[gz,a]
theorem RQ{t:qS}{k:Nat}{s:qS}{n j x a:Nat}(h:k<t.size)(b:iO [t[k].toNat] s n j=.ok (x,a)):gz (tl t k) s n j=gz (tl t (k+1)) s n a:=by
 rw[AL h];simp[gz,b]
def isNone(_:Unit)(_:World)(v:Value):Prop:=v=.tuple #[]
theorem wo{w:qW}{b:Nat}{s:qS}{i n:Nat}(h:Rd w b s i n):
  qC 80 #[qP b] w fun e w'=>e=.returned (.bool (decide (n<=i)))/\∃k,w'=w.drewN k:=by
 obtain⟨c0,c1,c2,a,c,d,f,g,j⟩:=h;go_enter func80,ntmps80;go_wp2;go_quiet (fail)
 go_wp2;go_ret;exact⟨rfl,_,rfl⟩
theorem wR{w:qW}{b:Nat}{s:qS}{i n:Nat}(h:Rd w b s i n):
  qC 83 #[qP b] w fun e w'=>e=.returned (qJ i)/\w'=w:=by
 obtain⟨c0,c1,c2,a,c,d,f,g,j⟩:=h;go_enter func83,ntmps83;go_wp2;go_ret;exact⟨rfl,rfl⟩
theorem mD(a at_:Int)(w:qW):
  qC 125 #[qJ a,qJ at_] w fun e w'=>e=iK a at_/\w'=w:=by
 go_enter func125,ntmps125;go_wp2;exact⟨rfl,rfl,rfl⟩
theorem iY(at_:Int)(w:qW):
  qC 121 #[qJ at_] w fun e w'=>e=iK 2 at_/\w'=w:=by
 go_enter func121,ntmps121;go_wp2_with fail
 refine(mD _ _ _).mono ?_;rintro e w' ⟨rfl,rfl⟩;exact⟨rfl,rfl,rfl⟩
theorem sH{w:qW}{b:Nat}{s:qS}{i n:Nat}(h:Rd w b s i n):
  qC 119 #[qP b] w (Out w b s n isByte (lD s n i)):=by
 have h':=h;obtain⟨c0,c1,c2,g,j,l,m,p,q⟩:=h;by_cases c:i<n
 .have a:lD s n i=.ok (bt s i,i+1):=by simp[lD,c]
  have d:i<s.size:=qo;have f:decide (n<=i)=false:=by simp;omega
  have hb:(i:Int)<(s.size:Int):=qo;have r:0<=(i:Int):=qo;have HR:qh (lD s n i=.ok (bt s i,i+1)):=a;clear a;go_enter func119,ntmps119;go_wp2_with fail
  refine(wo h').mono ?_;rintro e w' ⟨rfl,k,rfl⟩;go_wp2;go_quiet (fail)
  go_wp2;go_ret;exact Out.dW HR.o ((qr.drewN _).own _) (by simp[isByte,zH d]) ((h'.drewN _).move (i+1) qo qs)
 have a:lD s n i=.error (2,n):=by simp[lD,c]
 have HR:qh (lD s n i=.error (2,n)):=a;clear a;have f:decide (n<=i)=true:=by simp;omega
 go_enter func119,ntmps119;exact agq
theorem QK{w:qW}{b:Nat}{s:qS}{i n:Nat}(h:Rd w b s i n):
  qC 225 #[qP b] w (Out w b s n isByte (o6 s n i)):=by
 have h':=h;obtain⟨c0,c1,c2,g,j,l,m,p,q⟩:=h;by_cases c:i<n
 .have a:o6 s n i=.ok (bt s i,i):=by simp[o6,c]
  have d:i<s.size:=qo;have f:decide (n<=i)=false:=by simp;omega
  have hb:(i:Int)<(s.size:Int):=qo;have r:0<=(i:Int):=qo;have HR:qh (o6 s n i=.ok (bt s i,i)):=a;clear a;go_enter func225,ntmps225;go_wp2_with fail
  refine(wo h').mono ?_;rintro e w' ⟨rfl,k,rfl⟩;go_wp2;go_quiet (fail)
  go_wp2;go_ret;exact Out.dW HR.o ((qr.drewN _).drewN _) (by simp[isByte,zH d]) ((h'.drewN _).drewN _)
 have a:o6 s n i=.error (2,n):=by simp[o6,c]
 have HR:qh (o6 s n i=.error (2,n)):=a;clear a;have f:decide (n<=i)=true:=by simp;omega
 go_enter func225,ntmps225;exact agq
theorem Rx{ts:qM}{x:Nat}(h:∀j,j<ts.length->ts.getD j 0≠x):x∉ts:=by
 intro b;obtain⟨j,a,c⟩:=List.getElem_of_mem b;exact h j a (by simp[List.getD,a,c])
theorem QT{ts:qM}{j x:Nat}(a:j<ts.length)(h:ts.getD j 0=x):x∈ts:=by
 have:ts.getD j 0=ts[j]:=by simp[List.getD,a]
 rw[<-h,this];exact List.getElem_mem a
theorem XX{w:qW}{g A:Nat}{ts:qM}(x:Nat)(h:Bts w g ts)(n:ts.length<=100):
  qC 187 #[.slice (some (qA g 0)) ts.length A,qB x] w fun e w'=>(∃z:Int,e=.returned (qJ z)/\(0<=z↔x∈ts))/\w'=w:=by
 go_enter func187,ntmps187;go_wp2;go_loop [5,8] (fun _ i=>∃k:Nat,k<=ts.length/\i=qJ k/\∀j,j<k->ts.getD j 0≠x) (fun _ i=>ts.length - (intOf i).toNat)
 case atStart=>exact⟨0,qZ,rfl,qo⟩
 obtain⟨k,X,rfl,hno⟩:=hrel;have b:qh (∀j,j<k->ts.getD j 0≠x):=hno;clear hno;by_cases c:k<ts.length
 .have hc:=h k c;have p:(k:Int)<(ts.length:Int):=qo;generalize hy:ts.getD k 0=y at hc;have d:qh (ts.getD k 0=y):=hy;clear hy;by_cases hx:x=y
  .have f:((x:Int)==(y:Int))=true:=by simp[hx]
   have a:qh (x=y):=hx;clear hx;go_wp2;go_ret;exact⟨⟨k,rfl,by simp;exact QT c (d.o.trans a.o.symm)⟩,rfl⟩
  have f:((x:Int)==(y:Int))=false:=by simp;omega
  have a:qh (¬x=y):=hx;clear hx;go_wp2;go_round
  case rel=>
   refine⟨k+1,qo,by go_num,fun j l=>?_⟩;by_cases m:j=k
   .subst m;rw[d.o];exact fun e=>a.o e.symm
   exact b.o j qo
  simp[intOf];omega
 go_wp2;go_ret;exact⟨⟨-1,rfl,by simpa using Rx (fun j l=>b.o j qo)⟩,rfl⟩
theorem Qa{w:qW}{g A:Nat}{ts:qM}(x:Nat)(h:Bts w g ts)(b:ts.length<=100):
  qC 155 #[.slice (some (qA g 0)) ts.length A,qB x] w fun e w'=>e=.returned (.bool (decide (x∈ts)))/\w'=w:=by
 go_enter func155,ntmps155;go_wp2_with fail
 refine(XX x h b).mono ?_;rintro e w' ⟨⟨z,rfl,a⟩,rfl⟩;have c:qh (0<=z↔x∈ts):=a;clear a;go_wp2;go_ret;exact⟨congrArg (fun t=>Ending.returned (.bool t)) (decide_eq_decide.2 c.o),rfl⟩
theorem one_any{w:qW}{b g A:Nat}{s:qS}{i n:Nat}{ts:qM}(h:Rd w b s i n)(k:Bts w g ts)(l:ts.length<=100)(m:g≠b)(p:g<w.heap.size):
  qC 118 #[qP b,.slice (some (qA g 0)) ts.length A] w (Out w b s n isByte (iO ts s n i)):=by
 have h':=h;obtain⟨c0,c1,c2,q,r,t,z,B,C⟩:=h;go_enter func118,ntmps118;go_wp2_with fail
 refine(sH h').mono ?_;rintro e D ⟨X,f,j⟩;have E:∀(x:Bool) (w:qW),(Op.unary .not (.bool x)).run prog w=.ok (.bool (!x)) w:=fun _ _=>rfl;by_cases a:i<n
 .obtain⟨v,rfl,hv,hrd⟩:=f _ _ (show lD s n i=.ok (bt s i,i+1) by simp[lD,a]);obtain rfl:v=qB (bt s i:Nat):=hv;have u:=k.kept X p m;clear f j c0 c1 c2 q r t;go_wp2_with fail
  refine(Qa _ u l).mono ?_;rintro e F ⟨rfl,rfl⟩;by_cases c:bt s i∈ts
  .have y:decide (bt s i∈ts)=true:=by simp[c]
   have d:qh (iO ts s n i=.ok (bt s i,i+1)):=by show iO ts s n i=_;simp[iO,a,c]
   go_wp2;go_ret;exact Out.dW d.o X rfl hrd
  have y:decide (bt s i∈ts)=false:=by simp[c]
  have d:qh (iO ts s n i=.error (2,i)):=by show iO ts s n i=_;simp[iO,a,c]
  go_wp2_with fail
  refine(iY _ _).mono ?_;rintro e G ⟨rfl,rfl⟩;exact⟨rfl,Out.dD d.o X⟩
 obtain rfl:=j _ _ (show lD s n i=.error (2,n) by simp[lD,a]);exact⟨rfl,Out.dD (by simp[iO,a]) X⟩
theorem Gf{w:qW}{b:Nat}{s t:qS}{i n:Nat}(h:Rd w b s i n)(hb:t.size<=100):
  qC 79 #[qP b,.string t] w (Out w b s n isNone (gz (tl t 0) s n i)):=by
 go_enter func79,ntmps79;go_wp2;go_loopw [4,7] (fun _ q wr=>∃k j:Nat,k<=t.size/\q=qJ k/\Rd wr b s j n/\Kept (only b) w wr/\gz (tl t 0) s n i=gz (tl t k) s n j) (fun _ q _=>t.size - (intOf q).toNat)
 case atStart=>exact⟨0,i,qZ,rfl,h,Kept.refl _ _,rfl⟩
 obtain⟨k,j,X,rfl,c,f,g⟩:=hrel;have d:qh (gz (tl t 0) s n i=gz (tl t k) s n j):=g;clear g;by_cases l:k<t.size
 .have hlt':(k:Int)<(t.size:Int):=qo;go_wp2_with fail
  refine(one_any (ts:=[t[k].toNat]) (c.alloc _) (WB _ _ _) qs (by have:=c.lt;omega) qs).mono ?_;rintro e D ⟨z,m,r⟩;have u:=f.trans z.vC;rcases a:iO [t[k].toNat] s n j with⟨q,p⟩|⟨x,y⟩
  .obtain rfl:=r _ _ a;exact⟨rfl,Out.dD (d.o.trans (PK l a)) u⟩
  obtain⟨v,rfl,-,A⟩:=m _ _ a;have B:qh (gz (tl t 0) s n i=gz (tl t (k+1)) s n y):=d.o.trans (RQ l a);clear m r a;go_wp2;go_roundw
  case rel=>exact⟨k+1,y,qo,by go_num,A,u,B.o⟩
  simp[intOf];omega
 have C:qh (gz (tl t 0) s n i=.ok ((),j)):=by show _=_;rw[d.o,OH qo];rfl
 go_wp2;go_end0;exact Out.dW C.o f rfl c
theorem Um{w:qW}{b:Nat}{s:qS}{i n:Nat}(h:Rd w b s i n)(j:Nat)(a:j<=n):
  qC 224 #[qP b,qJ j] w fun e w'=>qU e/\Rd w' b s j n/\Kept (only b) w w':=by
 have h':=h;obtain⟨c0,c1,c2,c,d,f,g,k,l⟩:=h;go_enter func224,ntmps224;go_wp2;go_end0;exact⟨rfl,h'.move j a rfl,qr.own _⟩
theorem Kept.new{S:qD}{a w:qW}(h:Kept S a w){g o:Nat}(b:a.heap.size<=g)(u:qv):Kept S a (w.setCell (qA g o) u):=
 h.setCell (p:=(qA g o)) (fun(x:g<a.heap.size)=>absurd x qo) u
theorem Rd.dA{w:qW}{b:Nat}{s:qS}{i n:Nat}(h:Rd w b s i n){g o:Nat}(a:g≠b)(u:qv):Rd (w.setCell (qA g o) u) b s i n:=
 h.kept (S:=only g) (qr.own u) (fun(e:b=g)=>a e.symm)
theorem hide{p:Prop}(h:p):qh p:=h
def wW(z:Int)(x k:Nat):Int:=bits BinOp.or IntKind.u32 z (bits BinOp.and IntKind.u8 (x:Int) 127%4294967296*2 ^ (7*k)%4294967296)
def lastB(x:Nat):Bool:=bits BinOp.and IntKind.u8 (x:Int) 128==0
def yw(s:qS)(n start:Nat):Nat->Nat->Int->Nat->Except Err ((Int×Nat)×Nat)
 | 0,_,_,j=>.error (2,j)
 | m+1,k,z,j=>match lD s n j with
  | .error e=>.error e
  | .ok (x,j')=>
   if k=4/\((x:Int) / 16 !=0)=true then .error (2,j)
   else if lastB x=true then .ok ((wW z x k,start),j')
   else yw s n start m (k+1) (wW z x k) j'
def uM(s:qS)(n i:Nat):Except Err ((Int×Nat)×Nat):=yw s n i 5 0 0 i
def isNum(x:Int×Nat)(_:World)(v:Value):Prop:=v=.agg #[.int .u32 x.1,qJ x.2]
theorem ND{x:Nat}(h:((x:Int) / 16 !=0)=false):lastB x=true:=by
 have hx:x<16:=by simp at h;omega
 have a:∀y:Fin 16,lastB y.val=true:=qx;exact a ⟨x,hx⟩
theorem eB{s:qS}{n i:Nat}(h:i<n):lD s n i=.ok (bt s i,i+1):=by simp[lD,h]
theorem iW{s:qS}{n i:Nat}(h:¬i<n):lD s n i=.error (2,n):=by simp[lD,h]
theorem OD{s:qS}{n start k j:Nat}{z:Int}(X:k<=4)(h:¬j<n):yw s n start (5 - k) k z j=.error (2,n):=by
 obtain⟨m,a⟩:∃m,5 - k=m+1:=⟨4 - k,qo⟩;rw[a];simp[yw,iW h]
theorem MJ{s:qS}{n start k j:Nat}{z:Int}(X:k=4)(h:j<n)(hx:((bt s j:Int) / 16 !=0)=true):yw s n start (5 - k) k z j=.error (2,j):=by
 subst X;show yw s n start 1 4 z j=_;unfold yw;rw[eB h];exact if_pos ⟨rfl,hx⟩
theorem Di{s:qS}{n start k j:Nat}{z:Int}(X:k<=4)(h:j<n)(hx:¬(k=4/\((bt s j:Int) / 16 !=0)=true))(a:lastB (bt s j)=true):
  yw s n start (5 - k) k z j=.ok ((wW z (bt s j) k,start),j+1):=by
 obtain⟨m,b⟩:∃m,5 - k=m+1:=⟨4 - k,qo⟩;rw[b];unfold yw;rw[eB h];simp only[if_neg hx,if_pos a]
theorem Qq{s:qS}{n start k j:Nat}{z:Int}(X:k<4)(h:j<n)(a:lastB (bt s j)=false):
  yw s n start (5 - k) k z j=yw s n start (5 - (k+1)) (k+1) (wW z (bt s j) k) (j+1):=by
 obtain⟨m,b⟩:∃m,5 - k=m+1:=⟨4 - k,qo⟩;have d:5 - (k+1)=m:=qo;rw[b,d];conv=>lhs;unfold yw
 rw[eB h];have hx:¬(k=4/\((bt s j:Int) / 16 !=0)=true):=fun c=>qo;have e:¬lastB (bt s j)=true:=by simp[a]
 simp only[if_neg hx,if_neg e]
theorem uQ{w:qW}{b:Nat}{s:qS}{i n:Nat}(h:Rd w b s i n):
  qC 156 #[qP b] w (Out w b s n isNum (uM s n i)):=by
 have l:=h.c1;have A:=h.lt;go_enter func156,ntmps156;go_wp2;go_loopw [4,5,6,7] (fun v q _ _ wr=>∃(k:Nat) (z:Int) (j:Nat),k<=4/\q=qJ (7*k:Int)/\v=.int .u32 z/\Rd wr b s j n/\
   Kept (only b) (w.alloc (.cells #[.int .u32 0,qJ 0] 152)) wr/\uM s n i=yw s n i (5 - k) k z j) (fun _ q _ _ _=>100 - (intOf q).toNat)
 case atStart=>exact⟨0,0,i,qo,rfl,rfl,h.alloc _,Kept.refl _ _,rfl⟩
 obtain⟨k,z,j,X,rfl,rfl,m,p,r⟩:=hrel;have d:qh (uM s n i=yw s n i (5 - k) k z j):=r;clear r;have l:=m.c1;go_wp2_with fail
 refine(sH m).mono ?_;rintro e f ⟨t,u,y⟩;have c:=p.trans t;have hkw:Kept (only b) w f:=c.vC;have q0:f.cell? (qA w.heap.size 0)=some (.int .u32 0):=by rw[c.other qs qo];simp
 have q1:f.cell? (qA w.heap.size 1)=some (qJ 0):=by rw[c.other qs qo];simp
 have C:f.frozen? (qA w.heap.size 0)=false:=by rw[c.oz qs qo];simp
 have D:f.frozen? (qA w.heap.size 1)=false:=by rw[c.oz qs qo];simp
 by_cases a:j<n
 .obtain⟨v,rfl,hv,UE⟩:=u _ _ (eB a);obtain rfl:v=qB (bt s j:Nat):=hv;clear u y l;have HB:qh (b<w.heap.size):=A;clear p t;by_cases h4:k=4
  .have B:((7*(k:Int))==28)=true:=by simp;omega
   cases g:((bt s j:Int) / 16 !=0) with
   | true=>have HH:qh (uM s n i=.error (2,j)):=d.o.trans (MJ h4 a g);clear h4;generalize bt s j=x at*;exact acY
   | false=>have zJ:=ND g;have HH:qh (uM s n i=.ok ((wW z (bt s j) k,i),j+1)):=d.o.trans (Di X a (by simp[g]) zJ);exact agG
  have B:((7*(k:Int))==28)=false:=by simp;omega
  cases zJ:lastB (bt s j) with
  | true=>have HH:qh (uM s n i=.ok ((wW z (bt s j) k,i),j+1)):=d.o.trans (Di X a qo zJ);exact agG
  | false=>
   have HH:qh (uM s n i=yw s n i (5 - (k+1)) (k+1) (wW z (bt s j) k) (j+1)):=d.o.trans (Qq qo a zJ);have t3:(bits BinOp.and IntKind.u8 ((bt s j:Nat):Int) 128==0)=false:=zJ;clear zJ;generalize bt s j=x at*;go_wp2;go_roundw
   case rel=>exact⟨k+1,wW z x k,j+1,qo,by go_num,rfl,UE,c,HH.o⟩
   simp[intOf];omega
 obtain rfl:=y _ _ (iW a);exact⟨rfl,Out.dD (d.o.trans (OD X a)) hkw⟩
theorem OA(z:Int)(x k:Nat):0<=wW z x k/\wW z x k<=4294967295:=bounds_u32 (wf_bits _ _ _ _)
theorem WU{s:qS}{n start:Nat}:∀(m k:Nat) (z:Int) (j:Nat) {v:Int} {a b:Nat},yw s n start m k z j=.ok ((v,a),b)->0<=v/\v<=4294967295/\a=start/\j<b/\b<=n:=by
 intro m;induction m with
 | zero=>intro k z j v a b h;simp[yw] at h
 | succ m d=>
  intro k z j v a b h;unfold yw at h;by_cases c:j<n
  .rw[eB c] at h;simp only at h;split at h
   .cases h
   split at h
   .cases h;have:=OA z (bt s j) k;exact⟨this.1,this.2,rfl,qo,qo⟩
   obtain⟨U,L,h3,h4,h5⟩:=d _ _ _ h;exact⟨U,L,h3,qo,h5⟩
  rw[iW c] at h;simp at h
theorem mW{s:qS}{n i:Nat}{v:Int}{a j:Nat}(h:uM s n i=.ok ((v,a),j)):0<=v/\v<=4294967295/\a=i/\i<j/\j<=n:=WU _ _ _ _ h
def eZ(most:Nat)(s:qS)(n i:Nat):Except Err (Nat×Nat):=
 match uM s n i with
 | .error e=>.error e
 | .ok ((v,a),j)=>if(most:Int)<v then .error (2,a) else .ok (v.toNat,j)
def isInt(x:Nat)(_:World)(v:Value):Prop:=v=qJ x
def kZ(k:Nat)(s:qS)(n i:Nat):Except Err (qS×Nat):=
 if n - i<k then .error (2,n) else .ok (s.extract i (i+k),i+k)
def isText(x:qS)(_:World)(v:Value):Prop:=v=.string x
theorem count_any{w:qW}{b:Nat}{s:qS}{i n:Nat}(most:Nat)(h:Rd w b s i n)(_hm:most<=5000):
  qC 188 #[qP b,qJ most] w (Out w b s n isInt (eZ most s n i)):=by
 go_enter func188,ntmps188;go_wp2_with fail
 refine(uQ h).mono ?_;rintro e l ⟨X,d,f⟩;rcases c:uM s n i with⟨q,p⟩|⟨⟨v,a⟩,j⟩
 .obtain rfl:=f _ _ c;exact⟨rfl,Out.dD (by simp[eZ,c]) X⟩
 obtain⟨u,rfl,k,hrd⟩:=d _ _ c;obtain rfl:u=.agg #[.int .u32 v,qJ a]:=k;obtain⟨v0,v1,-,-,-⟩:=mW c;have m:=hrd.lt;clear d f;by_cases g:(most:Int)<v
 .have HH:qh (eZ most s n i=.error (2,a)):=by show _=_;simp[eZ,c,g]
  clear c;exact ae7
 have HH:qh (eZ most s n i=.ok (v.toNat,j)):=by show _=_;simp[eZ,c,g]
 clear c;exact adW
theorem Iz{w:qW}{b:Nat}{s:qS}{i n:Nat}(k:Nat)(h:Rd w b s i n)(g:k<=5000):
  qC 192 #[qP b,qJ k] w (Out w b s n isText (kZ k s n i)):=by
 have h':=h;obtain⟨c0,c1,c2,j,l,m,p,q,r⟩:=h;have a:(n:Int) - (i:Int)=((n - i:Nat):Int):=qo;by_cases X:n - i<k
 .have d:decide ((n:Int) - (i:Int)<(k:Int))=true:=by simp;omega
  have c:qh (kZ k s n i=.error (2,n)):=by show _=_;simp[kZ,X]
  have f:=hide a;clear a;go_enter func192,ntmps192;go_wp2;go_quiet (fail)
  go_wp2_with fail
  refine(iY _ _).mono ?_;rintro e t ⟨rfl,rfl⟩;exact⟨rfl,Out.dD c.o (qr.drewN _)⟩
 have d:decide ((n:Int) - (i:Int)<(k:Int))=false:=by simp;omega
 have c:qh (kZ k s n i=.ok (s.extract i (i+k),i+k)):=by show _=_;simp[kZ,X]
 have f:=hide a;clear a;have u:(i:Int)+(k:Int)<=(s.size:Int):=qo;go_enter func192,ntmps192;go_wp2;go_quiet (fail)
 go_wp2;go_quiet (fail)
 go_wp2;go_ret;exact Out.dW c.o ((qr.drewN _).own _) rfl ((h'.drewN _).move (i+k) qo qs)
def pY(z:Int)(x k:Nat):Int:=bits BinOp.or IntKind.u64 z (IntKind.u64.wrap (IntKind.u64.wrap (bits BinOp.and IntKind.u8 (x:Int) 127)*2 ^ (7*k)))
def Bt(room x:Nat):Bool:=(x:Int) / 2 ^ (room - 1)==0||(x:Int) / 2 ^ (room - 1)==127 / 2 ^ (room - 1)
def Ou(z:Int)(x k:Nat):Int:=
 if(bits BinOp.and IntKind.u8 (x:Int) 64 !=0)=true/\7*(k:Int)+7<64 then wrap64 (bits BinOp.or IntKind.u64 z (IntKind.u64.wrap (18446744073709551615*2 ^ (7*k+7)))) else wrap64 z
def yO(K room:Nat)(s:qS)(n:Nat):Nat->Nat->Int->Nat->Except Err (Int×Nat)
 | 0,_,_,j=>.error (2,j)
 | m+1,k,z,j=>match lD s n j with
  | .error e=>.error e
  | .ok (x,j')=>
   if k=K/\Bt room x=false then .error (2,j)
   else if lastB x=true then .ok (Ou (pY z x k) x k,j')
   else yO K room s n m (k+1) (pY z x k) j'
def sM(K room:Nat)(s:qS)(n i:Nat):Except Err (Int×Nat):=yO K room s n (K+1) 0 0 i
def aab(x:Int)(_:World)(v:Value):Prop:=v=qJ x
theorem Nz:∀x:Fin 256,Bt 4 x.val=true->lastB x.val=true:=by decide+kernel
theorem Ny:∀x:Fin 256,Bt 5 x.val=true->lastB x.val=true:=by decide+kernel
theorem NC:∀x:Fin 256,Bt 1 x.val=true->lastB x.val=true:=by decide+kernel
section
variable {K room:Nat} {s:qS} {n k j:Nat} {z:Int}
theorem OW(X:k<=K)(h:¬j<n):yO K room s n (K+1 - k) k z j=.error (2,n):=by
 obtain⟨m,a⟩:∃m,K+1 - k=m+1:=⟨K - k,qo⟩;rw[a];simp[yO,iW h]
theorem AX(X:k=K)(h:j<n)(hx:Bt room (bt s j)=false):yO K room s n (K+1 - k) k z j=.error (2,j):=by
 obtain⟨m,a⟩:∃m,K+1 - k=m+1:=⟨K - k,qo⟩;rw[a];unfold yO;rw[eB h];exact if_pos ⟨X,hx⟩
theorem vU(X:k<=K)(h:j<n)(hx:¬(k=K/\Bt room (bt s j)=false))(a:lastB (bt s j)=true):
  yO K room s n (K+1 - k) k z j=.ok (Ou (pY z (bt s j) k) (bt s j) k,j+1):=by
 obtain⟨m,b⟩:∃m,K+1 - k=m+1:=⟨K - k,qo⟩;rw[b];unfold yO;rw[eB h];simp only[if_neg hx,if_pos a]
theorem DC(X:k<K)(h:j<n)(a:lastB (bt s j)=false):
  yO K room s n (K+1 - k) k z j=yO K room s n (K+1 - (k+1)) (k+1) (pY z (bt s j) k) (j+1):=by
 obtain⟨m,b⟩:∃m,K+1 - k=m+1:=⟨K - k,qo⟩;have d:K+1 - (k+1)=m:=qo;rw[b,d];conv=>lhs;unfold yO
 rw[eB h];have hx:¬(k=K/\Bt room (bt s j)=false):=fun c=>qo;have e:¬lastB (bt s j)=true:=by simp[a]
 simp only[if_neg hx,if_neg e]
end
theorem Oz(z:Int)(x k:Nat)(w:qW)(X:k<=9):
  qC 235 #[.int .u64 z,qB x,qJ (7*k+7:Int)] w fun e w'=>e=.returned (qJ (Ou z x k))/\w'=w:=by
 by_cases U:bits BinOp.and IntKind.u8 (x:Int) 64=0
 .have HH:qh (Ou z x k=wrap64 z):=by show _=_;simp[Ou,U]
  go_enter func235,ntmps235;exact Ey
 have a:(bits BinOp.and IntKind.u8 (x:Int) 64 !=0)=true:=by simpa using U
 by_cases L:7*(k:Int)+7<64
 .have HH:qh (Ou z x k=wrap64 (bits BinOp.or IntKind.u64 z (IntKind.u64.wrap (18446744073709551615*2 ^ (7*k+7))))):=by show _=_;unfold Ou;rw[if_pos ⟨a,L⟩]
  clear U;go_enter func235,ntmps235;exact Ey
 have HH:qh (Ou z x k=wrap64 z):=by show _=_;unfold Ou;rw[if_neg (fun c=>L c.2)]
 clear U;go_enter func235,ntmps235;exact Ey
theorem aes(x:Nat):Bt 4 x=((x:Int) / 8==0||(x:Int) / 8==15):=by simp[Bt]
theorem MS(x:Nat)(w:qW):
  qC 234 #[qB x,qJ 4] w fun e w'=>e=.returned (.bool (Bt 4 x))/\w'=w:=by
 have HH:qh (Bt 4 x=((x:Int) / 8==0||(x:Int) / 8==15)):=aes x;by_cases h0:(x:Int) / 8=0
 .exact ae5
 go_enter func234,ntmps234;exact Ey
theorem VO{w:qW}{b:Nat}{s:qS}{i n:Nat}(h:Rd w b s i n):
  qC 219 #[qP b,qJ 32] w (Out w b s n aab (sM 4 4 s n i)):=by
 have c:=h.c1;go_enter func219,ntmps219;go_wp2;go_loopw [6,7,8,9] (fun v q _ _ wr=>∃(k:Nat) (z:Int) (j:Nat),k<=4/\q=qJ (7*k:Int)/\v=.int .u64 z/\Rd wr b s j n/\
   Kept (only b) w wr/\sM 4 4 s n i=yO 4 4 s n (4+1 - k) k z j) (fun _ q _ _ _=>100 - (intOf q).toNat)
 case atStart=>exact⟨0,0,i,qo,rfl,rfl,h,Kept.refl _ _,rfl⟩
 obtain⟨k,z,j,X,rfl,rfl,d,f,g⟩:=hrel;have HM:qh (sM 4 4 s n i=yO 4 4 s n (4+1 - k) k z j):=g;clear g;have c:=d.c1;go_wp2_with fail
 refine(sH d).mono ?_;rintro e u ⟨l,m,jY⟩;have hkw:=f.trans l;have y:∀(x:Bool) (w:qW),(Op.unary .not (.bool x)).run prog w=.ok (.bool (!x)) w:=fun _ _=>rfl;by_cases hi:j<n
 .obtain⟨v,rfl,hv,UE⟩:=m _ _ (eB hi);obtain rfl:v=qB (bt s j:Nat):=hv;clear m jY c f l;have p:Bt 4 (bt s j)=true->lastB (bt s j)=true:=Nz ⟨bt s j,xg s j⟩;have r:=hide p;clear p;by_cases h4:k=4
  .have t:((7*(k:Int))==28)=true:=by simp;omega
   cases a:Bt 4 (bt s j) with
   | false=>
    have HH:qh (sM 4 4 s n i=.error (2,j)):=HM.o.trans (AX h4 hi a);clear h4;generalize bt s j=x at*;go_wp2_with fail
    refine(MS _ _).mono ?_;rintro e w3 ⟨rfl,rfl⟩;exact acY
   | true=>
    have zJ:=r.o a;have HH:qh (sM 4 4 s n i=.ok (Ou (pY z (bt s j) k) (bt s j) k,j+1)):=HM.o.trans (vU X hi (by simp[a]) zJ);have t3:(bits BinOp.and IntKind.u8 ((bt s j:Nat):Int) 128==0)=true:=zJ;clear h4 zJ;generalize bt s j=x at*;go_wp2_with fail
    refine(MS _ _).mono ?_;rintro e w3 ⟨rfl,rfl⟩;exact YK
  have t:((7*(k:Int))==28)=false:=by simp;omega
  cases zJ:lastB (bt s j) with
  | true=>have HH:qh (sM 4 4 s n i=.ok (Ou (pY z (bt s j) k) (bt s j) k,j+1)):=HM.o.trans (vU X hi qo zJ);have t3:(bits BinOp.and IntKind.u8 ((bt s j:Nat):Int) 128==0)=true:=zJ;clear h4 zJ;generalize bt s j=x at*;exact YK
  | false=>have HH:qh (sM 4 4 s n i=yO 4 4 s n (4+1 - (k+1)) (k+1) (pY z (bt s j) k) (j+1)):=HM.o.trans (DC qo hi zJ);exact afd
 exact ae3
theorem aer(x:Nat):Bt 5 x=((x:Int) / 16==0||(x:Int) / 16==7):=by simp[Bt]
theorem MR(x:Nat)(w:qW):
  qC 234 #[qB x,qJ 5] w fun e w'=>e=.returned (.bool (Bt 5 x))/\w'=w:=by
 have HH:qh (Bt 5 x=((x:Int) / 16==0||(x:Int) / 16==7)):=aer x;by_cases h0:(x:Int) / 16=0
 .exact ae5
 go_enter func234,ntmps234;exact Ey
theorem abQ{w:qW}{b:Nat}{s:qS}{i n:Nat}(h:Rd w b s i n):
  qC 219 #[qP b,qJ 33] w (Out w b s n aab (sM 4 5 s n i)):=by
 have c:=h.c1;go_enter func219,ntmps219;go_wp2;go_loopw [6,7,8,9] (fun v q _ _ wr=>∃(k:Nat) (z:Int) (j:Nat),k<=4/\q=qJ (7*k:Int)/\v=.int .u64 z/\Rd wr b s j n/\
   Kept (only b) w wr/\sM 4 5 s n i=yO 4 5 s n (4+1 - k) k z j) (fun _ q _ _ _=>100 - (intOf q).toNat)
 case atStart=>exact⟨0,0,i,qo,rfl,rfl,h,Kept.refl _ _,rfl⟩
 obtain⟨k,z,j,X,rfl,rfl,d,f,g⟩:=hrel;have HM:qh (sM 4 5 s n i=yO 4 5 s n (4+1 - k) k z j):=g;clear g;have c:=d.c1;go_wp2_with fail
 refine(sH d).mono ?_;rintro e u ⟨l,m,jY⟩;have hkw:=f.trans l;have y:∀(x:Bool) (w:qW),(Op.unary .not (.bool x)).run prog w=.ok (.bool (!x)) w:=fun _ _=>rfl;by_cases hi:j<n
 .obtain⟨v,rfl,hv,UE⟩:=m _ _ (eB hi);obtain rfl:v=qB (bt s j:Nat):=hv;clear m jY c f l;have p:Bt 5 (bt s j)=true->lastB (bt s j)=true:=Ny ⟨bt s j,xg s j⟩;have r:=hide p;clear p;by_cases h4:k=4
  .have t:((7*(k:Int))==28)=true:=by simp;omega
   cases a:Bt 5 (bt s j) with
   | false=>
    have HH:qh (sM 4 5 s n i=.error (2,j)):=HM.o.trans (AX h4 hi a);clear h4;generalize bt s j=x at*;go_wp2_with fail
    refine(MR _ _).mono ?_;rintro e w3 ⟨rfl,rfl⟩;exact acY
   | true=>
    have zJ:=r.o a;have HH:qh (sM 4 5 s n i=.ok (Ou (pY z (bt s j) k) (bt s j) k,j+1)):=HM.o.trans (vU X hi (by simp[a]) zJ);have t3:(bits BinOp.and IntKind.u8 ((bt s j:Nat):Int) 128==0)=true:=zJ;clear h4 zJ;generalize bt s j=x at*;go_wp2_with fail
    refine(MR _ _).mono ?_;rintro e w3 ⟨rfl,rfl⟩;exact YK
  have t:((7*(k:Int))==28)=false:=by simp;omega
  cases zJ:lastB (bt s j) with
  | true=>have HH:qh (sM 4 5 s n i=.ok (Ou (pY z (bt s j) k) (bt s j) k,j+1)):=HM.o.trans (vU X hi qo zJ);have t3:(bits BinOp.and IntKind.u8 ((bt s j:Nat):Int) 128==0)=true:=zJ;clear h4 zJ;generalize bt s j=x at*;exact YK
  | false=>have HH:qh (sM 4 5 s n i=yO 4 5 s n (4+1 - (k+1)) (k+1) (pY z (bt s j) k) (j+1)):=HM.o.trans (DC qo hi zJ);exact afd
 exact ae3
theorem aet(x:Nat):Bt 1 x=((x:Int)==0||(x:Int)==127):=by simp[Bt]
theorem MW(x:Nat)(w:qW):
  qC 234 #[qB x,qJ 1] w fun e w'=>e=.returned (.bool (Bt 1 x))/\w'=w:=by
 have HH:qh (Bt 1 x=((x:Int)==0||(x:Int)==127)):=aet x;by_cases h0:(x:Int)=0
 .exact ae5
 go_enter func234,ntmps234;exact Ey
theorem VN{w:qW}{b:Nat}{s:qS}{i n:Nat}(h:Rd w b s i n):
  qC 219 #[qP b,qJ 64] w (Out w b s n aab (sM 9 1 s n i)):=by
 have c:=h.c1;go_enter func219,ntmps219;go_wp2;go_loopw [6,7,8,9] (fun v q _ _ wr=>∃(k:Nat) (z:Int) (j:Nat),k<=9/\q=qJ (7*k:Int)/\v=.int .u64 z/\Rd wr b s j n/\
   Kept (only b) w wr/\sM 9 1 s n i=yO 9 1 s n (9+1 - k) k z j) (fun _ q _ _ _=>100 - (intOf q).toNat)
 case atStart=>exact⟨0,0,i,qo,rfl,rfl,h,Kept.refl _ _,rfl⟩
 obtain⟨k,z,j,X,rfl,rfl,d,f,g⟩:=hrel;have HM:qh (sM 9 1 s n i=yO 9 1 s n (9+1 - k) k z j):=g;clear g;have c:=d.c1;go_wp2_with fail
 refine(sH d).mono ?_;rintro e u ⟨l,m,jY⟩;have hkw:=f.trans l;have y:∀(x:Bool) (w:qW),(Op.unary .not (.bool x)).run prog w=.ok (.bool (!x)) w:=fun _ _=>rfl;by_cases hi:j<n
 .obtain⟨v,rfl,hv,UE⟩:=m _ _ (eB hi);obtain rfl:v=qB (bt s j:Nat):=hv;clear m jY c f l;have p:Bt 1 (bt s j)=true->lastB (bt s j)=true:=NC ⟨bt s j,xg s j⟩;have r:=hide p;clear p;by_cases h4:k=9
  .have t:((7*(k:Int))==63)=true:=by simp;omega
   cases a:Bt 1 (bt s j) with
   | false=>
    have HH:qh (sM 9 1 s n i=.error (2,j)):=HM.o.trans (AX h4 hi a);clear h4;generalize bt s j=x at*;go_wp2_with fail
    refine(MW _ _).mono ?_;rintro e w3 ⟨rfl,rfl⟩;exact acY
   | true=>
    have zJ:=r.o a;have HH:qh (sM 9 1 s n i=.ok (Ou (pY z (bt s j) k) (bt s j) k,j+1)):=HM.o.trans (vU X hi (by simp[a]) zJ);have t3:(bits BinOp.and IntKind.u8 ((bt s j:Nat):Int) 128==0)=true:=zJ;clear h4 zJ;generalize bt s j=x at*;go_wp2_with fail
    refine(MW _ _).mono ?_;rintro e w3 ⟨rfl,rfl⟩;exact YK
  have t:((7*(k:Int))==63)=false:=by simp;omega
  cases zJ:lastB (bt s j) with
  | true=>have HH:qh (sM 9 1 s n i=.ok (Ou (pY z (bt s j) k) (bt s j) k,j+1)):=HM.o.trans (vU X hi qo zJ);have t3:(bits BinOp.and IntKind.u8 ((bt s j:Nat):Int) 128==0)=true:=zJ;clear h4 zJ;generalize bt s j=x at*;exact YK
  | false=>have HH:qh (sM 9 1 s n i=yO 9 1 s n (9+1 - (k+1)) (k+1) (pY z (bt s j) k) (j+1)):=HM.o.trans (DC qo hi zJ);exact afd
 exact ae3
def kY(w:World)(g:Nat)(cs:List Value):Prop:=∀i,i<cs.length->w.cell? (qA g i)=some (cs.getD i undef)/\w.frozen? (qA g i)=false
theorem kY.new(w:qW)(c:Array qv)(t:TypeId):kY (w.alloc (.cells c t)) w.heap.size c.toList:=by
 intro i f;have h:i<c.size:=by simpa using f
 refine⟨?_,qs⟩;rw[World.cell?_alloc_new];simp[List.getD,h]
theorem kY.kept{S:qD}{w f:qW}{g:Nat}{cs:qV}(h:kY w g cs)(X:Kept S w f)(j:g<w.heap.size)(k:¬S g):kY f g cs:=by
 intro i l;rw[X.cell (p:=(qA g i)) j k,X.frozen (p:=(qA g i)) j k];exact h i l
theorem kY.alloc{w:qW}{g:Nat}{cs:qV}(h:kY w g cs)(f:g<w.heap.size)(o:Obj):kY (w.alloc o) g cs:=
 h.kept (S:=fun _=>False) (qr.alloc o) f (fun x=>x)
theorem kY.drewN{w:qW}{g:Nat}{cs:qV}(h:kY w g cs)(k:Nat):kY (w.drewN k) g cs:=h
theorem kY.new'{w:qW}{g:Nat}{c:Array qv}{t:TypeId}(f:g=w.heap.size):kY (w.alloc (.cells c t)) g c.toList:=by
 subst f;exact kY.new w c t
theorem kY.lt{w:qW}{g:Nat}{c:qv}{cs:qV}(h:kY w g (c::cs)):g<w.heap.size:=World.block_lt_of_cell? _ _ (h 0 qs).1
theorem kY.set{w:qW}{g:Nat}{cs:qV}(h:kY w g cs)(k:Nat)(v:qv):kY (w.setCell (qA g k) v) g (cs.set k v):=by
 intro i j;have f:i<cs.length:=by simpa using j
 refine⟨?_,by simp[(h i f).2]⟩;by_cases e:k=i
 .subst e;rw[World.cell?_setCell_same _ _ _ (h k f).1];simp[List.getD,f]
 rw[World.cell?_setCell_other _ _ ⟨g,i,none⟩ _ (fun c=>e (congrArg Addr.off c)),(h i f).1];simp[List.getD,e]
theorem kY.dA{w:qW}{g g' o:Nat}{cs:qV}(h:kY w g cs)(j:g'≠g)(v:qv):kY (w.setCell ⟨g',o,none⟩ v) g cs:=by
 intro i f;rw[World.cell?_setCell_other _ _ ⟨g,i,none⟩ _ (fun c=>j (congrArg Addr.block c))];exact⟨(h i f).1,by simp[(h i f).2]⟩
section
variable {w:qW} {g:Nat} {a b c d e:qv}
theorem kY.two(h:kY w g [a,b]):(w.cell? (qA g 0)=some a/\w.frozen? (qA g 0)=false)/\(w.cell? (qA g 1)=some b/\w.frozen? (qA g 1)=false):=⟨h 0 qs,h 1 qs⟩
theorem kY.three(h:kY w g [a,b,c]):(w.cell? (qA g 0)=some a/\w.frozen? (qA g 0)=false)/\(w.cell? (qA g 1)=some b/\w.frozen? (qA g 1)=false)/\(w.cell? (qA g 2)=some c/\w.frozen? (qA g 2)=false):=⟨h 0 qs,h 1 qs,h 2 qs⟩
theorem kY.four(h:kY w g [a,b,c,d]):(w.cell? (qA g 0)=some a/\w.frozen? (qA g 0)=false)/\(w.cell? (qA g 1)=some b/\w.frozen? (qA g 1)=false)/\(w.cell? (qA g 2)=some c/\w.frozen? (qA g 2)=false)/\(w.cell? (qA g 3)=some d/\w.frozen? (qA g 3)=false):=
 ⟨h 0 qs,h 1 qs,h 2 qs,h 3 qs⟩
theorem kY.five(h:kY w g [a,b,c,d,e]):(w.cell? (qA g 0)=some a/\w.frozen? (qA g 0)=false)/\(w.cell? (qA g 1)=some b/\w.frozen? (qA g 1)=false)/\(w.cell? (qA g 2)=some c/\w.frozen? (qA g 2)=false)/\(w.cell? (qA g 3)=some d/\w.frozen? (qA g 3)=false)/\(w.cell? (qA g 4)=some e/\w.frozen? (qA g 4)=false):=
 ⟨h 0 qs,h 1 qs,h 2 qs,h 3 qs,h 4 qs⟩
end
structure OB(w:World)(b g:Nat)(cs:List Value):Prop where
 blk:kY w g cs
 lt:g<w.heap.size
 ne:g≠b
theorem OB.new{w:qW}{b g:Nat}{c:Array qv}{t:TypeId}(hb:b<w.heap.size)(f:g=w.heap.size):OB (w.alloc (.cells c t)) b g c.toList:=
 ⟨kY.new' f,by simp[f],qo⟩
theorem OB.alloc{w:qW}{b g:Nat}{cs:qV}(h:OB w b g cs)(o:Obj):OB (w.alloc o) b g cs:=
 ⟨h.blk.alloc h.lt o,by have:=h.lt;simp;omega,h.ne⟩
theorem OB.call{w f:qW}{b g:Nat}{cs:qV}(h:OB w b g cs)(X:Kept (only b) w f):OB f b g cs:=
 ⟨h.blk.kept X h.lt (fun(e:g=b)=>h.ne e),Nat.lt_of_lt_of_le h.lt X.size,h.ne⟩
theorem OB.set{w:qW}{b g:Nat}{cs:qV}(h:OB w b g cs)(k:Nat)(v:qv):OB (w.setCell (qA g k) v) b g (cs.set k v):=
 ⟨h.blk.set k v,by simpa using h.lt,h.ne⟩
theorem OB.other{w:qW}{b g g' o:Nat}{cs:qV}(h:OB w b g cs)(f:g'≠g)(v:qv):OB (w.setCell ⟨g',o,none⟩ v) b g cs:=
 ⟨h.blk.dA f v,by simpa using h.lt,h.ne⟩
theorem OB.drewN{w:qW}{b g:Nat}{cs:qV}(h:OB w b g cs)(k:Nat):OB (w.drewN k) b g cs:=⟨h.blk,h.lt,h.ne⟩
theorem Et{w:qW}{g:Nat}(x y:Nat){t:TypeId}{a c:Int}(f:g=w.heap.size)(h:a=(x:Int))(hc:c=(y:Int)):Bts (w.alloc (.cells #[qB a,qB c] t)) g [x,y]:=by
 subst h hc f;exact acQ w x y t
theorem wu{w:qW}{g:Nat}(x:Nat){t:TypeId}{a:Int}(f:g=w.heap.size)(h:a=(x:Int)):Bts (w.alloc (.cells #[qB a] t)) g [x]:=by
 subst h f;exact WB w x t
theorem Yq{w:qW}{g:Nat}(x y z u:Nat){t:TypeId}{a c d e:Int}(f:g=w.heap.size)(h:a=(x:Int))(hc:c=(y:Int))(i:d=(z:Int))(k:e=(u:Int)):
  Bts (w.alloc (.cells #[qB a,qB c,qB d,qB e] t)) g [x,y,z,u]:=by
 subst h hc i k f;intro j l;have:j=0\/j=1\/j=2\/j=3:=by simp at l;omega
 rcases this with rfl | rfl | rfl | rfl<;>simp
theorem vB{ts:qM}{s:qS}{n i x j:Nat}(h:iO ts s n i=.ok (x,j)):x∈ts/\j=i+1/\i<n:=by
 unfold iO at h;split at h
 .split at h
  .cases h;exact⟨by assumption,rfl,by assumption⟩
  cases h
 cases h
def kJ(s:qS)(n i:Nat):Except Err (Nat×Nat):=iO [127,126] s n i
structure Cst where
 at_:Nat
 kind:Nat
 val:Int
def ku(s:qS)(n i:Nat):Except Err (Cst×Nat):=
 match iO [65,66] s n i with
 | .error e=>.error e
 | .ok (x,j)=>
  match(if x=65 then sM 4 4 s n j else sM 9 1 s n j) with
  | .error e=>.error e
  | .ok (v,j2)=>
   match iO [11] s n j2 with
   | .error e=>.error e
   | .ok (_,j3)=>.ok (⟨i,if x=65 then 127 else 126,v⟩,j3)
def Cst.cells(c:Cst):List Value:=[qJ c.at_,qB c.kind,qJ c.val]
def isConst(c:Cst)(_:World)(v:Value):Prop:=v=.agg c.cells.toArray
theorem y9{w:qW}{b:Nat}{s:qS}{i n:Nat}(h:Rd w b s i n):
  qC 190 #[qP b] w (Out w b s n isByte (kJ s n i)):=by
 have m:=h.lt;go_enter func190,ntmps190;go_wp2_with fail
 refine(one_any (ts:=[127,126]) (h.alloc _) (Et 127 126 rfl rfl rfl) qs qo qs).mono ?_;rintro e r ⟨X,c,d⟩;have f:=X.vC;rcases a:iO [127,126] s n i with⟨q,p⟩|⟨x,j⟩
 .obtain rfl:=d _ _ a;exact⟨rfl,Out.dD a f⟩
 obtain⟨u,rfl,g,k⟩:=c _ _ a;obtain rfl:u=qB x:=g;clear c d;have l:=hide a;clear a;go_wp2;go_ret;exact Out.dW l.o f rfl k
theorem rJ{w:qW}{b:Nat}{s:qS}{i n:Nat}(h:Rd w b s i n):
  qC 191 #[qP b] w (Out w b s n isConst (ku s n i)):=by
 have W:=h.lt;go_enter func191,ntmps191;go_wp2_with fail
 refine(wR (h.alloc _)).mono ?_;rintro e Y ⟨rfl,rfl⟩;go_wp2_with fail
 refine(one_any (ts:=[65,66]) (((h.alloc _).alloc _).alloc _) (Et 65 66 qs rfl rfl) qs qo qs).mono ?_;rintro e Y ⟨X,d,f⟩;have B:=X.vC.vC.vC;have M:=(((OB.new (b:=b) (g:=w.heap.size) (c:= #[qJ 0,qB 0,qJ 0]) W rfl).alloc _).alloc _).call X;have N:=((OB.new (b:=b) (g:=w.heap.size+1) (c:= #[qJ i,qB 0,qJ 0]) qt qs).alloc _).call X;clear X;rcases a:iO [65,66] s n i with⟨q,p⟩|C
 .obtain rfl:=f _ _ a;exact⟨rfl,Out.dD (by simp[ku,a]) B⟩
 obtain⟨x,j⟩:=C;obtain⟨u,rfl,D,O⟩:=d _ _ a;obtain rfl:u=qB x:=D;clear d f;have hx:x=65\/x=66:=by have:=(vB a).1;simpa using this
 have A:=hide a;clear a;rcases hx with rfl | rfl
 .go_wp2_with fail
  refine(VO O).mono ?_;rintro e Z ⟨l,d,f⟩;have t:=B.trans l;have E:=M.call l;have k:=N.call l;clear M N l B;rcases a:sM 4 4 s n j with⟨q,p⟩|C
  .obtain rfl:=f _ _ a;exact⟨rfl,Out.dD (by simp[ku,A.o,a]) t⟩
  obtain⟨v,P⟩:=C;obtain⟨u,rfl,D,z⟩:=d _ _ a;obtain rfl:u=qJ v:=D;clear d f O;have F:=hide a;clear a;obtain⟨⟨G,l1⟩,⟨l2,H⟩,⟨I,J⟩⟩:=k.blk.three;go_wp2_with fail
  have aa:=z.lt;refine(one_any (ts:=[11]) (((z.dA k.ne _).dA k.ne _).alloc _) (wu 11 qs rfl) qs qo qs).mono ?_;rintro e w3 ⟨m,d,f⟩;have K:=(((t.new qo _).new qo _).alloc _).trans m;have r:=(((E.other qo _).other qo _).alloc _).call m;have L:=(((k.set 1 (qB 127)).set 2 (qJ v)).alloc _).call m;simp at L;clear E k m t G l1 l2 H I J;rcases a:iO [11] s n P with⟨q,p⟩|⟨y,Q⟩
  .obtain rfl:=f _ _ a;exact⟨rfl,Out.dD (by simp[ku,A.o,F.o,a]) K⟩
  obtain⟨u,rfl,-,R⟩:=d _ _ a;have S:qh (ku s n i=.ok (⟨i,127,v⟩,Q)):=by show _=_;simp[ku,A.o,F.o,a]
  clear d f z a;obtain⟨⟨G,l1⟩,⟨l2,H⟩,⟨I,J⟩⟩:=L.blk.three;obtain⟨⟨T,r1⟩,⟨U,r3⟩,⟨V,r5⟩⟩:=r.blk.three;go_wp2;refine bodyPost_ret (v:=.agg #[qJ i,qB 127,qJ v]) ?_ rfl (Out.dW S.o (((K.new qR _).new qR _).new qR _) rfl (((R.dA r.ne _).dA r.ne _).dA r.ne _));simp[results,results191,go_sem,T,U,V]
 go_wp2_with fail
 refine(VN O).mono ?_;rintro e Z ⟨l,d,f⟩;have t:=B.trans l;have E:=M.call l;have k:=N.call l;clear M N l B;rcases a:sM 9 1 s n j with⟨q,p⟩|C
 .obtain rfl:=f _ _ a;exact⟨rfl,Out.dD (by simp[ku,A.o,a]) t⟩
 obtain⟨v,P⟩:=C;obtain⟨u,rfl,D,z⟩:=d _ _ a;obtain rfl:u=qJ v:=D;clear d f O;have F:=hide a;clear a;obtain⟨⟨G,l1⟩,⟨l2,H⟩,⟨I,J⟩⟩:=k.blk.three;go_wp2_with fail
 have aa:=z.lt;refine(one_any (ts:=[11]) (((z.dA k.ne _).dA k.ne _).alloc _) (wu 11 qs rfl) qs qo qs).mono ?_;rintro e w3 ⟨m,d,f⟩;have K:=(((t.new qo _).new qo _).alloc _).trans m;have r:=(((E.other qo _).other qo _).alloc _).call m;have L:=(((k.set 1 (qB 126)).set 2 (qJ v)).alloc _).call m;simp at L;clear E k m t G l1 l2 H I J;rcases a:iO [11] s n P with⟨q,p⟩|⟨y,Q⟩
 .obtain rfl:=f _ _ a;exact⟨rfl,Out.dD (by simp[ku,A.o,F.o,a]) K⟩
 obtain⟨u,rfl,-,R⟩:=d _ _ a;have S:qh (ku s n i=.ok (⟨i,126,v⟩,Q)):=by show _=_;simp[ku,A.o,F.o,a]
 clear d f z a;obtain⟨⟨G,l1⟩,⟨l2,H⟩,⟨I,J⟩⟩:=L.blk.three;obtain⟨⟨T,r1⟩,⟨U,r3⟩,⟨V,r5⟩⟩:=r.blk.three;go_wp2;refine bodyPost_ret (v:=.agg #[qJ i,qB 126,qJ v]) ?_ rfl (Out.dW S.o (((K.new qR _).new qR _).new qR _) rfl (((R.dA r.ne _).dA r.ne _).dA r.ne _));simp[results,results191,go_sem,T,U,V]
end Go.Proofs.YtdaafkmhfedkiaaGreat
