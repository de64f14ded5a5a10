import Derived.LoopIn
import Derived.RangeFuncCalls
import Derived.RegionIn
import Derived.TacticsIn
import Derived.Test.YtkmofapihggjgaaGreatDoorX6
import Derived.Test.YtkmofapihggjgaaGreatDoorX24
import Derived.Test.YtkmofapihggjgaaGreatDoorX25
import Derived.Test.YtkmofapihggjgaaGreatDoorX26
import Derived.Test.YtkmofapihggjgaaGreatDoorX29
import Derived.Test.YtkmofapihggjgaaGreatDoorX30
import Derived.Test.YtkmofapihggjgaaGreatDoorX31
namespace Go.Proofs.YtkmofapihggjgaaGreatDoor
section
open Go.RowKit
set_option linter.unusedSimpArgs false
set_option linter.unusedVariables false
section
variable {w0 w:World} {wb:Nat} {os:List Nat} {Y R:List It}
set_option maxRecDepth 100000 in
set_option maxHeartbeats 1600000 in
theorem wrIns_o (x:InsT) {vg vl:Value} (hr1:HasR R 73 1 vg x.gives.length (kindCells x.gives)) (hr2:HasR R 66 2 vl x.labels.length (x.labels.flatMap nuC)) (hs:∀p∈R,p∈Y) (m1:x.labels.length≤1000) (hb:∀y∈x.labels,y≤4294967295) (ha:Uok x.align) (hu:Uok x.num) (hv: -9223372036854775808≤x.value∧x.value≤9223372036854775807) (hwd:x.word≠2∧x.word≠3∧x.word≠4∧x.word≠14∧x.word≠40∧x.word≠41∧x.word≠44∧x.word≠45∧x.word≠54∧x.word≠55∧x.word≠58∧x.word≠12∧x.word≠13∧x.word≠16∧x.word≠32∧x.word≠33∧x.word≠34∧x.word≠35∧x.word≠36∧x.word≠17∧x.word≠63∧x.word≠64∧x.word≠65∧x.word≠66) (h:WW w0 wb os Y w) (hn:os.length+8000≤1000000000000):Calls Tryz.prog 64 #[.agg #[.int .i64 0,.int .i64 0,.int .u8 (x.word:Nat),.bool x.typed,vg,.int .u32 x.align,.int .u32 x.num,.int .i64 0,vl,.int .i64 x.value],.pointer (some ⟨wb,0,none⟩)] w (fun e w'=>e=.returned (.tuple #[])∧WW w0 wb (os++[x.word]) Y w'):=by
 have hnot:∀(x:Bool) (w:World),(Op.unary .not (.bool x)).run Tryz.prog w=.ok (.bool (!x)) w:=fun _ _=>rfl
 obtain⟨p1,q1,rfl⟩:=Row.shape (h.row hr1 hs)
 obtain⟨p2,q2,rfl⟩:=Row.shape (h.row hr2 hs)
 have HR1:=hide hr1
 have HR2:=hide hr2
 have HS:=hide hs
 have HU:Hid (Uok x.align∧Uok x.num∧(-9223372036854775808≤x.value∧x.value≤9223372036854775807)):=⟨ha,hu,hv⟩
 have HLB:=hide hb
 clear hr1 hr2 hs ha hu hv hb
 have z2:((x.word:Int)==2)=false:=by simp;omega
 have z3:((x.word:Int)==3)=false:=by simp;omega
 have z4:((x.word:Int)==4)=false:=by simp;omega
 have z14:((x.word:Int)==14)=false:=by simp;omega
 have z40:((x.word:Int)==40)=false:=by simp;omega
 have z41:((x.word:Int)==41)=false:=by simp;omega
 have z44:((x.word:Int)==44)=false:=by simp;omega
 have z45:((x.word:Int)==45)=false:=by simp;omega
 have z54:((x.word:Int)==54)=false:=by simp;omega
 have z55:((x.word:Int)==55)=false:=by simp;omega
 have z58:((x.word:Int)==58)=false:=by simp;omega
 have z12:((x.word:Int)==12)=false:=by simp;omega
 have z13:((x.word:Int)==13)=false:=by simp;omega
 have z16:((x.word:Int)==16)=false:=by simp;omega
 have z32:((x.word:Int)==32)=false:=by simp;omega
 have z33:((x.word:Int)==33)=false:=by simp;omega
 have z34:((x.word:Int)==34)=false:=by simp;omega
 have z35:((x.word:Int)==35)=false:=by simp;omega
 have z36:((x.word:Int)==36)=false:=by simp;omega
 have z17:((x.word:Int)==17)=false:=by simp;omega
 have z63:((x.word:Int)==63)=false:=by simp;omega
 have z64:((x.word:Int)==64)=false:=by simp;omega
 have z65:((x.word:Int)==65)=false:=by simp;omega
 have z66:((x.word:Int)==66)=false:=by simp;omega
 clear hwd
 have H0:=hide (h.new #[.int .i64 0,.int .i64 0,.int .u8 (x.word:Nat),.bool x.typed,.slice p1 x.gives.length q1,.int .u32 x.align,.int .u32 x.num,.int .i64 0,.slice p2 x.labels.length q2,.int .i64 x.value] 131)
 have HN:=hide hn
 clear h hn
 go_enter Tryz.func64,Tryz.ntmps64
 go_upto_region 1 with fail
 generalize w.alloc (.cells #[.int .i64 0,.int .i64 0,.int .u8 (x.word:Nat),.bool x.typed,.slice p1 x.gives.length q1,.int .u32 x.align,.int .u32 x.num,.int .i64 0,.slice p2 x.labels.length q2,.int .i64 x.value] 131)=w1 at*
 generalize w.heap.size=b at*
 obtain⟨c0,-⟩:=H0.out.cl 0 0
 obtain⟨c1,-⟩:=H0.out.cl 0 1
 obtain⟨c2,-⟩:=H0.out.cl 0 2
 obtain⟨c3,-⟩:=H0.out.cl 0 3
 obtain⟨c4,-⟩:=H0.out.cl 0 4
 obtain⟨c5,-⟩:=H0.out.cl 0 5
 obtain⟨c6,-⟩:=H0.out.cl 0 6
 obtain⟨c7,-⟩:=H0.out.cl 0 7
 obtain⟨c8,-⟩:=H0.out.cl 0 8
 obtain⟨c9,-⟩:=H0.out.cl 0 9
 have l0:=H0.out.lt 0
 go_wp2_with fail
 refine(wr1 (x:=(x.word:Int)) (by omega) H0.out (by(try simp only[List.length_append,List.length_cons,List.length_nil]);have:=HN.out;omega) _).mono ?_
 rintro e w2 ⟨rfl,h1⟩
 clear c0 c1 c2 c3 c4 c5 c6 c7 c8 c9 l0
 obtain⟨c0,-⟩:=h1.cl 0 0
 obtain⟨c1,-⟩:=h1.cl 0 1
 obtain⟨c2,-⟩:=h1.cl 0 2
 obtain⟨c3,-⟩:=h1.cl 0 3
 obtain⟨c4,-⟩:=h1.cl 0 4
 obtain⟨c5,-⟩:=h1.cl 0 5
 obtain⟨c6,-⟩:=h1.cl 0 6
 obtain⟨c7,-⟩:=h1.cl 0 7
 obtain⟨c8,-⟩:=h1.cl 0 8
 obtain⟨c9,-⟩:=h1.cl 0 9
 have l0:=h1.lt 0
 have H1:=hide h1
 clear h1 H0
 go_wp2
 go_end0
 exact⟨rfl,by simpa [List.append_assoc] using H1.out.pop⟩
def tailN (x:InsT):List Nat:=if x.word=2∨x.word=3∨x.word=4 then blockN x else if x.word=14 then numsN x.labels++uN x.num else if x.word=40∨x.word=41∨x.word=44∨x.word=45∨x.word=54∨x.word=55∨x.word=58 then uN x.align++uN x.num else if x.word=12∨x.word=13∨x.word=16∨x.word=32∨x.word=33∨x.word=34∨x.word=35∨x.word=36 then uN x.num else if x.word=17 then uN x.num++[0] else if x.word=63∨x.word=64 then[0] else if x.word=65∨x.word=66 then sN x.value else[]
def insN (x:InsT):List Nat:=[x.word]++tailN x
set_option maxHeartbeats 1600000 in
theorem wrIns_all (x:InsT) {vg vl:Value} (hr1:HasR R 73 1 vg x.gives.length (kindCells x.gives)) (hr2:HasR R 66 2 vl x.labels.length (x.labels.flatMap nuC)) (hs:∀p∈R,p∈Y) (m1:x.labels.length≤1000) (hb:∀y∈x.labels,y≤4294967295) (ha:Uok x.align) (hu:Uok x.num) (hv: -9223372036854775808≤x.value∧x.value≤9223372036854775807) (h:WW w0 wb os Y w) (hn:os.length+8000≤1000000000000):Calls Tryz.prog 64 #[.agg #[.int .i64 0,.int .i64 0,.int .u8 (x.word:Nat),.bool x.typed,vg,.int .u32 x.align,.int .u32 x.num,.int .i64 0,vl,.int .i64 x.value],.pointer (some ⟨wb,0,none⟩)] w (fun e w'=>e=.returned (.tuple #[])∧WW w0 wb (os++insN x) Y w'):=by
 by_cases e2:x.word=2
 ·rw[show insN x=[2]++(blockN x) by unfold insN tailN;simp[e2],e2]
  exact wrIns_2 x hr1 hr2 hs m1 hb ha hu hv e2 h hn
 by_cases e3:x.word=3
 ·rw[show insN x=[3]++(blockN x) by unfold insN tailN;simp[e3],e3]
  exact wrIns_3 x hr1 hr2 hs m1 hb ha hu hv e3 h hn
 by_cases e4:x.word=4
 ·rw[show insN x=[4]++(blockN x) by unfold insN tailN;simp[e4],e4]
  exact wrIns_4 x hr1 hr2 hs m1 hb ha hu hv e4 h hn
 by_cases e14:x.word=14
 ·rw[show insN x=[14]++(numsN x.labels++uN x.num) by unfold insN tailN;simp[e14],e14]
  exact wrIns_14 x hr1 hr2 hs m1 hb ha hu hv e14 h hn
 by_cases e40:x.word=40
 ·rw[show insN x=[40]++(uN x.align++uN x.num) by unfold insN tailN;simp[e40],e40]
  exact wrIns_40 x hr1 hr2 hs m1 hb ha hu hv e40 h hn
 by_cases e41:x.word=41
 ·rw[show insN x=[41]++(uN x.align++uN x.num) by unfold insN tailN;simp[e41],e41]
  exact wrIns_41 x hr1 hr2 hs m1 hb ha hu hv e41 h hn
 by_cases e44:x.word=44
 ·rw[show insN x=[44]++(uN x.align++uN x.num) by unfold insN tailN;simp[e44],e44]
  exact wrIns_44 x hr1 hr2 hs m1 hb ha hu hv e44 h hn
 by_cases e45:x.word=45
 ·rw[show insN x=[45]++(uN x.align++uN x.num) by unfold insN tailN;simp[e45],e45]
  exact wrIns_45 x hr1 hr2 hs m1 hb ha hu hv e45 h hn
 by_cases e54:x.word=54
 ·rw[show insN x=[54]++(uN x.align++uN x.num) by unfold insN tailN;simp[e54],e54]
  exact wrIns_54 x hr1 hr2 hs m1 hb ha hu hv e54 h hn
 by_cases e55:x.word=55
 ·rw[show insN x=[55]++(uN x.align++uN x.num) by unfold insN tailN;simp[e55],e55]
  exact wrIns_55 x hr1 hr2 hs m1 hb ha hu hv e55 h hn
 by_cases e58:x.word=58
 ·rw[show insN x=[58]++(uN x.align++uN x.num) by unfold insN tailN;simp[e58],e58]
  exact wrIns_58 x hr1 hr2 hs m1 hb ha hu hv e58 h hn
 by_cases e12:x.word=12
 ·rw[show insN x=[12]++(uN x.num) by unfold insN tailN;simp[e12],e12]
  exact wrIns_12 x hr1 hr2 hs m1 hb ha hu hv e12 h hn
 by_cases e13:x.word=13
 ·rw[show insN x=[13]++(uN x.num) by unfold insN tailN;simp[e13],e13]
  exact wrIns_13 x hr1 hr2 hs m1 hb ha hu hv e13 h hn
 by_cases e16:x.word=16
 ·rw[show insN x=[16]++(uN x.num) by unfold insN tailN;simp[e16],e16]
  exact wrIns_16 x hr1 hr2 hs m1 hb ha hu hv e16 h hn
 by_cases e32:x.word=32
 ·rw[show insN x=[32]++(uN x.num) by unfold insN tailN;simp[e32],e32]
  exact wrIns_32 x hr1 hr2 hs m1 hb ha hu hv e32 h hn
 by_cases e33:x.word=33
 ·rw[show insN x=[33]++(uN x.num) by unfold insN tailN;simp[e33],e33]
  exact wrIns_33 x hr1 hr2 hs m1 hb ha hu hv e33 h hn
 by_cases e34:x.word=34
 ·rw[show insN x=[34]++(uN x.num) by unfold insN tailN;simp[e34],e34]
  exact wrIns_34 x hr1 hr2 hs m1 hb ha hu hv e34 h hn
 by_cases e35:x.word=35
 ·rw[show insN x=[35]++(uN x.num) by unfold insN tailN;simp[e35],e35]
  exact wrIns_35 x hr1 hr2 hs m1 hb ha hu hv e35 h hn
 by_cases e36:x.word=36
 ·rw[show insN x=[36]++(uN x.num) by unfold insN tailN;simp[e36],e36]
  exact wrIns_36 x hr1 hr2 hs m1 hb ha hu hv e36 h hn
 by_cases e17:x.word=17
 ·rw[show insN x=[17]++(uN x.num++[0]) by unfold insN tailN;simp[e17],e17]
  exact wrIns_17 x hr1 hr2 hs m1 hb ha hu hv e17 h hn
 by_cases e63:x.word=63
 ·rw[show insN x=[63]++([0]) by unfold insN tailN;simp[e63],e63]
  exact wrIns_63 x hr1 hr2 hs m1 hb ha hu hv e63 h hn
 by_cases e64:x.word=64
 ·rw[show insN x=[64]++([0]) by unfold insN tailN;simp[e64],e64]
  exact wrIns_64 x hr1 hr2 hs m1 hb ha hu hv e64 h hn
 by_cases e65:x.word=65
 ·rw[show insN x=[65]++(sN x.value) by unfold insN tailN;simp[e65],e65]
  exact wrIns_65 x hr1 hr2 hs m1 hb ha hu hv e65 h hn
 by_cases e66:x.word=66
 ·rw[show insN x=[66]++(sN x.value) by unfold insN tailN;simp[e66],e66]
  exact wrIns_66 x hr1 hr2 hs m1 hb ha hu hv e66 h hn
 rw[show insN x=[x.word] by unfold insN tailN;simp[e2,e3,e4,e14,e40,e41,e44,e45,e54,e55,e58,e12,e13,e16,e32,e33,e34,e35,e36,e17,e63,e64,e65,e66]]
 exact wrIns_o x hr1 hr2 hs m1 hb ha hu hv ⟨e2,e3,e4,e14,e40,e41,e44,e45,e54,e55,e58,e12,e13,e16,e32,e33,e34,e35,e36,e17,e63,e64,e65,e66⟩ h hn
end
end
section
open Go.RowKit
set_option linter.unusedSimpArgs false
set_option linter.unusedVariables false
section
variable {w0 w w':World} {wb:Nat} {os:List Nat} {Y Z R:List It}
theorem WW.obj {g:Nat} {o:Obj} (h:WW w0 wb os (.o g o::Z) w):w.heap[g]?=some o:=by
 obtain⟨vB,h⟩:=h
 exact(h.it (.o g o) (by simp)).2
theorem WW.putO {g:Nat} {o o2:Obj} (h:WW w0 wb os (.o g o::Z) w):WW w0 wb os (.o g o2::Z) (w.putObj g o2):=by
 have ho:=h.obj
 obtain⟨vB,h⟩:=h
 have hge:=(h.it (.o g o) (by simp)).1
 exact⟨vB,h.upd (k:=2) (S:=only g) (p2:=.o g o2) rfl Kept.putObj (fun i (e:i=g)=>by rw[e];rfl) ⟨hge,World.putObj_heap_same (Array.getElem?_eq_some_iff.1 ho).1⟩ (fun i e=>.inl e)⟩
theorem WW.newO (h:WW w0 wb os Y w) (o:Obj):WW w0 wb os (.o w.heap.size o::Y) (w.alloc o):=
 h.put ((Kept.refl _ _).alloc _) ⟨h.base,World.alloc_heap_new w o⟩ (fun g e=>by cases e;exact Nat.le_refl _)
theorem WW.sw {p q:It} (h:WW w0 wb os (p::q::Z) w):WW w0 wb os (q::p::Z) w:=by
 obtain⟨vB,h⟩:=h
 exact⟨vB,h.perm (List.Perm.cons _ (List.Perm.cons _ (List.Perm.swap _ _ _)))⟩
theorem enters_slIn:Enters 137:=enters_of Tryz.func137 (by kernel_rfl) (by kernel_rfl)
theorem insV_get {gi:List (InsT×Value×Value)} {j:Nat} {x:InsT×Value×Value} (hx:gi[j]?=some x) (o:Nat) (ho:o<10):(gi.flatMap insV)[j*10+o]?=(insV x)[o]?:=flat_get (f:=insV) (m:=10) (o:=o) (fun _=>rfl) hx ho
set_option maxRecDepth 100000 in
set_option maxHeartbeats 1600000 in
theorem slIn_all {m l fb:Nat} {gi:List (InsT×Value×Value)} {v:Value} {OS:Nat→List Nat} (hsh:∀x∈gi,(∃p1 q1,x.2.1=.slice p1 x.1.gives.length q1)∧∃p2 q2,x.2.2=.slice p2 x.1.labels.length q2) (hr:HasR R 131 10 v gi.length (gi.flatMap insV)) (hs:∀p∈R,p∈Z) (hb:It.b fb [v]∈Z) (hm:gi.length≤1000)
  (hy:∀j x W,gi[j]?=some x→WW w0 wb (OS j) Z W→∃f tmps assign body,(Instr.yield l #[.agg (insV x).toArray]).run Tryz.prog W=.ok (.round l f tmps assign body) W∧RoundIn Fence.wide m Tryz.prog l f tmps assign body W (fun ε W'=>ε=.returned (.bool true)∧WW w0 wb (OS (j+1)) Z W')) (h:WW w0 wb (OS 0) Z w):
  CallsIn Fence.wide (m+1) Tryz.prog 137 #[.func (.yield l) #[] #[],.pointer (some ⟨fb,0,none⟩)] w (fun e W'=>e=.returned (.tuple #[])∧WW w0 wb (OS gi.length) Z W'):=by
 obtain⟨pv,cv,rfl⟩:=Row.shape (h.row hr hs)
 obtain⟨⟨c1,-⟩,l1⟩:=h.cIn hb 0
 have H:=hide h
 have HR:=hide hr
 have HS:=hide hs
 have HSH:=hide hsh
 have HY:=hide hy
 clear h hr hs hb hsh hy
 refine callsIn_of_wp Tryz.func137 rfl trivial ?_ rfl
 simp only[Tryz.ntmps137,List.size_toArray,List.length_cons,List.length_nil,Nat.reduceAdd,Nat.reduceSub,Array.replicate_succ,Array.replicate_zero,List.push_toArray,List.append_toArray,List.nil_append,List.cons_append]
 gi_wp2
 clear c1 l1
 gi_loopw [7] (fun q W9=>∃j:Nat,j≤gi.length∧q=.int .i64 (j:Nat)∧WW w0 wb (OS j) Z W9) (fun q _=>gi.length - (intOf q).toNat)
 case atStart=>exact⟨0,Nat.zero_le _,rfl,H.out⟩
 case round=>
  obtain⟨j,hj,rfl,hW⟩:=hrel
  clear H
  by_cases hlt:j<gi.length
  ·obtain⟨x,hx⟩:∃x,gi[j]?=some x:=⟨_,List.getElem?_eq_getElem hlt⟩
   obtain⟨gT,cpT,hvT,-,hgl,-,hcell⟩:=Row.cells (hW.row HR.out HS.out) (by omega)
   cases hvT
   obtain⟨⟨p1,q1,s1⟩,p2,q2,s2⟩:=HSH.out x (List.mem_of_getElem? hx)
   have kk:∀(o:Nat) (u:Value),o<10→(insV x)[o]?=some u→wr.cell? ⟨gT,j*10+o,none⟩=some u:=fun o u ho e=>(hcell (j*10+o) (by omega)).trans ((insV_get hx o ho).trans e)
   have k0:wr.cell? ⟨gT,j*10,none⟩=some (.int .i64 0):=kk 0 _ (by omega) rfl
   have k1:=kk 1 (.int .i64 0) (by omega) rfl
   have k2:=kk 2 (.int .u8 (x.1.word:Nat)) (by omega) rfl
   have k3:=kk 3 (.bool x.1.typed) (by omega) rfl
   have k4:=kk 4 (.slice p1 x.1.gives.length q1) (by omega) (by show some x.2.1=_;rw[s1])
   have k5:=kk 5 (.int .u32 x.1.align) (by omega) rfl
   have k6:=kk 6 (.int .u32 x.1.num) (by omega) rfl
   have k7:=kk 7 (.int .i64 0) (by omega) rfl
   have k8:=kk 8 (.slice p2 x.1.labels.length q2) (by omega) (by show some x.2.2=_;rw[s2])
   have k9:=kk 9 (.int .i64 x.1.value) (by omega) rfl
   have hlt':(j:Int)<(gi.length:Int):=by omega
   have hix:insV x=[.int .i64 0,.int .i64 0,.int .u8 (x.1.word:Nat),.bool x.1.typed,.slice p1 x.1.gives.length q1,.int .u32 x.1.align,.int .u32 x.1.num,.int .i64 0,.slice p2 x.1.labels.length q2,.int .i64 x.1.value]:=by unfold insV;rw[s1,s2]
   obtain⟨f,tmps,assign,body,hyr,hR⟩:=HY.out j x _ hx (hW.alloc (.cells #[.int .i64 0,.int .i64 0,.int .u8 (x.1.word:Nat),.bool x.1.typed,.slice p1 x.1.gives.length q1,.int .u32 x.1.align,.int .u32 x.1.num,.int .i64 0,.slice p2 x.1.labels.length q2,.int .i64 x.1.value] 131))
   rw[hix] at hyr
   have HRd:=hide hR
   clear hcell hx kk s1 s2 hix hR hW
   gi_wp2
   refine HRd.out.mono ?_
   rintro ε w6 ⟨rfl,h6⟩
   have H6:=hide h6
   clear h6 HRd hyr k0 k1 k2 k3 k4 k5 k6 k7 k8 k9
   gi_wp2
   go_roundw
   case rel=>exact⟨j+1,by omega,by go_num,H6.out⟩
   case measure=>simp[intOf];omega
  ·have hjl:j=gi.length:=by omega
   subst hjl
   have HW:=hide hW
   clear hW
   gi_wp2
   go_end0
   exact⟨rfl,HW.out⟩
end
end
section
open Go.RowKit
set_option linter.unusedSimpArgs false
set_option linter.unusedVariables false
section
variable {w0 w w':World} {wb:Nat} {os:List Nat} {Y Z R:List It}
theorem wp_rangeW {m fb:Nat} {g:Operand} {pt:Tmp} {assign body:Code} {Q:Exit→Act→World→Prop} {a:Act} {gi:List (InsT×Value×Value)} {v:Value} {OS:Nat→List Nat}
  (hg:a.eval g=.func (.func 137) #[] #[.pointer (some ⟨fb,0,none⟩)]) (hsh:∀x∈gi,(∃p1 q1,x.2.1=.slice p1 x.1.gives.length q1)∧∃p2 q2,x.2.2=.slice p2 x.1.labels.length q2) (hr:HasR R 131 10 v gi.length (gi.flatMap insV)) (hs:∀p∈R,p∈Y) (hb:It.b fb [v]∈Y) (hm:gi.length≤1000)
  (hround:∀l x j W,gi[j]?=some x→∃a1,(∀K:Act→World→Prop,K a1 (W.alloc (.cells (insV x).toArray 131))→assign.wpIn (Fence.wide.inRound l) m Tryz.prog (Exit.then K (fun _ _ _=>False)) {tmps:=a.tmps.setIfInBounds pt (.agg (insV x).toArray),defers:=[]} W)∧
   ∀W2 Z2,(∀p∈Y,p∈Z2)→WW w0 wb (OS j) (.b W.heap.size (insV x)::Z2) W2→body.wpIn (Fence.wide.inRound l) m Tryz.prog (fun ex _ w=>ex=.normal∧WW w0 wb (OS (j+1)) (.b W.heap.size (insV x)::Z2) w) a1 W2)
  (hdone:∀D W',WW w0 wb (OS gi.length) (.o D (.deferred (some []))::Y) W'→Q .normal {a with defers:={target:=.collected D,args:= #[]}::a.defers} W')
  (h:WW w0 wb (OS 0) Y w):(Code.rangeFunc g #[pt] assign body).wpIn Fence.wide (m+2) Tryz.prog Q a w:=by
 have he':∀(args:Array Value) (w:World),(callFunc 137 args).run Tryz.prog w=.ok (.enter 137 args) w:=enters_slIn
 refine wpIn_rangeFunc ?_
 intro fn _
 obtain⟨r,hrr⟩:∃r:Loop,r={state:=.ready,pending:=none,fn,tmps:=a.tmps,params:= #[pt],assign,body,defers:=w.heap.size}:=⟨_,rfl⟩
 obtain⟨W1,hW1⟩:∃W1,W1=(w.alloc (.deferred (some []))).alloc (.loop r):=⟨_,rfl⟩
 have hZ:WW w0 wb (OS 0) (.o (w.heap.size+1) (.loop r)::.o w.heap.size (.deferred (some []))::Y) W1:=by
  rw[hW1]
  have:=(h.newO (.deferred (some []))).newO (.loop r)
  rwa[World.size_alloc] at this
 refine⟨w.heap.size+1,[{target:=.collected w.heap.size,args:= #[]}],W1,{target:=.fn (.func 137) #[.pointer (some ⟨fb,0,none⟩)],args:= #[.func (.yield (w.heap.size+1)) #[] #[]]},W1,137,#[.func (.yield (w.heap.size+1)) #[] #[],.pointer (some ⟨fb,0,none⟩)],W1,?_,?_,fun _ _=>trivial,?_,fun h=>by simp[Fence.wide] at h,?_⟩
 ·rw[hW1,hrr];exact run_enterLoop_outer _ _ _ _ _
 ·simp only[resolve,hg];simp[go_sem]
 ·simp[invoke,go_sem,he']
 ·refine(slIn_all (m:=m) (OS:=OS) hsh hr (fun p hp=>List.mem_cons_of_mem _ (List.mem_cons_of_mem _ (hs p hp))) (List.mem_cons_of_mem _ (List.mem_cons_of_mem _ hb)) hm ?_ hZ).mono ?_
  ·intro j x W hx hW
   have h9:=hW.obj
   have hyy:=run_yield (P:=Tryz.prog) (args:= #[.agg (insV x).toArray]) h9 (by rw[hrr];rfl)
   have htm:(r.params.zip #[Value.agg (insV x).toArray]).foldl (fun tmps (t,a)=>tmps.setIfInBounds t a) r.tmps=a.tmps.setIfInBounds pt (.agg (insV x).toArray):=by simp[hrr]
   rw[htm] at hyy
   obtain⟨a1,hassign,hbody⟩:=hround (w.heap.size+1) x j W hx
   have ea:r.assign=assign:=by rw[hrr]
   have eb:r.body=body:=by rw[hrr]
   rw[ea,eb] at hyy
   refine⟨r.fn,_,assign,body,hyy,roundIn_panics trivial (.inr fun chain w' hR=>by cases hR.1) (hassign _ ?_)⟩
   have h10:WW w0 wb (OS j) (.b W.heap.size (insV x)::.o (w.heap.size+1) (.loop r)::.o w.heap.size (.deferred (some []))::Y) (W.alloc (.cells (insV x).toArray 131)):=hW.new (insV x).toArray 131
   refine⟨_,run_beginRound h10.sw.obj (by rw[hrr]),?_⟩
   have h11:=(h10.sw.putO (o2:=.loop {r with state:=.busy})).sw
   refine wpIn_mono (hbody _ _ (fun p hp=>List.mem_cons_of_mem _ (List.mem_cons_of_mem _ hp)) h11) ?_
   rintro ex a3 w3 ⟨rfl,h12⟩
   refine⟨_,_,run_endRound none h12.sw.obj,rfl,?_⟩
   have h13:=(h12.sw.putO (o2:=.loop {{r with state:=.busy} with state:=if(none:Option Code).isNone then .ready else .done,pending:=none})).sw.pop
   have e:({{r with state:=.busy} with state:=if(none:Option Code).isNone then .ready else .done,pending:=none}:Loop)=r:=by rw[hrr];rfl
   rw[e] at h13 ⊢
   exact h13
  ·rintro ε W' ⟨rfl,h14⟩
   refine⟨none,_,by rw[run_endLoop h14.obj (by rw[hrr];simp)];rw[hrr],?_⟩
   exact hdone _ _ h14.putO.pop
end
theorem more1_le {n:Nat}:∀(l:List (Nat×Nat)),(∀p∈l,p.1≤n)→(∀p∈more1 l,p.1≤n+1)∧(more1 l).length=l.length
 | [],_=>by simp[more1]
 | [x],h=>by
  have:=h x (by simp)
  simp[more1]
  exact this
 | x::y::l,h=>by
  have h1:=more1_le (y::l) (fun p hp=>h p (List.mem_cons_of_mem _ hp))
  have h2:=h x (by simp)
  simp only[more1,List.length_cons] at h1 ⊢
  refine⟨?_,by omega⟩
  intro p hp
  rcases List.mem_cons.1 hp with rfl | hp
  ·omega
  ·exact h1.1 p hp
theorem runs_le:∀(ks:List Nat) (n:Nat) (rs:List (Nat×Nat)),(∀p∈rs,p.1≤n)→rs.length≤n→(∀p∈ks.foldl runStep rs,p.1≤n+ks.length)∧(ks.foldl runStep rs).length≤n+ks.length
 | [],n,rs,h,hl=>⟨h,hl⟩
 | k::ks,n,rs,h,hl=>by
  have h1:(∀p∈runStep rs k,p.1≤n+1)∧(runStep rs k).length≤n+1:=by
   unfold runStep
   split
   ·simp
   ·split
    ·have:=more1_le rs h
     exact⟨this.1,by omega⟩
    ·refine⟨fun p hp=>?_,by simp;omega⟩
     rcases List.mem_append.1 hp with hp | hp
     ·have:=h p hp;omega
     ·cases List.mem_singleton.1 hp;show 1≤n+1;omega
  have h2:=runs_le ks (n+1) (runStep rs k) h1.1 h1.2
  rw[List.foldl_cons,List.length_cons]
  exact⟨fun p hp=>by have:=h2.1 p hp;omega,by omega⟩
theorem runsT_le (ks:List Nat):(∀p∈runsT ks,p.1≤ks.length)∧(runsT ks).length≤ks.length:=by
 have h:=runs_le ks 0 [] (by simp) (by simp)
 rw[Nat.zero_add] at h
 exact h
end
section
open Go.RowKit
set_option linter.unusedSimpArgs false
set_option linter.unusedVariables false
def codeN (x:List Nat×List InsT):List Nat:=(uN ((runsT x.1).length:Nat)++(runsT x.1).flatMap runN)++x.2.flatMap insN
theorem insN_len' (x:InsT) (h:x.labels.length≤100):(insN x).length≤640:=by
 unfold insN tailN
 have g1:=blockN_len x
 have g2:=numsN_len x.labels
 have g3:=uN_len x.num
 have g4:=uN_len x.align
 have g5:=sN_len x.value
 rw[List.length_append]
 simp only[List.length_cons,List.length_nil]
 repeat' split
 all_goals(try simp only[List.length_append,List.length_cons,List.length_nil]);omega
theorem runN_len (x:Nat×Nat):(runN x).length≤7:=by
 unfold runN
 have:=uN_len (x.1:Nat)
 simp
 omega
theorem codeN_len {x:List Nat×List InsT} (h1:x.1.length≤1000) (h2:x.2.length≤1000) (h:∀y∈x.2,y.labels.length≤100):(codeN x).length≤650000:=by
 unfold codeN
 rw[List.length_append,List.length_append]
 have g1:=uN_len ((runsT x.1).length:Nat)
 have g2:=flat_len (f:=runN) (M:=7) (runsT x.1) (fun y _=>runN_len y)
 have g3:=flat_len (f:=insN) (M:=640) x.2 (fun y hy=>insN_len' y (h y hy))
 have g4:=(runsT_le x.1).2
 omega
attribute [local go_sem] Oper.semAt_some
theorem wp_norm {P:Program} {c:Code} {Q:Exit→Act→World→Prop} {a:Act} {w:World} (h:∀K:Act→World→Prop,(∀a' w',Q .normal a' w'→K a' w')→c.wp P (fun ex a' w'=>ex=.normal∧K a' w') a w):c.wp P Q a w:=
 wp_mono (h (Q .normal) (fun _ _ h=>h)) (fun e a w hh=>by obtain⟨rfl,hq⟩:=hh;exact hq)
section
variable {w0 w w':World} {wb:Nat} {os:List Nat} {Y Z R:List It}
theorem WW.drew (h:WW w0 wb os Y w):WW w0 wb os Y w.drew:=h.to (Kept.refl _ _).drew
set_option maxRecDepth 100000 in
set_option maxHeartbeats 1600000 in
theorem wrCodeIn_all {x:CoG} {cb:Nat} (hc:CoIn R x) (hs:∀p∈R,p∈Y) (hb:It.b cb (coV x)∈Y) (hm1:x.1.1.length≤1000) (hm2:x.2.2.2.2.length≤1000) (hi:∀y∈x.1.2,InsOk y) (h:WW w0 wb [] Y w):
  Calls Tryz.prog 60 #[.pointer (some ⟨wb,0,none⟩),.pointer (some ⟨cb,0,none⟩)] w (fun e w'=>e=.returned (.tuple #[])∧WW w0 wb (codeN x.1) Y w'):=by
 obtain⟨p1,q1,e1⟩:=Row.shape (h.row hc.lo hs)
 have hb':It.b cb [.slice p1 x.1.1.length q1,.func (.func 137) #[] #[.pointer (some ⟨x.2.2.1,0,none⟩)]]∈Y:=by
  unfold coV at hb
  rw[e1] at hb
  exact hb
 have hlo:=hc.lo
 rw[e1] at hlo
 have HSH:Hid (∀y∈x.2.2.2.2,(∃p1 q1,y.2.1=.slice p1 y.1.gives.length q1)∧∃p2 q2,y.2.2=.slice p2 y.1.labels.length q2):=fun y hy=>by
  obtain⟨p,q,e⟩:=Row.shape (h.row (hc.ins y hy).1 hs)
  obtain⟨p',q',e'⟩:=Row.shape (h.row (hc.ins y hy).2 hs)
  exact⟨⟨p,q,e⟩,p',q',e'⟩
 have H:=hide (h.new #[.pointer (some ⟨wb,0,none⟩)] 40)
 have HC:=hide hc
 have HLO:=hide hlo
 have HS:=hide hs
 have HB:=hide hb'
 have HI:=hide hi
 clear h hc hs hb hb' hi e1 hlo
 refine(callsIn_wide (n:=10)).1 ?_
 refine callsIn_of_wp_marks Tryz.func60 rfl trivial ?_ rfl
 simp only[Tryz.ntmps60,List.size_toArray,List.length_cons,List.length_nil,Nat.reduceAdd,Nat.reduceSub,Array.replicate_succ,Array.replicate_zero,List.push_toArray,List.append_toArray,List.nil_append,List.cons_append]
 refine wpIn_wide.2 ?_
 go_upto_region 1 with fail
 generalize w.alloc (.cells #[.pointer (some ⟨wb,0,none⟩)] 40)=w1 at*
 generalize w.heap.size=b at*
 have hS:∀(V:World) (os:List Nat) (X:List It),(∀p∈Y,p∈X)→It.b b [.pointer (some ⟨wb,0,none⟩)]∈X→WW w0 wb os X V→(fun V:World=>V.cell? ⟨b,0,none⟩=some (.pointer (some ⟨wb,0,none⟩))∧V.cell? ⟨cb,0,none⟩=some (.slice p1 x.1.1.length q1)) V:=fun V os X g1 g2 hV=>⟨(hV.cIn g2 0).1.1,(hV.cIn (g1 _ HB.out) 0).1.1⟩
 have hS0:=hS _ _ _ (fun p hp=>List.mem_cons_of_mem _ hp) (List.mem_cons_self ..) H.out.drew
 go_wp2_with fail
 refine wp_norm (fun K0 hK0=>?_)
 refine regK (fun V:World=>V.cell? ⟨b,0,none⟩=some (.pointer (some ⟨wb,0,none⟩))∧V.cell? ⟨cb,0,none⟩=some (.slice p1 x.1.1.length q1)) 4 ?_
 iterate 3 refine tkk hS0 (h:=?_) (hQ:=fun _ _ _ h=>by cases h.1) (hy:=by(refine Or.inl ⟨by rfl,?_⟩;intro V hV;obtain⟨u0,u1⟩:=hV;go_simp;try with_reducible rfl))
 refine oneK (fun K hK=>?_)
 refine step_call (f:=62) (args:= #[.slice p1 x.1.1.length q1]) (by rfl) (by go_simp) (wrRuns_all HLO.out (fun p hp=>List.mem_cons_of_mem _ (HS.out p hp)) hm1 H.out.drew) ?_
 rintro e w3 ⟨u,rfl,h3⟩
 refine⟨_,rfl,hK _ _ (.inr (hS _ _ _ (fun p hp=>List.mem_cons_of_mem _ (List.mem_cons_of_mem _ hp)) (List.mem_cons_of_mem _ (List.mem_cons_self ..)) h3)) ?_⟩
 clear hK K hS0 H
 simp only[Act.put,List.setIfInBounds_toArray,List.set_cons_zero,List.set_cons_succ]
 have hrl:=runsT_le x.1.1
 refine lastK (fun K hK=>?_)
 refine step_call (f:=61) (args:= #[.pointer (some ⟨wb,0,none⟩),u,.func (.func 63) #[] #[]]) (by rfl) (by go_simp) (liRun_all (R:=[.r 126 2 u (runsT x.1.1).length ((runsT x.1.1).flatMap runC)]) (P:=63) (M:=7) (pf:=runN) (els:=runsT x.1.1) (enters_of Tryz.func63 (by kernel_rfl) (by kernel_rfl)) (fun y hy os Y' w' hn _ hW=>wrRun_all y (by have:=hrl.1 y hy;omega) hW hn) (fun y _=>runN_len y) (.inr (List.mem_singleton.2 rfl)) (fun p hp=>by cases List.mem_singleton.1 hp;exact List.mem_cons_self ..) (by omega) (by omega) h3 (by simp)) ?_
 rintro e w4 ⟨rfl,h4⟩
 refine⟨_,rfl,hK _ _ ⟨rfl,hK0 _ _ ?_⟩⟩
 clear hK K hK0 K0
 simp only[Act.put,List.setIfInBounds_toArray,List.set_cons_zero,List.set_cons_succ]
 have h5:WW w0 wb (uN ((runsT x.1.1).length:Nat)++(runsT x.1.1).flatMap runN) (.b b [.pointer (some ⟨wb,0,none⟩)]::Y) w4:=h4.pop
 obtain⟨A,hA⟩:∃A,A=uN ((runsT x.1.1).length:Nat)++(runsT x.1.1).flatMap runN:=⟨_,rfl⟩
 have HA:Hid (codeN x.1=A++x.1.2.flatMap insN∧A.length≤7006):=by
  refine⟨by rw[hA];rfl,?_⟩
  rw[hA,List.length_append]
  have g1:=uN_len ((runsT x.1.1).length:Nat)
  have g2:=flat_len (f:=runN) (M:=7) (runsT x.1.1) (fun y _=>runN_len y)
  omega
 rw[←hA] at h5
 obtain⟨⟨c1,-⟩,l1⟩:=h5.cIn (List.mem_cons_of_mem _ HB.out) 1
 have H5:=hide h5
 clear h3 h4 h5 hA hrl hS
 simp only[Exit.then]
 go_upto_region 2 with fail
 refine(wpIn_wide (n:=10)).1 ?_
 gi_wp2
 refine(wpIn_wide (n:=10)).1 ?_
 gi_wp2
 refine wp_rangeW (w0:=w0) (wb:=wb) (m:=8) (fb:=x.2.2.1) (R:=R) (gi:=x.2.2.2.2) (v:=x.2.2.2.1) (Y:=.b b [.pointer (some ⟨wb,0,none⟩)]::Y) (OS:=fun j=>A++(x.2.2.2.2.take j).flatMap fun y=>insN y.1) ?hg HSH.out HC.out.row (fun p hp=>List.mem_cons_of_mem _ (HS.out p hp)) (List.mem_cons_of_mem _ (HS.out _ HC.out.bx)) hm2 ?hround ?hdone ?h
 case hg=>rfl
 case h=>simpa using H5.out
 case hdone=>
  intro D W' hW'
  refine⟨by simp,.inl ⟨D,_,rfl,run_takeDeferred hW'.obj,?_⟩⟩
  refine⟨_,results_none rfl _ _ _,rfl,?_⟩
  have h6:=hW'.putO (o2:=.deferred none) |>.pop.pop
  rw[List.take_length] at h6
  rw[HA.out.1,HC.out.al,List.flatMap_map]
  exact h6
 case hround=>
  intro l y j W hy
  have hym:=List.mem_of_getElem? hy
  obtain⟨⟨pg,qg,s1⟩,pl,ql,s2⟩:=HSH.out y hym
  have hix:insV y=[.int .i64 0,.int .i64 0,.int .u8 (y.1.word:Nat),.bool y.1.typed,.slice pg y.1.gives.length qg,.int .u32 y.1.align,.int .u32 y.1.num,.int .i64 0,.slice pl y.1.labels.length ql,.int .i64 y.1.value]:=by unfold insV;rw[s1,s2]
  have hr1:=(HC.out.ins y hym).1
  have hr2:=(HC.out.ins y hym).2
  rw[s1] at hr1
  rw[s2] at hr2
  have hok:=HI.out y.1 (by rw[HC.out.al];exact List.mem_map_of_mem hym)
  rw[hix]
  refine⟨{tmps:= #[.pointer (some ⟨wb,0,none⟩),.pointer (some ⟨cb,0,none⟩),.pointer (some ⟨b,0,none⟩),.pointer (some ⟨W.heap.size,0,none⟩),.pointer (some ⟨wb,0,none⟩),.pointer (some ⟨cb,0,none⟩),.slice p1 x.1.1.length q1,u,.tuple #[],.pointer (some ⟨cb,1,none⟩),.func (.func 137) #[] #[.pointer (some ⟨x.2.2.1,0,none⟩)],.agg #[.int .i64 0,.int .i64 0,.int .u8 (y.1.word:Nat),.bool y.1.typed,.slice pg y.1.gives.length qg,.int .u32 y.1.align,.int .u32 y.1.num,.int .i64 0,.slice pl y.1.labels.length ql,.int .i64 y.1.value],undef,undef,undef],defers:=[]},fun K hK=>?_,fun W2 Z2 hZ hW2=>?_⟩
  ·gi_wp2
   exact hK
  ·skip
   obtain⟨c0,-⟩:=hW2.cl 0 0
   obtain⟨c1,-⟩:=hW2.cl 0 1
   obtain⟨c2,-⟩:=hW2.cl 0 2
   obtain⟨c3,-⟩:=hW2.cl 0 3
   obtain⟨c4,-⟩:=hW2.cl 0 4
   obtain⟨c5,-⟩:=hW2.cl 0 5
   obtain⟨c6,-⟩:=hW2.cl 0 6
   obtain⟨c7,-⟩:=hW2.cl 0 7
   obtain⟨c8,-⟩:=hW2.cl 0 8
   obtain⟨c9,-⟩:=hW2.cl 0 9
   have l0:=hW2.lt 0
   obtain⟨⟨d0,-⟩,m0⟩:=hW2.cIn (List.mem_cons_of_mem _ (hZ _ (List.mem_cons_self ..))) 0
   have HW2:=hide hW2
   have HZ:=hide hZ
   have HOK:=hide hok
   have HR1:=hide hr1
   have HR2:=hide hr2
   have HLJ:Hid ((A++(x.2.2.2.2.take j).flatMap fun y=>insN y.1).length+8000≤1000000000000):=by
    show _≤_
    rw[List.length_append]
    have g1:=HA.out.2
    have g2:=flat_len (f:=fun y:InsT×Value×Value=>insN y.1) (M:=640) (x.2.2.2.2.take j) (fun y hy=>insN_len' y.1 (HI.out y.1 (by rw[HC.out.al];exact List.mem_map_of_mem (List.mem_of_mem_take hy))).few)
    have g3:(x.2.2.2.2.take j).length≤1000:=by rw[List.length_take];omega
    omega
   have HNX:Hid (A++(x.2.2.2.2.take (j+1)).flatMap (fun y=>insN y.1)=(A++(x.2.2.2.2.take j).flatMap fun y=>insN y.1)++insN y.1):=by
    show _=_
    rw[List.take_add_one,hy]
    simp
   clear hW2 hZ hok hr1 hr2 hix s1 s2 hy hym
   gi_wp2_with fail
   refine⟨trivial,(CallsIn.inRound l (callsIn_wide.2 (wrIns_all (R:=R) y.1 HR1.out HR2.out (fun p hp=>List.mem_cons_of_mem _ (HZ.out p (List.mem_cons_of_mem _ (HS.out p hp)))) (by have:=HOK.out.few;omega) HOK.out.lab HOK.out.al HOK.out.num HOK.out.val HW2.out HLJ.out))).mono ?_⟩
   rintro e W3 ⟨rfl,h7⟩
   have H7:=hide h7
   clear h7 HW2 c0 c1 c2 c3 c4 c5 c6 c7 c8 c9 l0 d0 m0
   gi_wp2
   exact⟨trivial,by rw[HNX.out];exact H7.out⟩
set_option maxRecDepth 100000 in
set_option maxHeartbeats 1600000 in
theorem wrCode_all (x:CoG) (hc:CoIn R x) (hs:∀p∈R,p∈Y) (hm1:x.1.1.length≤1000) (hm2:x.2.2.2.2.length≤1000) (hi:∀y∈x.1.2,InsOk y) (h:WW w0 wb os Y w) (hn:os.length+700000≤1000000000000):
  Calls Tryz.prog 29 #[.pointer (some ⟨wb,0,none⟩),.agg #[x.2.1,.func (.func 137) #[] #[.pointer (some ⟨x.2.2.1,0,none⟩)]]] w (fun e w'=>e=.returned (.tuple #[])∧WW w0 wb (os++withinN (codeN x.1)) Y w'):=by
 have hmf:∀(fn:Fn) (first cap:Array Value) (w:World),(Instr.makeFunc fn first cap).run Tryz.prog w=.ok (.func fn first cap) w:=fun _ _ _ _=>rfl
 obtain⟨p1,q1,e1⟩:=Row.shape (h.row hc.lo hs)
 have hcv:coV x=[.slice p1 x.1.1.length q1,.func (.func 137) #[] #[.pointer (some ⟨x.2.2.1,0,none⟩)]]:=by unfold coV;rw[e1]
 have HL:Hid ((codeN x.1).length≤650000):=codeN_len hm1 (by rw[hc.al,List.length_map];exact hm2) (fun y hy=>(hi y hy).few)
 rw[e1]
 have H:=hide (h.new #[.slice p1 x.1.1.length q1,.func (.func 137) #[] #[.pointer (some ⟨x.2.2.1,0,none⟩)]] 92)
 have HC:=hide hc
 have HS:=hide hs
 have HI:=hide hi
 have HN:=hide hn
 have HCV:=hide hcv
 clear h hc hs hi hn hcv e1
 go_enter Tryz.func29,Tryz.ntmps29
 go_upto_region 1 with fail
 generalize w.alloc (.cells #[.slice p1 x.1.1.length q1,.func (.func 137) #[] #[.pointer (some ⟨x.2.2.1,0,none⟩)]] 92)=w1 at*
 generalize w.heap.size=b at*
 go_wp2_with fail
 refine(wrWithin1 (F:=60) (a1:=b) (xs:=codeN x.1) (enters_of Tryz.func60 (by kernel_rfl) (by kernel_rfl)) (by have:=HL.out;omega) (fun bb Y' w' hY hW=>wrCodeIn_all HC.out (fun p hp=>hY p (List.mem_cons_of_mem _ (HS.out p hp))) (by rw[HCV.out];exact hY _ (List.mem_cons_self ..)) hm1 hm2 HI.out hW) H.out (by have:=HL.out;have:=HN.out;omega)).mono ?_
 rintro e w3 ⟨rfl,h3⟩
 have H3:=hide h3.pop
 clear h3 H
 go_wp2
 go_end0
 exact⟨rfl,H3.out⟩
end
end
section
open Go.RowKit
set_option linter.unusedSimpArgs false
set_option linter.unusedVariables false
theorem limN_len (x:Lim):(limN x).length≤20:=by
 unfold limN
 have:=uN_len x.least
 have:=uN_len x.most
 split<;>simp<;>omega
theorem tableN_len (x:Lim):(tableN x).length≤30:=by
 unfold tableN
 have:=limN_len x
 simp
 omega
theorem globN_len (x:Glb):(globN x).length≤20:=by
 unfold globN
 have:=constN_len x.first
 simp
 omega
theorem dataN_len (x:Cst):(dataN x).length≤20:=by
 unfold dataN
 have:=constN_len x
 have:=sizedN_len ⟨#[]⟩
 have e:(⟨#[]⟩:ByteArray).size=0:=rfl
 rw[e] at this
 simp
 omega
theorem expN_len {x:ByteArray×Nat×Nat} (h:x.1.size≤1000):(expN x).length≤1030:=by
 unfold expN
 have:=sizedN_len x.1
 have:=uN_len (x.2.2:Nat)
 simp
 omega
theorem typeN_len {x:List Nat×List Nat} (h1:x.1.length≤50) (h2:x.2.length≤50):(typeN x).length≤5000:=by
 unfold typeN
 have:=kindsN_len x.1
 have:=kindsN_len x.2
 simp
 omega
theorem elemN_len {x:Cst×List Nat} (h:x.2.length≤1000):(elemN x).length≤8000:=by
 unfold elemN
 have:=constN_len x.1
 have:=numsN_len x.2
 simp
 omega
theorem wcode_len {x:List Nat×List InsT} (h1:x.1.length≤1000) (h2:x.2.length≤1000) (h:∀y∈x.2,InsOk y):(withinN (codeN x)).length≤700000:=by
 have:=withinN_len (codeN x)
 have:=codeN_len h1 h2 (fun y hy=>(h y hy).few)
 omega
theorem part_le {α:Type} {f:α→List Nat} {M k:Nat} {l:List α} (h:∀x∈l,(f x).length≤M) (hl:l.length≤1000) (hM:M≤3000000):(partN k l.length (uN (l.length:Nat)++l.flatMap f)).length≤3000000013:=by
 have g0:=partN_len k l.length (uN (l.length:Nat)++l.flatMap f)
 rw[List.length_append] at g0
 have g1:=uN_len (l.length:Nat)
 have g2:=flat_len l h
 have g3:l.length*M≤1000*3000000:=Nat.mul_le_mul hl hM
 omega
structure MG where
 ty:List ((List Nat×List Nat)×TyV)
 fu:List (Nat)
 ta:List (Lim)
 me:List (Lim)
 gl:List (Glb)
 ex:List (ByteArray×Nat×Nat)
 st:List (Nat)
 el:List ((Cst×List Nat)×Value)
 co:List (CoG)
 da:List (Cst)
 fF:List Nam
 lo:List ((Nat×List Nam)×Value)
structure MB (R:List It) (g:MG):Prop where
 ty:∀x∈g.ty,HasR R 73 1 x.2.1 x.1.1.length (kindCells x.1.1)∧HasR R 73 1 x.2.2 x.1.2.length (kindCells x.1.2)∧x.1.1.length≤50∧x.1.2.length≤50
 fu:∀x∈g.fu,x≤4294967295
 ta:∀x∈g.ta,Uok x.least∧Uok x.most
 me:∀x∈g.me,Uok x.least∧Uok x.most
 gl:∀x∈g.gl,Cok x.first
 ex:∀x∈g.ex,x.1.size≤1000∧x.2.2≤4294967295
 st:∀x∈g.st,x≤4294967295
 el:∀x∈g.el,Cok x.1.1∧(∀y∈x.1.2,y≤4294967295)∧HasR R 66 2 x.2 x.1.2.length (x.1.2.flatMap nuC)∧x.1.2.length≤1000
 co:∀x∈g.co,CoIn R x∧x.1.1.length≤1000∧x.2.2.2.2.length≤1000∧∀y∈x.1.2,InsOk y
 da:∀x∈g.da,Cok x
 fF:∀x∈g.fF,x.1≤4294967295∧x.2.size≤1000
 lo:∀x∈g.lo,x.1.1≤4294967295∧(∀y∈x.1.2,y.1≤4294967295∧y.2.size≤1000)∧HasR R 135 2 x.2 x.1.2.length (x.1.2.flatMap namCells)∧x.1.2.length≤1000
 nty:g.ty.length≤1000
 nfu:g.fu.length≤1000
 nta:g.ta.length≤1000
 nme:g.me.length≤1000
 ngl:g.gl.length≤1000
 nex:g.ex.length≤1000
 nst:g.st.length≤1000
 nel:g.el.length≤1000
 nco:g.co.length≤1000
 nda:g.da.length≤1000
 nfF:g.fF.length≤1000
 nlo:g.lo.length≤1000
def headN:List Nat:=[0,97,115,109,1,0,0,0]
def modG (g:MG):List Nat:=headN++(partN 1 g.ty.length (uN (g.ty.length:Nat)++g.ty.flatMap (fun x=>typeN x.1)))++(partN 3 g.fu.length (uN (g.fu.length:Nat)++g.fu.flatMap (fun n:Nat=>uN n)))++(partN 4 g.ta.length (uN (g.ta.length:Nat)++g.ta.flatMap (tableN)))++(partN 5 g.me.length (uN (g.me.length:Nat)++g.me.flatMap (limN)))++(partN 6 g.gl.length (uN (g.gl.length:Nat)++g.gl.flatMap (globN)))++(partN 7 g.ex.length (uN (g.ex.length:Nat)++g.ex.flatMap (expN)))++(g.st.flatMap startN)++(partN 9 g.el.length (uN (g.el.length:Nat)++g.el.flatMap (fun x=>elemN x.1)))++(partN 10 g.co.length (uN (g.co.length:Nat)++g.co.flatMap (fun x=>withinN (codeN x.1))))++(partN 11 g.da.length (uN (g.da.length:Nat)++g.da.flatMap (dataN)))++secN g.fF (g.lo.map (·.1))
section
variable {w0 w:World} {mb:Nat} {Y R:List It} {g:MG}
theorem WW.start (h:Sx w0 w Y) (t:TypeId):WW w0 w.heap.size [] Y (w.alloc (.cells #[.slice none 0 0] t)):=
 ⟨.slice none 0 0,((h.new #[.slice none 0 0] t).perm (List.perm_append_singleton _ _)).insN 1 5 1⟩
set_option maxRecDepth 100000 in
set_option maxHeartbeats 3200000 in
theorem mdWrite_all {vty vfu vta vme vgl vex vst vel vco vda vfF vlo:Value} (rty:HasR R 47 2 vty g.ty.length (g.ty.flatMap (fun x=>tyvC x.2))) (rfu:HasR R 66 2 vfu g.fu.length (g.fu.flatMap (nuC))) (rta:HasR R 70 4 vta g.ta.length (g.ta.flatMap (Lim.cells))) (rme:HasR R 70 4 vme g.me.length (g.me.flatMap (Lim.cells))) (rgl:HasR R 77 5 vgl g.gl.length (g.gl.flatMap (Glb.cells))) (rex:HasR R 81 5 vex g.ex.length (g.ex.flatMap (exC))) (rst:HasR R 66 2 vst g.st.length (g.st.flatMap (nuC))) (rel:HasR R 86 5 vel g.el.length (g.el.flatMap (elV))) (rco:HasR R 92 2 vco g.co.length (g.co.flatMap (coV))) (rda:HasR R 96 5 vda g.da.length (g.da.flatMap (daC))) (rfF:HasR R 135 2 vfF g.fF.length (g.fF.flatMap namCells)) (rlo:HasR R 139 2 vlo g.lo.length (g.lo.flatMap loV)) (hB:MB R g) (hs:∀p∈R,p∈Y) (hm:It.b mb [vty,vfu,vta,vme,vgl,vex,vst,vel,vco,vda,vfF,vlo]∈Y) (h:Sx w0 w Y):
  Calls Tryz.prog 10 #[.pointer (some ⟨mb,0,none⟩)] w (fun e w'=>e=.returned (.string (strN (modG g)))∧Kept (fun _=>False) w0 w'):=by
 obtain⟨pty,qty,rfl⟩:=Row.shape (rty.row h hs)
 have Rty:=hide rty
 obtain⟨pfu,qfu,rfl⟩:=Row.shape (rfu.row h hs)
 have Rfu:=hide rfu
 obtain⟨pta,qta,rfl⟩:=Row.shape (rta.row h hs)
 have Rta:=hide rta
 obtain⟨pme,qme,rfl⟩:=Row.shape (rme.row h hs)
 have Rme:=hide rme
 obtain⟨pgl,qgl,rfl⟩:=Row.shape (rgl.row h hs)
 have Rgl:=hide rgl
 obtain⟨pex,qex,rfl⟩:=Row.shape (rex.row h hs)
 have Rex:=hide rex
 obtain⟨pst,qst,rfl⟩:=Row.shape (rst.row h hs)
 have Rst:=hide rst
 obtain⟨pel,qel,rfl⟩:=Row.shape (rel.row h hs)
 have Rel:=hide rel
 obtain⟨pco,qco,rfl⟩:=Row.shape (rco.row h hs)
 have Rco:=hide rco
 obtain⟨pda,qda,rfl⟩:=Row.shape (rda.row h hs)
 have Rda:=hide rda
 obtain⟨pfF,qfF,rfl⟩:=Row.shape (rfF.row h hs)
 have RfF:=hide rfF
 obtain⟨plo,qlo,rfl⟩:=Row.shape (rlo.row h hs)
 have Rlo:=hide rlo
 have HTS:Hid (∀x∈g.ty,(∃p1 q1,x.2.1=.slice p1 x.1.1.length q1)∧∃p2 q2,x.2.2=.slice p2 x.1.2.length q2):=fun x hx=>by
  obtain⟨p,q,e⟩:=Row.shape ((hB.ty x hx).1.row h hs)
  obtain⟨p',q',e'⟩:=Row.shape ((hB.ty x hx).2.1.row h hs)
  exact⟨⟨p,q,e⟩,p',q',e'⟩
 have HES:Hid (∀x∈g.el,∃p1 q1,x.2=.slice p1 x.1.2.length q1):=fun x hx=>Row.shape ((hB.el x hx).2.2.1.row h hs)
 have HCS:Hid (∀x∈g.co,∃p1 q1,x.2.1=.slice p1 x.1.1.length q1):=fun x hx=>Row.shape ((hB.co x hx).1.lo.row h hs)
 have H:=hide (WW.start h 42)
 have HB:=hide hB
 have HS:=hide hs
 have HM:=hide hm
 clear h hB hs hm rty rfu rta rme rgl rex rst rel rco rda rfF rlo
 go_enter Tryz.func10,Tryz.ntmps10
 go_upto_region 2 with fail
 generalize w.alloc (.cells #[.slice none 0 0] 42)=w1 at*
 generalize w.heap.size=wb at*
 go_wp2_with fail
 refine(wrText_all ⟨#[0,97,115,109,1,0,0,0]⟩ H.out (by decide)).mono ?_
 rintro e w2 ⟨rfl,h2⟩
 have e0:([]:List Nat)++numsOf ⟨#[0,97,115,109,1,0,0,0]⟩=headN:=by decide
 rw[e0] at h2
 obtain⟨OS0,hOS0⟩:∃o,o=headN:=⟨_,rfl⟩
 rw[←hOS0] at h2
 have HH:=hide h2
 have HLn:Hid (OS0.length≤8):=by show _≤_;rw[hOS0];decide
 have HQ0:=hide hOS0
 clear h2 H e0 hOS0
 obtain⟨⟨c1,-⟩,l1⟩:=HH.out.cIn HM.out 0
 go_wp2_with fail
 refine(ptType_all (R:=R) (P:=15) (M:=5000) (pf:=fun x=>typeN x.1) (els:=g.ty) 1 (enters_of Tryz.func15 (by kernel_rfl) (by kernel_rfl)) HTS.out (fun x hx wb os Y' w' hn hR hW=>wrType_all (R:=R) x.1 (HB.out.ty x hx).1 (HB.out.ty x hx).2.1 hR (HB.out.ty x hx).2.2.1 (HB.out.ty x hx).2.2.2 hW hn) (fun x hx=>typeN_len (HB.out.ty x hx).2.2.1 (HB.out.ty x hx).2.2.2) Rty.out HS.out HB.out.nty (by omega) HH.out (by have:=HLn.out;omega)).mono ?_
 rintro e w3 ⟨rfl,hty⟩
 have HL2:Hid ((OS0++partN 1 g.ty.length (uN (g.ty.length:Nat)++g.ty.flatMap (fun x=>typeN x.1))).length≤3000000021):=by
  show _≤_
  rw[List.length_append]
  have g1:=part_le (k:=1) (M:=5000) (f:=fun x=>typeN x.1) (l:=g.ty) (fun x hx=>typeN_len (HB.out.ty x hx).2.2.1 (HB.out.ty x hx).2.2.2) HB.out.nty (by omega)
  have g3:=HLn.out
  omega
 clear c1 l1
 obtain⟨OSty,hOSty⟩:∃o,o=OS0++partN 1 g.ty.length (uN (g.ty.length:Nat)++g.ty.flatMap (fun x=>typeN x.1)):=⟨_,rfl⟩
 rw[←hOSty] at hty HL2
 have HQty:=hide hOSty
 clear HH HLn hOSty
 have HH:=hide hty
 have HLn:=HL2
 clear hty HL2
 obtain⟨⟨c1,-⟩,l1⟩:=HH.out.cIn HM.out 1
 go_wp2_with fail
 refine(ptNumber_all (R:=R) (P:=17) (M:=6) (pf:=fun n:Nat=>uN n) (els:=g.fu) 3 (enters_of Tryz.func17 (by kernel_rfl) (by kernel_rfl)) (fun x hx wb os Y' w' hn hR hW=>wrNumber_all x 0 (HB.out.fu x hx) hW hn) (fun x _=>uN_len x) Rfu.out HS.out HB.out.nfu (by omega) HH.out (by have:=HLn.out;omega)).mono ?_
 rintro e w4 ⟨rfl,hfu⟩
 have HL2:Hid ((OSty++partN 3 g.fu.length (uN (g.fu.length:Nat)++g.fu.flatMap (fun n:Nat=>uN n))).length≤6000000034):=by
  show _≤_
  rw[List.length_append]
  have g1:=part_le (k:=3) (M:=6) (f:=fun n:Nat=>uN n) (l:=g.fu) (fun x _=>uN_len x) HB.out.nfu (by omega)
  have g3:=HLn.out
  omega
 clear c1 l1
 obtain⟨OSfu,hOSfu⟩:∃o,o=OSty++partN 3 g.fu.length (uN (g.fu.length:Nat)++g.fu.flatMap (fun n:Nat=>uN n)):=⟨_,rfl⟩
 rw[←hOSfu] at hfu HL2
 have HQfu:=hide hOSfu
 clear HH HLn hOSfu
 have HH:=hide hfu
 have HLn:=HL2
 clear hfu HL2
 obtain⟨⟨c1,-⟩,l1⟩:=HH.out.cIn HM.out 2
 go_wp2_with fail
 refine(ptLimits_all (R:=R) (P:=19) (M:=30) (pf:=tableN) (els:=g.ta) 4 (enters_of Tryz.func19 (by kernel_rfl) (by kernel_rfl)) (fun x hx wb os Y' w' hn hR hW=>wrTable_all x (HB.out.ta x hx).1 (HB.out.ta x hx).2 hW hn) (fun x _=>tableN_len x) Rta.out HS.out HB.out.nta (by omega) HH.out (by have:=HLn.out;omega)).mono ?_
 rintro e w5 ⟨rfl,hta⟩
 have HL2:Hid ((OSfu++partN 4 g.ta.length (uN (g.ta.length:Nat)++g.ta.flatMap (tableN))).length≤9000000047):=by
  show _≤_
  rw[List.length_append]
  have g1:=part_le (k:=4) (M:=30) (f:=tableN) (l:=g.ta) (fun x _=>tableN_len x) HB.out.nta (by omega)
  have g3:=HLn.out
  omega
 clear c1 l1
 obtain⟨OSta,hOSta⟩:∃o,o=OSfu++partN 4 g.ta.length (uN (g.ta.length:Nat)++g.ta.flatMap (tableN)):=⟨_,rfl⟩
 rw[←hOSta] at hta HL2
 have HQta:=hide hOSta
 clear HH HLn hOSta
 have HH:=hide hta
 have HLn:=HL2
 clear hta HL2
 obtain⟨⟨c1,-⟩,l1⟩:=HH.out.cIn HM.out 3
 go_wp2_with fail
 refine(ptLimits_all (R:=R) (P:=20) (M:=20) (pf:=limN) (els:=g.me) 5 (enters_of Tryz.func20 (by kernel_rfl) (by kernel_rfl)) (fun x hx wb os Y' w' hn hR hW=>wrLimits_all x (HB.out.me x hx).1 (HB.out.me x hx).2 hW hn) (fun x _=>limN_len x) Rme.out HS.out HB.out.nme (by omega) HH.out (by have:=HLn.out;omega)).mono ?_
 rintro e w6 ⟨rfl,hme⟩
 have HL2:Hid ((OSta++partN 5 g.me.length (uN (g.me.length:Nat)++g.me.flatMap (limN))).length≤12000000060):=by
  show _≤_
  rw[List.length_append]
  have g1:=part_le (k:=5) (M:=20) (f:=limN) (l:=g.me) (fun x _=>limN_len x) HB.out.nme (by omega)
  have g3:=HLn.out
  omega
 clear c1 l1
 obtain⟨OSme,hOSme⟩:∃o,o=OSta++partN 5 g.me.length (uN (g.me.length:Nat)++g.me.flatMap (limN)):=⟨_,rfl⟩
 rw[←hOSme] at hme HL2
 have HQme:=hide hOSme
 clear HH HLn hOSme
 have HH:=hide hme
 have HLn:=HL2
 clear hme HL2
 obtain⟨⟨c1,-⟩,l1⟩:=HH.out.cIn HM.out 4
 go_wp2_with fail
 refine(ptGlobal_all (R:=R) (P:=22) (M:=20) (pf:=globN) (els:=g.gl) 6 (enters_of Tryz.func22 (by kernel_rfl) (by kernel_rfl)) (fun x hx wb os Y' w' hn hR hW=>wrGlobal_all x (HB.out.gl x hx) hW hn) (fun x _=>globN_len x) Rgl.out HS.out HB.out.ngl (by omega) HH.out (by have:=HLn.out;omega)).mono ?_
 rintro e w7 ⟨rfl,hgl⟩
 have HL2:Hid ((OSme++partN 6 g.gl.length (uN (g.gl.length:Nat)++g.gl.flatMap (globN))).length≤15000000073):=by
  show _≤_
  rw[List.length_append]
  have g1:=part_le (k:=6) (M:=20) (f:=globN) (l:=g.gl) (fun x _=>globN_len x) HB.out.ngl (by omega)
  have g3:=HLn.out
  omega
 clear c1 l1
 obtain⟨OSgl,hOSgl⟩:∃o,o=OSme++partN 6 g.gl.length (uN (g.gl.length:Nat)++g.gl.flatMap (globN)):=⟨_,rfl⟩
 rw[←hOSgl] at hgl HL2
 have HQgl:=hide hOSgl
 clear HH HLn hOSgl
 have HH:=hide hgl
 have HLn:=HL2
 clear hgl HL2
 obtain⟨⟨c1,-⟩,l1⟩:=HH.out.cIn HM.out 5
 go_wp2_with fail
 refine(ptExport_all (R:=R) (P:=24) (M:=1030) (pf:=expN) (els:=g.ex) 7 (enters_of Tryz.func24 (by kernel_rfl) (by kernel_rfl)) (fun x hx wb os Y' w' hn hR hW=>wrExport_all x (by have:=(HB.out.ex x hx).1;omega) (HB.out.ex x hx).2 hW (by have:=(HB.out.ex x hx).1;omega)) (fun x hx=>expN_len (HB.out.ex x hx).1) Rex.out HS.out HB.out.nex (by omega) HH.out (by have:=HLn.out;omega)).mono ?_
 rintro e w8 ⟨rfl,hex⟩
 have HL2:Hid ((OSgl++partN 7 g.ex.length (uN (g.ex.length:Nat)++g.ex.flatMap (expN))).length≤18000000086):=by
  show _≤_
  rw[List.length_append]
  have g1:=part_le (k:=7) (M:=1030) (f:=expN) (l:=g.ex) (fun x hx=>expN_len (HB.out.ex x hx).1) HB.out.nex (by omega)
  have g3:=HLn.out
  omega
 clear c1 l1
 obtain⟨OSex,hOSex⟩:∃o,o=OSgl++partN 7 g.ex.length (uN (g.ex.length:Nat)++g.ex.flatMap (expN)):=⟨_,rfl⟩
 rw[←hOSex] at hex HL2
 have HQex:=hide hOSex
 clear HH HLn hOSex
 have HH:=hide hex
 have HLn:=HL2
 clear hex HL2
 go_wp2_with fail
 refine(wrStart_all (R:=R) HB.out.st Rst.out HS.out HB.out.nst HM.out rfl HH.out (by have:=HLn.out;omega)).mono ?_
 rintro e w9 ⟨rfl,hst⟩
 have HL2:Hid ((OSex++g.st.flatMap startN).length≤18000013086):=by
  show _≤_
  rw[List.length_append]
  have g1:=flat_len (f:=startN) (M:=13) g.st (fun x _=>startN_len x)
  have g2:=HB.out.nst
  have g3:=HLn.out
  omega
 obtain⟨OSst,hOSst⟩:∃o,o=OSex++g.st.flatMap startN:=⟨_,rfl⟩
 rw[←hOSst] at hst HL2
 have HQst:=hide hOSst
 clear HH HLn hOSst
 have HH:=hide hst
 have HLn:=HL2
 clear hst HL2
 obtain⟨⟨c1,-⟩,l1⟩:=HH.out.cIn HM.out 7
 go_wp2_with fail
 refine(ptElement_all (R:=R) (P:=27) (M:=8000) (pf:=fun x=>elemN x.1) (els:=g.el) 9 (enters_of Tryz.func27 (by kernel_rfl) (by kernel_rfl)) HES.out (fun x hx wb os Y' w' hn hR hW=>wrElement_all (R:=R) x.1 (HB.out.el x hx).1 (HB.out.el x hx).2.1 (HB.out.el x hx).2.2.1 hR (HB.out.el x hx).2.2.2 hW hn) (fun x hx=>elemN_len (HB.out.el x hx).2.2.2) Rel.out HS.out HB.out.nel (by omega) HH.out (by have:=HLn.out;omega)).mono ?_
 rintro e w10 ⟨rfl,hel⟩
 have HL2:Hid ((OSst++partN 9 g.el.length (uN (g.el.length:Nat)++g.el.flatMap (fun x=>elemN x.1))).length≤21000013099):=by
  show _≤_
  rw[List.length_append]
  have g1:=part_le (k:=9) (M:=8000) (f:=fun x=>elemN x.1) (l:=g.el) (fun x hx=>elemN_len (HB.out.el x hx).2.2.2) HB.out.nel (by omega)
  have g3:=HLn.out
  omega
 clear c1 l1
 obtain⟨OSel,hOSel⟩:∃o,o=OSst++partN 9 g.el.length (uN (g.el.length:Nat)++g.el.flatMap (fun x=>elemN x.1)):=⟨_,rfl⟩
 rw[←hOSel] at hel HL2
 have HQel:=hide hOSel
 clear HH HLn hOSel
 have HH:=hide hel
 have HLn:=HL2
 clear hel HL2
 obtain⟨⟨c1,-⟩,l1⟩:=HH.out.cIn HM.out 8
 go_wp2_with fail
 refine(ptCode_all (R:=R) (P:=29) (M:=700000) (pf:=fun x=>withinN (codeN x.1)) (els:=g.co) 10 (enters_of Tryz.func29 (by kernel_rfl) (by kernel_rfl)) HCS.out (fun x hx wb os Y' w' hn hR hW=>wrCode_all (R:=R) x (HB.out.co x hx).1 hR (HB.out.co x hx).2.1 (HB.out.co x hx).2.2.1 (HB.out.co x hx).2.2.2 hW hn) (fun x hx=>wcode_len (HB.out.co x hx).2.1 (by rw[(HB.out.co x hx).1.al,List.length_map];exact(HB.out.co x hx).2.2.1) (HB.out.co x hx).2.2.2) Rco.out HS.out HB.out.nco (by omega) HH.out (by have:=HLn.out;omega)).mono ?_
 rintro e w11 ⟨rfl,hco⟩
 have HL2:Hid ((OSel++partN 10 g.co.length (uN (g.co.length:Nat)++g.co.flatMap (fun x=>withinN (codeN x.1)))).length≤24000013112):=by
  show _≤_
  rw[List.length_append]
  have g1:=part_le (k:=10) (M:=700000) (f:=fun x=>withinN (codeN x.1)) (l:=g.co) (fun x hx=>wcode_len (HB.out.co x hx).2.1 (by rw[(HB.out.co x hx).1.al,List.length_map];exact(HB.out.co x hx).2.2.1) (HB.out.co x hx).2.2.2) HB.out.nco (by omega)
  have g3:=HLn.out
  omega
 clear c1 l1
 obtain⟨OSco,hOSco⟩:∃o,o=OSel++partN 10 g.co.length (uN (g.co.length:Nat)++g.co.flatMap (fun x=>withinN (codeN x.1))):=⟨_,rfl⟩
 rw[←hOSco] at hco HL2
 have HQco:=hide hOSco
 clear HH HLn hOSco
 have HH:=hide hco
 have HLn:=HL2
 clear hco HL2
 obtain⟨⟨c1,-⟩,l1⟩:=HH.out.cIn HM.out 9
 go_wp2_with fail
 refine(ptData_all (R:=R) (P:=31) (M:=20) (pf:=dataN) (els:=g.da) 11 (enters_of Tryz.func31 (by kernel_rfl) (by kernel_rfl)) (fun x hx wb os Y' w' hn hR hW=>wrData_all x (HB.out.da x hx) hW hn) (fun x _=>dataN_len x) Rda.out HS.out HB.out.nda (by omega) HH.out (by have:=HLn.out;omega)).mono ?_
 rintro e w12 ⟨rfl,hda⟩
 have HL2:Hid ((OSco++partN 11 g.da.length (uN (g.da.length:Nat)++g.da.flatMap (dataN))).length≤27000013125):=by
  show _≤_
  rw[List.length_append]
  have g1:=part_le (k:=11) (M:=20) (f:=dataN) (l:=g.da) (fun x _=>dataN_len x) HB.out.nda (by omega)
  have g3:=HLn.out
  omega
 clear c1 l1
 obtain⟨OSda,hOSda⟩:∃o,o=OSco++partN 11 g.da.length (uN (g.da.length:Nat)++g.da.flatMap (dataN)):=⟨_,rfl⟩
 rw[←hOSda] at hda HL2
 have HQda:=hide hOSda
 clear HH HLn hOSda
 have HH:=hide hda
 have HLn:=HL2
 clear hda HL2
 obtain⟨⟨c1,-⟩,l1⟩:=HH.out.cIn HM.out 10
 obtain⟨⟨c2,-⟩,l2⟩:=HH.out.cIn HM.out 11
 go_wp2_with fail
 refine(wrNames_all (R:=R) HB.out.fF HB.out.nfF HB.out.lo HB.out.nlo RfF.out Rlo.out HS.out HH.out (by have:=HLn.out;omega)).mono ?_
 rintro e w13 ⟨rfl,hZ⟩
 clear c1 l1 c2 l2
 have HZ:=hide hZ
 clear hZ HH
 go_wp2_with fail
 refine(wrAll_all HZ.out).mono ?_
 rintro e w14 ⟨rfl,hY⟩
 have HY:=hide hY
 clear hY HZ
 go_wp2
 go_ret
 refine⟨?_,HY.out.kept⟩
 have e:OSda++secN g.fF (g.lo.map (·.1))=modG g:=by
  unfold modG
  rw[HQda.out,HQco.out,HQel.out,HQst.out,HQex.out,HQgl.out,HQme.out,HQta.out,HQfu.out,HQty.out,HQ0.out]
 rw[e]
 rfl
end
end
section
open Go.RowKit
set_option linter.unusedSimpArgs false
set_option linter.unusedVariables false
def modN (s:MS):List Nat:=
 headN++partN 1 s.ty.length (uN (s.ty.length:Nat)++s.ty.flatMap typeN)++partN 3 s.fu.length (uN (s.fu.length:Nat)++s.fu.flatMap fun n:Nat=>uN n)
 ++partN 4 s.ta.length (uN (s.ta.length:Nat)++s.ta.flatMap tableN)++partN 5 s.me.length (uN (s.me.length:Nat)++s.me.flatMap limN)++partN 6 s.gl.length (uN (s.gl.length:Nat)++s.gl.flatMap globN)
 ++partN 7 s.ex.length (uN (s.ex.length:Nat)++s.ex.flatMap expN)++s.st.flatMap startN++partN 9 s.el.length (uN (s.el.length:Nat)++s.el.flatMap elemN)
 ++partN 10 s.co.length (uN (s.co.length:Nat)++s.co.flatMap fun x=>withinN (codeN x))++partN 11 s.da.length (uN (s.da.length:Nat)++s.da.flatMap dataN)++secN s.fF s.lo
def gOf (g:Gh) (s:MS):MG:=⟨g.ty,s.fu,s.ta,s.me,s.gl,s.ex,s.st,g.el,g.co,s.da,s.fF,g.lo⟩
theorem modG_of {g:Gh} {v:VS} {s:MS} {tl:List It} (h:AG g v s tl):modG (gOf g s)=modN s:=by
 unfold modG modN gOf
 rw[h.ty,h.el,h.co,h.lo]
 simp only[List.length_map,List.flatMap_map]
theorem Two.sml {T:List Tok} {s:MS} (hT:TW T) (h0:0<T.length) (h:Two T s):Sml s:=by
 obtain⟨s1,h1,h2,h3,h4⟩:=h
 exact modT_ok hT h0 rfl (mkS_ok h2.ix h3.ix) h4
section
variable {w w1:World} {T:List Tok} {ab tg cap mw mb:Nat} {g:Gh} {v:VS} {s:MS} {tl:List It}
theorem AG.canBe (hT:TW T) (h:AG g v s tl) (hi:s.i<T.length) (hs:Sml s) {Y:List It} (hY:∀p∈tl,p∈Y):MB Y (gOf g s):=by
 have hf:=hT.few
 have hn:∀x,x∈g.lo→x.1∈s.lo:=fun x hx=>by rw[h.lo];exact List.mem_map_of_mem hx
 have he:∀x,x∈g.el→x.1∈s.el:=fun x hx=>by rw[h.el];exact List.mem_map_of_mem hx
 have hc:∀x,x∈g.co→x.1∈s.co:=fun x hx=>by rw[h.co];exact List.mem_map_of_mem hx
 have lt:g.ty.length=s.ty.length:=by rw[h.ty,List.length_map]
 have le:g.el.length=s.el.length:=by rw[h.el,List.length_map]
 have lc:g.co.length=s.co.length:=by rw[h.co,List.length_map]
 have ll:g.lo.length=s.lo.length:=by rw[h.lo,List.length_map]
 have a1:=h.fu
 have a2:=h.ta
 have a3:=h.me
 have a4:=h.gl
 have a5:=h.ex
 have a6:=h.st
 have a7:=h.eln
 have a8:=h.con
 have a9:=h.da
 have a10:=h.fF
 have a11:=h.lon
 have a12:=h.tyn
 constructor
 ·exact fun x hx=>⟨(h.tyr x hx).1.mono hY,(h.tyr x hx).2.1.mono hY,(h.tyr x hx).2.2⟩
 ·exact hs.fu
 ·exact hs.ta
 ·exact hs.me
 ·exact hs.gl
 ·exact hs.ex
 ·exact hs.st
 ·exact fun x hx=>⟨(hs.el _ (he x hx)).1,(hs.el _ (he x hx)).2.1,(h.elr x hx).mono hY,by have:=(hs.el _ (he x hx)).2.2;omega⟩
 ·exact fun x hx=>⟨(h.cor x hx).mono hY,(h.cor x hx).len,(h.cor x hx).few,hs.co _ (hc x hx)⟩
 ·exact hs.da
 ·exact fun x hx=>⟨by have:=h.fFx x hx;omega,hs.fF x hx⟩
 ·exact fun x hx=>⟨by have:=(hs.lo _ (hn x hx)).1;omega,fun y hy=>⟨by have:=((hs.lo _ (hn x hx)).2 y hy).1;omega,((hs.lo _ (hn x hx)).2 y hy).2⟩,(h.lor x hx).1.mono hY,(h.lor x hx).2⟩
 ·show g.ty.length≤1000;omega
 ·show s.fu.length≤1000;omega
 ·show s.ta.length≤1000;omega
 ·show s.me.length≤1000;omega
 ·show s.gl.length≤1000;omega
 ·show s.ex.length≤1000;omega
 ·show s.st.length≤1000;omega
 ·show g.el.length≤1000;omega
 ·show g.co.length≤1000;omega
 ·show s.da.length≤1000;omega
 ·show s.fF.length≤1000;omega
 ·show g.lo.length≤1000;omega
theorem write_mod (hT:TW T) (h0:0<T.length) {e:Ending} (h:ModV w T s e w1):∃mb:Nat,e=.returned (.pointer (some ⟨mb,0,none⟩))∧Calls Tryz.prog 10 #[.pointer (some ⟨mb,0,none⟩)] w1 (fun e w'=>e=.returned (.string (strN (modN s)))∧Kept (fun _=>False) w w'):=by
 obtain⟨ab,tg,cap,mw,mb,g,v,tl,rfl,ha,hnf,hi,htw,hS⟩:=h
 refine⟨mb,rfl,?_⟩
 have hs:=htw.sml hT h0
 have hY:∀p∈tl,p∈LA ab tg cap mw mb T v {s with i:=0} tl:=fun p hp=>by simp[LA,AL,RA,hp]
 have hB:=ha.canBe hT hi hs hY
 have e1:g.ty.length=s.ty.length:=by rw[ha.ty,List.length_map]
 have e2:g.el.length=s.el.length:=by rw[ha.el,List.length_map]
 have e3:g.co.length=s.co.length:=by rw[ha.co,List.length_map]
 have e4:g.lo.length=s.lo.length:=by rw[ha.lo,List.length_map]
 rw[←modG_of ha]
 refine mdWrite_all (g:=gOf g s) (vty:=v.ty) (vfu:=v.fu) (vta:=v.ta) (vme:=v.me) (vgl:=v.gl) (vex:=v.ex) (vst:=v.st) (vel:=v.el) (vco:=v.co) (vda:=v.da) (vfF:=v.fF) (vlo:=v.lo) (R:=LA ab tg cap mw mb T v {s with i:=0} tl) (.inr ?_) (.inr ?_) (.inr ?_) (.inr ?_) (.inr ?_) (.inr ?_) (.inr ?_) (.inr ?_) (.inr ?_) (.inr ?_) (.inr ?_) (.inr ?_) hB (fun p hp=>hp) ?_ hS
 ·show It.r 47 2 v.ty g.ty.length (g.ty.flatMap fun x=>tyvC x.2)∈_
  rw[e1,←ha.tyv];simp[LA,AL,RA]
 ·simp[LA,AL,RA,gOf]
 ·simp[LA,AL,RA,gOf]
 ·simp[LA,AL,RA,gOf]
 ·simp[LA,AL,RA,gOf]
 ·simp[LA,AL,RA,gOf]
 ·simp[LA,AL,RA,gOf]
 ·show It.r 86 5 v.el g.el.length (g.el.flatMap elV)∈_
  rw[e2,←ha.elv];simp[LA,AL,RA]
 ·show It.r 92 2 v.co g.co.length (g.co.flatMap coV)∈_
  rw[e3,←ha.cov];simp[LA,AL,RA]
 ·simp[LA,AL,RA,gOf]
 ·simp[LA,AL,RA,gOf]
 ·show It.r 139 2 v.lo g.lo.length (g.lo.flatMap loV)∈_
  rw[e4,←ha.lov];simp[LA,AL,RA]
 ·rw[←hnf];simp[LA,AL,RA]
end
end
section
open Go.RowKit
set_option linter.unusedSimpArgs false
set_option linter.unusedVariables false
def asmM (T:List Tok):Except Err ByteArray:=match asmT T with
 | .error e=>.error e
 | .ok s=>.ok (strN (modN s))
def asmU (T:List Tok):Except Err Unit:=match asmT T with
 | .error e=>.error e
 | .ok _=>.ok ()
theorem enters_assembleIn:Enters 9:=enters_of Tryz.func9 (by kernel_rfl) (by kernel_rfl)
section
variable {T:List Tok} {text:ByteArray}
set_option maxRecDepth 100000 in
set_option maxHeartbeats 1600000 in
theorem assembleIn_any {w:World} {bx mx:Nat} {x0:ByteArray} (hN:NewsC text T) (hl:Gl w) (hg:Ge w) (hd:Gd w) (hT:TW T) (h0:0<T.length) (hD:(∀t∈T,t.1≠4)∨∀i,opensT T ⟨#[100,97,116,97]⟩ i=false)
  (hbl:bx<w.heap.size) (hb:w.cell? ⟨bx,0,none⟩=some (.string text)) (hm:Blk w mx [.string x0]):
  Calls Tryz.prog 9 #[.pointer (some ⟨bx,0,none⟩),.pointer (some ⟨mx,0,none⟩)] w fun e w'=>Kept (only mx) w w'∧(∃s,w'.cell? ⟨mx,0,none⟩=some (.string s)∧(∀y,asmM T=.ok y→s=y)∧∀z,asmM T=.error z→s=x0)∧(∀x,asmU T=.ok x→e=.returned (.tuple #[]))∧∀q p,asmU T=.error (q,p)→e=gaveUp q p:=by
 have hmw:=hm.lt
 obtain⟨M0,M1⟩:=hm.oneC'
 have HC:=hide (asModule_all hN hl hg hd hT h0 hD)
 clear hN hl hg hd hD hm
 go_enter Tryz.func9,Tryz.ntmps9
 go_wp2_with fail
 refine HC.out.mono ?_
 intro e w1 h1
 cases hx:asmT T with
 | error q=>
  rw[hx] at h1
  obtain⟨rfl,hk⟩:=h1
  have e1:asmM T=.error q:=by unfold asmM;rw[hx]
  have e2:asmU T=.error q:=by unfold asmU;rw[hx]
  exact⟨rfl,hk.mono (fun _ _ c=>c.elim),⟨x0,(hk.cell (p:=⟨mx,0,none⟩) hmw (fun c=>c)).trans M0,fun y h=>by(rw[e1] at h;cases h),fun _ _=>rfl⟩,fun x h=>by(rw[e2] at h;cases h),fun q' p' h=>by rw[e2] at h;cases h;rfl⟩
 | ok s=>
 rw[hx] at h1
 obtain⟨mb,rfl,h2⟩:=write_mod hT h0 h1
 have e1:asmM T=.ok (strN (modN s)):=by unfold asmM;rw[hx]
 have e2:asmU T=.ok ():=by unfold asmU;rw[hx]
 have HE:Hid (asmM T=.ok (strN (modN s))∧asmU T=.ok ()):=⟨e1,e2⟩
 have H2:=hide h2
 clear h1 h2 hx e1 e2 HC
 go_wp2_with fail
 refine H2.out.mono ?_
 rintro e w2 ⟨rfl,hk⟩
 have C0:=(hk.cell (p:=⟨mx,0,none⟩) hmw (fun c=>c)).trans M0
 have C1:=(hk.frozen (p:=⟨mx,0,none⟩) hmw (fun c=>c)).trans M1
 have hmw2:mx<w2.heap.size:=Nat.lt_of_lt_of_le hmw hk.size
 have HK:Hid (Kept (only mx) w (w2.setCell ⟨mx,0,none⟩ (.string (strN (modN s))))∧(w2.setCell ⟨mx,0,none⟩ (.string (strN (modN s)))).cell? ⟨mx,0,none⟩=some (.string (strN (modN s)))):=⟨(hk.mono (fun _ _ c=>c.elim)).own _,World.cell?_setCell_same _ _ _ C0⟩
 clear hk H2
 go_wp2
 go_end0
 exact⟨HK.out.1,⟨_,HK.out.2,fun y h=>by(rw[HE.out.1] at h;cases h;rfl),fun z h=>by(rw[HE.out.1] at h;cases h)⟩,fun _ _=>rfl,fun q p h=>by(rw[HE.out.2] at h;cases h)⟩
def asmAns (T:List Tok) (text:ByteArray):ByteArray×Nat×Nat:=match asmM T with
 | .error (q,p)=>if q=0 then(⟨#[]⟩,0,0) else(⟨#[]⟩,q,p)
 | .ok y=>if 5000<y.size then(⟨#[]⟩,1,0) else(y,0,0)
set_option maxRecDepth 100000 in
set_option maxHeartbeats 1600000 in
theorem assemble_any {w:World} (hz:text.size≤60000) (hN:NewsC text T) (hl:Gl w) (hg:Ge w) (hd:Gd w) (hT:TW T) (h0:0<T.length) (hD:(∀t∈T,t.1≠4)∨∀i,opensT T ⟨#[100,97,116,97]⟩ i=false):
  Calls Tryz.prog 7 #[.string text] w fun e w'=>e=.returned (.tuple #[.string (asmAns T text).1,.int .i64 ((asmAns T text).2.1:Nat),.int .i64 ((asmAns T text).2.2:Nat)])∧Kept (fun _=>False) w w':=by
 have hmf:∀(fn:Fn) (first cap:Array Value) (w:World),(Instr.makeFunc fn first cap).run Tryz.prog w=.ok (.func fn first cap) w:=fun _ _ _ _=>rfl
 have t1:decide ((60000:Int)<(text.size:Int))=false:=decide_eq_false (by omega)
 have HN:=hide hN
 have HL:=hide hl
 have HG:=hide hg
 have HD:=hide hd
 have HDD:=hide hD
 clear hN hl hg hd hD
 go_enter Tryz.func7,Tryz.ntmps7
 go_wp2_with fail
 refine(givenUp_any (S:=only (w.heap.size+1)) (V:=fun W=>w.heap.size+1<W.heap.size∧∃s,W.cell? ⟨w.heap.size+1,0,none⟩=some (.string s)∧(∀y,asmM T=.ok y→s=y)∧∀z,asmM T=.error z→s=⟨#[]⟩) (r:=asmU T) enters_assembleIn ?_ ?_ ?_).mono ?_
 ·rintro k rfl;simp
 ·intro W hk
  have hk2:Kept (fun _=>False) w W:=((Kept.refl _ _).alloc _ |>.alloc _).trans hk
  have hB:=(Blk.new' (w:=w.alloc (.cells #[.string text] 9)) (g:=w.heap.size+1) (c:= #[.string ⟨#[]⟩]) (t:=9) (by simp)).kept hk (by simp) (fun c=>c)
  refine(assembleIn_any (bx:=w.heap.size) (mx:=w.heap.size+1) HN.out (HL.out.kept hk2) (HG.out.kept hk2) (HD.out.kept hk2) hT h0 HDD.out ?_ ?_ hB).mono ?_
  ·have:=hk.size;simp at this;omega
  ·exact(hk.cell (p:=⟨w.heap.size,0,none⟩) (by simp;omega) (fun c=>c)).trans (by simp[go_sem])
  ·rintro e W' ⟨h1,h2,h3,h4⟩
   exact⟨h1,⟨Nat.lt_of_lt_of_le hB.lt h1.size,h2⟩,h3,h4⟩
 ·rintro W W' ⟨hl,s,ho,hy⟩ hk
  exact⟨Nat.lt_of_lt_of_le hl hk.size,s,(hk.cell (p:=⟨w.heap.size+1,0,none⟩) hl (fun(c:_≤_)=>by simp at c;omega)).trans ho,hy⟩
 rintro e w1 ⟨hk,⟨hl,s,ho,hsy,hse⟩,hok,herr⟩
 have kp:Kept (fun _=>False) w w1:=(((Kept.refl _ _).alloc _).alloc _).fresh hk (fun i hi (c:i=_)=>by omega)
 cases hr:asmM T with
 | error qp=>
  obtain⟨q,p⟩:=qp
  have hr2:asmU T=.error (q,p):=by
   unfold asmM at hr
   unfold asmU
   split at hr
   ·cases hr;rfl
   ·cases hr
  have he:=herr q p hr2
  subst he
  obtain rfl:=hse _ hr
  by_cases hq0:q=0
  ·subst hq0
   have hs0:(⟨#[]⟩:ByteArray).size=0:=rfl
   have HB:Hid (asmAns T text=(⟨#[]⟩,0,0)):=by show _=_;unfold asmAns;rw[hr];rfl
   clear hok herr hr hr2 hsy hse
   go_wp2
   go_ret3
   exact⟨by rw[HB.out];rfl,kp⟩
  ·have q1:((q:Int)==0)=false:=by simp;omega
   have q2:((q:Int) !=0)=true:=by simp;omega
   have HB:Hid (asmAns T text=(⟨#[]⟩,q,p)):=by show _=_;unfold asmAns;rw[hr];simp[hq0]
   clear hok herr hr hr2 hsy hse hq0
   go_wp2
   go_ret3
   exact⟨by rw[HB.out];rfl,kp⟩
 | ok y=>
  have hr2:asmU T=.ok ():=by
   unfold asmM at hr
   unfold asmU
   split at hr
   ·cases hr
   ·rfl
  have he:=hok () hr2
  subst he
  obtain rfl:=hsy y hr
  by_cases hb:5000<s.size
  ·have t2:decide ((5000:Int)<(s.size:Int))=true:=decide_eq_true (by omega)
   have HB:Hid (asmAns T text=(⟨#[]⟩,1,0)):=by show _=_;unfold asmAns;rw[hr];simp[hb]
   clear hok herr hr hr2 hsy hse hb
   go_wp2
   go_ret3
   exact⟨by rw[HB.out];rfl,kp⟩
  ·have t2:decide ((5000:Int)<(s.size:Int))=false:=decide_eq_false (by omega)
   have HB:Hid (asmAns T text=(s,0,0)):=by show _=_;unfold asmAns;rw[hr];simp[hb]
   clear hok herr hr hr2 hsy hse hb
   go_wp2
   go_ret3
   exact⟨by rw[HB.out];rfl,kp⟩
end
end
section
open Go.RowKit
set_option linter.unusedSimpArgs false
theorem news_of {s:ByteArray} (h:TameT s):NewsC s (toksM s):=fun w=>tkNew_any s h w
def pickZ (n:Int):Int:=if n<0 then(-(n+1))%5 else n%5
set_option maxHeartbeats 800000 in
theorem pick_any (n:Int) (h0: -9223372036854775808≤n) (h1:n≤9223372036854775807) (w:World):Calls Tryz.prog 6 #[.int .i64 n,.int .i64 5] w fun e w'=>e=.returned (.int .i64 (pickZ n))∧w'=w:=by
 by_cases hn:n<0
 ·have hw1:IntKind.i64.wrap (n+1)=n+1:=IntWalk.i64_in _ ⟨by omega,by omega⟩
  have hw2:IntKind.i64.wrap (-(n+1))= -(n+1):=IntWalk.i64_in _ ⟨by omega,by omega⟩
  have hr:Int.tmod (-(n+1)) 5=(-(n+1))%5:=Int.tmod_eq_emod_of_nonneg (by omega)
  have hw3:IntKind.i64.wrap ((-(n+1))%5)=(-(n+1))%5:=IntWalk.i64_in _ ⟨by omega,by omega⟩
  have HP:Hid (pickZ n=(-(n+1))%5):=by show _=_;unfold pickZ;rw[if_pos hn]
  go_enter Tryz.func6,Tryz.ntmps6
  go_wp2
  go_ret
  exact⟨by rw[HP.out];simp_all,rfl⟩
 ·have hr:Int.tmod n 5=n%5:=Int.tmod_eq_emod_of_nonneg (by omega)
  have hw3:IntKind.i64.wrap (n%5)=n%5:=IntWalk.i64_in _ ⟨by omega,by omega⟩
  have HP:Hid (pickZ n=n%5):=by show _=_;unfold pickZ;rw[if_neg hn]
  go_enter Tryz.func6,Tryz.ntmps6
  go_wp2
  go_ret
  exact⟨by rw[HP.out];simp_all,rfl⟩
end
end Go.Proofs.YtkmofapihggjgaaGreatDoor
