import Derived.Test.YtkmofapihggjgaaGreatDoorX23
namespace Go.Proofs.YtkmofapihggjgaaGreatDoor
section
open Go.RowKit
set_option linter.unusedSimpArgs false
set_option linter.unusedVariables false
def startN (n:Nat):List Nat:=[8]++withinN (uN n)
theorem startN_len (n:Nat):(startN n).length≤13:=by
 unfold startN
 have:=withinN_len (uN n)
 have:=uN_len n
 simp
 omega
section
variable {w0 w w':World} {wb mb:Nat} {os:List Nat} {Y R:List It}
set_option maxRecDepth 100000 in
set_option maxHeartbeats 1600000 in
theorem wrStartIn_all {n a1:Nat} (hb:n≤4294967295) (b1:It.b a1 [.int .u32 (n:Nat),.int .i64 0]∈Y) (h:WW w0 wb [] Y w):
  Calls Tryz.prog 55 #[.pointer (some ⟨wb,0,none⟩),.pointer (some ⟨a1,0,none⟩)] w (fun e w'=>e=.returned (.tuple #[])∧WW w0 wb (uN n) Y w'):=by
 obtain⟨⟨c1,-⟩,l1⟩:=h.cIn b1 0
 have HC:=hide (wrU_all (n:=(n:Int)) (by omega) (by omega) h (by simp))
 clear h b1
 go_enter Tryz.func55,Tryz.ntmps55
 go_wp2_with fail
 refine HC.out.mono ?_
 rintro e w1 ⟨rfl,h1⟩
 have H1:=hide h1
 clear h1 HC
 go_wp2
 go_end0
 exact⟨rfl,H1.out⟩
set_option maxRecDepth 100000 in
set_option maxHeartbeats 1600000 in
theorem wrStart_all {els:List Nat} {v:Value} {cs:List Value} (hbn:∀x∈els,x≤4294967295) (hr:HasR R 66 2 v els.length (els.flatMap nuC)) (hs:∀p∈R,p∈Y) (hm:els.length≤1000) (hb:It.b mb cs∈Y) (hv:cs[6]?=some v) (h:WW w0 wb os Y w) (hn:os.length+100000≤1000000000000):
  Calls Tryz.prog 25 #[.pointer (some ⟨mb,0,none⟩),.pointer (some ⟨wb,0,none⟩)] w (fun e w'=>e=.returned (.tuple #[])∧WW w0 wb (os++els.flatMap startN) Y w'):=by
 have hmf:∀(fn:Fn) (first cap:Array Value) (w:World),(Instr.makeFunc fn first cap).run Tryz.prog w=.ok (.func fn first cap) w:=fun _ _ _ _=>rfl
 obtain⟨pv,cv,rfl⟩:=Row.shape (h.row hr hs)
 obtain⟨⟨c1,-⟩,l1⟩:=h.cIn hb 6 hv
 have H:=hide h
 have HN:=hide hn
 have HR:=hide hr
 have HS:=hide hs
 have HBN:=hide hbn
 clear h hn hr hs hb hv hbn
 go_enter Tryz.func25,Tryz.ntmps25
 go_wp2_with fail
 clear c1 l1
 go_loopw [11] (fun q W9=>∃(j:Nat) (os':List Nat),j≤els.length∧q=.int .i64 (j:Nat)∧os'.length≤os.length+j*13∧os++els.flatMap startN=os'++(els.drop j).flatMap startN∧WW w0 wb os' Y W9) (fun q _=>els.length - (intOf q).toNat)
 case atStart=>exact⟨0,os,Nat.zero_le _,rfl,by omega,by simp,H.out⟩
 case round=>
  obtain⟨j,os',hj,rfl,hb,hL,hW⟩:=hrel
  clear H
  by_cases hlt:j<els.length
  ·have hlt':(j:Int)<(els.length:Int):=by omega
   obtain⟨x,hx⟩:∃x,els[j]?=some x:=⟨_,List.getElem?_eq_getElem hlt⟩
   have hxm:=List.mem_of_getElem? hx
   obtain⟨gT,cpT,hvT,-,hgl,-,hcell⟩:=Row.cells (hW.row HR.out HS.out) (by omega)
   cases hvT
   have k0:wr.cell? ⟨gT,j*2,none⟩=some (.int .u32 (x:Nat)):=(hcell (j*2) (by omega)).trans (by have:=flat_get (f:=nuC) (m:=2) (o:=0) (fun _=>rfl) hx (by omega);simpa [nuC] using this)
   have k1:wr.cell? ⟨gT,j*2+1,none⟩=some (.int .i64 0):=(hcell (j*2+1) (by omega)).trans (by have:=flat_get (f:=nuC) (m:=2) (o:=1) (fun _=>rfl) hx (by omega);simpa [nuC] using this)
   have HD:Hid (os++els.flatMap startN=(os'++startN x)++(els.drop (j+1)).flatMap startN):=by
    show _=_
    rw[hL,List.drop_eq_getElem_cons hlt]
    have e:els[j]=x:=by rw[List.getElem?_eq_getElem hlt] at hx;exact Option.some.inj hx
    rw[e]
    simp
   have HC:Hid (os'.length+1000≤1000000000000∧(os'++startN x).length≤os.length+(j+1)*13∧x≤4294967295):=by
    have g1:=HN.out
    have g2:=startN_len x
    rw[List.length_append]
    exact⟨by omega,by omega,HBN.out x hxm⟩
   have HNW:=hide (hW.new #[.int .u32 (x:Nat),.int .i64 0] 66)
   clear hcell hx hxm hL hb hW
   go_upto_region 3 with fail
   generalize wr.alloc (.cells #[.int .u32 (x:Nat),.int .i64 0] 66)=w1 at*
   generalize wr.heap.size=b at*
   go_wp2_with fail
   refine(wr1 (x:=8) (by omega) HNW.out (by have:=HC.out.1;omega) _).mono ?_
   rintro e w2 ⟨rfl,h2⟩
   have H2:=hide h2
   clear h2 HNW k0 k1
   go_wp2_with fail
   refine(wrWithin1 (F:=55) (a1:=b) (xs:=uN x) (enters_of Tryz.func55 (by kernel_rfl) (by kernel_rfl)) (by have:=uN_len x;omega) (fun bb Y' w' hY hW=>wrStartIn_all HC.out.2.2 (hY _ (List.mem_cons_self ..)) hW) H2.out (by have:=uN_len x;have:=HC.out.1;rw[List.length_append];simp only[List.length_cons,List.length_nil];omega)).mono ?_
   rintro e w3 ⟨rfl,h3⟩
   have H3:=hide h3.pop
   clear h3 H2
   go_wp2
   go_roundw
   case rel=>exact⟨j+1,os'++startN x,by omega,by go_num,HC.out.2.1,HD.out,by simpa [startN,List.append_assoc] using H3.out⟩
   case measure=>simp[intOf];omega
  ·have HE:Hid (os++els.flatMap startN=os'):=by
    show _=_
    rw[hL,List.drop_eq_nil_of_le (by omega)]
    simp
   have HW:=hide hW
   clear hL hW hb
   go_wp2
   go_end0
   exact⟨rfl,by rw[HE.out];exact HW.out⟩
end
end
section
open Go.RowKit
set_option linter.unusedSimpArgs false
set_option linter.unusedVariables false
section
variable {w0 w:World} {wb:Nat} {os:List Nat} {Y R:List It}
set_option maxRecDepth 100000 in
set_option maxHeartbeats 1600000 in
theorem ptNumberIn_all {P M a1 a2:Nat} {els:List (Nat)} {pf:Nat→List Nat} {v:Value} (hP:Enters P) (hput:∀x∈els,∀os Y' w',os.length+M≤1000000000000→(∀p∈R,p∈Y')→WW w0 wb os Y' w'→Calls Tryz.prog P #[.pointer (some ⟨wb,0,none⟩),.agg #[.int .u32 (x:Nat),.int .i64 0]] w' (fun e w2=>e=.returned (.tuple #[])∧WW w0 wb (os++pf x) Y' w2))
  (hlen:∀x∈els,(pf x).length≤M) (hr:HasR R 66 2 v els.length (els.flatMap (fun x:Nat=>([.int .u32 (x:Nat),.int .i64 0]:List Value)))) (hs:∀p∈R,p∈Y) (hm:els.length≤1000) (hM:M≤100000000) (b1:It.b a1 [v]∈Y) (b2:It.b a2 [.func (.func P) #[] #[]]∈Y) (h:WW w0 wb [] Y w):
  Calls Tryz.prog 44 #[.pointer (some ⟨wb,0,none⟩),.pointer (some ⟨a1,0,none⟩),.pointer (some ⟨a2,0,none⟩)] w (fun e w'=>e=.returned (.tuple #[])∧WW w0 wb (uN (els.length:Nat)++els.flatMap pf) Y w'):=by
 obtain⟨pv,cv,rfl⟩:=Row.shape (h.row hr hs)
 obtain⟨⟨c1,-⟩,l1⟩:=h.cIn b1 0
 obtain⟨⟨c2,-⟩,l2⟩:=h.cIn b2 0
 have HC:=hide (liNumber_all (os:=[]) hP hput hlen hr hs hm hM h (by simp;omega))
 clear h hput hlen hr hs b1 b2 hP
 go_enter Tryz.func44,Tryz.ntmps44
 go_wp2_with fail
 refine HC.out.mono ?_
 rintro e w1 ⟨rfl,h1⟩
 have H1:=hide h1
 clear h1 HC
 go_wp2
 go_end0
 exact⟨rfl,H1.out⟩
set_option maxRecDepth 100000 in
set_option maxHeartbeats 1600000 in
theorem ptNumber_all {P M:Nat} {els:List (Nat)} {pf:Nat→List Nat} {v:Value} (k:Nat) (hP:Enters P) (hput:∀x∈els,∀wb os Y' w',os.length+M≤1000000000000→(∀p∈R,p∈Y')→WW w0 wb os Y' w'→Calls Tryz.prog P #[.pointer (some ⟨wb,0,none⟩),.agg #[.int .u32 (x:Nat),.int .i64 0]] w' (fun e w2=>e=.returned (.tuple #[])∧WW w0 wb (os++pf x) Y' w2))
  (hlen:∀x∈els,(pf x).length≤M) (hr:HasR R 66 2 v els.length (els.flatMap (fun x:Nat=>([.int .u32 (x:Nat),.int .i64 0]:List Value)))) (hs:∀p∈R,p∈Y) (hm:els.length≤1000) (hM:M≤3000000) (h:WW w0 wb os Y w) (hn:os.length+4000000000≤1000000000000):
  Calls Tryz.prog 16 #[.pointer (some ⟨wb,0,none⟩),.int .u8 (k:Nat),v,.func (.func P) #[] #[]] w (fun e w'=>e=.returned (.tuple #[])∧WW w0 wb (os++partN k els.length (uN (els.length:Nat)++els.flatMap pf)) Y w'):=by
 have hmf:∀(fn:Fn) (first cap:Array Value) (w:World),(Instr.makeFunc fn first cap).run Tryz.prog w=.ok (.func fn first cap) w:=fun _ _ _ _=>rfl
 have heq:((els.length:Int)==0)=decide (els.length=0):=by
  by_cases c:els.length=0
  ·rw[c];rfl
  ·simp[c]
 obtain⟨pv,cv,rfl⟩:=Row.shape (h.row hr hs)
 have H0:=hide ((h.new #[.slice pv els.length cv] 49).new #[.func (.func P) #[] #[]] 67)
 have HB:Hid ((uN (els.length:Nat)++els.flatMap pf).length≤3000000006):=by
  show _≤_
  rw[List.length_append]
  have g1:=uN_len (els.length:Nat)
  have g2:=flat_len els hlen
  have g3:els.length*M≤1000*3000000:=Nat.mul_le_mul hm hM
  omega
 have HN:=hide hn
 have HR:=hide hr
 have HS:=hide hs
 have HPut:=hide hput
 have HLen:=hide hlen
 have HP:=hide hP
 clear h hn hr hs hput hlen hP
 go_enter Tryz.func16,Tryz.ntmps16
 go_upto_region 1 with fail
 generalize (w.alloc (.cells #[.slice pv els.length cv] 49)).alloc (.cells #[.func (.func P) #[] #[]] 67)=w1 at*
 have e1:(w.alloc (.cells #[.slice pv els.length cv] 49)).heap.size=w.heap.size+1:=by simp
 rw[e1] at H0
 generalize w.heap.size=b at*
 clear e1
 obtain⟨c1,-⟩:=H0.out.cl 1 0
 have l1:=H0.out.lt 1
 by_cases hz:els.length=0
 ·have HZ:Hid (partN k els.length (uN (els.length:Nat)++els.flatMap pf)=[]):=by show _=_;unfold partN;rw[if_pos hz]
  have hd:decide (els.length=0)=true:=by simp[hz]
  rw[hd] at heq
  clear hd hz
  go_wp2
  (try simp only[Exit.inBlock,Exit.then])
  refine bodyPost_ret (results_none rfl _ _ _) rfl ?_
  exact⟨rfl,by rw[HZ.out,List.append_nil];exact H0.out.pop.pop⟩
 ·have HZ:Hid (partN k els.length (uN (els.length:Nat)++els.flatMap pf)=[k]++withinN (uN (els.length:Nat)++els.flatMap pf)):=by show _=_;unfold partN;rw[if_neg hz]
  have hd:decide (els.length=0)=false:=by simp[hz]
  rw[hd] at heq
  clear hd hz
  go_wp2_with fail
  refine(wr1 (x:=(k:Int)) (by omega) H0.out (by have:=HN.out;omega) _).mono ?_
  rintro e w2 ⟨rfl,h2⟩
  have H2:=hide h2
  clear h2 H0 c1 l1
  go_wp2_with fail
  refine(wrWithin2 (F:=44) (a1:=b) (a2:=b+1) (xs:=uN (els.length:Nat)++els.flatMap pf) (enters_of Tryz.func44 (by kernel_rfl) (by kernel_rfl)) (by have:=HB.out;omega) (fun bb Y' w' hY hW=>ptNumberIn_all HP.out (fun x hx os Y2 w2 g1 g2 g3=>HPut.out x hx bb os Y2 w2 g1 g2 g3) HLen.out HR.out (fun p hp=>hY p (List.mem_cons_of_mem _ (List.mem_cons_of_mem _ (HS.out p hp)))) hm (by omega) (hY _ (List.mem_cons_of_mem _ (List.mem_cons_self ..))) (hY _ (List.mem_cons_self ..)) hW) H2.out (by rw[List.length_append];have:=HB.out;have:=HN.out;simp only[List.length_cons,List.length_nil];omega)).mono ?_
  rintro e w3 ⟨rfl,h3⟩
  have H3:=hide h3.pop.pop
  clear h3 H2
  go_wp2
  go_end0
  refine⟨rfl,?_⟩
  rw[HZ.out]
  simpa [List.append_assoc] using H3.out
set_option maxRecDepth 100000 in
set_option maxHeartbeats 1600000 in
theorem ptLimitsIn_all {P M a1 a2:Nat} {els:List (Lim)} {pf:Lim→List Nat} {v:Value} (hP:Enters P) (hput:∀x∈els,∀os Y' w',os.length+M≤1000000000000→(∀p∈R,p∈Y')→WW w0 wb os Y' w'→Calls Tryz.prog P #[.pointer (some ⟨wb,0,none⟩),.agg #[.int .i64 (x.at_:Nat),.int .u32 x.least,.int .u32 x.most,.bool x.has]] w' (fun e w2=>e=.returned (.tuple #[])∧WW w0 wb (os++pf x) Y' w2))
  (hlen:∀x∈els,(pf x).length≤M) (hr:HasR R 70 4 v els.length (els.flatMap (fun x:Lim=>([.int .i64 (x.at_:Nat),.int .u32 x.least,.int .u32 x.most,.bool x.has]:List Value)))) (hs:∀p∈R,p∈Y) (hm:els.length≤1000) (hM:M≤100000000) (b1:It.b a1 [v]∈Y) (b2:It.b a2 [.func (.func P) #[] #[]]∈Y) (h:WW w0 wb [] Y w):
  Calls Tryz.prog 47 #[.pointer (some ⟨wb,0,none⟩),.pointer (some ⟨a1,0,none⟩),.pointer (some ⟨a2,0,none⟩)] w (fun e w'=>e=.returned (.tuple #[])∧WW w0 wb (uN (els.length:Nat)++els.flatMap pf) Y w'):=by
 obtain⟨pv,cv,rfl⟩:=Row.shape (h.row hr hs)
 obtain⟨⟨c1,-⟩,l1⟩:=h.cIn b1 0
 obtain⟨⟨c2,-⟩,l2⟩:=h.cIn b2 0
 have HC:=hide (liLimits_all (os:=[]) hP hput hlen hr hs hm hM h (by simp;omega))
 clear h hput hlen hr hs b1 b2 hP
 go_enter Tryz.func47,Tryz.ntmps47
 go_wp2_with fail
 refine HC.out.mono ?_
 rintro e w1 ⟨rfl,h1⟩
 have H1:=hide h1
 clear h1 HC
 go_wp2
 go_end0
 exact⟨rfl,H1.out⟩
set_option maxRecDepth 100000 in
set_option maxHeartbeats 1600000 in
theorem ptLimits_all {P M:Nat} {els:List (Lim)} {pf:Lim→List Nat} {v:Value} (k:Nat) (hP:Enters P) (hput:∀x∈els,∀wb os Y' w',os.length+M≤1000000000000→(∀p∈R,p∈Y')→WW w0 wb os Y' w'→Calls Tryz.prog P #[.pointer (some ⟨wb,0,none⟩),.agg #[.int .i64 (x.at_:Nat),.int .u32 x.least,.int .u32 x.most,.bool x.has]] w' (fun e w2=>e=.returned (.tuple #[])∧WW w0 wb (os++pf x) Y' w2))
  (hlen:∀x∈els,(pf x).length≤M) (hr:HasR R 70 4 v els.length (els.flatMap (fun x:Lim=>([.int .i64 (x.at_:Nat),.int .u32 x.least,.int .u32 x.most,.bool x.has]:List Value)))) (hs:∀p∈R,p∈Y) (hm:els.length≤1000) (hM:M≤3000000) (h:WW w0 wb os Y w) (hn:os.length+4000000000≤1000000000000):
  Calls Tryz.prog 18 #[.pointer (some ⟨wb,0,none⟩),.int .u8 (k:Nat),v,.func (.func P) #[] #[]] w (fun e w'=>e=.returned (.tuple #[])∧WW w0 wb (os++partN k els.length (uN (els.length:Nat)++els.flatMap pf)) Y w'):=by
 have hmf:∀(fn:Fn) (first cap:Array Value) (w:World),(Instr.makeFunc fn first cap).run Tryz.prog w=.ok (.func fn first cap) w:=fun _ _ _ _=>rfl
 have heq:((els.length:Int)==0)=decide (els.length=0):=by
  by_cases c:els.length=0
  ·rw[c];rfl
  ·simp[c]
 obtain⟨pv,cv,rfl⟩:=Row.shape (h.row hr hs)
 have H0:=hide ((h.new #[.slice pv els.length cv] 50).new #[.func (.func P) #[] #[]] 71)
 have HB:Hid ((uN (els.length:Nat)++els.flatMap pf).length≤3000000006):=by
  show _≤_
  rw[List.length_append]
  have g1:=uN_len (els.length:Nat)
  have g2:=flat_len els hlen
  have g3:els.length*M≤1000*3000000:=Nat.mul_le_mul hm hM
  omega
 have HN:=hide hn
 have HR:=hide hr
 have HS:=hide hs
 have HPut:=hide hput
 have HLen:=hide hlen
 have HP:=hide hP
 clear h hn hr hs hput hlen hP
 go_enter Tryz.func18,Tryz.ntmps18
 go_upto_region 1 with fail
 generalize (w.alloc (.cells #[.slice pv els.length cv] 50)).alloc (.cells #[.func (.func P) #[] #[]] 71)=w1 at*
 have e1:(w.alloc (.cells #[.slice pv els.length cv] 50)).heap.size=w.heap.size+1:=by simp
 rw[e1] at H0
 generalize w.heap.size=b at*
 clear e1
 obtain⟨c1,-⟩:=H0.out.cl 1 0
 have l1:=H0.out.lt 1
 by_cases hz:els.length=0
 ·have HZ:Hid (partN k els.length (uN (els.length:Nat)++els.flatMap pf)=[]):=by show _=_;unfold partN;rw[if_pos hz]
  have hd:decide (els.length=0)=true:=by simp[hz]
  rw[hd] at heq
  clear hd hz
  go_wp2
  (try simp only[Exit.inBlock,Exit.then])
  refine bodyPost_ret (results_none rfl _ _ _) rfl ?_
  exact⟨rfl,by rw[HZ.out,List.append_nil];exact H0.out.pop.pop⟩
 ·have HZ:Hid (partN k els.length (uN (els.length:Nat)++els.flatMap pf)=[k]++withinN (uN (els.length:Nat)++els.flatMap pf)):=by show _=_;unfold partN;rw[if_neg hz]
  have hd:decide (els.length=0)=false:=by simp[hz]
  rw[hd] at heq
  clear hd hz
  go_wp2_with fail
  refine(wr1 (x:=(k:Int)) (by omega) H0.out (by have:=HN.out;omega) _).mono ?_
  rintro e w2 ⟨rfl,h2⟩
  have H2:=hide h2
  clear h2 H0 c1 l1
  go_wp2_with fail
  refine(wrWithin2 (F:=47) (a1:=b) (a2:=b+1) (xs:=uN (els.length:Nat)++els.flatMap pf) (enters_of Tryz.func47 (by kernel_rfl) (by kernel_rfl)) (by have:=HB.out;omega) (fun bb Y' w' hY hW=>ptLimitsIn_all HP.out (fun x hx os Y2 w2 g1 g2 g3=>HPut.out x hx bb os Y2 w2 g1 g2 g3) HLen.out HR.out (fun p hp=>hY p (List.mem_cons_of_mem _ (List.mem_cons_of_mem _ (HS.out p hp)))) hm (by omega) (hY _ (List.mem_cons_of_mem _ (List.mem_cons_self ..))) (hY _ (List.mem_cons_self ..)) hW) H2.out (by rw[List.length_append];have:=HB.out;have:=HN.out;simp only[List.length_cons,List.length_nil];omega)).mono ?_
  rintro e w3 ⟨rfl,h3⟩
  have H3:=hide h3.pop.pop
  clear h3 H2
  go_wp2
  go_end0
  refine⟨rfl,?_⟩
  rw[HZ.out]
  simpa [List.append_assoc] using H3.out
set_option maxRecDepth 100000 in
set_option maxHeartbeats 1600000 in
theorem ptGlobalIn_all {P M a1 a2:Nat} {els:List (Glb)} {pf:Glb→List Nat} {v:Value} (hP:Enters P) (hput:∀x∈els,∀os Y' w',os.length+M≤1000000000000→(∀p∈R,p∈Y')→WW w0 wb os Y' w'→Calls Tryz.prog P #[.pointer (some ⟨wb,0,none⟩),.agg #[.int .u8 (x.kind:Nat),.bool x.set_,.int .i64 (x.first.at_:Nat),.int .u8 (x.first.kind:Nat),.int .i64 x.first.val]] w' (fun e w2=>e=.returned (.tuple #[])∧WW w0 wb (os++pf x) Y' w2))
  (hlen:∀x∈els,(pf x).length≤M) (hr:HasR R 77 5 v els.length (els.flatMap (fun x:Glb=>([.int .u8 (x.kind:Nat),.bool x.set_,.int .i64 (x.first.at_:Nat),.int .u8 (x.first.kind:Nat),.int .i64 x.first.val]:List Value)))) (hs:∀p∈R,p∈Y) (hm:els.length≤1000) (hM:M≤100000000) (b1:It.b a1 [v]∈Y) (b2:It.b a2 [.func (.func P) #[] #[]]∈Y) (h:WW w0 wb [] Y w):
  Calls Tryz.prog 49 #[.pointer (some ⟨wb,0,none⟩),.pointer (some ⟨a1,0,none⟩),.pointer (some ⟨a2,0,none⟩)] w (fun e w'=>e=.returned (.tuple #[])∧WW w0 wb (uN (els.length:Nat)++els.flatMap pf) Y w'):=by
 obtain⟨pv,cv,rfl⟩:=Row.shape (h.row hr hs)
 obtain⟨⟨c1,-⟩,l1⟩:=h.cIn b1 0
 obtain⟨⟨c2,-⟩,l2⟩:=h.cIn b2 0
 have HC:=hide (liGlobal_all (os:=[]) hP hput hlen hr hs hm hM h (by simp;omega))
 clear h hput hlen hr hs b1 b2 hP
 go_enter Tryz.func49,Tryz.ntmps49
 go_wp2_with fail
 refine HC.out.mono ?_
 rintro e w1 ⟨rfl,h1⟩
 have H1:=hide h1
 clear h1 HC
 go_wp2
 go_end0
 exact⟨rfl,H1.out⟩
set_option maxRecDepth 100000 in
set_option maxHeartbeats 1600000 in
theorem ptGlobal_all {P M:Nat} {els:List (Glb)} {pf:Glb→List Nat} {v:Value} (k:Nat) (hP:Enters P) (hput:∀x∈els,∀wb os Y' w',os.length+M≤1000000000000→(∀p∈R,p∈Y')→WW w0 wb os Y' w'→Calls Tryz.prog P #[.pointer (some ⟨wb,0,none⟩),.agg #[.int .u8 (x.kind:Nat),.bool x.set_,.int .i64 (x.first.at_:Nat),.int .u8 (x.first.kind:Nat),.int .i64 x.first.val]] w' (fun e w2=>e=.returned (.tuple #[])∧WW w0 wb (os++pf x) Y' w2))
  (hlen:∀x∈els,(pf x).length≤M) (hr:HasR R 77 5 v els.length (els.flatMap (fun x:Glb=>([.int .u8 (x.kind:Nat),.bool x.set_,.int .i64 (x.first.at_:Nat),.int .u8 (x.first.kind:Nat),.int .i64 x.first.val]:List Value)))) (hs:∀p∈R,p∈Y) (hm:els.length≤1000) (hM:M≤3000000) (h:WW w0 wb os Y w) (hn:os.length+4000000000≤1000000000000):
  Calls Tryz.prog 21 #[.pointer (some ⟨wb,0,none⟩),.int .u8 (k:Nat),v,.func (.func P) #[] #[]] w (fun e w'=>e=.returned (.tuple #[])∧WW w0 wb (os++partN k els.length (uN (els.length:Nat)++els.flatMap pf)) Y w'):=by
 have hmf:∀(fn:Fn) (first cap:Array Value) (w:World),(Instr.makeFunc fn first cap).run Tryz.prog w=.ok (.func fn first cap) w:=fun _ _ _ _=>rfl
 have heq:((els.length:Int)==0)=decide (els.length=0):=by
  by_cases c:els.length=0
  ·rw[c];rfl
  ·simp[c]
 obtain⟨pv,cv,rfl⟩:=Row.shape (h.row hr hs)
 have H0:=hide ((h.new #[.slice pv els.length cv] 51).new #[.func (.func P) #[] #[]] 78)
 have HB:Hid ((uN (els.length:Nat)++els.flatMap pf).length≤3000000006):=by
  show _≤_
  rw[List.length_append]
  have g1:=uN_len (els.length:Nat)
  have g2:=flat_len els hlen
  have g3:els.length*M≤1000*3000000:=Nat.mul_le_mul hm hM
  omega
 have HN:=hide hn
 have HR:=hide hr
 have HS:=hide hs
 have HPut:=hide hput
 have HLen:=hide hlen
 have HP:=hide hP
 clear h hn hr hs hput hlen hP
 go_enter Tryz.func21,Tryz.ntmps21
 go_upto_region 1 with fail
 generalize (w.alloc (.cells #[.slice pv els.length cv] 51)).alloc (.cells #[.func (.func P) #[] #[]] 78)=w1 at*
 have e1:(w.alloc (.cells #[.slice pv els.length cv] 51)).heap.size=w.heap.size+1:=by simp
 rw[e1] at H0
 generalize w.heap.size=b at*
 clear e1
 obtain⟨c1,-⟩:=H0.out.cl 1 0
 have l1:=H0.out.lt 1
 by_cases hz:els.length=0
 ·have HZ:Hid (partN k els.length (uN (els.length:Nat)++els.flatMap pf)=[]):=by show _=_;unfold partN;rw[if_pos hz]
  have hd:decide (els.length=0)=true:=by simp[hz]
  rw[hd] at heq
  clear hd hz
  go_wp2
  (try simp only[Exit.inBlock,Exit.then])
  refine bodyPost_ret (results_none rfl _ _ _) rfl ?_
  exact⟨rfl,by rw[HZ.out,List.append_nil];exact H0.out.pop.pop⟩
 ·have HZ:Hid (partN k els.length (uN (els.length:Nat)++els.flatMap pf)=[k]++withinN (uN (els.length:Nat)++els.flatMap pf)):=by show _=_;unfold partN;rw[if_neg hz]
  have hd:decide (els.length=0)=false:=by simp[hz]
  rw[hd] at heq
  clear hd hz
  go_wp2_with fail
  refine(wr1 (x:=(k:Int)) (by omega) H0.out (by have:=HN.out;omega) _).mono ?_
  rintro e w2 ⟨rfl,h2⟩
  have H2:=hide h2
  clear h2 H0 c1 l1
  go_wp2_with fail
  refine(wrWithin2 (F:=49) (a1:=b) (a2:=b+1) (xs:=uN (els.length:Nat)++els.flatMap pf) (enters_of Tryz.func49 (by kernel_rfl) (by kernel_rfl)) (by have:=HB.out;omega) (fun bb Y' w' hY hW=>ptGlobalIn_all HP.out (fun x hx os Y2 w2 g1 g2 g3=>HPut.out x hx bb os Y2 w2 g1 g2 g3) HLen.out HR.out (fun p hp=>hY p (List.mem_cons_of_mem _ (List.mem_cons_of_mem _ (HS.out p hp)))) hm (by omega) (hY _ (List.mem_cons_of_mem _ (List.mem_cons_self ..))) (hY _ (List.mem_cons_self ..)) hW) H2.out (by rw[List.length_append];have:=HB.out;have:=HN.out;simp only[List.length_cons,List.length_nil];omega)).mono ?_
  rintro e w3 ⟨rfl,h3⟩
  have H3:=hide h3.pop.pop
  clear h3 H2
  go_wp2
  go_end0
  refine⟨rfl,?_⟩
  rw[HZ.out]
  simpa [List.append_assoc] using H3.out
end
end
end Go.Proofs.YtkmofapihggjgaaGreatDoor
