import Derived.Test.YtkmofapihggjgaaGreatDoorX23
namespace Go.Proofs.YtkmofapihggjgaaGreatDoor
section
open Go.RowKit
set_option linter.unusedSimpArgs false
set_option linter.unusedVariables false
section
variable {w0 w:World} {wb:Nat} {os:List Nat} {Y R:List It}
set_option maxRecDepth 100000 in
set_option maxHeartbeats 1600000 in
theorem ptTypeIn_all {P M a1 a2:Nat} {els:List ((List Nat×List Nat)×TyV)} {pf:(List Nat×List Nat)×TyV→List Nat} {v:Value} (hP:Enters P) (hsh:∀x∈els,(∃p1 q1,x.2.1=.slice p1 x.1.1.length q1)∧∃p2 q2,x.2.2=.slice p2 x.1.2.length q2) (hput:∀x∈els,∀os Y' w',os.length+M≤1000000000000→(∀p∈R,p∈Y')→WW w0 wb os Y' w'→Calls Tryz.prog P #[.pointer (some ⟨wb,0,none⟩),.agg #[x.2.1,x.2.2]] w' (fun e w2=>e=.returned (.tuple #[])∧WW w0 wb (os++pf x) Y' w2))
  (hlen:∀x∈els,(pf x).length≤M) (hr:HasR R 47 2 v els.length (els.flatMap (fun x:(List Nat×List Nat)×TyV=>([x.2.1,x.2.2]:List Value)))) (hs:∀p∈R,p∈Y) (hm:els.length≤1000) (hM:M≤100000000) (b1:It.b a1 [v]∈Y) (b2:It.b a2 [.func (.func P) #[] #[]]∈Y) (h:WW w0 wb [] Y w):
  Calls Tryz.prog 40 #[.pointer (some ⟨wb,0,none⟩),.pointer (some ⟨a1,0,none⟩),.pointer (some ⟨a2,0,none⟩)] w (fun e w'=>e=.returned (.tuple #[])∧WW w0 wb (uN (els.length:Nat)++els.flatMap pf) Y w'):=by
 obtain⟨pv,cv,rfl⟩:=Row.shape (h.row hr hs)
 obtain⟨⟨c1,-⟩,l1⟩:=h.cIn b1 0
 obtain⟨⟨c2,-⟩,l2⟩:=h.cIn b2 0
 have HC:=hide (liType_all (os:=[]) hP hsh hput hlen hr hs hm hM h (by simp;omega))
 clear h hput hlen hr hs b1 b2 hP hsh
 go_enter Tryz.func40,Tryz.ntmps40
 go_wp2_with fail
 refine HC.out.mono ?_
 rintro e w1 ⟨rfl,h1⟩
 have H1:=hide h1
 clear h1 HC
 go_wp2
 go_end0
 exact⟨rfl,H1.out⟩
set_option maxRecDepth 100000 in
set_option maxHeartbeats 1600000 in
theorem ptType_all {P M:Nat} {els:List ((List Nat×List Nat)×TyV)} {pf:(List Nat×List Nat)×TyV→List Nat} {v:Value} (k:Nat) (hP:Enters P) (hsh:∀x∈els,(∃p1 q1,x.2.1=.slice p1 x.1.1.length q1)∧∃p2 q2,x.2.2=.slice p2 x.1.2.length q2) (hput:∀x∈els,∀wb os Y' w',os.length+M≤1000000000000→(∀p∈R,p∈Y')→WW w0 wb os Y' w'→Calls Tryz.prog P #[.pointer (some ⟨wb,0,none⟩),.agg #[x.2.1,x.2.2]] w' (fun e w2=>e=.returned (.tuple #[])∧WW w0 wb (os++pf x) Y' w2))
  (hlen:∀x∈els,(pf x).length≤M) (hr:HasR R 47 2 v els.length (els.flatMap (fun x:(List Nat×List Nat)×TyV=>([x.2.1,x.2.2]:List Value)))) (hs:∀p∈R,p∈Y) (hm:els.length≤1000) (hM:M≤3000000) (h:WW w0 wb os Y w) (hn:os.length+4000000000≤1000000000000):
  Calls Tryz.prog 14 #[.pointer (some ⟨wb,0,none⟩),.int .u8 (k:Nat),v,.func (.func P) #[] #[]] w (fun e w'=>e=.returned (.tuple #[])∧WW w0 wb (os++partN k els.length (uN (els.length:Nat)++els.flatMap pf)) Y w'):=by
 have hmf:∀(fn:Fn) (first cap:Array Value) (w:World),(Instr.makeFunc fn first cap).run Tryz.prog w=.ok (.func fn first cap) w:=fun _ _ _ _=>rfl
 have heq:((els.length:Int)==0)=decide (els.length=0):=by
  by_cases c:els.length=0
  ·rw[c];rfl
  ·simp[c]
 obtain⟨pv,cv,rfl⟩:=Row.shape (h.row hr hs)
 have H0:=hide ((h.new #[.slice pv els.length cv] 48).new #[.func (.func P) #[] #[]] 62)
 have HB:Hid ((uN (els.length:Nat)++els.flatMap pf).length≤3000000006):=by
  show _≤_
  rw[List.length_append]
  have g1:=uN_len (els.length:Nat)
  have g2:=flat_len els hlen
  have g3:els.length*M≤1000*3000000:=Nat.mul_le_mul hm hM
  omega
 have HN:=hide hn
 have HR:=hide hr
 have HS:=hide hs
 have HPut:=hide hput
 have HLen:=hide hlen
 have HP:=hide hP
 have HSH:=hide hsh
 clear h hn hr hs hput hlen hP hsh
 go_enter Tryz.func14,Tryz.ntmps14
 go_upto_region 1 with fail
 generalize (w.alloc (.cells #[.slice pv els.length cv] 48)).alloc (.cells #[.func (.func P) #[] #[]] 62)=w1 at*
 have e1:(w.alloc (.cells #[.slice pv els.length cv] 48)).heap.size=w.heap.size+1:=by simp
 rw[e1] at H0
 generalize w.heap.size=b at*
 clear e1
 obtain⟨c1,-⟩:=H0.out.cl 1 0
 have l1:=H0.out.lt 1
 by_cases hz:els.length=0
 ·have HZ:Hid (partN k els.length (uN (els.length:Nat)++els.flatMap pf)=[]):=by show _=_;unfold partN;rw[if_pos hz]
  have hd:decide (els.length=0)=true:=by simp[hz]
  rw[hd] at heq
  clear hd hz
  go_wp2
  (try simp only[Exit.inBlock,Exit.then])
  refine bodyPost_ret (results_none rfl _ _ _) rfl ?_
  exact⟨rfl,by rw[HZ.out,List.append_nil];exact H0.out.pop.pop⟩
 ·have HZ:Hid (partN k els.length (uN (els.length:Nat)++els.flatMap pf)=[k]++withinN (uN (els.length:Nat)++els.flatMap pf)):=by show _=_;unfold partN;rw[if_neg hz]
  have hd:decide (els.length=0)=false:=by simp[hz]
  rw[hd] at heq
  clear hd hz
  go_wp2_with fail
  refine(wr1 (x:=(k:Int)) (by omega) H0.out (by have:=HN.out;omega) _).mono ?_
  rintro e w2 ⟨rfl,h2⟩
  have H2:=hide h2
  clear h2 H0 c1 l1
  go_wp2_with fail
  refine(wrWithin2 (F:=40) (a1:=b) (a2:=b+1) (xs:=uN (els.length:Nat)++els.flatMap pf) (enters_of Tryz.func40 (by kernel_rfl) (by kernel_rfl)) (by have:=HB.out;omega) (fun bb Y' w' hY hW=>ptTypeIn_all HP.out HSH.out (fun x hx os Y2 w2 g1 g2 g3=>HPut.out x hx bb os Y2 w2 g1 g2 g3) HLen.out HR.out (fun p hp=>hY p (List.mem_cons_of_mem _ (List.mem_cons_of_mem _ (HS.out p hp)))) hm (by omega) (hY _ (List.mem_cons_of_mem _ (List.mem_cons_self ..))) (hY _ (List.mem_cons_self ..)) hW) H2.out (by rw[List.length_append];have:=HB.out;have:=HN.out;simp only[List.length_cons,List.length_nil];omega)).mono ?_
  rintro e w3 ⟨rfl,h3⟩
  have H3:=hide h3.pop.pop
  clear h3 H2
  go_wp2
  go_end0
  refine⟨rfl,?_⟩
  rw[HZ.out]
  simpa [List.append_assoc] using H3.out
set_option maxRecDepth 100000 in
set_option maxHeartbeats 1600000 in
theorem ptElementIn_all {P M a1 a2:Nat} {els:List ((Cst×List Nat)×Value)} {pf:(Cst×List Nat)×Value→List Nat} {v:Value} (hP:Enters P) (hsh:∀x∈els,∃p1 q1,x.2=.slice p1 x.1.2.length q1) (hput:∀x∈els,∀os Y' w',os.length+M≤1000000000000→(∀p∈R,p∈Y')→WW w0 wb os Y' w'→Calls Tryz.prog P #[.pointer (some ⟨wb,0,none⟩),.agg #[.int .i64 0,.int .i64 (x.1.1.at_:Nat),.int .u8 (x.1.1.kind:Nat),.int .i64 x.1.1.val,x.2]] w' (fun e w2=>e=.returned (.tuple #[])∧WW w0 wb (os++pf x) Y' w2))
  (hlen:∀x∈els,(pf x).length≤M) (hr:HasR R 86 5 v els.length (els.flatMap (fun x:(Cst×List Nat)×Value=>([.int .i64 0,.int .i64 (x.1.1.at_:Nat),.int .u8 (x.1.1.kind:Nat),.int .i64 x.1.1.val,x.2]:List Value)))) (hs:∀p∈R,p∈Y) (hm:els.length≤1000) (hM:M≤100000000) (b1:It.b a1 [v]∈Y) (b2:It.b a2 [.func (.func P) #[] #[]]∈Y) (h:WW w0 wb [] Y w):
  Calls Tryz.prog 56 #[.pointer (some ⟨wb,0,none⟩),.pointer (some ⟨a1,0,none⟩),.pointer (some ⟨a2,0,none⟩)] w (fun e w'=>e=.returned (.tuple #[])∧WW w0 wb (uN (els.length:Nat)++els.flatMap pf) Y w'):=by
 obtain⟨pv,cv,rfl⟩:=Row.shape (h.row hr hs)
 obtain⟨⟨c1,-⟩,l1⟩:=h.cIn b1 0
 obtain⟨⟨c2,-⟩,l2⟩:=h.cIn b2 0
 have HC:=hide (liElement_all (os:=[]) hP hsh hput hlen hr hs hm hM h (by simp;omega))
 clear h hput hlen hr hs b1 b2 hP hsh
 go_enter Tryz.func56,Tryz.ntmps56
 go_wp2_with fail
 refine HC.out.mono ?_
 rintro e w1 ⟨rfl,h1⟩
 have H1:=hide h1
 clear h1 HC
 go_wp2
 go_end0
 exact⟨rfl,H1.out⟩
set_option maxRecDepth 100000 in
set_option maxHeartbeats 1600000 in
theorem ptElement_all {P M:Nat} {els:List ((Cst×List Nat)×Value)} {pf:(Cst×List Nat)×Value→List Nat} {v:Value} (k:Nat) (hP:Enters P) (hsh:∀x∈els,∃p1 q1,x.2=.slice p1 x.1.2.length q1) (hput:∀x∈els,∀wb os Y' w',os.length+M≤1000000000000→(∀p∈R,p∈Y')→WW w0 wb os Y' w'→Calls Tryz.prog P #[.pointer (some ⟨wb,0,none⟩),.agg #[.int .i64 0,.int .i64 (x.1.1.at_:Nat),.int .u8 (x.1.1.kind:Nat),.int .i64 x.1.1.val,x.2]] w' (fun e w2=>e=.returned (.tuple #[])∧WW w0 wb (os++pf x) Y' w2))
  (hlen:∀x∈els,(pf x).length≤M) (hr:HasR R 86 5 v els.length (els.flatMap (fun x:(Cst×List Nat)×Value=>([.int .i64 0,.int .i64 (x.1.1.at_:Nat),.int .u8 (x.1.1.kind:Nat),.int .i64 x.1.1.val,x.2]:List Value)))) (hs:∀p∈R,p∈Y) (hm:els.length≤1000) (hM:M≤3000000) (h:WW w0 wb os Y w) (hn:os.length+4000000000≤1000000000000):
  Calls Tryz.prog 26 #[.pointer (some ⟨wb,0,none⟩),.int .u8 (k:Nat),v,.func (.func P) #[] #[]] w (fun e w'=>e=.returned (.tuple #[])∧WW w0 wb (os++partN k els.length (uN (els.length:Nat)++els.flatMap pf)) Y w'):=by
 have hmf:∀(fn:Fn) (first cap:Array Value) (w:World),(Instr.makeFunc fn first cap).run Tryz.prog w=.ok (.func fn first cap) w:=fun _ _ _ _=>rfl
 have heq:((els.length:Int)==0)=decide (els.length=0):=by
  by_cases c:els.length=0
  ·rw[c];rfl
  ·simp[c]
 obtain⟨pv,cv,rfl⟩:=Row.shape (h.row hr hs)
 have H0:=hide ((h.new #[.slice pv els.length cv] 53).new #[.func (.func P) #[] #[]] 87)
 have HB:Hid ((uN (els.length:Nat)++els.flatMap pf).length≤3000000006):=by
  show _≤_
  rw[List.length_append]
  have g1:=uN_len (els.length:Nat)
  have g2:=flat_len els hlen
  have g3:els.length*M≤1000*3000000:=Nat.mul_le_mul hm hM
  omega
 have HN:=hide hn
 have HR:=hide hr
 have HS:=hide hs
 have HPut:=hide hput
 have HLen:=hide hlen
 have HP:=hide hP
 have HSH:=hide hsh
 clear h hn hr hs hput hlen hP hsh
 go_enter Tryz.func26,Tryz.ntmps26
 go_upto_region 1 with fail
 generalize (w.alloc (.cells #[.slice pv els.length cv] 53)).alloc (.cells #[.func (.func P) #[] #[]] 87)=w1 at*
 have e1:(w.alloc (.cells #[.slice pv els.length cv] 53)).heap.size=w.heap.size+1:=by simp
 rw[e1] at H0
 generalize w.heap.size=b at*
 clear e1
 obtain⟨c1,-⟩:=H0.out.cl 1 0
 have l1:=H0.out.lt 1
 by_cases hz:els.length=0
 ·have HZ:Hid (partN k els.length (uN (els.length:Nat)++els.flatMap pf)=[]):=by show _=_;unfold partN;rw[if_pos hz]
  have hd:decide (els.length=0)=true:=by simp[hz]
  rw[hd] at heq
  clear hd hz
  go_wp2
  (try simp only[Exit.inBlock,Exit.then])
  refine bodyPost_ret (results_none rfl _ _ _) rfl ?_
  exact⟨rfl,by rw[HZ.out,List.append_nil];exact H0.out.pop.pop⟩
 ·have HZ:Hid (partN k els.length (uN (els.length:Nat)++els.flatMap pf)=[k]++withinN (uN (els.length:Nat)++els.flatMap pf)):=by show _=_;unfold partN;rw[if_neg hz]
  have hd:decide (els.length=0)=false:=by simp[hz]
  rw[hd] at heq
  clear hd hz
  go_wp2_with fail
  refine(wr1 (x:=(k:Int)) (by omega) H0.out (by have:=HN.out;omega) _).mono ?_
  rintro e w2 ⟨rfl,h2⟩
  have H2:=hide h2
  clear h2 H0 c1 l1
  go_wp2_with fail
  refine(wrWithin2 (F:=56) (a1:=b) (a2:=b+1) (xs:=uN (els.length:Nat)++els.flatMap pf) (enters_of Tryz.func56 (by kernel_rfl) (by kernel_rfl)) (by have:=HB.out;omega) (fun bb Y' w' hY hW=>ptElementIn_all HP.out HSH.out (fun x hx os Y2 w2 g1 g2 g3=>HPut.out x hx bb os Y2 w2 g1 g2 g3) HLen.out HR.out (fun p hp=>hY p (List.mem_cons_of_mem _ (List.mem_cons_of_mem _ (HS.out p hp)))) hm (by omega) (hY _ (List.mem_cons_of_mem _ (List.mem_cons_self ..))) (hY _ (List.mem_cons_self ..)) hW) H2.out (by rw[List.length_append];have:=HB.out;have:=HN.out;simp only[List.length_cons,List.length_nil];omega)).mono ?_
  rintro e w3 ⟨rfl,h3⟩
  have H3:=hide h3.pop.pop
  clear h3 H2
  go_wp2
  go_end0
  refine⟨rfl,?_⟩
  rw[HZ.out]
  simpa [List.append_assoc] using H3.out
end
end
end Go.Proofs.YtkmofapihggjgaaGreatDoor
