import Derived.Test.YtkmofapihggjgaaGreatDoorX23
namespace Go.Proofs.YtkmofapihggjgaaGreatDoor
section
open Go.RowKit
set_option linter.unusedSimpArgs false
set_option linter.unusedVariables false
section
variable {w0 w:World} {wb:Nat} {os:List Nat} {Y R:List It}
set_option maxRecDepth 100000 in
set_option maxHeartbeats 1600000 in
theorem ptExportIn_all {P M a1 a2:Nat} {els:List (ByteArray×Nat×Nat)} {pf:ByteArray×Nat×Nat→List Nat} {v:Value} (hP:Enters P) (hput:∀x∈els,∀os Y' w',os.length+M≤1000000000000→(∀p∈R,p∈Y')→WW w0 wb os Y' w'→Calls Tryz.prog P #[.pointer (some ⟨wb,0,none⟩),.agg #[.int .i64 0,.string x.1,.int .u8 (x.2.1:Nat),.int .u32 (x.2.2:Nat),.int .i64 0]] w' (fun e w2=>e=.returned (.tuple #[])∧WW w0 wb (os++pf x) Y' w2))
  (hlen:∀x∈els,(pf x).length≤M) (hr:HasR R 81 5 v els.length (els.flatMap (fun x:ByteArray×Nat×Nat=>([.int .i64 0,.string x.1,.int .u8 (x.2.1:Nat),.int .u32 (x.2.2:Nat),.int .i64 0]:List Value)))) (hs:∀p∈R,p∈Y) (hm:els.length≤1000) (hM:M≤100000000) (b1:It.b a1 [v]∈Y) (b2:It.b a2 [.func (.func P) #[] #[]]∈Y) (h:WW w0 wb [] Y w):
  Calls Tryz.prog 52 #[.pointer (some ⟨wb,0,none⟩),.pointer (some ⟨a1,0,none⟩),.pointer (some ⟨a2,0,none⟩)] w (fun e w'=>e=.returned (.tuple #[])∧WW w0 wb (uN (els.length:Nat)++els.flatMap pf) Y w'):=by
 obtain⟨pv,cv,rfl⟩:=Row.shape (h.row hr hs)
 obtain⟨⟨c1,-⟩,l1⟩:=h.cIn b1 0
 obtain⟨⟨c2,-⟩,l2⟩:=h.cIn b2 0
 have HC:=hide (liExport_all (os:=[]) hP hput hlen hr hs hm hM h (by simp;omega))
 clear h hput hlen hr hs b1 b2 hP
 go_enter Tryz.func52,Tryz.ntmps52
 go_wp2_with fail
 refine HC.out.mono ?_
 rintro e w1 ⟨rfl,h1⟩
 have H1:=hide h1
 clear h1 HC
 go_wp2
 go_end0
 exact⟨rfl,H1.out⟩
set_option maxRecDepth 100000 in
set_option maxHeartbeats 1600000 in
theorem ptExport_all {P M:Nat} {els:List (ByteArray×Nat×Nat)} {pf:ByteArray×Nat×Nat→List Nat} {v:Value} (k:Nat) (hP:Enters P) (hput:∀x∈els,∀wb os Y' w',os.length+M≤1000000000000→(∀p∈R,p∈Y')→WW w0 wb os Y' w'→Calls Tryz.prog P #[.pointer (some ⟨wb,0,none⟩),.agg #[.int .i64 0,.string x.1,.int .u8 (x.2.1:Nat),.int .u32 (x.2.2:Nat),.int .i64 0]] w' (fun e w2=>e=.returned (.tuple #[])∧WW w0 wb (os++pf x) Y' w2))
  (hlen:∀x∈els,(pf x).length≤M) (hr:HasR R 81 5 v els.length (els.flatMap (fun x:ByteArray×Nat×Nat=>([.int .i64 0,.string x.1,.int .u8 (x.2.1:Nat),.int .u32 (x.2.2:Nat),.int .i64 0]:List Value)))) (hs:∀p∈R,p∈Y) (hm:els.length≤1000) (hM:M≤3000000) (h:WW w0 wb os Y w) (hn:os.length+4000000000≤1000000000000):
  Calls Tryz.prog 23 #[.pointer (some ⟨wb,0,none⟩),.int .u8 (k:Nat),v,.func (.func P) #[] #[]] w (fun e w'=>e=.returned (.tuple #[])∧WW w0 wb (os++partN k els.length (uN (els.length:Nat)++els.flatMap pf)) Y w'):=by
 have hmf:∀(fn:Fn) (first cap:Array Value) (w:World),(Instr.makeFunc fn first cap).run Tryz.prog w=.ok (.func fn first cap) w:=fun _ _ _ _=>rfl
 have heq:((els.length:Int)==0)=decide (els.length=0):=by
  by_cases c:els.length=0
  ·rw[c];rfl
  ·simp[c]
 obtain⟨pv,cv,rfl⟩:=Row.shape (h.row hr hs)
 have H0:=hide ((h.new #[.slice pv els.length cv] 52).new #[.func (.func P) #[] #[]] 82)
 have HB:Hid ((uN (els.length:Nat)++els.flatMap pf).length≤3000000006):=by
  show _≤_
  rw[List.length_append]
  have g1:=uN_len (els.length:Nat)
  have g2:=flat_len els hlen
  have g3:els.length*M≤1000*3000000:=Nat.mul_le_mul hm hM
  omega
 have HN:=hide hn
 have HR:=hide hr
 have HS:=hide hs
 have HPut:=hide hput
 have HLen:=hide hlen
 have HP:=hide hP
 clear h hn hr hs hput hlen hP
 go_enter Tryz.func23,Tryz.ntmps23
 go_upto_region 1 with fail
 generalize (w.alloc (.cells #[.slice pv els.length cv] 52)).alloc (.cells #[.func (.func P) #[] #[]] 82)=w1 at*
 have e1:(w.alloc (.cells #[.slice pv els.length cv] 52)).heap.size=w.heap.size+1:=by simp
 rw[e1] at H0
 generalize w.heap.size=b at*
 clear e1
 obtain⟨c1,-⟩:=H0.out.cl 1 0
 have l1:=H0.out.lt 1
 by_cases hz:els.length=0
 ·have HZ:Hid (partN k els.length (uN (els.length:Nat)++els.flatMap pf)=[]):=by show _=_;unfold partN;rw[if_pos hz]
  have hd:decide (els.length=0)=true:=by simp[hz]
  rw[hd] at heq
  clear hd hz
  go_wp2
  (try simp only[Exit.inBlock,Exit.then])
  refine bodyPost_ret (results_none rfl _ _ _) rfl ?_
  exact⟨rfl,by rw[HZ.out,List.append_nil];exact H0.out.pop.pop⟩
 ·have HZ:Hid (partN k els.length (uN (els.length:Nat)++els.flatMap pf)=[k]++withinN (uN (els.length:Nat)++els.flatMap pf)):=by show _=_;unfold partN;rw[if_neg hz]
  have hd:decide (els.length=0)=false:=by simp[hz]
  rw[hd] at heq
  clear hd hz
  go_wp2_with fail
  refine(wr1 (x:=(k:Int)) (by omega) H0.out (by have:=HN.out;omega) _).mono ?_
  rintro e w2 ⟨rfl,h2⟩
  have H2:=hide h2
  clear h2 H0 c1 l1
  go_wp2_with fail
  refine(wrWithin2 (F:=52) (a1:=b) (a2:=b+1) (xs:=uN (els.length:Nat)++els.flatMap pf) (enters_of Tryz.func52 (by kernel_rfl) (by kernel_rfl)) (by have:=HB.out;omega) (fun bb Y' w' hY hW=>ptExportIn_all HP.out (fun x hx os Y2 w2 g1 g2 g3=>HPut.out x hx bb os Y2 w2 g1 g2 g3) HLen.out HR.out (fun p hp=>hY p (List.mem_cons_of_mem _ (List.mem_cons_of_mem _ (HS.out p hp)))) hm (by omega) (hY _ (List.mem_cons_of_mem _ (List.mem_cons_self ..))) (hY _ (List.mem_cons_self ..)) hW) H2.out (by rw[List.length_append];have:=HB.out;have:=HN.out;simp only[List.length_cons,List.length_nil];omega)).mono ?_
  rintro e w3 ⟨rfl,h3⟩
  have H3:=hide h3.pop.pop
  clear h3 H2
  go_wp2
  go_end0
  refine⟨rfl,?_⟩
  rw[HZ.out]
  simpa [List.append_assoc] using H3.out
set_option maxRecDepth 100000 in
set_option maxHeartbeats 1600000 in
theorem ptDataIn_all {P M a1 a2:Nat} {els:List (Cst)} {pf:Cst→List Nat} {v:Value} (hP:Enters P) (hput:∀x∈els,∀os Y' w',os.length+M≤1000000000000→(∀p∈R,p∈Y')→WW w0 wb os Y' w'→Calls Tryz.prog P #[.pointer (some ⟨wb,0,none⟩),.agg #[.int .i64 0,.int .i64 (x.at_:Nat),.int .u8 (x.kind:Nat),.int .i64 x.val,.string ⟨#[]⟩]] w' (fun e w2=>e=.returned (.tuple #[])∧WW w0 wb (os++pf x) Y' w2))
  (hlen:∀x∈els,(pf x).length≤M) (hr:HasR R 96 5 v els.length (els.flatMap (fun x:Cst=>([.int .i64 0,.int .i64 (x.at_:Nat),.int .u8 (x.kind:Nat),.int .i64 x.val,.string ⟨#[]⟩]:List Value)))) (hs:∀p∈R,p∈Y) (hm:els.length≤1000) (hM:M≤100000000) (b1:It.b a1 [v]∈Y) (b2:It.b a2 [.func (.func P) #[] #[]]∈Y) (h:WW w0 wb [] Y w):
  Calls Tryz.prog 65 #[.pointer (some ⟨wb,0,none⟩),.pointer (some ⟨a1,0,none⟩),.pointer (some ⟨a2,0,none⟩)] w (fun e w'=>e=.returned (.tuple #[])∧WW w0 wb (uN (els.length:Nat)++els.flatMap pf) Y w'):=by
 obtain⟨pv,cv,rfl⟩:=Row.shape (h.row hr hs)
 obtain⟨⟨c1,-⟩,l1⟩:=h.cIn b1 0
 obtain⟨⟨c2,-⟩,l2⟩:=h.cIn b2 0
 have HC:=hide (liData_all (os:=[]) hP hput hlen hr hs hm hM h (by simp;omega))
 clear h hput hlen hr hs b1 b2 hP
 go_enter Tryz.func65,Tryz.ntmps65
 go_wp2_with fail
 refine HC.out.mono ?_
 rintro e w1 ⟨rfl,h1⟩
 have H1:=hide h1
 clear h1 HC
 go_wp2
 go_end0
 exact⟨rfl,H1.out⟩
set_option maxRecDepth 100000 in
set_option maxHeartbeats 1600000 in
theorem ptData_all {P M:Nat} {els:List (Cst)} {pf:Cst→List Nat} {v:Value} (k:Nat) (hP:Enters P) (hput:∀x∈els,∀wb os Y' w',os.length+M≤1000000000000→(∀p∈R,p∈Y')→WW w0 wb os Y' w'→Calls Tryz.prog P #[.pointer (some ⟨wb,0,none⟩),.agg #[.int .i64 0,.int .i64 (x.at_:Nat),.int .u8 (x.kind:Nat),.int .i64 x.val,.string ⟨#[]⟩]] w' (fun e w2=>e=.returned (.tuple #[])∧WW w0 wb (os++pf x) Y' w2))
  (hlen:∀x∈els,(pf x).length≤M) (hr:HasR R 96 5 v els.length (els.flatMap (fun x:Cst=>([.int .i64 0,.int .i64 (x.at_:Nat),.int .u8 (x.kind:Nat),.int .i64 x.val,.string ⟨#[]⟩]:List Value)))) (hs:∀p∈R,p∈Y) (hm:els.length≤1000) (hM:M≤3000000) (h:WW w0 wb os Y w) (hn:os.length+4000000000≤1000000000000):
  Calls Tryz.prog 30 #[.pointer (some ⟨wb,0,none⟩),.int .u8 (k:Nat),v,.func (.func P) #[] #[]] w (fun e w'=>e=.returned (.tuple #[])∧WW w0 wb (os++partN k els.length (uN (els.length:Nat)++els.flatMap pf)) Y w'):=by
 have hmf:∀(fn:Fn) (first cap:Array Value) (w:World),(Instr.makeFunc fn first cap).run Tryz.prog w=.ok (.func fn first cap) w:=fun _ _ _ _=>rfl
 have heq:((els.length:Int)==0)=decide (els.length=0):=by
  by_cases c:els.length=0
  ·rw[c];rfl
  ·simp[c]
 obtain⟨pv,cv,rfl⟩:=Row.shape (h.row hr hs)
 have H0:=hide ((h.new #[.slice pv els.length cv] 55).new #[.func (.func P) #[] #[]] 97)
 have HB:Hid ((uN (els.length:Nat)++els.flatMap pf).length≤3000000006):=by
  show _≤_
  rw[List.length_append]
  have g1:=uN_len (els.length:Nat)
  have g2:=flat_len els hlen
  have g3:els.length*M≤1000*3000000:=Nat.mul_le_mul hm hM
  omega
 have HN:=hide hn
 have HR:=hide hr
 have HS:=hide hs
 have HPut:=hide hput
 have HLen:=hide hlen
 have HP:=hide hP
 clear h hn hr hs hput hlen hP
 go_enter Tryz.func30,Tryz.ntmps30
 go_upto_region 1 with fail
 generalize (w.alloc (.cells #[.slice pv els.length cv] 55)).alloc (.cells #[.func (.func P) #[] #[]] 97)=w1 at*
 have e1:(w.alloc (.cells #[.slice pv els.length cv] 55)).heap.size=w.heap.size+1:=by simp
 rw[e1] at H0
 generalize w.heap.size=b at*
 clear e1
 obtain⟨c1,-⟩:=H0.out.cl 1 0
 have l1:=H0.out.lt 1
 by_cases hz:els.length=0
 ·have HZ:Hid (partN k els.length (uN (els.length:Nat)++els.flatMap pf)=[]):=by show _=_;unfold partN;rw[if_pos hz]
  have hd:decide (els.length=0)=true:=by simp[hz]
  rw[hd] at heq
  clear hd hz
  go_wp2
  (try simp only[Exit.inBlock,Exit.then])
  refine bodyPost_ret (results_none rfl _ _ _) rfl ?_
  exact⟨rfl,by rw[HZ.out,List.append_nil];exact H0.out.pop.pop⟩
 ·have HZ:Hid (partN k els.length (uN (els.length:Nat)++els.flatMap pf)=[k]++withinN (uN (els.length:Nat)++els.flatMap pf)):=by show _=_;unfold partN;rw[if_neg hz]
  have hd:decide (els.length=0)=false:=by simp[hz]
  rw[hd] at heq
  clear hd hz
  go_wp2_with fail
  refine(wr1 (x:=(k:Int)) (by omega) H0.out (by have:=HN.out;omega) _).mono ?_
  rintro e w2 ⟨rfl,h2⟩
  have H2:=hide h2
  clear h2 H0 c1 l1
  go_wp2_with fail
  refine(wrWithin2 (F:=65) (a1:=b) (a2:=b+1) (xs:=uN (els.length:Nat)++els.flatMap pf) (enters_of Tryz.func65 (by kernel_rfl) (by kernel_rfl)) (by have:=HB.out;omega) (fun bb Y' w' hY hW=>ptDataIn_all HP.out (fun x hx os Y2 w2 g1 g2 g3=>HPut.out x hx bb os Y2 w2 g1 g2 g3) HLen.out HR.out (fun p hp=>hY p (List.mem_cons_of_mem _ (List.mem_cons_of_mem _ (HS.out p hp)))) hm (by omega) (hY _ (List.mem_cons_of_mem _ (List.mem_cons_self ..))) (hY _ (List.mem_cons_self ..)) hW) H2.out (by rw[List.length_append];have:=HB.out;have:=HN.out;simp only[List.length_cons,List.length_nil];omega)).mono ?_
  rintro e w3 ⟨rfl,h3⟩
  have H3:=hide h3.pop.pop
  clear h3 H2
  go_wp2
  go_end0
  refine⟨rfl,?_⟩
  rw[HZ.out]
  simpa [List.append_assoc] using H3.out
set_option maxRecDepth 100000 in
set_option maxHeartbeats 1600000 in
theorem ptNameIn_all {P M a1 a2:Nat} {els:List (Nam)} {pf:Nam→List Nat} {v:Value} (hP:Enters P) (hput:∀x∈els,∀os Y' w',os.length+M≤1000000000000→(∀p∈R,p∈Y')→WW w0 wb os Y' w'→Calls Tryz.prog P #[.pointer (some ⟨wb,0,none⟩),.agg #[.int .i64 (x.1:Nat),.string x.2]] w' (fun e w2=>e=.returned (.tuple #[])∧WW w0 wb (os++pf x) Y' w2))
  (hlen:∀x∈els,(pf x).length≤M) (hr:HasR R 135 2 v els.length (els.flatMap (fun x:Nam=>([.int .i64 (x.1:Nat),.string x.2]:List Value)))) (hs:∀p∈R,p∈Y) (hm:els.length≤1000) (hM:M≤100000000) (b1:It.b a1 [v]∈Y) (b2:It.b a2 [.func (.func P) #[] #[]]∈Y) (h:WW w0 wb [] Y w):
  Calls Tryz.prog 78 #[.pointer (some ⟨wb,0,none⟩),.pointer (some ⟨a1,0,none⟩),.pointer (some ⟨a2,0,none⟩)] w (fun e w'=>e=.returned (.tuple #[])∧WW w0 wb (uN (els.length:Nat)++els.flatMap pf) Y w'):=by
 obtain⟨pv,cv,rfl⟩:=Row.shape (h.row hr hs)
 obtain⟨⟨c1,-⟩,l1⟩:=h.cIn b1 0
 obtain⟨⟨c2,-⟩,l2⟩:=h.cIn b2 0
 have HC:=hide (liName_all (os:=[]) hP hput hlen hr hs hm hM h (by simp;omega))
 clear h hput hlen hr hs b1 b2 hP
 go_enter Tryz.func78,Tryz.ntmps78
 go_wp2_with fail
 refine HC.out.mono ?_
 rintro e w1 ⟨rfl,h1⟩
 have H1:=hide h1
 clear h1 HC
 go_wp2
 go_end0
 exact⟨rfl,H1.out⟩
set_option maxRecDepth 100000 in
set_option maxHeartbeats 1600000 in
theorem ptName_all {P M:Nat} {els:List (Nam)} {pf:Nam→List Nat} {v:Value} (k:Nat) (hP:Enters P) (hput:∀x∈els,∀wb os Y' w',os.length+M≤1000000000000→(∀p∈R,p∈Y')→WW w0 wb os Y' w'→Calls Tryz.prog P #[.pointer (some ⟨wb,0,none⟩),.agg #[.int .i64 (x.1:Nat),.string x.2]] w' (fun e w2=>e=.returned (.tuple #[])∧WW w0 wb (os++pf x) Y' w2))
  (hlen:∀x∈els,(pf x).length≤M) (hr:HasR R 135 2 v els.length (els.flatMap (fun x:Nam=>([.int .i64 (x.1:Nat),.string x.2]:List Value)))) (hs:∀p∈R,p∈Y) (hm:els.length≤1000) (hM:M≤3000000) (h:WW w0 wb os Y w) (hn:os.length+4000000000≤1000000000000):
  Calls Tryz.prog 67 #[.pointer (some ⟨wb,0,none⟩),.int .u8 (k:Nat),v,.func (.func P) #[] #[]] w (fun e w'=>e=.returned (.tuple #[])∧WW w0 wb (os++partN k els.length (uN (els.length:Nat)++els.flatMap pf)) Y w'):=by
 have hmf:∀(fn:Fn) (first cap:Array Value) (w:World),(Instr.makeFunc fn first cap).run Tryz.prog w=.ok (.func fn first cap) w:=fun _ _ _ _=>rfl
 have heq:((els.length:Int)==0)=decide (els.length=0):=by
  by_cases c:els.length=0
  ·rw[c];rfl
  ·simp[c]
 obtain⟨pv,cv,rfl⟩:=Row.shape (h.row hr hs)
 have H0:=hide ((h.new #[.slice pv els.length cv] 56).new #[.func (.func P) #[] #[]] 136)
 have HB:Hid ((uN (els.length:Nat)++els.flatMap pf).length≤3000000006):=by
  show _≤_
  rw[List.length_append]
  have g1:=uN_len (els.length:Nat)
  have g2:=flat_len els hlen
  have g3:els.length*M≤1000*3000000:=Nat.mul_le_mul hm hM
  omega
 have HN:=hide hn
 have HR:=hide hr
 have HS:=hide hs
 have HPut:=hide hput
 have HLen:=hide hlen
 have HP:=hide hP
 clear h hn hr hs hput hlen hP
 go_enter Tryz.func67,Tryz.ntmps67
 go_upto_region 1 with fail
 generalize (w.alloc (.cells #[.slice pv els.length cv] 56)).alloc (.cells #[.func (.func P) #[] #[]] 136)=w1 at*
 have e1:(w.alloc (.cells #[.slice pv els.length cv] 56)).heap.size=w.heap.size+1:=by simp
 rw[e1] at H0
 generalize w.heap.size=b at*
 clear e1
 obtain⟨c1,-⟩:=H0.out.cl 1 0
 have l1:=H0.out.lt 1
 by_cases hz:els.length=0
 ·have HZ:Hid (partN k els.length (uN (els.length:Nat)++els.flatMap pf)=[]):=by show _=_;unfold partN;rw[if_pos hz]
  have hd:decide (els.length=0)=true:=by simp[hz]
  rw[hd] at heq
  clear hd hz
  go_wp2
  (try simp only[Exit.inBlock,Exit.then])
  refine bodyPost_ret (results_none rfl _ _ _) rfl ?_
  exact⟨rfl,by rw[HZ.out,List.append_nil];exact H0.out.pop.pop⟩
 ·have HZ:Hid (partN k els.length (uN (els.length:Nat)++els.flatMap pf)=[k]++withinN (uN (els.length:Nat)++els.flatMap pf)):=by show _=_;unfold partN;rw[if_neg hz]
  have hd:decide (els.length=0)=false:=by simp[hz]
  rw[hd] at heq
  clear hd hz
  go_wp2_with fail
  refine(wr1 (x:=(k:Int)) (by omega) H0.out (by have:=HN.out;omega) _).mono ?_
  rintro e w2 ⟨rfl,h2⟩
  have H2:=hide h2
  clear h2 H0 c1 l1
  go_wp2_with fail
  refine(wrWithin2 (F:=78) (a1:=b) (a2:=b+1) (xs:=uN (els.length:Nat)++els.flatMap pf) (enters_of Tryz.func78 (by kernel_rfl) (by kernel_rfl)) (by have:=HB.out;omega) (fun bb Y' w' hY hW=>ptNameIn_all HP.out (fun x hx os Y2 w2 g1 g2 g3=>HPut.out x hx bb os Y2 w2 g1 g2 g3) HLen.out HR.out (fun p hp=>hY p (List.mem_cons_of_mem _ (List.mem_cons_of_mem _ (HS.out p hp)))) hm (by omega) (hY _ (List.mem_cons_of_mem _ (List.mem_cons_self ..))) (hY _ (List.mem_cons_self ..)) hW) H2.out (by rw[List.length_append];have:=HB.out;have:=HN.out;simp only[List.length_cons,List.length_nil];omega)).mono ?_
  rintro e w3 ⟨rfl,h3⟩
  have H3:=hide h3.pop.pop
  clear h3 H2
  go_wp2
  go_end0
  refine⟨rfl,?_⟩
  rw[HZ.out]
  simpa [List.append_assoc] using H3.out
end
end
section
open Go.RowKit
set_option linter.unusedSimpArgs false
set_option linter.unusedVariables false
section
variable {w0 w:World} {wb:Nat} {os:List Nat} {Y R:List It}
set_option maxRecDepth 100000 in
set_option maxHeartbeats 1600000 in
theorem ptLocalNamesIn_all {P M a1 a2:Nat} {els:List ((Nat×List Nam)×Value)} {pf:(Nat×List Nam)×Value→List Nat} {v:Value} (hP:Enters P) (hsh:∀x∈els,∃p1 q1,x.2=.slice p1 x.1.2.length q1) (hput:∀x∈els,∀os Y' w',os.length+M≤1000000000000→(∀p∈R,p∈Y')→WW w0 wb os Y' w'→Calls Tryz.prog P #[.pointer (some ⟨wb,0,none⟩),.agg #[.int .i64 (x.1.1:Nat),x.2]] w' (fun e w2=>e=.returned (.tuple #[])∧WW w0 wb (os++pf x) Y' w2))
  (hlen:∀x∈els,(pf x).length≤M) (hr:HasR R 139 2 v els.length (els.flatMap (fun x:(Nat×List Nam)×Value=>([.int .i64 (x.1.1:Nat),x.2]:List Value)))) (hs:∀p∈R,p∈Y) (hm:els.length≤1000) (hM:M≤100000000) (b1:It.b a1 [v]∈Y) (b2:It.b a2 [.func (.func P) #[] #[]]∈Y) (h:WW w0 wb [] Y w):
  Calls Tryz.prog 80 #[.pointer (some ⟨wb,0,none⟩),.pointer (some ⟨a1,0,none⟩),.pointer (some ⟨a2,0,none⟩)] w (fun e w'=>e=.returned (.tuple #[])∧WW w0 wb (uN (els.length:Nat)++els.flatMap pf) Y w'):=by
 obtain⟨pv,cv,rfl⟩:=Row.shape (h.row hr hs)
 obtain⟨⟨c1,-⟩,l1⟩:=h.cIn b1 0
 obtain⟨⟨c2,-⟩,l2⟩:=h.cIn b2 0
 have HC:=hide (liLocalNames_all (os:=[]) hP hsh hput hlen hr hs hm hM h (by simp;omega))
 clear h hput hlen hr hs b1 b2 hP hsh
 go_enter Tryz.func80,Tryz.ntmps80
 go_wp2_with fail
 refine HC.out.mono ?_
 rintro e w1 ⟨rfl,h1⟩
 have H1:=hide h1
 clear h1 HC
 go_wp2
 go_end0
 exact⟨rfl,H1.out⟩
set_option maxRecDepth 100000 in
set_option maxHeartbeats 1600000 in
theorem ptLocalNames_all {P M:Nat} {els:List ((Nat×List Nam)×Value)} {pf:(Nat×List Nam)×Value→List Nat} {v:Value} (k:Nat) (hP:Enters P) (hsh:∀x∈els,∃p1 q1,x.2=.slice p1 x.1.2.length q1) (hput:∀x∈els,∀wb os Y' w',os.length+M≤1000000000000→(∀p∈R,p∈Y')→WW w0 wb os Y' w'→Calls Tryz.prog P #[.pointer (some ⟨wb,0,none⟩),.agg #[.int .i64 (x.1.1:Nat),x.2]] w' (fun e w2=>e=.returned (.tuple #[])∧WW w0 wb (os++pf x) Y' w2))
  (hlen:∀x∈els,(pf x).length≤M) (hr:HasR R 139 2 v els.length (els.flatMap (fun x:(Nat×List Nam)×Value=>([.int .i64 (x.1.1:Nat),x.2]:List Value)))) (hs:∀p∈R,p∈Y) (hm:els.length≤1000) (hM:M≤3000000) (h:WW w0 wb os Y w) (hn:os.length+4000000000≤1000000000000):
  Calls Tryz.prog 69 #[.pointer (some ⟨wb,0,none⟩),.int .u8 (k:Nat),v,.func (.func P) #[] #[]] w (fun e w'=>e=.returned (.tuple #[])∧WW w0 wb (os++partN k els.length (uN (els.length:Nat)++els.flatMap pf)) Y w'):=by
 have hmf:∀(fn:Fn) (first cap:Array Value) (w:World),(Instr.makeFunc fn first cap).run Tryz.prog w=.ok (.func fn first cap) w:=fun _ _ _ _=>rfl
 have heq:((els.length:Int)==0)=decide (els.length=0):=by
  by_cases c:els.length=0
  ·rw[c];rfl
  ·simp[c]
 obtain⟨pv,cv,rfl⟩:=Row.shape (h.row hr hs)
 have H0:=hide ((h.new #[.slice pv els.length cv] 57).new #[.func (.func P) #[] #[]] 141)
 have HB:Hid ((uN (els.length:Nat)++els.flatMap pf).length≤3000000006):=by
  show _≤_
  rw[List.length_append]
  have g1:=uN_len (els.length:Nat)
  have g2:=flat_len els hlen
  have g3:els.length*M≤1000*3000000:=Nat.mul_le_mul hm hM
  omega
 have HN:=hide hn
 have HR:=hide hr
 have HS:=hide hs
 have HPut:=hide hput
 have HLen:=hide hlen
 have HP:=hide hP
 have HSH:=hide hsh
 clear h hn hr hs hput hlen hP hsh
 go_enter Tryz.func69,Tryz.ntmps69
 go_upto_region 1 with fail
 generalize (w.alloc (.cells #[.slice pv els.length cv] 57)).alloc (.cells #[.func (.func P) #[] #[]] 141)=w1 at*
 have e1:(w.alloc (.cells #[.slice pv els.length cv] 57)).heap.size=w.heap.size+1:=by simp
 rw[e1] at H0
 generalize w.heap.size=b at*
 clear e1
 obtain⟨c1,-⟩:=H0.out.cl 1 0
 have l1:=H0.out.lt 1
 by_cases hz:els.length=0
 ·have HZ:Hid (partN k els.length (uN (els.length:Nat)++els.flatMap pf)=[]):=by show _=_;unfold partN;rw[if_pos hz]
  have hd:decide (els.length=0)=true:=by simp[hz]
  rw[hd] at heq
  clear hd hz
  go_wp2
  (try simp only[Exit.inBlock,Exit.then])
  refine bodyPost_ret (results_none rfl _ _ _) rfl ?_
  exact⟨rfl,by rw[HZ.out,List.append_nil];exact H0.out.pop.pop⟩
 ·have HZ:Hid (partN k els.length (uN (els.length:Nat)++els.flatMap pf)=[k]++withinN (uN (els.length:Nat)++els.flatMap pf)):=by show _=_;unfold partN;rw[if_neg hz]
  have hd:decide (els.length=0)=false:=by simp[hz]
  rw[hd] at heq
  clear hd hz
  go_wp2_with fail
  refine(wr1 (x:=(k:Int)) (by omega) H0.out (by have:=HN.out;omega) _).mono ?_
  rintro e w2 ⟨rfl,h2⟩
  have H2:=hide h2
  clear h2 H0 c1 l1
  go_wp2_with fail
  refine(wrWithin2 (F:=80) (a1:=b) (a2:=b+1) (xs:=uN (els.length:Nat)++els.flatMap pf) (enters_of Tryz.func80 (by kernel_rfl) (by kernel_rfl)) (by have:=HB.out;omega) (fun bb Y' w' hY hW=>ptLocalNamesIn_all HP.out HSH.out (fun x hx os Y2 w2 g1 g2 g3=>HPut.out x hx bb os Y2 w2 g1 g2 g3) HLen.out HR.out (fun p hp=>hY p (List.mem_cons_of_mem _ (List.mem_cons_of_mem _ (HS.out p hp)))) hm (by omega) (hY _ (List.mem_cons_of_mem _ (List.mem_cons_self ..))) (hY _ (List.mem_cons_self ..)) hW) H2.out (by rw[List.length_append];have:=HB.out;have:=HN.out;simp only[List.length_cons,List.length_nil];omega)).mono ?_
  rintro e w3 ⟨rfl,h3⟩
  have H3:=hide h3.pop.pop
  clear h3 H2
  go_wp2
  go_end0
  refine⟨rfl,?_⟩
  rw[HZ.out]
  simpa [List.append_assoc] using H3.out
set_option maxRecDepth 100000 in
set_option maxHeartbeats 1600000 in
theorem ptCodeIn_all {P M a1 a2:Nat} {els:List (CoG)} {pf:CoG→List Nat} {v:Value} (hP:Enters P) (hsh:∀x∈els,∃p1 q1,x.2.1=.slice p1 x.1.1.length q1) (hput:∀x∈els,∀os Y' w',os.length+M≤1000000000000→(∀p∈R,p∈Y')→WW w0 wb os Y' w'→Calls Tryz.prog P #[.pointer (some ⟨wb,0,none⟩),.agg #[x.2.1,.func (.func 137) #[] #[.pointer (some ⟨x.2.2.1,0,none⟩)]]] w' (fun e w2=>e=.returned (.tuple #[])∧WW w0 wb (os++pf x) Y' w2))
  (hlen:∀x∈els,(pf x).length≤M) (hr:HasR R 92 2 v els.length (els.flatMap (fun x:CoG=>([x.2.1,.func (.func 137) #[] #[.pointer (some ⟨x.2.2.1,0,none⟩)]]:List Value)))) (hs:∀p∈R,p∈Y) (hm:els.length≤1000) (hM:M≤100000000) (b1:It.b a1 [v]∈Y) (b2:It.b a2 [.func (.func P) #[] #[]]∈Y) (h:WW w0 wb [] Y w):
  Calls Tryz.prog 58 #[.pointer (some ⟨wb,0,none⟩),.pointer (some ⟨a1,0,none⟩),.pointer (some ⟨a2,0,none⟩)] w (fun e w'=>e=.returned (.tuple #[])∧WW w0 wb (uN (els.length:Nat)++els.flatMap pf) Y w'):=by
 obtain⟨pv,cv,rfl⟩:=Row.shape (h.row hr hs)
 obtain⟨⟨c1,-⟩,l1⟩:=h.cIn b1 0
 obtain⟨⟨c2,-⟩,l2⟩:=h.cIn b2 0
 have HC:=hide (liCode_all (os:=[]) hP hsh hput hlen hr hs hm hM h (by simp;omega))
 clear h hput hlen hr hs b1 b2 hP hsh
 go_enter Tryz.func58,Tryz.ntmps58
 go_wp2_with fail
 refine HC.out.mono ?_
 rintro e w1 ⟨rfl,h1⟩
 have H1:=hide h1
 clear h1 HC
 go_wp2
 go_end0
 exact⟨rfl,H1.out⟩
set_option maxRecDepth 100000 in
set_option maxHeartbeats 1600000 in
theorem ptCode_all {P M:Nat} {els:List (CoG)} {pf:CoG→List Nat} {v:Value} (k:Nat) (hP:Enters P) (hsh:∀x∈els,∃p1 q1,x.2.1=.slice p1 x.1.1.length q1) (hput:∀x∈els,∀wb os Y' w',os.length+M≤1000000000000→(∀p∈R,p∈Y')→WW w0 wb os Y' w'→Calls Tryz.prog P #[.pointer (some ⟨wb,0,none⟩),.agg #[x.2.1,.func (.func 137) #[] #[.pointer (some ⟨x.2.2.1,0,none⟩)]]] w' (fun e w2=>e=.returned (.tuple #[])∧WW w0 wb (os++pf x) Y' w2))
  (hlen:∀x∈els,(pf x).length≤M) (hr:HasR R 92 2 v els.length (els.flatMap (fun x:CoG=>([x.2.1,.func (.func 137) #[] #[.pointer (some ⟨x.2.2.1,0,none⟩)]]:List Value)))) (hs:∀p∈R,p∈Y) (hm:els.length≤1000) (hM:M≤3000000) (h:WW w0 wb os Y w) (hn:os.length+4000000000≤1000000000000):
  Calls Tryz.prog 28 #[.pointer (some ⟨wb,0,none⟩),.int .u8 (k:Nat),v,.func (.func P) #[] #[]] w (fun e w'=>e=.returned (.tuple #[])∧WW w0 wb (os++partN k els.length (uN (els.length:Nat)++els.flatMap pf)) Y w'):=by
 have hmf:∀(fn:Fn) (first cap:Array Value) (w:World),(Instr.makeFunc fn first cap).run Tryz.prog w=.ok (.func fn first cap) w:=fun _ _ _ _=>rfl
 have heq:((els.length:Int)==0)=decide (els.length=0):=by
  by_cases c:els.length=0
  ·rw[c];rfl
  ·simp[c]
 obtain⟨pv,cv,rfl⟩:=Row.shape (h.row hr hs)
 have H0:=hide ((h.new #[.slice pv els.length cv] 54).new #[.func (.func P) #[] #[]] 93)
 have HB:Hid ((uN (els.length:Nat)++els.flatMap pf).length≤3000000006):=by
  show _≤_
  rw[List.length_append]
  have g1:=uN_len (els.length:Nat)
  have g2:=flat_len els hlen
  have g3:els.length*M≤1000*3000000:=Nat.mul_le_mul hm hM
  omega
 have HN:=hide hn
 have HR:=hide hr
 have HS:=hide hs
 have HPut:=hide hput
 have HLen:=hide hlen
 have HP:=hide hP
 have HSH:=hide hsh
 clear h hn hr hs hput hlen hP hsh
 go_enter Tryz.func28,Tryz.ntmps28
 go_upto_region 1 with fail
 generalize (w.alloc (.cells #[.slice pv els.length cv] 54)).alloc (.cells #[.func (.func P) #[] #[]] 93)=w1 at*
 have e1:(w.alloc (.cells #[.slice pv els.length cv] 54)).heap.size=w.heap.size+1:=by simp
 rw[e1] at H0
 generalize w.heap.size=b at*
 clear e1
 obtain⟨c1,-⟩:=H0.out.cl 1 0
 have l1:=H0.out.lt 1
 by_cases hz:els.length=0
 ·have HZ:Hid (partN k els.length (uN (els.length:Nat)++els.flatMap pf)=[]):=by show _=_;unfold partN;rw[if_pos hz]
  have hd:decide (els.length=0)=true:=by simp[hz]
  rw[hd] at heq
  clear hd hz
  go_wp2
  (try simp only[Exit.inBlock,Exit.then])
  refine bodyPost_ret (results_none rfl _ _ _) rfl ?_
  exact⟨rfl,by rw[HZ.out,List.append_nil];exact H0.out.pop.pop⟩
 ·have HZ:Hid (partN k els.length (uN (els.length:Nat)++els.flatMap pf)=[k]++withinN (uN (els.length:Nat)++els.flatMap pf)):=by show _=_;unfold partN;rw[if_neg hz]
  have hd:decide (els.length=0)=false:=by simp[hz]
  rw[hd] at heq
  clear hd hz
  go_wp2_with fail
  refine(wr1 (x:=(k:Int)) (by omega) H0.out (by have:=HN.out;omega) _).mono ?_
  rintro e w2 ⟨rfl,h2⟩
  have H2:=hide h2
  clear h2 H0 c1 l1
  go_wp2_with fail
  refine(wrWithin2 (F:=58) (a1:=b) (a2:=b+1) (xs:=uN (els.length:Nat)++els.flatMap pf) (enters_of Tryz.func58 (by kernel_rfl) (by kernel_rfl)) (by have:=HB.out;omega) (fun bb Y' w' hY hW=>ptCodeIn_all HP.out HSH.out (fun x hx os Y2 w2 g1 g2 g3=>HPut.out x hx bb os Y2 w2 g1 g2 g3) HLen.out HR.out (fun p hp=>hY p (List.mem_cons_of_mem _ (List.mem_cons_of_mem _ (HS.out p hp)))) hm (by omega) (hY _ (List.mem_cons_of_mem _ (List.mem_cons_self ..))) (hY _ (List.mem_cons_self ..)) hW) H2.out (by rw[List.length_append];have:=HB.out;have:=HN.out;simp only[List.length_cons,List.length_nil];omega)).mono ?_
  rintro e w3 ⟨rfl,h3⟩
  have H3:=hide h3.pop.pop
  clear h3 H2
  go_wp2
  go_end0
  refine⟨rfl,?_⟩
  rw[HZ.out]
  simpa [List.append_assoc] using H3.out
end
end
end Go.Proofs.YtkmofapihggjgaaGreatDoor
