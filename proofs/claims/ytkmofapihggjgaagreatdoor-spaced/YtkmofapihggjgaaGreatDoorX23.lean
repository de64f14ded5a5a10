import Derived.Test.YtkmofapihggjgaaGreatDoorX22
namespace Go.Proofs.YtkmofapihggjgaaGreatDoor
section
open Go.RowKit
set_option linter.unusedSimpArgs false
set_option linter.unusedVariables false
section
variable {w0 w:World} {wb:Nat} {os:List Nat} {Y R:List It}
set_option maxRecDepth 100000 in
set_option maxHeartbeats 1600000 in
theorem wrLimits_t (x:Lim) (h1:Uok x.least) (h2:Uok x.most) (h:WW w0 wb os Y w) (hn:os.length+20≤1000000000000):Calls Tryz.prog 20 #[.pointer (some ⟨wb,0,none⟩),.agg #[.int .i64 (x.at_:Nat),.int .u32 x.least,.int .u32 x.most,.bool true]] w (fun e w'=>e=.returned (.tuple #[])∧WW w0 wb (os++([1]++uN x.least++uN x.most)) Y w'):=by
 have hnot:∀(x:Bool) (w:World),(Op.unary .not (.bool x)).run Tryz.prog w=.ok (.bool (!x)) w:=fun _ _=>rfl
 have H0:=hide (h.new #[.int .i64 (x.at_:Nat),.int .u32 x.least,.int .u32 x.most,.bool true] 70)
 have HN:=hide hn
 clear h hn
 go_enter Tryz.func20,Tryz.ntmps20
 go_upto_region 1 with fail
 generalize w.alloc (.cells #[.int .i64 (x.at_:Nat),.int .u32 x.least,.int .u32 x.most,.bool true] 70)=w1 at*
 generalize w.heap.size=b at*
 obtain⟨c0,-⟩:=H0.out.cl 0 0
 obtain⟨c1,-⟩:=H0.out.cl 0 1
 obtain⟨c2,-⟩:=H0.out.cl 0 2
 obtain⟨c3,-⟩:=H0.out.cl 0 3
 have l0:=H0.out.lt 0
 go_wp2_with fail
 refine(wr1 (x:=1) (by omega) H0.out (by(try simp only[List.length_append,List.length_cons,List.length_nil]);have:=HN.out;omega) _).mono ?_
 rintro e w2 ⟨rfl,h1⟩
 clear c0 c1 c2 c3 l0
 obtain⟨c0,-⟩:=h1.cl 0 0
 obtain⟨c1,-⟩:=h1.cl 0 1
 obtain⟨c2,-⟩:=h1.cl 0 2
 obtain⟨c3,-⟩:=h1.cl 0 3
 have l0:=h1.lt 0
 have H1:=hide h1
 clear h1 H0
 go_wp2_with fail
 refine(wrU_all (n:=x.least) h1.1 h1.2 H1.out (by(try simp only[List.length_append,List.length_cons,List.length_nil]);have:=HN.out;omega)).mono ?_
 rintro e w3 ⟨rfl,h2⟩
 clear c0 c1 c2 c3 l0
 obtain⟨c0,-⟩:=h2.cl 0 0
 obtain⟨c1,-⟩:=h2.cl 0 1
 obtain⟨c2,-⟩:=h2.cl 0 2
 obtain⟨c3,-⟩:=h2.cl 0 3
 have l0:=h2.lt 0
 have H2:=hide h2
 clear h2 H1
 go_wp2_with fail
 refine(wrU_all (n:=x.most) h2.1 h2.2 H2.out (by(try simp only[List.length_append,List.length_cons,List.length_nil]);have:=uN_len x.least;have:=HN.out;omega)).mono ?_
 rintro e w4 ⟨rfl,h3⟩
 have H3:=hide h3.pop
 clear h3 H2 c0 c1 c2 c3 l0
 go_wp2
 go_end0
 exact⟨rfl,by simpa [List.append_assoc] using H3.out⟩
set_option maxRecDepth 100000 in
set_option maxHeartbeats 1600000 in
theorem wrLimits_f (x:Lim) (h1:Uok x.least) (h:WW w0 wb os Y w) (hn:os.length+20≤1000000000000):Calls Tryz.prog 20 #[.pointer (some ⟨wb,0,none⟩),.agg #[.int .i64 (x.at_:Nat),.int .u32 x.least,.int .u32 x.most,.bool false]] w (fun e w'=>e=.returned (.tuple #[])∧WW w0 wb (os++([0]++uN x.least)) Y w'):=by
 have hnot:∀(x:Bool) (w:World),(Op.unary .not (.bool x)).run Tryz.prog w=.ok (.bool (!x)) w:=fun _ _=>rfl
 have H0:=hide (h.new #[.int .i64 (x.at_:Nat),.int .u32 x.least,.int .u32 x.most,.bool false] 70)
 have HN:=hide hn
 clear h hn
 go_enter Tryz.func20,Tryz.ntmps20
 go_upto_region 1 with fail
 generalize w.alloc (.cells #[.int .i64 (x.at_:Nat),.int .u32 x.least,.int .u32 x.most,.bool false] 70)=w1 at*
 generalize w.heap.size=b at*
 obtain⟨c0,-⟩:=H0.out.cl 0 0
 obtain⟨c1,-⟩:=H0.out.cl 0 1
 obtain⟨c2,-⟩:=H0.out.cl 0 2
 obtain⟨c3,-⟩:=H0.out.cl 0 3
 have l0:=H0.out.lt 0
 go_wp2_with fail
 refine(wr1 (x:=0) (by omega) H0.out (by(try simp only[List.length_append,List.length_cons,List.length_nil]);have:=HN.out;omega) _).mono ?_
 rintro e w2 ⟨rfl,h1⟩
 clear c0 c1 c2 c3 l0
 obtain⟨c0,-⟩:=h1.cl 0 0
 obtain⟨c1,-⟩:=h1.cl 0 1
 obtain⟨c2,-⟩:=h1.cl 0 2
 obtain⟨c3,-⟩:=h1.cl 0 3
 have l0:=h1.lt 0
 have H1:=hide h1
 clear h1 H0
 go_wp2_with fail
 refine(wrU_all (n:=x.least) h1.1 h1.2 H1.out (by(try simp only[List.length_append,List.length_cons,List.length_nil]);have:=HN.out;omega)).mono ?_
 rintro e w3 ⟨rfl,h2⟩
 have H2:=hide h2.pop
 clear h2 H1 c0 c1 c2 c3 l0
 go_wp2
 (try simp only[Exit.inBlock,Exit.then])
 refine bodyPost_ret (results_none rfl _ _ _) rfl ?_
 exact⟨rfl,by simpa [List.append_assoc] using H2.out⟩
theorem wrLimits_all (x:Lim) (h1:Uok x.least) (h2:Uok x.most) (h:WW w0 wb os Y w) (hn:os.length+20≤1000000000000):Calls Tryz.prog 20 #[.pointer (some ⟨wb,0,none⟩),.agg #[.int .i64 (x.at_:Nat),.int .u32 x.least,.int .u32 x.most,.bool x.has]] w (fun e w'=>e=.returned (.tuple #[])∧WW w0 wb (os++limN x) Y w'):=by
 cases e:x.has with
 | false=>rw[show limN x=[0]++uN x.least by unfold limN;rw[e];rfl];exact wrLimits_f x h1 h hn
 | true=>rw[show limN x=[1]++uN x.least++uN x.most by unfold limN;rw[e];rfl];exact wrLimits_t x h1 h2 h hn
set_option maxRecDepth 100000 in
set_option maxHeartbeats 1600000 in
theorem wrTable_all (x:Lim) (h1:Uok x.least) (h2:Uok x.most) (h:WW w0 wb os Y w) (hn:os.length+30≤1000000000000):Calls Tryz.prog 19 #[.pointer (some ⟨wb,0,none⟩),.agg #[.int .i64 (x.at_:Nat),.int .u32 x.least,.int .u32 x.most,.bool x.has]] w (fun e w'=>e=.returned (.tuple #[])∧WW w0 wb (os++tableN x) Y w'):=by
 have hnot:∀(x:Bool) (w:World),(Op.unary .not (.bool x)).run Tryz.prog w=.ok (.bool (!x)) w:=fun _ _=>rfl
 have H0:=hide (h.new #[.int .i64 (x.at_:Nat),.int .u32 x.least,.int .u32 x.most,.bool x.has] 70)
 have HN:=hide hn
 clear h hn
 go_enter Tryz.func19,Tryz.ntmps19
 go_upto_region 1 with fail
 generalize w.alloc (.cells #[.int .i64 (x.at_:Nat),.int .u32 x.least,.int .u32 x.most,.bool x.has] 70)=w1 at*
 generalize w.heap.size=b at*
 obtain⟨c0,-⟩:=H0.out.cl 0 0
 obtain⟨c1,-⟩:=H0.out.cl 0 1
 obtain⟨c2,-⟩:=H0.out.cl 0 2
 obtain⟨c3,-⟩:=H0.out.cl 0 3
 have l0:=H0.out.lt 0
 go_wp2_with fail
 refine(wr1 (x:=112) (by omega) H0.out (by(try simp only[List.length_append,List.length_cons,List.length_nil]);have:=HN.out;omega) _).mono ?_
 rintro e w2 ⟨rfl,h1⟩
 clear c0 c1 c2 c3 l0
 obtain⟨c0,-⟩:=h1.cl 0 0
 obtain⟨c1,-⟩:=h1.cl 0 1
 obtain⟨c2,-⟩:=h1.cl 0 2
 obtain⟨c3,-⟩:=h1.cl 0 3
 have l0:=h1.lt 0
 have H1:=hide h1
 clear h1 H0
 go_wp2_with fail
 refine(wrLimits_all x h1 h2 H1.out (by(try simp only[List.length_append,List.length_cons,List.length_nil]);have:=HN.out;omega)).mono ?_
 rintro e w3 ⟨rfl,h2⟩
 have H2:=hide h2.pop
 clear h2 H1 c0 c1 c2 c3 l0
 go_wp2
 go_end0
 exact⟨rfl,by simpa [tableN,List.append_assoc] using H2.out⟩
set_option maxRecDepth 100000 in
set_option maxHeartbeats 1600000 in
theorem wrGlobal_t (x:Glb) (hc:Cok x.first) (h:WW w0 wb os Y w) (hn:os.length+20≤1000000000000):Calls Tryz.prog 22 #[.pointer (some ⟨wb,0,none⟩),.agg #[.int .u8 (x.kind:Nat),.bool true,.int .i64 (x.first.at_:Nat),.int .u8 (x.first.kind:Nat),.int .i64 x.first.val]] w (fun e w'=>e=.returned (.tuple #[])∧WW w0 wb (os++([x.kind]++[1]++constN x.first)) Y w'):=by
 have hnot:∀(x:Bool) (w:World),(Op.unary .not (.bool x)).run Tryz.prog w=.ok (.bool (!x)) w:=fun _ _=>rfl
 have H0:=hide (h.new #[.int .u8 (x.kind:Nat),.bool true,.int .i64 (x.first.at_:Nat),.int .u8 (x.first.kind:Nat),.int .i64 x.first.val] 77)
 have HN:=hide hn
 clear h hn
 go_enter Tryz.func22,Tryz.ntmps22
 go_upto_region 1 with fail
 generalize w.alloc (.cells #[.int .u8 (x.kind:Nat),.bool true,.int .i64 (x.first.at_:Nat),.int .u8 (x.first.kind:Nat),.int .i64 x.first.val] 77)=w1 at*
 generalize w.heap.size=b at*
 obtain⟨c0,-⟩:=H0.out.cl 0 0
 obtain⟨c1,-⟩:=H0.out.cl 0 1
 obtain⟨c2,-⟩:=H0.out.cl 0 2
 obtain⟨c3,-⟩:=H0.out.cl 0 3
 obtain⟨c4,-⟩:=H0.out.cl 0 4
 have l0:=H0.out.lt 0
 go_wp2_with fail
 refine(wrKind_all x.kind H0.out (by(try simp only[List.length_append,List.length_cons,List.length_nil]);have:=HN.out;omega)).mono ?_
 rintro e w2 ⟨rfl,h1⟩
 clear c0 c1 c2 c3 c4 l0
 obtain⟨c0,-⟩:=h1.cl 0 0
 obtain⟨c1,-⟩:=h1.cl 0 1
 obtain⟨c2,-⟩:=h1.cl 0 2
 obtain⟨c3,-⟩:=h1.cl 0 3
 obtain⟨c4,-⟩:=h1.cl 0 4
 have l0:=h1.lt 0
 have H1:=hide h1
 clear h1 H0
 go_wp2_with fail
 refine(wr1 (x:=1) (by omega) H1.out (by(try simp only[List.length_append,List.length_cons,List.length_nil]);have:=HN.out;omega) _).mono ?_
 rintro e w3 ⟨rfl,h2⟩
 clear c0 c1 c2 c3 c4 l0
 obtain⟨c0,-⟩:=h2.cl 0 0
 obtain⟨c1,-⟩:=h2.cl 0 1
 obtain⟨c2,-⟩:=h2.cl 0 2
 obtain⟨c3,-⟩:=h2.cl 0 3
 obtain⟨c4,-⟩:=h2.cl 0 4
 have l0:=h2.lt 0
 have H2:=hide h2
 clear h2 H1
 go_wp2_with fail
 refine(wrConstant_all x.first hc.1 hc.2 H2.out (by(try simp only[List.length_append,List.length_cons,List.length_nil]);have:=HN.out;omega)).mono ?_
 rintro e w4 ⟨rfl,h3⟩
 have H3:=hide h3.pop
 clear h3 H2 c0 c1 c2 c3 c4 l0
 go_wp2
 go_end0
 exact⟨rfl,by simpa [List.append_assoc] using H3.out⟩
set_option maxRecDepth 100000 in
set_option maxHeartbeats 1600000 in
theorem wrGlobal_f (x:Glb) (hc:Cok x.first) (h:WW w0 wb os Y w) (hn:os.length+20≤1000000000000):Calls Tryz.prog 22 #[.pointer (some ⟨wb,0,none⟩),.agg #[.int .u8 (x.kind:Nat),.bool false,.int .i64 (x.first.at_:Nat),.int .u8 (x.first.kind:Nat),.int .i64 x.first.val]] w (fun e w'=>e=.returned (.tuple #[])∧WW w0 wb (os++([x.kind]++[0]++constN x.first)) Y w'):=by
 have hnot:∀(x:Bool) (w:World),(Op.unary .not (.bool x)).run Tryz.prog w=.ok (.bool (!x)) w:=fun _ _=>rfl
 have H0:=hide (h.new #[.int .u8 (x.kind:Nat),.bool false,.int .i64 (x.first.at_:Nat),.int .u8 (x.first.kind:Nat),.int .i64 x.first.val] 77)
 have HN:=hide hn
 clear h hn
 go_enter Tryz.func22,Tryz.ntmps22
 go_upto_region 1 with fail
 generalize w.alloc (.cells #[.int .u8 (x.kind:Nat),.bool false,.int .i64 (x.first.at_:Nat),.int .u8 (x.first.kind:Nat),.int .i64 x.first.val] 77)=w1 at*
 generalize w.heap.size=b at*
 obtain⟨c0,-⟩:=H0.out.cl 0 0
 obtain⟨c1,-⟩:=H0.out.cl 0 1
 obtain⟨c2,-⟩:=H0.out.cl 0 2
 obtain⟨c3,-⟩:=H0.out.cl 0 3
 obtain⟨c4,-⟩:=H0.out.cl 0 4
 have l0:=H0.out.lt 0
 go_wp2_with fail
 refine(wrKind_all x.kind H0.out (by(try simp only[List.length_append,List.length_cons,List.length_nil]);have:=HN.out;omega)).mono ?_
 rintro e w2 ⟨rfl,h1⟩
 clear c0 c1 c2 c3 c4 l0
 obtain⟨c0,-⟩:=h1.cl 0 0
 obtain⟨c1,-⟩:=h1.cl 0 1
 obtain⟨c2,-⟩:=h1.cl 0 2
 obtain⟨c3,-⟩:=h1.cl 0 3
 obtain⟨c4,-⟩:=h1.cl 0 4
 have l0:=h1.lt 0
 have H1:=hide h1
 clear h1 H0
 go_wp2_with fail
 refine(wr1 (x:=0) (by omega) H1.out (by(try simp only[List.length_append,List.length_cons,List.length_nil]);have:=HN.out;omega) _).mono ?_
 rintro e w3 ⟨rfl,h2⟩
 clear c0 c1 c2 c3 c4 l0
 obtain⟨c0,-⟩:=h2.cl 0 0
 obtain⟨c1,-⟩:=h2.cl 0 1
 obtain⟨c2,-⟩:=h2.cl 0 2
 obtain⟨c3,-⟩:=h2.cl 0 3
 obtain⟨c4,-⟩:=h2.cl 0 4
 have l0:=h2.lt 0
 have H2:=hide h2
 clear h2 H1
 go_wp2_with fail
 refine(wrConstant_all x.first hc.1 hc.2 H2.out (by(try simp only[List.length_append,List.length_cons,List.length_nil]);have:=HN.out;omega)).mono ?_
 rintro e w4 ⟨rfl,h3⟩
 have H3:=hide h3.pop
 clear h3 H2 c0 c1 c2 c3 c4 l0
 go_wp2
 go_end0
 exact⟨rfl,by simpa [List.append_assoc] using H3.out⟩
theorem wrGlobal_all (x:Glb) (hc:Cok x.first) (h:WW w0 wb os Y w) (hn:os.length+20≤1000000000000):Calls Tryz.prog 22 #[.pointer (some ⟨wb,0,none⟩),.agg #[.int .u8 (x.kind:Nat),.bool x.set_,.int .i64 (x.first.at_:Nat),.int .u8 (x.first.kind:Nat),.int .i64 x.first.val]] w (fun e w'=>e=.returned (.tuple #[])∧WW w0 wb (os++globN x) Y w'):=by
 cases e:x.set_ with
 | false=>rw[show globN x=[x.kind]++[0]++constN x.first by unfold globN;rw[e];rfl];exact wrGlobal_f x hc h hn
 | true=>rw[show globN x=[x.kind]++[1]++constN x.first by unfold globN;rw[e];rfl];exact wrGlobal_t x hc h hn
def kindsN (ks:List Nat):List Nat:=uN (ks.length:Nat)++ks.flatMap fun k=>[k]
def numsN (ns:List Nat):List Nat:=uN (ns.length:Nat)++ns.flatMap fun(n:Nat)=>uN n
def typeN (x:List Nat×List Nat):List Nat:=[96]++kindsN x.1++kindsN x.2
def elemN (x:Cst×List Nat):List Nat:=[0]++constN x.1++numsN x.2
def namesN (l:List Nam):List Nat:=uN (l.length:Nat)++l.flatMap nameN
def locN (x:Nat×List Nam):List Nat:=uN (x.1:Nat)++namesN x.2
theorem flat_len {α:Type} {f:α→List Nat} {M:Nat}:∀(l:List α),(∀x∈l,(f x).length≤M)→(l.flatMap f).length≤l.length*M
 | [],_=>by simp
 | x::l,h=>by
  have:=flat_len l (fun y hy=>h y (List.mem_cons_of_mem _ hy))
  have:=h x (List.mem_cons_self ..)
  rw[List.flatMap_cons,List.length_append,List.length_cons,Nat.add_mul]
  omega
theorem kindsN_len (ks:List Nat):(kindsN ks).length≤6+ks.length:=by
 unfold kindsN
 rw[List.length_append]
 have:=uN_len (ks.length:Nat)
 have:=flat_len (f:=fun k:Nat=>[k]) (M:=1) ks (fun _ _=>by simp)
 omega
theorem numsN_len (ks:List Nat):(numsN ks).length≤6+ks.length*6:=by
 unfold numsN
 rw[List.length_append]
 have:=uN_len (ks.length:Nat)
 have:=flat_len (f:=fun n:Nat=>uN n) (M:=6) ks (fun n _=>uN_len n)
 omega
theorem nameN_len {x:Nam} (h:x.2.size≤1000):(nameN x).length≤1012:=by
 unfold nameN
 rw[List.length_append]
 have:=uN_len (x.1:Nat)
 have:=sizedN_len x.2
 omega
theorem namesN_len {l:List Nam} (h:∀x∈l,x.2.size≤1000):(namesN l).length≤6+l.length*1012:=by
 unfold namesN
 rw[List.length_append]
 have:=uN_len (l.length:Nat)
 have:=flat_len (f:=nameN) (M:=1012) l (fun x hx=>nameN_len (h x hx))
 omega
theorem kind_flat (ks:List Nat):kindCells ks=ks.flatMap fun(x:Nat)=>([.int .u8 (x:Nat)]:List Value):=by
 unfold kindCells
 induction ks with
 | nil=>rfl
 | cons a l ih=>simp[ih]
theorem kinds_all {ks:List Nat} {v:Value} (hr:HasR R 73 1 v ks.length (kindCells ks)) (hs:∀p∈R,p∈Y) (hm:ks.length≤1000) (h:WW w0 wb os Y w) (hn:os.length+2000≤1000000000000):
  Calls Tryz.prog 42 #[.pointer (some ⟨wb,0,none⟩),v,.func (.func 43) #[] #[]] w (fun e w'=>e=.returned (.tuple #[])∧WW w0 wb (os++kindsN ks) Y w'):=by
 rw[kind_flat] at hr
 exact liKind_all (P:=43) (M:=1) (pf:=fun k=>[k]) (enters_of Tryz.func43 (by kernel_rfl) (by kernel_rfl)) (fun x _ os Y' w' hn _ hW=>wrKind_all x hW (by omega)) (fun _ _=>by simp) hr hs hm (by omega) h (by omega)
theorem nums_all {ns:List Nat} {v:Value} (hb:∀x∈ns,x≤4294967295) (hr:HasR R 66 2 v ns.length (ns.flatMap nuC)) (hs:∀p∈R,p∈Y) (hm:ns.length≤1000) (h:WW w0 wb os Y w) (hn:os.length+7000≤1000000000000):
  Calls Tryz.prog 45 #[.pointer (some ⟨wb,0,none⟩),v,.func (.func 17) #[] #[]] w (fun e w'=>e=.returned (.tuple #[])∧WW w0 wb (os++numsN ns) Y w'):=
 liNumber_all (P:=17) (M:=6) (pf:=fun n:Nat=>uN n) (enters_of Tryz.func17 (by kernel_rfl) (by kernel_rfl)) (fun x hx os Y' w' hn _ hW=>wrNumber_all x 0 (hb x hx) hW (by omega)) (fun x _=>uN_len x) hr hs hm (by omega) h (by omega)
theorem names_all {ns:List Nam} {v:Value} (hb:∀x∈ns,x.1≤4294967295∧x.2.size≤1000) (hr:HasR R 135 2 v ns.length (ns.flatMap namCells)) (hs:∀p∈R,p∈Y) (hm:ns.length≤1000) (h:WW w0 wb os Y w) (hn:os.length+2000000≤1000000000000):
  Calls Tryz.prog 79 #[.pointer (some ⟨wb,0,none⟩),v,.func (.func 68) #[] #[]] w (fun e w'=>e=.returned (.tuple #[])∧WW w0 wb (os++namesN ns) Y w'):=
 liName_all (P:=68) (M:=1012) (pf:=nameN) (enters_of Tryz.func68 (by kernel_rfl) (by kernel_rfl)) (fun x hx os Y' w' hn _ hW=>wrName_all x (hb x hx).1 (by have:=(hb x hx).2;omega) hW (by have:=(hb x hx).2;omega)) (fun x hx=>nameN_len (hb x hx).2) hr hs hm (by omega) h (by omega)
set_option maxRecDepth 100000 in
set_option maxHeartbeats 1600000 in
theorem wrType_all (x:List Nat×List Nat) {v1 v2:Value} (hr1:HasR R 73 1 v1 x.1.length (kindCells x.1)) (hr2:HasR R 73 1 v2 x.2.length (kindCells x.2)) (hs:∀p∈R,p∈Y) (m1:x.1.length≤50) (m2:x.2.length≤50) (h:WW w0 wb os Y w) (hn:os.length+5000≤1000000000000):Calls Tryz.prog 15 #[.pointer (some ⟨wb,0,none⟩),.agg #[v1,v2]] w (fun e w'=>e=.returned (.tuple #[])∧WW w0 wb (os++typeN x) Y w'):=by
 have hnot:∀(x:Bool) (w:World),(Op.unary .not (.bool x)).run Tryz.prog w=.ok (.bool (!x)) w:=fun _ _=>rfl
 obtain⟨p2,q2,rfl⟩:=Row.shape (h.row hr2 hs)
 have HR2:=hide hr2
 clear hr2
 obtain⟨p1,q1,rfl⟩:=Row.shape (h.row hr1 hs)
 have HR1:=hide hr1
 have HS:=hide hs
 clear hr1 hs
 have H0:=hide (h.new #[.slice p1 x.1.length q1,.slice p2 x.2.length q2] 47)
 have HN:=hide hn
 clear h hn
 go_enter Tryz.func15,Tryz.ntmps15
 go_upto_region 1 with fail
 generalize w.alloc (.cells #[.slice p1 x.1.length q1,.slice p2 x.2.length q2] 47)=w1 at*
 generalize w.heap.size=b at*
 obtain⟨c0,-⟩:=H0.out.cl 0 0
 obtain⟨c1,-⟩:=H0.out.cl 0 1
 have l0:=H0.out.lt 0
 go_wp2_with fail
 refine(wr1 (x:=96) (by omega) H0.out (by(try simp only[List.length_append,List.length_cons,List.length_nil]);have:=HN.out;omega) _).mono ?_
 rintro e w2 ⟨rfl,h1⟩
 clear c0 c1 l0
 obtain⟨c0,-⟩:=h1.cl 0 0
 obtain⟨c1,-⟩:=h1.cl 0 1
 have l0:=h1.lt 0
 have H1:=hide h1
 clear h1 H0
 go_wp2_with fail
 refine(kinds_all HR1.out (fun p hp=>List.mem_cons_of_mem _ (HS.out p hp)) (by omega) H1.out (by(try simp only[List.length_append,List.length_cons,List.length_nil]);have:=HN.out;omega)).mono ?_
 rintro e w3 ⟨rfl,h2⟩
 clear c0 c1 l0
 obtain⟨c0,-⟩:=h2.cl 0 0
 obtain⟨c1,-⟩:=h2.cl 0 1
 have l0:=h2.lt 0
 have H2:=hide h2
 clear h2 H1
 go_wp2_with fail
 refine(kinds_all HR2.out (fun p hp=>List.mem_cons_of_mem _ (HS.out p hp)) (by omega) H2.out (by(try simp only[List.length_append,List.length_cons,List.length_nil]);have:=kindsN_len x.1;have:=HN.out;omega)).mono ?_
 rintro e w4 ⟨rfl,h3⟩
 have H3:=hide h3.pop
 clear h3 H2 c0 c1 l0
 go_wp2
 go_end0
 exact⟨rfl,by simpa [typeN,List.append_assoc] using H3.out⟩
set_option maxRecDepth 100000 in
set_option maxHeartbeats 1600000 in
theorem wrElement_all (x:Cst×List Nat) {v1:Value} (hc:Cok x.1) (hb:∀y∈x.2,y≤4294967295) (hr1:HasR R 66 2 v1 x.2.length (x.2.flatMap nuC)) (hs:∀p∈R,p∈Y) (m1:x.2.length≤1000) (h:WW w0 wb os Y w) (hn:os.length+8000≤1000000000000):Calls Tryz.prog 27 #[.pointer (some ⟨wb,0,none⟩),.agg #[.int .i64 0,.int .i64 (x.1.at_:Nat),.int .u8 (x.1.kind:Nat),.int .i64 x.1.val,v1]] w (fun e w'=>e=.returned (.tuple #[])∧WW w0 wb (os++elemN x) Y w'):=by
 have hnot:∀(x:Bool) (w:World),(Op.unary .not (.bool x)).run Tryz.prog w=.ok (.bool (!x)) w:=fun _ _=>rfl
 obtain⟨p1,q1,rfl⟩:=Row.shape (h.row hr1 hs)
 have HR1:=hide hr1
 have HS:=hide hs
 clear hr1 hs
 have H0:=hide (h.new #[.int .i64 0,.int .i64 (x.1.at_:Nat),.int .u8 (x.1.kind:Nat),.int .i64 x.1.val,.slice p1 x.2.length q1] 86)
 have HN:=hide hn
 clear h hn
 go_enter Tryz.func27,Tryz.ntmps27
 go_upto_region 1 with fail
 generalize w.alloc (.cells #[.int .i64 0,.int .i64 (x.1.at_:Nat),.int .u8 (x.1.kind:Nat),.int .i64 x.1.val,.slice p1 x.2.length q1] 86)=w1 at*
 generalize w.heap.size=b at*
 obtain⟨c0,-⟩:=H0.out.cl 0 0
 obtain⟨c1,-⟩:=H0.out.cl 0 1
 obtain⟨c2,-⟩:=H0.out.cl 0 2
 obtain⟨c3,-⟩:=H0.out.cl 0 3
 obtain⟨c4,-⟩:=H0.out.cl 0 4
 have l0:=H0.out.lt 0
 go_wp2_with fail
 refine(wr1 (x:=0) (by omega) H0.out (by(try simp only[List.length_append,List.length_cons,List.length_nil]);have:=HN.out;omega) _).mono ?_
 rintro e w2 ⟨rfl,h1⟩
 clear c0 c1 c2 c3 c4 l0
 obtain⟨c0,-⟩:=h1.cl 0 0
 obtain⟨c1,-⟩:=h1.cl 0 1
 obtain⟨c2,-⟩:=h1.cl 0 2
 obtain⟨c3,-⟩:=h1.cl 0 3
 obtain⟨c4,-⟩:=h1.cl 0 4
 have l0:=h1.lt 0
 have H1:=hide h1
 clear h1 H0
 go_wp2_with fail
 refine(wrConstant_all x.1 hc.1 hc.2 H1.out (by(try simp only[List.length_append,List.length_cons,List.length_nil]);have:=HN.out;omega)).mono ?_
 rintro e w3 ⟨rfl,h2⟩
 clear c0 c1 c2 c3 c4 l0
 obtain⟨c0,-⟩:=h2.cl 0 0
 obtain⟨c1,-⟩:=h2.cl 0 1
 obtain⟨c2,-⟩:=h2.cl 0 2
 obtain⟨c3,-⟩:=h2.cl 0 3
 obtain⟨c4,-⟩:=h2.cl 0 4
 have l0:=h2.lt 0
 have H2:=hide h2
 clear h2 H1
 go_wp2_with fail
 refine(nums_all hb HR1.out (fun p hp=>List.mem_cons_of_mem _ (HS.out p hp)) (by omega) H2.out (by(try simp only[List.length_append,List.length_cons,List.length_nil]);have:=constN_len x.1;have:=HN.out;omega)).mono ?_
 rintro e w4 ⟨rfl,h3⟩
 have H3:=hide h3.pop
 clear h3 H2 c0 c1 c2 c3 c4 l0
 go_wp2
 go_end0
 exact⟨rfl,by simpa [elemN,List.append_assoc] using H3.out⟩
set_option maxRecDepth 100000 in
set_option maxHeartbeats 1600000 in
theorem wrLocalNames_all (x:Nat×List Nam) {v1:Value} (hx:x.1≤4294967295) (hb:∀y∈x.2,y.1≤4294967295∧y.2.size≤1000) (hr1:HasR R 135 2 v1 x.2.length (x.2.flatMap namCells)) (hs:∀p∈R,p∈Y) (m1:x.2.length≤1000) (h:WW w0 wb os Y w) (hn:os.length+2000100≤1000000000000):Calls Tryz.prog 71 #[.pointer (some ⟨wb,0,none⟩),.agg #[.int .i64 (x.1:Nat),v1]] w (fun e w'=>e=.returned (.tuple #[])∧WW w0 wb (os++locN x) Y w'):=by
 have hnot:∀(x:Bool) (w:World),(Op.unary .not (.bool x)).run Tryz.prog w=.ok (.bool (!x)) w:=fun _ _=>rfl
 have hw:IntKind.u32.wrap (x.1:Int)=(x.1:Int):=wrap_u32 hx
 obtain⟨p1,q1,rfl⟩:=Row.shape (h.row hr1 hs)
 have HR1:=hide hr1
 have HS:=hide hs
 clear hr1 hs
 have H0:=hide (h.new #[.int .i64 (x.1:Nat),.slice p1 x.2.length q1] 139)
 have HN:=hide hn
 clear h hn
 go_enter Tryz.func71,Tryz.ntmps71
 go_upto_region 1 with fail
 generalize w.alloc (.cells #[.int .i64 (x.1:Nat),.slice p1 x.2.length q1] 139)=w1 at*
 generalize w.heap.size=b at*
 obtain⟨c0,-⟩:=H0.out.cl 0 0
 obtain⟨c1,-⟩:=H0.out.cl 0 1
 have l0:=H0.out.lt 0
 go_wp2_with fail
 refine(wrU_all (n:=(x.1:Int)) (by omega) (by omega) H0.out (by(try simp only[List.length_append,List.length_cons,List.length_nil]);have:=HN.out;omega)).mono ?_
 rintro e w2 ⟨rfl,h1⟩
 clear c0 c1 l0
 obtain⟨c0,-⟩:=h1.cl 0 0
 obtain⟨c1,-⟩:=h1.cl 0 1
 have l0:=h1.lt 0
 have H1:=hide h1
 clear h1 H0
 go_wp2_with fail
 refine(names_all hb HR1.out (fun p hp=>List.mem_cons_of_mem _ (HS.out p hp)) (by omega) H1.out (by(try simp only[List.length_append,List.length_cons,List.length_nil]);have:=uN_len (x.1:Nat);have:=HN.out;omega)).mono ?_
 rintro e w3 ⟨rfl,h2⟩
 have H2:=hide h2.pop
 clear h2 H1 c0 c1 l0
 go_wp2
 go_end0
 exact⟨rfl,by simpa [locN,List.append_assoc] using H2.out⟩
end
end
section
open Go.RowKit
set_option linter.unusedSimpArgs false
set_option linter.unusedVariables false
section
variable {w0 w:World} {wb:Nat} {os:List Nat} {Y R:List It}
def withinN (xs:List Nat):List Nat:=sizedN (strN xs)
def partN (k n:Nat) (xs:List Nat):List Nat:=if n=0 then[] else[k]++withinN xs
theorem strN_size (xs:List Nat):(strN xs).size=xs.length:=by
 show(List.toArray _).size=_
 simp
theorem withinN_len (xs:List Nat):(withinN xs).length≤xs.length+6:=by
 have:=sizedN_len (strN xs)
 rw[strN_size] at this
 exact this
theorem WW.inner (h:WW w0 wb os Y w) (t:TypeId):∃vB,WW w0 w.heap.size [] (.b wb [vB]::.r 5 1 vB os.length (byteCells os)::Y) (w.alloc (.cells #[.slice none 0 0] t)):=by
 obtain⟨vB,h⟩:=h
 refine⟨vB,.slice none 0 0,?_⟩
 have h1:=(h.new #[.slice none 0 0] t).perm (List.perm_append_singleton _ _)
 exact h1.insN 1 5 1
theorem WW.outer {vB:Value} {b:Nat} {xs:List Nat} (h:WW w0 b xs (.b wb [vB]::.r 5 1 vB os.length (byteCells os)::Y) w):WW w0 wb os Y w:=by
 obtain⟨v2,h⟩:=h
 exact⟨vB,h.sub ((List.Sublist.refl _).cons _ |>.cons _)⟩
set_option maxRecDepth 100000 in
set_option maxHeartbeats 1600000 in
theorem wrWithin1 {F a1:Nat} {xs:List Nat} (hF:Enters F) (hx:xs.length≤4000000000)
  (hfill:∀b Y' w',(∀p∈Y,p∈Y')→WW w0 b [] Y' w'→Calls Tryz.prog F #[.pointer (some ⟨b,0,none⟩),.pointer (some ⟨a1,0,none⟩)] w' (fun e w2=>e=.returned (.tuple #[])∧WW w0 b xs Y' w2)) (h:WW w0 wb os Y w) (hn:os.length+xs.length+6≤1000000000000):
  Calls Tryz.prog 39 #[.pointer (some ⟨wb,0,none⟩),.func (.func F) #[] #[.pointer (some ⟨a1,0,none⟩)]] w (fun e w'=>e=.returned (.tuple #[])∧WW w0 wb (os++withinN xs) Y w'):=by
 have hcl:∀(args:Array Value) (w:World),(callFunc F args).run Tryz.prog w=.ok (.enter F args) w:=hF
 have H:=hide h
 have HN:=hide hn
 have HF:=hide hfill
 clear h hn hfill hF
 go_enter Tryz.func39,Tryz.ntmps39
 go_upto_region 1 with fail
 obtain⟨vB,h1⟩:=H.out.inner 42
 generalize w.alloc (.cells #[.slice none 0 0] 42)=w1 at*
 generalize w.heap.size=b at*
 have H1:=hide h1
 clear h1 H
 go_wp2_with fail
 refine(HF.out b _ _ (fun p hp=>List.mem_cons_of_mem _ (List.mem_cons_of_mem _ hp)) H1.out).mono ?_
 rintro e w2 ⟨rfl,h2⟩
 have H2:=hide h2
 clear h2 H1 HF
 go_wp2_with fail
 refine(wrAll_all H2.out).mono ?_
 rintro e w3 ⟨rfl,h3⟩
 have H3:=hide h3.outer
 clear h3 H2
 go_wp2_with fail
 refine(wrSized_all (strN xs) (by rw[strN_size];omega) H3.out (by rw[strN_size];have:=HN.out;omega)).mono ?_
 rintro e w4 ⟨rfl,h4⟩
 have H4:=hide h4
 clear h4 H3
 go_wp2
 go_end0
 exact⟨rfl,H4.out⟩
set_option maxRecDepth 100000 in
set_option maxHeartbeats 1600000 in
theorem wrWithin2 {F a1 a2:Nat} {xs:List Nat} (hF:Enters F) (hx:xs.length≤4000000000)
  (hfill:∀b Y' w',(∀p∈Y,p∈Y')→WW w0 b [] Y' w'→Calls Tryz.prog F #[.pointer (some ⟨b,0,none⟩),.pointer (some ⟨a1,0,none⟩),.pointer (some ⟨a2,0,none⟩)] w' (fun e w2=>e=.returned (.tuple #[])∧WW w0 b xs Y' w2)) (h:WW w0 wb os Y w) (hn:os.length+xs.length+6≤1000000000000):
  Calls Tryz.prog 39 #[.pointer (some ⟨wb,0,none⟩),.func (.func F) #[] #[.pointer (some ⟨a1,0,none⟩),.pointer (some ⟨a2,0,none⟩)]] w (fun e w'=>e=.returned (.tuple #[])∧WW w0 wb (os++withinN xs) Y w'):=by
 have hcl:∀(args:Array Value) (w:World),(callFunc F args).run Tryz.prog w=.ok (.enter F args) w:=hF
 have H:=hide h
 have HN:=hide hn
 have HF:=hide hfill
 clear h hn hfill hF
 go_enter Tryz.func39,Tryz.ntmps39
 go_upto_region 1 with fail
 obtain⟨vB,h1⟩:=H.out.inner 42
 generalize w.alloc (.cells #[.slice none 0 0] 42)=w1 at*
 generalize w.heap.size=b at*
 have H1:=hide h1
 clear h1 H
 go_wp2_with fail
 refine(HF.out b _ _ (fun p hp=>List.mem_cons_of_mem _ (List.mem_cons_of_mem _ hp)) H1.out).mono ?_
 rintro e w2 ⟨rfl,h2⟩
 have H2:=hide h2
 clear h2 H1 HF
 go_wp2_with fail
 refine(wrAll_all H2.out).mono ?_
 rintro e w3 ⟨rfl,h3⟩
 have H3:=hide h3.outer
 clear h3 H2
 go_wp2_with fail
 refine(wrSized_all (strN xs) (by rw[strN_size];omega) H3.out (by rw[strN_size];have:=HN.out;omega)).mono ?_
 rintro e w4 ⟨rfl,h4⟩
 have H4:=hide h4
 clear h4 H3
 go_wp2
 go_end0
 exact⟨rfl,H4.out⟩
end
end
section
open Go.RowKit
set_option linter.unusedSimpArgs false
set_option linter.unusedVariables false
section
variable {w0 w:World} {wb:Nat} {os:List Nat} {Y R:List It}
def blockN (x:InsT):List Nat:=if x.typed=true then sN x.num else match x.gives with
 | k::_=>[k]
 | []=>[64]
theorem blockN_len (x:InsT):(blockN x).length≤10:=by
 unfold blockN
 split
 ·exact sN_len _
 ·split<;>simp
set_option maxRecDepth 100000 in
set_option maxHeartbeats 1600000 in
theorem wrInsBlock_t (x:InsT) {vg vl:Value} (hr1:HasR R 73 1 vg x.gives.length (kindCells x.gives)) (hr2:HasR R 66 2 vl x.labels.length (x.labels.flatMap nuC)) (hs:∀p∈R,p∈Y) (m1:x.labels.length≤1000) (hb:∀y∈x.labels,y≤4294967295) (ha:Uok x.align) (hu:Uok x.num) (hv: -9223372036854775808≤x.value∧x.value≤9223372036854775807) (h:WW w0 wb os Y w) (hn:os.length+20≤1000000000000):Calls Tryz.prog 77 #[.agg #[.int .i64 0,.int .i64 0,.int .u8 (x.word:Nat),.bool true,vg,.int .u32 x.align,.int .u32 x.num,.int .i64 0,vl,.int .i64 x.value],.pointer (some ⟨wb,0,none⟩)] w (fun e w'=>e=.returned (.tuple #[])∧WW w0 wb (os++(sN x.num)) Y w'):=by
 have hnot:∀(x:Bool) (w:World),(Op.unary .not (.bool x)).run Tryz.prog w=.ok (.bool (!x)) w:=fun _ _=>rfl
 have hw:IntKind.i64.wrap x.num=x.num:=IntWalk.i64_in _ ⟨by have:=hu.1;omega,by have:=hu.2;omega⟩
 obtain⟨p1,q1,rfl⟩:=Row.shape (h.row hr1 hs)
 obtain⟨p2,q2,rfl⟩:=Row.shape (h.row hr2 hs)
 have HR1:=hide hr1
 have HR2:=hide hr2
 have HS:=hide hs
 have HU:Hid (Uok x.align∧Uok x.num∧(-9223372036854775808≤x.value∧x.value≤9223372036854775807)):=⟨ha,hu,hv⟩
 have HLB:=hide hb
 clear hr1 hr2 hs ha hu hv hb
 have H0:=hide (h.new #[.int .i64 0,.int .i64 0,.int .u8 (x.word:Nat),.bool true,.slice p1 x.gives.length q1,.int .u32 x.align,.int .u32 x.num,.int .i64 0,.slice p2 x.labels.length q2,.int .i64 x.value] 131)
 have HN:=hide hn
 clear h hn
 go_enter Tryz.func77,Tryz.ntmps77
 go_upto_region 2 with fail
 generalize w.alloc (.cells #[.int .i64 0,.int .i64 0,.int .u8 (x.word:Nat),.bool true,.slice p1 x.gives.length q1,.int .u32 x.align,.int .u32 x.num,.int .i64 0,.slice p2 x.labels.length q2,.int .i64 x.value] 131)=w1 at*
 generalize w.heap.size=b at*
 obtain⟨c0,-⟩:=H0.out.cl 0 0
 obtain⟨c1,-⟩:=H0.out.cl 0 1
 obtain⟨c2,-⟩:=H0.out.cl 0 2
 obtain⟨c3,-⟩:=H0.out.cl 0 3
 obtain⟨c4,-⟩:=H0.out.cl 0 4
 obtain⟨c5,-⟩:=H0.out.cl 0 5
 obtain⟨c6,-⟩:=H0.out.cl 0 6
 obtain⟨c7,-⟩:=H0.out.cl 0 7
 obtain⟨c8,-⟩:=H0.out.cl 0 8
 obtain⟨c9,-⟩:=H0.out.cl 0 9
 have l0:=H0.out.lt 0
 go_wp2_with fail
 refine(wrS_all (n:=x.num) (by have:=HU.out.2.1.1;omega) (by have:=HU.out.2.1.2;omega) H0.out (by(try simp only[List.length_append,List.length_cons,List.length_nil]);have:=HN.out;omega)).mono ?_
 rintro e w2 ⟨rfl,h1⟩
 have H1:=hide h1.pop
 clear h1 H0 c0 c1 c2 c3 c4 c5 c6 c7 c8 c9 l0
 go_wp2
 go_end0
 exact⟨rfl,by simpa [List.append_assoc] using H1.out⟩
set_option maxRecDepth 100000 in
set_option maxHeartbeats 1600000 in
theorem wrInsBlock_n (x:InsT) {vg vl:Value} (hr1:HasR R 73 1 vg x.gives.length (kindCells x.gives)) (hr2:HasR R 66 2 vl x.labels.length (x.labels.flatMap nuC)) (hs:∀p∈R,p∈Y) (m1:x.labels.length≤1000) (hb:∀y∈x.labels,y≤4294967295) (ha:Uok x.align) (hu:Uok x.num) (hv: -9223372036854775808≤x.value∧x.value≤9223372036854775807) (hg:x.gives.length=0) (h:WW w0 wb os Y w) (hn:os.length+20≤1000000000000):Calls Tryz.prog 77 #[.agg #[.int .i64 0,.int .i64 0,.int .u8 (x.word:Nat),.bool false,vg,.int .u32 x.align,.int .u32 x.num,.int .i64 0,vl,.int .i64 x.value],.pointer (some ⟨wb,0,none⟩)] w (fun e w'=>e=.returned (.tuple #[])∧WW w0 wb (os++[64]) Y w'):=by
 have hnot:∀(x:Bool) (w:World),(Op.unary .not (.bool x)).run Tryz.prog w=.ok (.bool (!x)) w:=fun _ _=>rfl
 rw[hg] at hr1
 clear hg
 obtain⟨p1,q1,rfl⟩:=Row.shape (h.row hr1 hs)
 obtain⟨p2,q2,rfl⟩:=Row.shape (h.row hr2 hs)
 have HR1:=hide hr1
 have HR2:=hide hr2
 have HS:=hide hs
 have HU:Hid (Uok x.align∧Uok x.num∧(-9223372036854775808≤x.value∧x.value≤9223372036854775807)):=⟨ha,hu,hv⟩
 have HLB:=hide hb
 clear hr1 hr2 hs ha hu hv hb
 have H0:=hide (h.new #[.int .i64 0,.int .i64 0,.int .u8 (x.word:Nat),.bool false,.slice p1 0 q1,.int .u32 x.align,.int .u32 x.num,.int .i64 0,.slice p2 x.labels.length q2,.int .i64 x.value] 131)
 have HN:=hide hn
 clear h hn
 go_enter Tryz.func77,Tryz.ntmps77
 go_upto_region 2 with fail
 generalize w.alloc (.cells #[.int .i64 0,.int .i64 0,.int .u8 (x.word:Nat),.bool false,.slice p1 0 q1,.int .u32 x.align,.int .u32 x.num,.int .i64 0,.slice p2 x.labels.length q2,.int .i64 x.value] 131)=w1 at*
 generalize w.heap.size=b at*
 obtain⟨c0,-⟩:=H0.out.cl 0 0
 obtain⟨c1,-⟩:=H0.out.cl 0 1
 obtain⟨c2,-⟩:=H0.out.cl 0 2
 obtain⟨c3,-⟩:=H0.out.cl 0 3
 obtain⟨c4,-⟩:=H0.out.cl 0 4
 obtain⟨c5,-⟩:=H0.out.cl 0 5
 obtain⟨c6,-⟩:=H0.out.cl 0 6
 obtain⟨c7,-⟩:=H0.out.cl 0 7
 obtain⟨c8,-⟩:=H0.out.cl 0 8
 obtain⟨c9,-⟩:=H0.out.cl 0 9
 have l0:=H0.out.lt 0
 go_wp2_with fail
 refine(wr1 (x:=64) (by omega) H0.out (by(try simp only[List.length_append,List.length_cons,List.length_nil]);have:=HN.out;omega) _).mono ?_
 rintro e w2 ⟨rfl,h1⟩
 have H1:=hide h1.pop
 clear h1 H0 c0 c1 c2 c3 c4 c5 c6 c7 c8 c9 l0
 go_wp2
 go_end0
 exact⟨rfl,by simpa [List.append_assoc] using H1.out⟩
set_option maxRecDepth 100000 in
set_option maxHeartbeats 1600000 in
theorem wrInsBlock_k (k n:Nat) (x:InsT) {vg vl:Value} (hr1:HasR R 73 1 vg x.gives.length (kindCells x.gives)) (hr2:HasR R 66 2 vl x.labels.length (x.labels.flatMap nuC)) (hs:∀p∈R,p∈Y) (m1:x.labels.length≤1000) (hb:∀y∈x.labels,y≤4294967295) (ha:Uok x.align) (hu:Uok x.num) (hv: -9223372036854775808≤x.value∧x.value≤9223372036854775807) (hg:x.gives.length=n+1) (hk:x.gives[0]?=some k) (h:WW w0 wb os Y w) (hn:os.length+20≤1000000000000):Calls Tryz.prog 77 #[.agg #[.int .i64 0,.int .i64 0,.int .u8 (x.word:Nat),.bool false,vg,.int .u32 x.align,.int .u32 x.num,.int .i64 0,vl,.int .i64 x.value],.pointer (some ⟨wb,0,none⟩)] w (fun e w'=>e=.returned (.tuple #[])∧WW w0 wb (os++[k]) Y w'):=by
 have hnot:∀(x:Bool) (w:World),(Op.unary .not (.bool x)).run Tryz.prog w=.ok (.bool (!x)) w:=fun _ _=>rfl
 rw[hg] at hr1
 obtain⟨gT,cpT,rfl,-,hgl,-,hcell⟩:=Row.cells (h.row hr1 hs) (by omega)
 have HK:Hid (x.gives[0]?=some k):=hk
 have hlt:(0:Int)<((n:Int)+1):=by omega
 clear hcell hgl hg hk
 obtain⟨p2,q2,rfl⟩:=Row.shape (h.row hr2 hs)
 have HR1:=hide hr1
 have HR2:=hide hr2
 have HS:=hide hs
 have HU:Hid (Uok x.align∧Uok x.num∧(-9223372036854775808≤x.value∧x.value≤9223372036854775807)):=⟨ha,hu,hv⟩
 have HLB:=hide hb
 clear hr1 hr2 hs ha hu hv hb
 have H0:=hide (h.new #[.int .i64 0,.int .i64 0,.int .u8 (x.word:Nat),.bool false,.slice (some ⟨gT,0,none⟩) (n+1) cpT,.int .u32 x.align,.int .u32 x.num,.int .i64 0,.slice p2 x.labels.length q2,.int .i64 x.value] 131)
 have HN:=hide hn
 clear h hn
 go_enter Tryz.func77,Tryz.ntmps77
 go_upto_region 2 with fail
 generalize w.alloc (.cells #[.int .i64 0,.int .i64 0,.int .u8 (x.word:Nat),.bool false,.slice (some ⟨gT,0,none⟩) (n+1) cpT,.int .u32 x.align,.int .u32 x.num,.int .i64 0,.slice p2 x.labels.length q2,.int .i64 x.value] 131)=w1 at*
 generalize w.heap.size=b at*
 obtain⟨c0,-⟩:=H0.out.cl 0 0
 obtain⟨c1,-⟩:=H0.out.cl 0 1
 obtain⟨c2,-⟩:=H0.out.cl 0 2
 obtain⟨c3,-⟩:=H0.out.cl 0 3
 obtain⟨c4,-⟩:=H0.out.cl 0 4
 obtain⟨c5,-⟩:=H0.out.cl 0 5
 obtain⟨c6,-⟩:=H0.out.cl 0 6
 obtain⟨c7,-⟩:=H0.out.cl 0 7
 obtain⟨c8,-⟩:=H0.out.cl 0 8
 obtain⟨c9,-⟩:=H0.out.cl 0 9
 have l0:=H0.out.lt 0
 obtain⟨gT2,cpT2,e9,-,hgl,-,hcell⟩:=Row.cells (H0.out.row HR1.out (fun p hp=>List.mem_cons_of_mem _ (HS.out p hp))) (by omega)
 cases e9
 have hc0:w1.cell? ⟨gT,0,none⟩=some (.int .u8 (k:Nat)):=(hcell 0 (by omega)).trans (show(kindCells x.gives)[0]?=some (.int .u8 (k:Nat)) by unfold kindCells;rw[List.getElem?_map,HK.out];rfl)
 clear hcell
 go_wp2_with fail
 refine(wrKind_all k H0.out (by(try simp only[List.length_append,List.length_cons,List.length_nil]);have:=HN.out;omega)).mono ?_
 rintro e w2 ⟨rfl,h1⟩
 have H1:=hide h1.pop
 clear h1 H0 c0 c1 c2 c3 c4 c5 c6 c7 c8 c9 l0
 go_wp2
 go_end0
 exact⟨rfl,by simpa [List.append_assoc] using H1.out⟩
end
end
section
open Go.RowKit
set_option linter.unusedSimpArgs false
set_option linter.unusedVariables false
section
variable {w0 w:World} {wb:Nat} {os:List Nat} {Y R:List It}
theorem wrInsBlock_all (x:InsT) {vg vl:Value} (hr1:HasR R 73 1 vg x.gives.length (kindCells x.gives)) (hr2:HasR R 66 2 vl x.labels.length (x.labels.flatMap nuC)) (hs:∀p∈R,p∈Y) (m1:x.labels.length≤1000) (hb:∀y∈x.labels,y≤4294967295) (ha:Uok x.align) (hu:Uok x.num) (hv: -9223372036854775808≤x.value∧x.value≤9223372036854775807) (h:WW w0 wb os Y w) (hn:os.length+20≤1000000000000):Calls Tryz.prog 77 #[.agg #[.int .i64 0,.int .i64 0,.int .u8 (x.word:Nat),.bool x.typed,vg,.int .u32 x.align,.int .u32 x.num,.int .i64 0,vl,.int .i64 x.value],.pointer (some ⟨wb,0,none⟩)] w (fun e w'=>e=.returned (.tuple #[])∧WW w0 wb (os++blockN x) Y w'):=by
 cases et:x.typed with
 | true=>
  rw[show blockN x=sN x.num by unfold blockN;rw[if_pos et]]
  exact wrInsBlock_t x hr1 hr2 hs m1 hb ha hu hv h hn
 | false=>
  cases eg:x.gives with
  | nil=>
   rw[show blockN x=[64] by unfold blockN;rw[if_neg (by rw[et];decide),eg]]
   exact wrInsBlock_n x hr1 hr2 hs m1 hb ha hu hv (by rw[eg];rfl) h hn
  | cons k r=>
   rw[show blockN x=[k] by unfold blockN;rw[if_neg (by rw[et];decide),eg]]
   exact wrInsBlock_k k r.length x hr1 hr2 hs m1 hb ha hu hv (by rw[eg];rfl) (by rw[eg];rfl) h hn
end
end
section
open Go.RowKit
set_option linter.unusedSimpArgs false
set_option linter.unusedVariables false
section
variable {w0 w:World} {wb:Nat} {os:List Nat} {Y R:List It}
set_option maxRecDepth 100000 in
set_option maxHeartbeats 1600000 in
theorem wrIns_2 (x:InsT) {vg vl:Value} (hr1:HasR R 73 1 vg x.gives.length (kindCells x.gives)) (hr2:HasR R 66 2 vl x.labels.length (x.labels.flatMap nuC)) (hs:∀p∈R,p∈Y) (m1:x.labels.length≤1000) (hb:∀y∈x.labels,y≤4294967295) (ha:Uok x.align) (hu:Uok x.num) (hv: -9223372036854775808≤x.value∧x.value≤9223372036854775807) (hwd:x.word=2) (h:WW w0 wb os Y w) (hn:os.length+8000≤1000000000000):Calls Tryz.prog 64 #[.agg #[.int .i64 0,.int .i64 0,.int .u8 2,.bool x.typed,vg,.int .u32 x.align,.int .u32 x.num,.int .i64 0,vl,.int .i64 x.value],.pointer (some ⟨wb,0,none⟩)] w (fun e w'=>e=.returned (.tuple #[])∧WW w0 wb (os++([2]++(blockN x))) Y w'):=by
 have hnot:∀(x:Bool) (w:World),(Op.unary .not (.bool x)).run Tryz.prog w=.ok (.bool (!x)) w:=fun _ _=>rfl
 obtain⟨p1,q1,rfl⟩:=Row.shape (h.row hr1 hs)
 obtain⟨p2,q2,rfl⟩:=Row.shape (h.row hr2 hs)
 have HR1:=hide hr1
 have HR2:=hide hr2
 have HS:=hide hs
 have HU:Hid (Uok x.align∧Uok x.num∧(-9223372036854775808≤x.value∧x.value≤9223372036854775807)):=⟨ha,hu,hv⟩
 have HLB:=hide hb
 clear hr1 hr2 hs ha hu hv hb
 have HWB:Hid (∀os w1 Y',WW w0 wb os Y' w1→os.length+20≤1000000000000→(∀p∈R,p∈Y')→Calls Tryz.prog 77 #[.agg #[.int .i64 0,.int .i64 0,.int .u8 2,.bool x.typed,.slice p1 x.gives.length q1,.int .u32 x.align,.int .u32 x.num,.int .i64 0,.slice p2 x.labels.length q2,.int .i64 x.value],.pointer (some ⟨wb,0,none⟩)] w1 (fun e w'=>e=.returned (.tuple #[])∧WW w0 wb (os++blockN x) Y' w')):=fun os w1 Y' g1 g2 g3=>by
  have:=wrInsBlock_all (R:=R) x HR1.out HR2.out g3 m1 HLB.out HU.out.1 HU.out.2.1 HU.out.2.2 g1 g2
  rw[hwd] at this
  exact this
 clear hwd
 have H0:=hide (h.new #[.int .i64 0,.int .i64 0,.int .u8 2,.bool x.typed,.slice p1 x.gives.length q1,.int .u32 x.align,.int .u32 x.num,.int .i64 0,.slice p2 x.labels.length q2,.int .i64 x.value] 131)
 have HN:=hide hn
 clear h hn
 go_enter Tryz.func64,Tryz.ntmps64
 go_upto_region 1 with fail
 generalize w.alloc (.cells #[.int .i64 0,.int .i64 0,.int .u8 2,.bool x.typed,.slice p1 x.gives.length q1,.int .u32 x.align,.int .u32 x.num,.int .i64 0,.slice p2 x.labels.length q2,.int .i64 x.value] 131)=w1 at*
 generalize w.heap.size=b at*
 obtain⟨c0,-⟩:=H0.out.cl 0 0
 obtain⟨c1,-⟩:=H0.out.cl 0 1
 obtain⟨c2,-⟩:=H0.out.cl 0 2
 obtain⟨c3,-⟩:=H0.out.cl 0 3
 obtain⟨c4,-⟩:=H0.out.cl 0 4
 obtain⟨c5,-⟩:=H0.out.cl 0 5
 obtain⟨c6,-⟩:=H0.out.cl 0 6
 obtain⟨c7,-⟩:=H0.out.cl 0 7
 obtain⟨c8,-⟩:=H0.out.cl 0 8
 obtain⟨c9,-⟩:=H0.out.cl 0 9
 have l0:=H0.out.lt 0
 go_wp2_with fail
 refine(wr1 (x:=2) (by omega) H0.out (by(try simp only[List.length_append,List.length_cons,List.length_nil]);have:=HN.out;omega) _).mono ?_
 rintro e w2 ⟨rfl,h1⟩
 clear c0 c1 c2 c3 c4 c5 c6 c7 c8 c9 l0
 obtain⟨c0,-⟩:=h1.cl 0 0
 obtain⟨c1,-⟩:=h1.cl 0 1
 obtain⟨c2,-⟩:=h1.cl 0 2
 obtain⟨c3,-⟩:=h1.cl 0 3
 obtain⟨c4,-⟩:=h1.cl 0 4
 obtain⟨c5,-⟩:=h1.cl 0 5
 obtain⟨c6,-⟩:=h1.cl 0 6
 obtain⟨c7,-⟩:=h1.cl 0 7
 obtain⟨c8,-⟩:=h1.cl 0 8
 obtain⟨c9,-⟩:=h1.cl 0 9
 have l0:=h1.lt 0
 have H1:=hide h1
 clear h1 H0
 go_wp2_with fail
 refine(HWB.out _ _ _ H1.out (by(try simp only[List.length_append,List.length_cons,List.length_nil]);have:=HN.out;omega) (fun p hp=>List.mem_cons_of_mem _ (HS.out p hp))).mono ?_
 rintro e w3 ⟨rfl,h2⟩
 have H2:=hide h2.pop
 clear h2 H1 c0 c1 c2 c3 c4 c5 c6 c7 c8 c9 l0
 go_wp2
 go_end0
 exact⟨rfl,by simpa [List.append_assoc] using H2.out⟩
set_option maxRecDepth 100000 in
set_option maxHeartbeats 1600000 in
theorem wrIns_3 (x:InsT) {vg vl:Value} (hr1:HasR R 73 1 vg x.gives.length (kindCells x.gives)) (hr2:HasR R 66 2 vl x.labels.length (x.labels.flatMap nuC)) (hs:∀p∈R,p∈Y) (m1:x.labels.length≤1000) (hb:∀y∈x.labels,y≤4294967295) (ha:Uok x.align) (hu:Uok x.num) (hv: -9223372036854775808≤x.value∧x.value≤9223372036854775807) (hwd:x.word=3) (h:WW w0 wb os Y w) (hn:os.length+8000≤1000000000000):Calls Tryz.prog 64 #[.agg #[.int .i64 0,.int .i64 0,.int .u8 3,.bool x.typed,vg,.int .u32 x.align,.int .u32 x.num,.int .i64 0,vl,.int .i64 x.value],.pointer (some ⟨wb,0,none⟩)] w (fun e w'=>e=.returned (.tuple #[])∧WW w0 wb (os++([3]++(blockN x))) Y w'):=by
 have hnot:∀(x:Bool) (w:World),(Op.unary .not (.bool x)).run Tryz.prog w=.ok (.bool (!x)) w:=fun _ _=>rfl
 obtain⟨p1,q1,rfl⟩:=Row.shape (h.row hr1 hs)
 obtain⟨p2,q2,rfl⟩:=Row.shape (h.row hr2 hs)
 have HR1:=hide hr1
 have HR2:=hide hr2
 have HS:=hide hs
 have HU:Hid (Uok x.align∧Uok x.num∧(-9223372036854775808≤x.value∧x.value≤9223372036854775807)):=⟨ha,hu,hv⟩
 have HLB:=hide hb
 clear hr1 hr2 hs ha hu hv hb
 have HWB:Hid (∀os w1 Y',WW w0 wb os Y' w1→os.length+20≤1000000000000→(∀p∈R,p∈Y')→Calls Tryz.prog 77 #[.agg #[.int .i64 0,.int .i64 0,.int .u8 3,.bool x.typed,.slice p1 x.gives.length q1,.int .u32 x.align,.int .u32 x.num,.int .i64 0,.slice p2 x.labels.length q2,.int .i64 x.value],.pointer (some ⟨wb,0,none⟩)] w1 (fun e w'=>e=.returned (.tuple #[])∧WW w0 wb (os++blockN x) Y' w')):=fun os w1 Y' g1 g2 g3=>by
  have:=wrInsBlock_all (R:=R) x HR1.out HR2.out g3 m1 HLB.out HU.out.1 HU.out.2.1 HU.out.2.2 g1 g2
  rw[hwd] at this
  exact this
 clear hwd
 have H0:=hide (h.new #[.int .i64 0,.int .i64 0,.int .u8 3,.bool x.typed,.slice p1 x.gives.length q1,.int .u32 x.align,.int .u32 x.num,.int .i64 0,.slice p2 x.labels.length q2,.int .i64 x.value] 131)
 have HN:=hide hn
 clear h hn
 go_enter Tryz.func64,Tryz.ntmps64
 go_upto_region 1 with fail
 generalize w.alloc (.cells #[.int .i64 0,.int .i64 0,.int .u8 3,.bool x.typed,.slice p1 x.gives.length q1,.int .u32 x.align,.int .u32 x.num,.int .i64 0,.slice p2 x.labels.length q2,.int .i64 x.value] 131)=w1 at*
 generalize w.heap.size=b at*
 obtain⟨c0,-⟩:=H0.out.cl 0 0
 obtain⟨c1,-⟩:=H0.out.cl 0 1
 obtain⟨c2,-⟩:=H0.out.cl 0 2
 obtain⟨c3,-⟩:=H0.out.cl 0 3
 obtain⟨c4,-⟩:=H0.out.cl 0 4
 obtain⟨c5,-⟩:=H0.out.cl 0 5
 obtain⟨c6,-⟩:=H0.out.cl 0 6
 obtain⟨c7,-⟩:=H0.out.cl 0 7
 obtain⟨c8,-⟩:=H0.out.cl 0 8
 obtain⟨c9,-⟩:=H0.out.cl 0 9
 have l0:=H0.out.lt 0
 go_wp2_with fail
 refine(wr1 (x:=3) (by omega) H0.out (by(try simp only[List.length_append,List.length_cons,List.length_nil]);have:=HN.out;omega) _).mono ?_
 rintro e w2 ⟨rfl,h1⟩
 clear c0 c1 c2 c3 c4 c5 c6 c7 c8 c9 l0
 obtain⟨c0,-⟩:=h1.cl 0 0
 obtain⟨c1,-⟩:=h1.cl 0 1
 obtain⟨c2,-⟩:=h1.cl 0 2
 obtain⟨c3,-⟩:=h1.cl 0 3
 obtain⟨c4,-⟩:=h1.cl 0 4
 obtain⟨c5,-⟩:=h1.cl 0 5
 obtain⟨c6,-⟩:=h1.cl 0 6
 obtain⟨c7,-⟩:=h1.cl 0 7
 obtain⟨c8,-⟩:=h1.cl 0 8
 obtain⟨c9,-⟩:=h1.cl 0 9
 have l0:=h1.lt 0
 have H1:=hide h1
 clear h1 H0
 go_wp2_with fail
 refine(HWB.out _ _ _ H1.out (by(try simp only[List.length_append,List.length_cons,List.length_nil]);have:=HN.out;omega) (fun p hp=>List.mem_cons_of_mem _ (HS.out p hp))).mono ?_
 rintro e w3 ⟨rfl,h2⟩
 have H2:=hide h2.pop
 clear h2 H1 c0 c1 c2 c3 c4 c5 c6 c7 c8 c9 l0
 go_wp2
 go_end0
 exact⟨rfl,by simpa [List.append_assoc] using H2.out⟩
set_option maxRecDepth 100000 in
set_option maxHeartbeats 1600000 in
theorem wrIns_4 (x:InsT) {vg vl:Value} (hr1:HasR R 73 1 vg x.gives.length (kindCells x.gives)) (hr2:HasR R 66 2 vl x.labels.length (x.labels.flatMap nuC)) (hs:∀p∈R,p∈Y) (m1:x.labels.length≤1000) (hb:∀y∈x.labels,y≤4294967295) (ha:Uok x.align) (hu:Uok x.num) (hv: -9223372036854775808≤x.value∧x.value≤9223372036854775807) (hwd:x.word=4) (h:WW w0 wb os Y w) (hn:os.length+8000≤1000000000000):Calls Tryz.prog 64 #[.agg #[.int .i64 0,.int .i64 0,.int .u8 4,.bool x.typed,vg,.int .u32 x.align,.int .u32 x.num,.int .i64 0,vl,.int .i64 x.value],.pointer (some ⟨wb,0,none⟩)] w (fun e w'=>e=.returned (.tuple #[])∧WW w0 wb (os++([4]++(blockN x))) Y w'):=by
 have hnot:∀(x:Bool) (w:World),(Op.unary .not (.bool x)).run Tryz.prog w=.ok (.bool (!x)) w:=fun _ _=>rfl
 obtain⟨p1,q1,rfl⟩:=Row.shape (h.row hr1 hs)
 obtain⟨p2,q2,rfl⟩:=Row.shape (h.row hr2 hs)
 have HR1:=hide hr1
 have HR2:=hide hr2
 have HS:=hide hs
 have HU:Hid (Uok x.align∧Uok x.num∧(-9223372036854775808≤x.value∧x.value≤9223372036854775807)):=⟨ha,hu,hv⟩
 have HLB:=hide hb
 clear hr1 hr2 hs ha hu hv hb
 have HWB:Hid (∀os w1 Y',WW w0 wb os Y' w1→os.length+20≤1000000000000→(∀p∈R,p∈Y')→Calls Tryz.prog 77 #[.agg #[.int .i64 0,.int .i64 0,.int .u8 4,.bool x.typed,.slice p1 x.gives.length q1,.int .u32 x.align,.int .u32 x.num,.int .i64 0,.slice p2 x.labels.length q2,.int .i64 x.value],.pointer (some ⟨wb,0,none⟩)] w1 (fun e w'=>e=.returned (.tuple #[])∧WW w0 wb (os++blockN x) Y' w')):=fun os w1 Y' g1 g2 g3=>by
  have:=wrInsBlock_all (R:=R) x HR1.out HR2.out g3 m1 HLB.out HU.out.1 HU.out.2.1 HU.out.2.2 g1 g2
  rw[hwd] at this
  exact this
 clear hwd
 have H0:=hide (h.new #[.int .i64 0,.int .i64 0,.int .u8 4,.bool x.typed,.slice p1 x.gives.length q1,.int .u32 x.align,.int .u32 x.num,.int .i64 0,.slice p2 x.labels.length q2,.int .i64 x.value] 131)
 have HN:=hide hn
 clear h hn
 go_enter Tryz.func64,Tryz.ntmps64
 go_upto_region 1 with fail
 generalize w.alloc (.cells #[.int .i64 0,.int .i64 0,.int .u8 4,.bool x.typed,.slice p1 x.gives.length q1,.int .u32 x.align,.int .u32 x.num,.int .i64 0,.slice p2 x.labels.length q2,.int .i64 x.value] 131)=w1 at*
 generalize w.heap.size=b at*
 obtain⟨c0,-⟩:=H0.out.cl 0 0
 obtain⟨c1,-⟩:=H0.out.cl 0 1
 obtain⟨c2,-⟩:=H0.out.cl 0 2
 obtain⟨c3,-⟩:=H0.out.cl 0 3
 obtain⟨c4,-⟩:=H0.out.cl 0 4
 obtain⟨c5,-⟩:=H0.out.cl 0 5
 obtain⟨c6,-⟩:=H0.out.cl 0 6
 obtain⟨c7,-⟩:=H0.out.cl 0 7
 obtain⟨c8,-⟩:=H0.out.cl 0 8
 obtain⟨c9,-⟩:=H0.out.cl 0 9
 have l0:=H0.out.lt 0
 go_wp2_with fail
 refine(wr1 (x:=4) (by omega) H0.out (by(try simp only[List.length_append,List.length_cons,List.length_nil]);have:=HN.out;omega) _).mono ?_
 rintro e w2 ⟨rfl,h1⟩
 clear c0 c1 c2 c3 c4 c5 c6 c7 c8 c9 l0
 obtain⟨c0,-⟩:=h1.cl 0 0
 obtain⟨c1,-⟩:=h1.cl 0 1
 obtain⟨c2,-⟩:=h1.cl 0 2
 obtain⟨c3,-⟩:=h1.cl 0 3
 obtain⟨c4,-⟩:=h1.cl 0 4
 obtain⟨c5,-⟩:=h1.cl 0 5
 obtain⟨c6,-⟩:=h1.cl 0 6
 obtain⟨c7,-⟩:=h1.cl 0 7
 obtain⟨c8,-⟩:=h1.cl 0 8
 obtain⟨c9,-⟩:=h1.cl 0 9
 have l0:=h1.lt 0
 have H1:=hide h1
 clear h1 H0
 go_wp2_with fail
 refine(HWB.out _ _ _ H1.out (by(try simp only[List.length_append,List.length_cons,List.length_nil]);have:=HN.out;omega) (fun p hp=>List.mem_cons_of_mem _ (HS.out p hp))).mono ?_
 rintro e w3 ⟨rfl,h2⟩
 have H2:=hide h2.pop
 clear h2 H1 c0 c1 c2 c3 c4 c5 c6 c7 c8 c9 l0
 go_wp2
 go_end0
 exact⟨rfl,by simpa [List.append_assoc] using H2.out⟩
end
end
section
open Go.RowKit
set_option linter.unusedSimpArgs false
set_option linter.unusedVariables false
section
variable {w0 w:World} {wb:Nat} {os:List Nat} {Y R:List It}
set_option maxRecDepth 100000 in
set_option maxHeartbeats 1600000 in
theorem wrIns_14 (x:InsT) {vg vl:Value} (hr1:HasR R 73 1 vg x.gives.length (kindCells x.gives)) (hr2:HasR R 66 2 vl x.labels.length (x.labels.flatMap nuC)) (hs:∀p∈R,p∈Y) (m1:x.labels.length≤1000) (hb:∀y∈x.labels,y≤4294967295) (ha:Uok x.align) (hu:Uok x.num) (hv: -9223372036854775808≤x.value∧x.value≤9223372036854775807) (hwd:x.word=14) (h:WW w0 wb os Y w) (hn:os.length+8000≤1000000000000):Calls Tryz.prog 64 #[.agg #[.int .i64 0,.int .i64 0,.int .u8 14,.bool x.typed,vg,.int .u32 x.align,.int .u32 x.num,.int .i64 0,vl,.int .i64 x.value],.pointer (some ⟨wb,0,none⟩)] w (fun e w'=>e=.returned (.tuple #[])∧WW w0 wb (os++([14]++(numsN x.labels++uN x.num))) Y w'):=by
 have hnot:∀(x:Bool) (w:World),(Op.unary .not (.bool x)).run Tryz.prog w=.ok (.bool (!x)) w:=fun _ _=>rfl
 obtain⟨p1,q1,rfl⟩:=Row.shape (h.row hr1 hs)
 obtain⟨p2,q2,rfl⟩:=Row.shape (h.row hr2 hs)
 have HR1:=hide hr1
 have HR2:=hide hr2
 have HS:=hide hs
 have HU:Hid (Uok x.align∧Uok x.num∧(-9223372036854775808≤x.value∧x.value≤9223372036854775807)):=⟨ha,hu,hv⟩
 have HLB:=hide hb
 clear hr1 hr2 hs ha hu hv hb
 clear hwd
 have H0:=hide (h.new #[.int .i64 0,.int .i64 0,.int .u8 14,.bool x.typed,.slice p1 x.gives.length q1,.int .u32 x.align,.int .u32 x.num,.int .i64 0,.slice p2 x.labels.length q2,.int .i64 x.value] 131)
 have HN:=hide hn
 clear h hn
 go_enter Tryz.func64,Tryz.ntmps64
 go_upto_region 1 with fail
 generalize w.alloc (.cells #[.int .i64 0,.int .i64 0,.int .u8 14,.bool x.typed,.slice p1 x.gives.length q1,.int .u32 x.align,.int .u32 x.num,.int .i64 0,.slice p2 x.labels.length q2,.int .i64 x.value] 131)=w1 at*
 generalize w.heap.size=b at*
 obtain⟨c0,-⟩:=H0.out.cl 0 0
 obtain⟨c1,-⟩:=H0.out.cl 0 1
 obtain⟨c2,-⟩:=H0.out.cl 0 2
 obtain⟨c3,-⟩:=H0.out.cl 0 3
 obtain⟨c4,-⟩:=H0.out.cl 0 4
 obtain⟨c5,-⟩:=H0.out.cl 0 5
 obtain⟨c6,-⟩:=H0.out.cl 0 6
 obtain⟨c7,-⟩:=H0.out.cl 0 7
 obtain⟨c8,-⟩:=H0.out.cl 0 8
 obtain⟨c9,-⟩:=H0.out.cl 0 9
 have l0:=H0.out.lt 0
 go_wp2_with fail
 refine(wr1 (x:=14) (by omega) H0.out (by(try simp only[List.length_append,List.length_cons,List.length_nil]);have:=HN.out;omega) _).mono ?_
 rintro e w2 ⟨rfl,h1⟩
 clear c0 c1 c2 c3 c4 c5 c6 c7 c8 c9 l0
 obtain⟨c0,-⟩:=h1.cl 0 0
 obtain⟨c1,-⟩:=h1.cl 0 1
 obtain⟨c2,-⟩:=h1.cl 0 2
 obtain⟨c3,-⟩:=h1.cl 0 3
 obtain⟨c4,-⟩:=h1.cl 0 4
 obtain⟨c5,-⟩:=h1.cl 0 5
 obtain⟨c6,-⟩:=h1.cl 0 6
 obtain⟨c7,-⟩:=h1.cl 0 7
 obtain⟨c8,-⟩:=h1.cl 0 8
 obtain⟨c9,-⟩:=h1.cl 0 9
 have l0:=h1.lt 0
 have H1:=hide h1
 clear h1 H0
 go_wp2_with fail
 refine(nums_all HLB.out HR2.out (fun p hp=>List.mem_cons_of_mem _ (HS.out p hp)) m1 H1.out (by(try simp only[List.length_append,List.length_cons,List.length_nil]);have:=HN.out;omega)).mono ?_
 rintro e w3 ⟨rfl,h2⟩
 clear c0 c1 c2 c3 c4 c5 c6 c7 c8 c9 l0
 obtain⟨c0,-⟩:=h2.cl 0 0
 obtain⟨c1,-⟩:=h2.cl 0 1
 obtain⟨c2,-⟩:=h2.cl 0 2
 obtain⟨c3,-⟩:=h2.cl 0 3
 obtain⟨c4,-⟩:=h2.cl 0 4
 obtain⟨c5,-⟩:=h2.cl 0 5
 obtain⟨c6,-⟩:=h2.cl 0 6
 obtain⟨c7,-⟩:=h2.cl 0 7
 obtain⟨c8,-⟩:=h2.cl 0 8
 obtain⟨c9,-⟩:=h2.cl 0 9
 have l0:=h2.lt 0
 have H2:=hide h2
 clear h2 H1
 go_wp2_with fail
 refine(wrU_all (n:=x.num) HU.out.2.1.1 HU.out.2.1.2 H2.out (by(try simp only[List.length_append,List.length_cons,List.length_nil]);have:=numsN_len x.labels;have:=HN.out;omega)).mono ?_
 rintro e w4 ⟨rfl,h3⟩
 have H3:=hide h3.pop
 clear h3 H2 c0 c1 c2 c3 c4 c5 c6 c7 c8 c9 l0
 go_wp2
 go_end0
 exact⟨rfl,by simpa [List.append_assoc] using H3.out⟩
end
end
end Go.Proofs.YtkmofapihggjgaaGreatDoor
