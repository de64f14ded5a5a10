import Derived.Test.YtkmofapihggjgaaGreatDoorX23
namespace Go.Proofs.YtkmofapihggjgaaGreatDoor
section
open Go.RowKit
set_option linter.unusedSimpArgs false
set_option linter.unusedVariables false
section
variable {w0 w:World} {wb:Nat} {os:List Nat} {Y R:List It}
set_option maxRecDepth 100000 in
set_option maxHeartbeats 1600000 in
theorem wrIns_40 (x:InsT) {vg vl:Value} (hr1:HasR R 73 1 vg x.gives.length (kindCells x.gives)) (hr2:HasR R 66 2 vl x.labels.length (x.labels.flatMap nuC)) (hs:∀p∈R,p∈Y) (m1:x.labels.length≤1000) (hb:∀y∈x.labels,y≤4294967295) (ha:Uok x.align) (hu:Uok x.num) (hv: -9223372036854775808≤x.value∧x.value≤9223372036854775807) (hwd:x.word=40) (h:WW w0 wb os Y w) (hn:os.length+8000≤1000000000000):Calls Tryz.prog 64 #[.agg #[.int .i64 0,.int .i64 0,.int .u8 40,.bool x.typed,vg,.int .u32 x.align,.int .u32 x.num,.int .i64 0,vl,.int .i64 x.value],.pointer (some ⟨wb,0,none⟩)] w (fun e w'=>e=.returned (.tuple #[])∧WW w0 wb (os++([40]++(uN x.align++uN x.num))) Y w'):=by
 have hnot:∀(x:Bool) (w:World),(Op.unary .not (.bool x)).run Tryz.prog w=.ok (.bool (!x)) w:=fun _ _=>rfl
 obtain⟨p1,q1,rfl⟩:=Row.shape (h.row hr1 hs)
 obtain⟨p2,q2,rfl⟩:=Row.shape (h.row hr2 hs)
 have HR1:=hide hr1
 have HR2:=hide hr2
 have HS:=hide hs
 have HU:Hid (Uok x.align∧Uok x.num∧(-9223372036854775808≤x.value∧x.value≤9223372036854775807)):=⟨ha,hu,hv⟩
 have HLB:=hide hb
 clear hr1 hr2 hs ha hu hv hb
 clear hwd
 have H0:=hide (h.new #[.int .i64 0,.int .i64 0,.int .u8 40,.bool x.typed,.slice p1 x.gives.length q1,.int .u32 x.align,.int .u32 x.num,.int .i64 0,.slice p2 x.labels.length q2,.int .i64 x.value] 131)
 have HN:=hide hn
 clear h hn
 go_enter Tryz.func64,Tryz.ntmps64
 go_upto_region 1 with fail
 generalize w.alloc (.cells #[.int .i64 0,.int .i64 0,.int .u8 40,.bool x.typed,.slice p1 x.gives.length q1,.int .u32 x.align,.int .u32 x.num,.int .i64 0,.slice p2 x.labels.length q2,.int .i64 x.value] 131)=w1 at*
 generalize w.heap.size=b at*
 obtain⟨c0,-⟩:=H0.out.cl 0 0
 obtain⟨c1,-⟩:=H0.out.cl 0 1
 obtain⟨c2,-⟩:=H0.out.cl 0 2
 obtain⟨c3,-⟩:=H0.out.cl 0 3
 obtain⟨c4,-⟩:=H0.out.cl 0 4
 obtain⟨c5,-⟩:=H0.out.cl 0 5
 obtain⟨c6,-⟩:=H0.out.cl 0 6
 obtain⟨c7,-⟩:=H0.out.cl 0 7
 obtain⟨c8,-⟩:=H0.out.cl 0 8
 obtain⟨c9,-⟩:=H0.out.cl 0 9
 have l0:=H0.out.lt 0
 go_wp2_with fail
 refine(wr1 (x:=40) (by omega) H0.out (by(try simp only[List.length_append,List.length_cons,List.length_nil]);have:=HN.out;omega) _).mono ?_
 rintro e w2 ⟨rfl,h1⟩
 clear c0 c1 c2 c3 c4 c5 c6 c7 c8 c9 l0
 obtain⟨c0,-⟩:=h1.cl 0 0
 obtain⟨c1,-⟩:=h1.cl 0 1
 obtain⟨c2,-⟩:=h1.cl 0 2
 obtain⟨c3,-⟩:=h1.cl 0 3
 obtain⟨c4,-⟩:=h1.cl 0 4
 obtain⟨c5,-⟩:=h1.cl 0 5
 obtain⟨c6,-⟩:=h1.cl 0 6
 obtain⟨c7,-⟩:=h1.cl 0 7
 obtain⟨c8,-⟩:=h1.cl 0 8
 obtain⟨c9,-⟩:=h1.cl 0 9
 have l0:=h1.lt 0
 have H1:=hide h1
 clear h1 H0
 go_wp2_with fail
 refine(wrU_all (n:=x.align) HU.out.1.1 HU.out.1.2 H1.out (by(try simp only[List.length_append,List.length_cons,List.length_nil]);have:=HN.out;omega)).mono ?_
 rintro e w3 ⟨rfl,h2⟩
 clear c0 c1 c2 c3 c4 c5 c6 c7 c8 c9 l0
 obtain⟨c0,-⟩:=h2.cl 0 0
 obtain⟨c1,-⟩:=h2.cl 0 1
 obtain⟨c2,-⟩:=h2.cl 0 2
 obtain⟨c3,-⟩:=h2.cl 0 3
 obtain⟨c4,-⟩:=h2.cl 0 4
 obtain⟨c5,-⟩:=h2.cl 0 5
 obtain⟨c6,-⟩:=h2.cl 0 6
 obtain⟨c7,-⟩:=h2.cl 0 7
 obtain⟨c8,-⟩:=h2.cl 0 8
 obtain⟨c9,-⟩:=h2.cl 0 9
 have l0:=h2.lt 0
 have H2:=hide h2
 clear h2 H1
 go_wp2_with fail
 refine(wrU_all (n:=x.num) HU.out.2.1.1 HU.out.2.1.2 H2.out (by(try simp only[List.length_append,List.length_cons,List.length_nil]);have:=uN_len x.align;have:=HN.out;omega)).mono ?_
 rintro e w4 ⟨rfl,h3⟩
 have H3:=hide h3.pop
 clear h3 H2 c0 c1 c2 c3 c4 c5 c6 c7 c8 c9 l0
 go_wp2
 go_end0
 exact⟨rfl,by simpa [List.append_assoc] using H3.out⟩
set_option maxRecDepth 100000 in
set_option maxHeartbeats 1600000 in
theorem wrIns_41 (x:InsT) {vg vl:Value} (hr1:HasR R 73 1 vg x.gives.length (kindCells x.gives)) (hr2:HasR R 66 2 vl x.labels.length (x.labels.flatMap nuC)) (hs:∀p∈R,p∈Y) (m1:x.labels.length≤1000) (hb:∀y∈x.labels,y≤4294967295) (ha:Uok x.align) (hu:Uok x.num) (hv: -9223372036854775808≤x.value∧x.value≤9223372036854775807) (hwd:x.word=41) (h:WW w0 wb os Y w) (hn:os.length+8000≤1000000000000):Calls Tryz.prog 64 #[.agg #[.int .i64 0,.int .i64 0,.int .u8 41,.bool x.typed,vg,.int .u32 x.align,.int .u32 x.num,.int .i64 0,vl,.int .i64 x.value],.pointer (some ⟨wb,0,none⟩)] w (fun e w'=>e=.returned (.tuple #[])∧WW w0 wb (os++([41]++(uN x.align++uN x.num))) Y w'):=by
 have hnot:∀(x:Bool) (w:World),(Op.unary .not (.bool x)).run Tryz.prog w=.ok (.bool (!x)) w:=fun _ _=>rfl
 obtain⟨p1,q1,rfl⟩:=Row.shape (h.row hr1 hs)
 obtain⟨p2,q2,rfl⟩:=Row.shape (h.row hr2 hs)
 have HR1:=hide hr1
 have HR2:=hide hr2
 have HS:=hide hs
 have HU:Hid (Uok x.align∧Uok x.num∧(-9223372036854775808≤x.value∧x.value≤9223372036854775807)):=⟨ha,hu,hv⟩
 have HLB:=hide hb
 clear hr1 hr2 hs ha hu hv hb
 clear hwd
 have H0:=hide (h.new #[.int .i64 0,.int .i64 0,.int .u8 41,.bool x.typed,.slice p1 x.gives.length q1,.int .u32 x.align,.int .u32 x.num,.int .i64 0,.slice p2 x.labels.length q2,.int .i64 x.value] 131)
 have HN:=hide hn
 clear h hn
 go_enter Tryz.func64,Tryz.ntmps64
 go_upto_region 1 with fail
 generalize w.alloc (.cells #[.int .i64 0,.int .i64 0,.int .u8 41,.bool x.typed,.slice p1 x.gives.length q1,.int .u32 x.align,.int .u32 x.num,.int .i64 0,.slice p2 x.labels.length q2,.int .i64 x.value] 131)=w1 at*
 generalize w.heap.size=b at*
 obtain⟨c0,-⟩:=H0.out.cl 0 0
 obtain⟨c1,-⟩:=H0.out.cl 0 1
 obtain⟨c2,-⟩:=H0.out.cl 0 2
 obtain⟨c3,-⟩:=H0.out.cl 0 3
 obtain⟨c4,-⟩:=H0.out.cl 0 4
 obtain⟨c5,-⟩:=H0.out.cl 0 5
 obtain⟨c6,-⟩:=H0.out.cl 0 6
 obtain⟨c7,-⟩:=H0.out.cl 0 7
 obtain⟨c8,-⟩:=H0.out.cl 0 8
 obtain⟨c9,-⟩:=H0.out.cl 0 9
 have l0:=H0.out.lt 0
 go_wp2_with fail
 refine(wr1 (x:=41) (by omega) H0.out (by(try simp only[List.length_append,List.length_cons,List.length_nil]);have:=HN.out;omega) _).mono ?_
 rintro e w2 ⟨rfl,h1⟩
 clear c0 c1 c2 c3 c4 c5 c6 c7 c8 c9 l0
 obtain⟨c0,-⟩:=h1.cl 0 0
 obtain⟨c1,-⟩:=h1.cl 0 1
 obtain⟨c2,-⟩:=h1.cl 0 2
 obtain⟨c3,-⟩:=h1.cl 0 3
 obtain⟨c4,-⟩:=h1.cl 0 4
 obtain⟨c5,-⟩:=h1.cl 0 5
 obtain⟨c6,-⟩:=h1.cl 0 6
 obtain⟨c7,-⟩:=h1.cl 0 7
 obtain⟨c8,-⟩:=h1.cl 0 8
 obtain⟨c9,-⟩:=h1.cl 0 9
 have l0:=h1.lt 0
 have H1:=hide h1
 clear h1 H0
 go_wp2_with fail
 refine(wrU_all (n:=x.align) HU.out.1.1 HU.out.1.2 H1.out (by(try simp only[List.length_append,List.length_cons,List.length_nil]);have:=HN.out;omega)).mono ?_
 rintro e w3 ⟨rfl,h2⟩
 clear c0 c1 c2 c3 c4 c5 c6 c7 c8 c9 l0
 obtain⟨c0,-⟩:=h2.cl 0 0
 obtain⟨c1,-⟩:=h2.cl 0 1
 obtain⟨c2,-⟩:=h2.cl 0 2
 obtain⟨c3,-⟩:=h2.cl 0 3
 obtain⟨c4,-⟩:=h2.cl 0 4
 obtain⟨c5,-⟩:=h2.cl 0 5
 obtain⟨c6,-⟩:=h2.cl 0 6
 obtain⟨c7,-⟩:=h2.cl 0 7
 obtain⟨c8,-⟩:=h2.cl 0 8
 obtain⟨c9,-⟩:=h2.cl 0 9
 have l0:=h2.lt 0
 have H2:=hide h2
 clear h2 H1
 go_wp2_with fail
 refine(wrU_all (n:=x.num) HU.out.2.1.1 HU.out.2.1.2 H2.out (by(try simp only[List.length_append,List.length_cons,List.length_nil]);have:=uN_len x.align;have:=HN.out;omega)).mono ?_
 rintro e w4 ⟨rfl,h3⟩
 have H3:=hide h3.pop
 clear h3 H2 c0 c1 c2 c3 c4 c5 c6 c7 c8 c9 l0
 go_wp2
 go_end0
 exact⟨rfl,by simpa [List.append_assoc] using H3.out⟩
set_option maxRecDepth 100000 in
set_option maxHeartbeats 1600000 in
theorem wrIns_44 (x:InsT) {vg vl:Value} (hr1:HasR R 73 1 vg x.gives.length (kindCells x.gives)) (hr2:HasR R 66 2 vl x.labels.length (x.labels.flatMap nuC)) (hs:∀p∈R,p∈Y) (m1:x.labels.length≤1000) (hb:∀y∈x.labels,y≤4294967295) (ha:Uok x.align) (hu:Uok x.num) (hv: -9223372036854775808≤x.value∧x.value≤9223372036854775807) (hwd:x.word=44) (h:WW w0 wb os Y w) (hn:os.length+8000≤1000000000000):Calls Tryz.prog 64 #[.agg #[.int .i64 0,.int .i64 0,.int .u8 44,.bool x.typed,vg,.int .u32 x.align,.int .u32 x.num,.int .i64 0,vl,.int .i64 x.value],.pointer (some ⟨wb,0,none⟩)] w (fun e w'=>e=.returned (.tuple #[])∧WW w0 wb (os++([44]++(uN x.align++uN x.num))) Y w'):=by
 have hnot:∀(x:Bool) (w:World),(Op.unary .not (.bool x)).run Tryz.prog w=.ok (.bool (!x)) w:=fun _ _=>rfl
 obtain⟨p1,q1,rfl⟩:=Row.shape (h.row hr1 hs)
 obtain⟨p2,q2,rfl⟩:=Row.shape (h.row hr2 hs)
 have HR1:=hide hr1
 have HR2:=hide hr2
 have HS:=hide hs
 have HU:Hid (Uok x.align∧Uok x.num∧(-9223372036854775808≤x.value∧x.value≤9223372036854775807)):=⟨ha,hu,hv⟩
 have HLB:=hide hb
 clear hr1 hr2 hs ha hu hv hb
 clear hwd
 have H0:=hide (h.new #[.int .i64 0,.int .i64 0,.int .u8 44,.bool x.typed,.slice p1 x.gives.length q1,.int .u32 x.align,.int .u32 x.num,.int .i64 0,.slice p2 x.labels.length q2,.int .i64 x.value] 131)
 have HN:=hide hn
 clear h hn
 go_enter Tryz.func64,Tryz.ntmps64
 go_upto_region 1 with fail
 generalize w.alloc (.cells #[.int .i64 0,.int .i64 0,.int .u8 44,.bool x.typed,.slice p1 x.gives.length q1,.int .u32 x.align,.int .u32 x.num,.int .i64 0,.slice p2 x.labels.length q2,.int .i64 x.value] 131)=w1 at*
 generalize w.heap.size=b at*
 obtain⟨c0,-⟩:=H0.out.cl 0 0
 obtain⟨c1,-⟩:=H0.out.cl 0 1
 obtain⟨c2,-⟩:=H0.out.cl 0 2
 obtain⟨c3,-⟩:=H0.out.cl 0 3
 obtain⟨c4,-⟩:=H0.out.cl 0 4
 obtain⟨c5,-⟩:=H0.out.cl 0 5
 obtain⟨c6,-⟩:=H0.out.cl 0 6
 obtain⟨c7,-⟩:=H0.out.cl 0 7
 obtain⟨c8,-⟩:=H0.out.cl 0 8
 obtain⟨c9,-⟩:=H0.out.cl 0 9
 have l0:=H0.out.lt 0
 go_wp2_with fail
 refine(wr1 (x:=44) (by omega) H0.out (by(try simp only[List.length_append,List.length_cons,List.length_nil]);have:=HN.out;omega) _).mono ?_
 rintro e w2 ⟨rfl,h1⟩
 clear c0 c1 c2 c3 c4 c5 c6 c7 c8 c9 l0
 obtain⟨c0,-⟩:=h1.cl 0 0
 obtain⟨c1,-⟩:=h1.cl 0 1
 obtain⟨c2,-⟩:=h1.cl 0 2
 obtain⟨c3,-⟩:=h1.cl 0 3
 obtain⟨c4,-⟩:=h1.cl 0 4
 obtain⟨c5,-⟩:=h1.cl 0 5
 obtain⟨c6,-⟩:=h1.cl 0 6
 obtain⟨c7,-⟩:=h1.cl 0 7
 obtain⟨c8,-⟩:=h1.cl 0 8
 obtain⟨c9,-⟩:=h1.cl 0 9
 have l0:=h1.lt 0
 have H1:=hide h1
 clear h1 H0
 go_wp2_with fail
 refine(wrU_all (n:=x.align) HU.out.1.1 HU.out.1.2 H1.out (by(try simp only[List.length_append,List.length_cons,List.length_nil]);have:=HN.out;omega)).mono ?_
 rintro e w3 ⟨rfl,h2⟩
 clear c0 c1 c2 c3 c4 c5 c6 c7 c8 c9 l0
 obtain⟨c0,-⟩:=h2.cl 0 0
 obtain⟨c1,-⟩:=h2.cl 0 1
 obtain⟨c2,-⟩:=h2.cl 0 2
 obtain⟨c3,-⟩:=h2.cl 0 3
 obtain⟨c4,-⟩:=h2.cl 0 4
 obtain⟨c5,-⟩:=h2.cl 0 5
 obtain⟨c6,-⟩:=h2.cl 0 6
 obtain⟨c7,-⟩:=h2.cl 0 7
 obtain⟨c8,-⟩:=h2.cl 0 8
 obtain⟨c9,-⟩:=h2.cl 0 9
 have l0:=h2.lt 0
 have H2:=hide h2
 clear h2 H1
 go_wp2_with fail
 refine(wrU_all (n:=x.num) HU.out.2.1.1 HU.out.2.1.2 H2.out (by(try simp only[List.length_append,List.length_cons,List.length_nil]);have:=uN_len x.align;have:=HN.out;omega)).mono ?_
 rintro e w4 ⟨rfl,h3⟩
 have H3:=hide h3.pop
 clear h3 H2 c0 c1 c2 c3 c4 c5 c6 c7 c8 c9 l0
 go_wp2
 go_end0
 exact⟨rfl,by simpa [List.append_assoc] using H3.out⟩
set_option maxRecDepth 100000 in
set_option maxHeartbeats 1600000 in
theorem wrIns_45 (x:InsT) {vg vl:Value} (hr1:HasR R 73 1 vg x.gives.length (kindCells x.gives)) (hr2:HasR R 66 2 vl x.labels.length (x.labels.flatMap nuC)) (hs:∀p∈R,p∈Y) (m1:x.labels.length≤1000) (hb:∀y∈x.labels,y≤4294967295) (ha:Uok x.align) (hu:Uok x.num) (hv: -9223372036854775808≤x.value∧x.value≤9223372036854775807) (hwd:x.word=45) (h:WW w0 wb os Y w) (hn:os.length+8000≤1000000000000):Calls Tryz.prog 64 #[.agg #[.int .i64 0,.int .i64 0,.int .u8 45,.bool x.typed,vg,.int .u32 x.align,.int .u32 x.num,.int .i64 0,vl,.int .i64 x.value],.pointer (some ⟨wb,0,none⟩)] w (fun e w'=>e=.returned (.tuple #[])∧WW w0 wb (os++([45]++(uN x.align++uN x.num))) Y w'):=by
 have hnot:∀(x:Bool) (w:World),(Op.unary .not (.bool x)).run Tryz.prog w=.ok (.bool (!x)) w:=fun _ _=>rfl
 obtain⟨p1,q1,rfl⟩:=Row.shape (h.row hr1 hs)
 obtain⟨p2,q2,rfl⟩:=Row.shape (h.row hr2 hs)
 have HR1:=hide hr1
 have HR2:=hide hr2
 have HS:=hide hs
 have HU:Hid (Uok x.align∧Uok x.num∧(-9223372036854775808≤x.value∧x.value≤9223372036854775807)):=⟨ha,hu,hv⟩
 have HLB:=hide hb
 clear hr1 hr2 hs ha hu hv hb
 clear hwd
 have H0:=hide (h.new #[.int .i64 0,.int .i64 0,.int .u8 45,.bool x.typed,.slice p1 x.gives.length q1,.int .u32 x.align,.int .u32 x.num,.int .i64 0,.slice p2 x.labels.length q2,.int .i64 x.value] 131)
 have HN:=hide hn
 clear h hn
 go_enter Tryz.func64,Tryz.ntmps64
 go_upto_region 1 with fail
 generalize w.alloc (.cells #[.int .i64 0,.int .i64 0,.int .u8 45,.bool x.typed,.slice p1 x.gives.length q1,.int .u32 x.align,.int .u32 x.num,.int .i64 0,.slice p2 x.labels.length q2,.int .i64 x.value] 131)=w1 at*
 generalize w.heap.size=b at*
 obtain⟨c0,-⟩:=H0.out.cl 0 0
 obtain⟨c1,-⟩:=H0.out.cl 0 1
 obtain⟨c2,-⟩:=H0.out.cl 0 2
 obtain⟨c3,-⟩:=H0.out.cl 0 3
 obtain⟨c4,-⟩:=H0.out.cl 0 4
 obtain⟨c5,-⟩:=H0.out.cl 0 5
 obtain⟨c6,-⟩:=H0.out.cl 0 6
 obtain⟨c7,-⟩:=H0.out.cl 0 7
 obtain⟨c8,-⟩:=H0.out.cl 0 8
 obtain⟨c9,-⟩:=H0.out.cl 0 9
 have l0:=H0.out.lt 0
 go_wp2_with fail
 refine(wr1 (x:=45) (by omega) H0.out (by(try simp only[List.length_append,List.length_cons,List.length_nil]);have:=HN.out;omega) _).mono ?_
 rintro e w2 ⟨rfl,h1⟩
 clear c0 c1 c2 c3 c4 c5 c6 c7 c8 c9 l0
 obtain⟨c0,-⟩:=h1.cl 0 0
 obtain⟨c1,-⟩:=h1.cl 0 1
 obtain⟨c2,-⟩:=h1.cl 0 2
 obtain⟨c3,-⟩:=h1.cl 0 3
 obtain⟨c4,-⟩:=h1.cl 0 4
 obtain⟨c5,-⟩:=h1.cl 0 5
 obtain⟨c6,-⟩:=h1.cl 0 6
 obtain⟨c7,-⟩:=h1.cl 0 7
 obtain⟨c8,-⟩:=h1.cl 0 8
 obtain⟨c9,-⟩:=h1.cl 0 9
 have l0:=h1.lt 0
 have H1:=hide h1
 clear h1 H0
 go_wp2_with fail
 refine(wrU_all (n:=x.align) HU.out.1.1 HU.out.1.2 H1.out (by(try simp only[List.length_append,List.length_cons,List.length_nil]);have:=HN.out;omega)).mono ?_
 rintro e w3 ⟨rfl,h2⟩
 clear c0 c1 c2 c3 c4 c5 c6 c7 c8 c9 l0
 obtain⟨c0,-⟩:=h2.cl 0 0
 obtain⟨c1,-⟩:=h2.cl 0 1
 obtain⟨c2,-⟩:=h2.cl 0 2
 obtain⟨c3,-⟩:=h2.cl 0 3
 obtain⟨c4,-⟩:=h2.cl 0 4
 obtain⟨c5,-⟩:=h2.cl 0 5
 obtain⟨c6,-⟩:=h2.cl 0 6
 obtain⟨c7,-⟩:=h2.cl 0 7
 obtain⟨c8,-⟩:=h2.cl 0 8
 obtain⟨c9,-⟩:=h2.cl 0 9
 have l0:=h2.lt 0
 have H2:=hide h2
 clear h2 H1
 go_wp2_with fail
 refine(wrU_all (n:=x.num) HU.out.2.1.1 HU.out.2.1.2 H2.out (by(try simp only[List.length_append,List.length_cons,List.length_nil]);have:=uN_len x.align;have:=HN.out;omega)).mono ?_
 rintro e w4 ⟨rfl,h3⟩
 have H3:=hide h3.pop
 clear h3 H2 c0 c1 c2 c3 c4 c5 c6 c7 c8 c9 l0
 go_wp2
 go_end0
 exact⟨rfl,by simpa [List.append_assoc] using H3.out⟩
set_option maxRecDepth 100000 in
set_option maxHeartbeats 1600000 in
theorem wrIns_54 (x:InsT) {vg vl:Value} (hr1:HasR R 73 1 vg x.gives.length (kindCells x.gives)) (hr2:HasR R 66 2 vl x.labels.length (x.labels.flatMap nuC)) (hs:∀p∈R,p∈Y) (m1:x.labels.length≤1000) (hb:∀y∈x.labels,y≤4294967295) (ha:Uok x.align) (hu:Uok x.num) (hv: -9223372036854775808≤x.value∧x.value≤9223372036854775807) (hwd:x.word=54) (h:WW w0 wb os Y w) (hn:os.length+8000≤1000000000000):Calls Tryz.prog 64 #[.agg #[.int .i64 0,.int .i64 0,.int .u8 54,.bool x.typed,vg,.int .u32 x.align,.int .u32 x.num,.int .i64 0,vl,.int .i64 x.value],.pointer (some ⟨wb,0,none⟩)] w (fun e w'=>e=.returned (.tuple #[])∧WW w0 wb (os++([54]++(uN x.align++uN x.num))) Y w'):=by
 have hnot:∀(x:Bool) (w:World),(Op.unary .not (.bool x)).run Tryz.prog w=.ok (.bool (!x)) w:=fun _ _=>rfl
 obtain⟨p1,q1,rfl⟩:=Row.shape (h.row hr1 hs)
 obtain⟨p2,q2,rfl⟩:=Row.shape (h.row hr2 hs)
 have HR1:=hide hr1
 have HR2:=hide hr2
 have HS:=hide hs
 have HU:Hid (Uok x.align∧Uok x.num∧(-9223372036854775808≤x.value∧x.value≤9223372036854775807)):=⟨ha,hu,hv⟩
 have HLB:=hide hb
 clear hr1 hr2 hs ha hu hv hb
 clear hwd
 have H0:=hide (h.new #[.int .i64 0,.int .i64 0,.int .u8 54,.bool x.typed,.slice p1 x.gives.length q1,.int .u32 x.align,.int .u32 x.num,.int .i64 0,.slice p2 x.labels.length q2,.int .i64 x.value] 131)
 have HN:=hide hn
 clear h hn
 go_enter Tryz.func64,Tryz.ntmps64
 go_upto_region 1 with fail
 generalize w.alloc (.cells #[.int .i64 0,.int .i64 0,.int .u8 54,.bool x.typed,.slice p1 x.gives.length q1,.int .u32 x.align,.int .u32 x.num,.int .i64 0,.slice p2 x.labels.length q2,.int .i64 x.value] 131)=w1 at*
 generalize w.heap.size=b at*
 obtain⟨c0,-⟩:=H0.out.cl 0 0
 obtain⟨c1,-⟩:=H0.out.cl 0 1
 obtain⟨c2,-⟩:=H0.out.cl 0 2
 obtain⟨c3,-⟩:=H0.out.cl 0 3
 obtain⟨c4,-⟩:=H0.out.cl 0 4
 obtain⟨c5,-⟩:=H0.out.cl 0 5
 obtain⟨c6,-⟩:=H0.out.cl 0 6
 obtain⟨c7,-⟩:=H0.out.cl 0 7
 obtain⟨c8,-⟩:=H0.out.cl 0 8
 obtain⟨c9,-⟩:=H0.out.cl 0 9
 have l0:=H0.out.lt 0
 go_wp2_with fail
 refine(wr1 (x:=54) (by omega) H0.out (by(try simp only[List.length_append,List.length_cons,List.length_nil]);have:=HN.out;omega) _).mono ?_
 rintro e w2 ⟨rfl,h1⟩
 clear c0 c1 c2 c3 c4 c5 c6 c7 c8 c9 l0
 obtain⟨c0,-⟩:=h1.cl 0 0
 obtain⟨c1,-⟩:=h1.cl 0 1
 obtain⟨c2,-⟩:=h1.cl 0 2
 obtain⟨c3,-⟩:=h1.cl 0 3
 obtain⟨c4,-⟩:=h1.cl 0 4
 obtain⟨c5,-⟩:=h1.cl 0 5
 obtain⟨c6,-⟩:=h1.cl 0 6
 obtain⟨c7,-⟩:=h1.cl 0 7
 obtain⟨c8,-⟩:=h1.cl 0 8
 obtain⟨c9,-⟩:=h1.cl 0 9
 have l0:=h1.lt 0
 have H1:=hide h1
 clear h1 H0
 go_wp2_with fail
 refine(wrU_all (n:=x.align) HU.out.1.1 HU.out.1.2 H1.out (by(try simp only[List.length_append,List.length_cons,List.length_nil]);have:=HN.out;omega)).mono ?_
 rintro e w3 ⟨rfl,h2⟩
 clear c0 c1 c2 c3 c4 c5 c6 c7 c8 c9 l0
 obtain⟨c0,-⟩:=h2.cl 0 0
 obtain⟨c1,-⟩:=h2.cl 0 1
 obtain⟨c2,-⟩:=h2.cl 0 2
 obtain⟨c3,-⟩:=h2.cl 0 3
 obtain⟨c4,-⟩:=h2.cl 0 4
 obtain⟨c5,-⟩:=h2.cl 0 5
 obtain⟨c6,-⟩:=h2.cl 0 6
 obtain⟨c7,-⟩:=h2.cl 0 7
 obtain⟨c8,-⟩:=h2.cl 0 8
 obtain⟨c9,-⟩:=h2.cl 0 9
 have l0:=h2.lt 0
 have H2:=hide h2
 clear h2 H1
 go_wp2_with fail
 refine(wrU_all (n:=x.num) HU.out.2.1.1 HU.out.2.1.2 H2.out (by(try simp only[List.length_append,List.length_cons,List.length_nil]);have:=uN_len x.align;have:=HN.out;omega)).mono ?_
 rintro e w4 ⟨rfl,h3⟩
 have H3:=hide h3.pop
 clear h3 H2 c0 c1 c2 c3 c4 c5 c6 c7 c8 c9 l0
 go_wp2
 go_end0
 exact⟨rfl,by simpa [List.append_assoc] using H3.out⟩
set_option maxRecDepth 100000 in
set_option maxHeartbeats 1600000 in
theorem wrIns_55 (x:InsT) {vg vl:Value} (hr1:HasR R 73 1 vg x.gives.length (kindCells x.gives)) (hr2:HasR R 66 2 vl x.labels.length (x.labels.flatMap nuC)) (hs:∀p∈R,p∈Y) (m1:x.labels.length≤1000) (hb:∀y∈x.labels,y≤4294967295) (ha:Uok x.align) (hu:Uok x.num) (hv: -9223372036854775808≤x.value∧x.value≤9223372036854775807) (hwd:x.word=55) (h:WW w0 wb os Y w) (hn:os.length+8000≤1000000000000):Calls Tryz.prog 64 #[.agg #[.int .i64 0,.int .i64 0,.int .u8 55,.bool x.typed,vg,.int .u32 x.align,.int .u32 x.num,.int .i64 0,vl,.int .i64 x.value],.pointer (some ⟨wb,0,none⟩)] w (fun e w'=>e=.returned (.tuple #[])∧WW w0 wb (os++([55]++(uN x.align++uN x.num))) Y w'):=by
 have hnot:∀(x:Bool) (w:World),(Op.unary .not (.bool x)).run Tryz.prog w=.ok (.bool (!x)) w:=fun _ _=>rfl
 obtain⟨p1,q1,rfl⟩:=Row.shape (h.row hr1 hs)
 obtain⟨p2,q2,rfl⟩:=Row.shape (h.row hr2 hs)
 have HR1:=hide hr1
 have HR2:=hide hr2
 have HS:=hide hs
 have HU:Hid (Uok x.align∧Uok x.num∧(-9223372036854775808≤x.value∧x.value≤9223372036854775807)):=⟨ha,hu,hv⟩
 have HLB:=hide hb
 clear hr1 hr2 hs ha hu hv hb
 clear hwd
 have H0:=hide (h.new #[.int .i64 0,.int .i64 0,.int .u8 55,.bool x.typed,.slice p1 x.gives.length q1,.int .u32 x.align,.int .u32 x.num,.int .i64 0,.slice p2 x.labels.length q2,.int .i64 x.value] 131)
 have HN:=hide hn
 clear h hn
 go_enter Tryz.func64,Tryz.ntmps64
 go_upto_region 1 with fail
 generalize w.alloc (.cells #[.int .i64 0,.int .i64 0,.int .u8 55,.bool x.typed,.slice p1 x.gives.length q1,.int .u32 x.align,.int .u32 x.num,.int .i64 0,.slice p2 x.labels.length q2,.int .i64 x.value] 131)=w1 at*
 generalize w.heap.size=b at*
 obtain⟨c0,-⟩:=H0.out.cl 0 0
 obtain⟨c1,-⟩:=H0.out.cl 0 1
 obtain⟨c2,-⟩:=H0.out.cl 0 2
 obtain⟨c3,-⟩:=H0.out.cl 0 3
 obtain⟨c4,-⟩:=H0.out.cl 0 4
 obtain⟨c5,-⟩:=H0.out.cl 0 5
 obtain⟨c6,-⟩:=H0.out.cl 0 6
 obtain⟨c7,-⟩:=H0.out.cl 0 7
 obtain⟨c8,-⟩:=H0.out.cl 0 8
 obtain⟨c9,-⟩:=H0.out.cl 0 9
 have l0:=H0.out.lt 0
 go_wp2_with fail
 refine(wr1 (x:=55) (by omega) H0.out (by(try simp only[List.length_append,List.length_cons,List.length_nil]);have:=HN.out;omega) _).mono ?_
 rintro e w2 ⟨rfl,h1⟩
 clear c0 c1 c2 c3 c4 c5 c6 c7 c8 c9 l0
 obtain⟨c0,-⟩:=h1.cl 0 0
 obtain⟨c1,-⟩:=h1.cl 0 1
 obtain⟨c2,-⟩:=h1.cl 0 2
 obtain⟨c3,-⟩:=h1.cl 0 3
 obtain⟨c4,-⟩:=h1.cl 0 4
 obtain⟨c5,-⟩:=h1.cl 0 5
 obtain⟨c6,-⟩:=h1.cl 0 6
 obtain⟨c7,-⟩:=h1.cl 0 7
 obtain⟨c8,-⟩:=h1.cl 0 8
 obtain⟨c9,-⟩:=h1.cl 0 9
 have l0:=h1.lt 0
 have H1:=hide h1
 clear h1 H0
 go_wp2_with fail
 refine(wrU_all (n:=x.align) HU.out.1.1 HU.out.1.2 H1.out (by(try simp only[List.length_append,List.length_cons,List.length_nil]);have:=HN.out;omega)).mono ?_
 rintro e w3 ⟨rfl,h2⟩
 clear c0 c1 c2 c3 c4 c5 c6 c7 c8 c9 l0
 obtain⟨c0,-⟩:=h2.cl 0 0
 obtain⟨c1,-⟩:=h2.cl 0 1
 obtain⟨c2,-⟩:=h2.cl 0 2
 obtain⟨c3,-⟩:=h2.cl 0 3
 obtain⟨c4,-⟩:=h2.cl 0 4
 obtain⟨c5,-⟩:=h2.cl 0 5
 obtain⟨c6,-⟩:=h2.cl 0 6
 obtain⟨c7,-⟩:=h2.cl 0 7
 obtain⟨c8,-⟩:=h2.cl 0 8
 obtain⟨c9,-⟩:=h2.cl 0 9
 have l0:=h2.lt 0
 have H2:=hide h2
 clear h2 H1
 go_wp2_with fail
 refine(wrU_all (n:=x.num) HU.out.2.1.1 HU.out.2.1.2 H2.out (by(try simp only[List.length_append,List.length_cons,List.length_nil]);have:=uN_len x.align;have:=HN.out;omega)).mono ?_
 rintro e w4 ⟨rfl,h3⟩
 have H3:=hide h3.pop
 clear h3 H2 c0 c1 c2 c3 c4 c5 c6 c7 c8 c9 l0
 go_wp2
 go_end0
 exact⟨rfl,by simpa [List.append_assoc] using H3.out⟩
set_option maxRecDepth 100000 in
set_option maxHeartbeats 1600000 in
theorem wrIns_58 (x:InsT) {vg vl:Value} (hr1:HasR R 73 1 vg x.gives.length (kindCells x.gives)) (hr2:HasR R 66 2 vl x.labels.length (x.labels.flatMap nuC)) (hs:∀p∈R,p∈Y) (m1:x.labels.length≤1000) (hb:∀y∈x.labels,y≤4294967295) (ha:Uok x.align) (hu:Uok x.num) (hv: -9223372036854775808≤x.value∧x.value≤9223372036854775807) (hwd:x.word=58) (h:WW w0 wb os Y w) (hn:os.length+8000≤1000000000000):Calls Tryz.prog 64 #[.agg #[.int .i64 0,.int .i64 0,.int .u8 58,.bool x.typed,vg,.int .u32 x.align,.int .u32 x.num,.int .i64 0,vl,.int .i64 x.value],.pointer (some ⟨wb,0,none⟩)] w (fun e w'=>e=.returned (.tuple #[])∧WW w0 wb (os++([58]++(uN x.align++uN x.num))) Y w'):=by
 have hnot:∀(x:Bool) (w:World),(Op.unary .not (.bool x)).run Tryz.prog w=.ok (.bool (!x)) w:=fun _ _=>rfl
 obtain⟨p1,q1,rfl⟩:=Row.shape (h.row hr1 hs)
 obtain⟨p2,q2,rfl⟩:=Row.shape (h.row hr2 hs)
 have HR1:=hide hr1
 have HR2:=hide hr2
 have HS:=hide hs
 have HU:Hid (Uok x.align∧Uok x.num∧(-9223372036854775808≤x.value∧x.value≤9223372036854775807)):=⟨ha,hu,hv⟩
 have HLB:=hide hb
 clear hr1 hr2 hs ha hu hv hb
 clear hwd
 have H0:=hide (h.new #[.int .i64 0,.int .i64 0,.int .u8 58,.bool x.typed,.slice p1 x.gives.length q1,.int .u32 x.align,.int .u32 x.num,.int .i64 0,.slice p2 x.labels.length q2,.int .i64 x.value] 131)
 have HN:=hide hn
 clear h hn
 go_enter Tryz.func64,Tryz.ntmps64
 go_upto_region 1 with fail
 generalize w.alloc (.cells #[.int .i64 0,.int .i64 0,.int .u8 58,.bool x.typed,.slice p1 x.gives.length q1,.int .u32 x.align,.int .u32 x.num,.int .i64 0,.slice p2 x.labels.length q2,.int .i64 x.value] 131)=w1 at*
 generalize w.heap.size=b at*
 obtain⟨c0,-⟩:=H0.out.cl 0 0
 obtain⟨c1,-⟩:=H0.out.cl 0 1
 obtain⟨c2,-⟩:=H0.out.cl 0 2
 obtain⟨c3,-⟩:=H0.out.cl 0 3
 obtain⟨c4,-⟩:=H0.out.cl 0 4
 obtain⟨c5,-⟩:=H0.out.cl 0 5
 obtain⟨c6,-⟩:=H0.out.cl 0 6
 obtain⟨c7,-⟩:=H0.out.cl 0 7
 obtain⟨c8,-⟩:=H0.out.cl 0 8
 obtain⟨c9,-⟩:=H0.out.cl 0 9
 have l0:=H0.out.lt 0
 go_wp2_with fail
 refine(wr1 (x:=58) (by omega) H0.out (by(try simp only[List.length_append,List.length_cons,List.length_nil]);have:=HN.out;omega) _).mono ?_
 rintro e w2 ⟨rfl,h1⟩
 clear c0 c1 c2 c3 c4 c5 c6 c7 c8 c9 l0
 obtain⟨c0,-⟩:=h1.cl 0 0
 obtain⟨c1,-⟩:=h1.cl 0 1
 obtain⟨c2,-⟩:=h1.cl 0 2
 obtain⟨c3,-⟩:=h1.cl 0 3
 obtain⟨c4,-⟩:=h1.cl 0 4
 obtain⟨c5,-⟩:=h1.cl 0 5
 obtain⟨c6,-⟩:=h1.cl 0 6
 obtain⟨c7,-⟩:=h1.cl 0 7
 obtain⟨c8,-⟩:=h1.cl 0 8
 obtain⟨c9,-⟩:=h1.cl 0 9
 have l0:=h1.lt 0
 have H1:=hide h1
 clear h1 H0
 go_wp2_with fail
 refine(wrU_all (n:=x.align) HU.out.1.1 HU.out.1.2 H1.out (by(try simp only[List.length_append,List.length_cons,List.length_nil]);have:=HN.out;omega)).mono ?_
 rintro e w3 ⟨rfl,h2⟩
 clear c0 c1 c2 c3 c4 c5 c6 c7 c8 c9 l0
 obtain⟨c0,-⟩:=h2.cl 0 0
 obtain⟨c1,-⟩:=h2.cl 0 1
 obtain⟨c2,-⟩:=h2.cl 0 2
 obtain⟨c3,-⟩:=h2.cl 0 3
 obtain⟨c4,-⟩:=h2.cl 0 4
 obtain⟨c5,-⟩:=h2.cl 0 5
 obtain⟨c6,-⟩:=h2.cl 0 6
 obtain⟨c7,-⟩:=h2.cl 0 7
 obtain⟨c8,-⟩:=h2.cl 0 8
 obtain⟨c9,-⟩:=h2.cl 0 9
 have l0:=h2.lt 0
 have H2:=hide h2
 clear h2 H1
 go_wp2_with fail
 refine(wrU_all (n:=x.num) HU.out.2.1.1 HU.out.2.1.2 H2.out (by(try simp only[List.length_append,List.length_cons,List.length_nil]);have:=uN_len x.align;have:=HN.out;omega)).mono ?_
 rintro e w4 ⟨rfl,h3⟩
 have H3:=hide h3.pop
 clear h3 H2 c0 c1 c2 c3 c4 c5 c6 c7 c8 c9 l0
 go_wp2
 go_end0
 exact⟨rfl,by simpa [List.append_assoc] using H3.out⟩
end
end
end Go.Proofs.YtkmofapihggjgaaGreatDoor
