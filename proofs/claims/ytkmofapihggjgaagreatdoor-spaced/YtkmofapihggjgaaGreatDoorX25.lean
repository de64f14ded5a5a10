import Derived.Test.YtkmofapihggjgaaGreatDoorX23
namespace Go.Proofs.YtkmofapihggjgaaGreatDoor
section
open Go.RowKit
set_option linter.unusedSimpArgs false
set_option linter.unusedVariables false
section
variable {w0 w:World} {wb:Nat} {os:List Nat} {Y R:List It}
set_option maxRecDepth 100000 in
set_option maxHeartbeats 1600000 in
theorem wrIns_12 (x:InsT) {vg vl:Value} (hr1:HasR R 73 1 vg x.gives.length (kindCells x.gives)) (hr2:HasR R 66 2 vl x.labels.length (x.labels.flatMap nuC)) (hs:∀p∈R,p∈Y) (m1:x.labels.length≤1000) (hb:∀y∈x.labels,y≤4294967295) (ha:Uok x.align) (hu:Uok x.num) (hv: -9223372036854775808≤x.value∧x.value≤9223372036854775807) (hwd:x.word=12) (h:WW w0 wb os Y w) (hn:os.length+8000≤1000000000000):Calls Tryz.prog 64 #[.agg #[.int .i64 0,.int .i64 0,.int .u8 12,.bool x.typed,vg,.int .u32 x.align,.int .u32 x.num,.int .i64 0,vl,.int .i64 x.value],.pointer (some ⟨wb,0,none⟩)] w (fun e w'=>e=.returned (.tuple #[])∧WW w0 wb (os++([12]++(uN x.num))) Y w'):=by
 have hnot:∀(x:Bool) (w:World),(Op.unary .not (.bool x)).run Tryz.prog w=.ok (.bool (!x)) w:=fun _ _=>rfl
 obtain⟨p1,q1,rfl⟩:=Row.shape (h.row hr1 hs)
 obtain⟨p2,q2,rfl⟩:=Row.shape (h.row hr2 hs)
 have HR1:=hide hr1
 have HR2:=hide hr2
 have HS:=hide hs
 have HU:Hid (Uok x.align∧Uok x.num∧(-9223372036854775808≤x.value∧x.value≤9223372036854775807)):=⟨ha,hu,hv⟩
 have HLB:=hide hb
 clear hr1 hr2 hs ha hu hv hb
 clear hwd
 have H0:=hide (h.new #[.int .i64 0,.int .i64 0,.int .u8 12,.bool x.typed,.slice p1 x.gives.length q1,.int .u32 x.align,.int .u32 x.num,.int .i64 0,.slice p2 x.labels.length q2,.int .i64 x.value] 131)
 have HN:=hide hn
 clear h hn
 go_enter Tryz.func64,Tryz.ntmps64
 go_upto_region 1 with fail
 generalize w.alloc (.cells #[.int .i64 0,.int .i64 0,.int .u8 12,.bool x.typed,.slice p1 x.gives.length q1,.int .u32 x.align,.int .u32 x.num,.int .i64 0,.slice p2 x.labels.length q2,.int .i64 x.value] 131)=w1 at*
 generalize w.heap.size=b at*
 obtain⟨c0,-⟩:=H0.out.cl 0 0
 obtain⟨c1,-⟩:=H0.out.cl 0 1
 obtain⟨c2,-⟩:=H0.out.cl 0 2
 obtain⟨c3,-⟩:=H0.out.cl 0 3
 obtain⟨c4,-⟩:=H0.out.cl 0 4
 obtain⟨c5,-⟩:=H0.out.cl 0 5
 obtain⟨c6,-⟩:=H0.out.cl 0 6
 obtain⟨c7,-⟩:=H0.out.cl 0 7
 obtain⟨c8,-⟩:=H0.out.cl 0 8
 obtain⟨c9,-⟩:=H0.out.cl 0 9
 have l0:=H0.out.lt 0
 go_wp2_with fail
 refine(wr1 (x:=12) (by omega) H0.out (by(try simp only[List.length_append,List.length_cons,List.length_nil]);have:=HN.out;omega) _).mono ?_
 rintro e w2 ⟨rfl,h1⟩
 clear c0 c1 c2 c3 c4 c5 c6 c7 c8 c9 l0
 obtain⟨c0,-⟩:=h1.cl 0 0
 obtain⟨c1,-⟩:=h1.cl 0 1
 obtain⟨c2,-⟩:=h1.cl 0 2
 obtain⟨c3,-⟩:=h1.cl 0 3
 obtain⟨c4,-⟩:=h1.cl 0 4
 obtain⟨c5,-⟩:=h1.cl 0 5
 obtain⟨c6,-⟩:=h1.cl 0 6
 obtain⟨c7,-⟩:=h1.cl 0 7
 obtain⟨c8,-⟩:=h1.cl 0 8
 obtain⟨c9,-⟩:=h1.cl 0 9
 have l0:=h1.lt 0
 have H1:=hide h1
 clear h1 H0
 go_wp2_with fail
 refine(wrU_all (n:=x.num) HU.out.2.1.1 HU.out.2.1.2 H1.out (by(try simp only[List.length_append,List.length_cons,List.length_nil]);have:=HN.out;omega)).mono ?_
 rintro e w3 ⟨rfl,h2⟩
 have H2:=hide h2.pop
 clear h2 H1 c0 c1 c2 c3 c4 c5 c6 c7 c8 c9 l0
 go_wp2
 go_end0
 exact⟨rfl,by simpa [List.append_assoc] using H2.out⟩
set_option maxRecDepth 100000 in
set_option maxHeartbeats 1600000 in
theorem wrIns_13 (x:InsT) {vg vl:Value} (hr1:HasR R 73 1 vg x.gives.length (kindCells x.gives)) (hr2:HasR R 66 2 vl x.labels.length (x.labels.flatMap nuC)) (hs:∀p∈R,p∈Y) (m1:x.labels.length≤1000) (hb:∀y∈x.labels,y≤4294967295) (ha:Uok x.align) (hu:Uok x.num) (hv: -9223372036854775808≤x.value∧x.value≤9223372036854775807) (hwd:x.word=13) (h:WW w0 wb os Y w) (hn:os.length+8000≤1000000000000):Calls Tryz.prog 64 #[.agg #[.int .i64 0,.int .i64 0,.int .u8 13,.bool x.typed,vg,.int .u32 x.align,.int .u32 x.num,.int .i64 0,vl,.int .i64 x.value],.pointer (some ⟨wb,0,none⟩)] w (fun e w'=>e=.returned (.tuple #[])∧WW w0 wb (os++([13]++(uN x.num))) Y w'):=by
 have hnot:∀(x:Bool) (w:World),(Op.unary .not (.bool x)).run Tryz.prog w=.ok (.bool (!x)) w:=fun _ _=>rfl
 obtain⟨p1,q1,rfl⟩:=Row.shape (h.row hr1 hs)
 obtain⟨p2,q2,rfl⟩:=Row.shape (h.row hr2 hs)
 have HR1:=hide hr1
 have HR2:=hide hr2
 have HS:=hide hs
 have HU:Hid (Uok x.align∧Uok x.num∧(-9223372036854775808≤x.value∧x.value≤9223372036854775807)):=⟨ha,hu,hv⟩
 have HLB:=hide hb
 clear hr1 hr2 hs ha hu hv hb
 clear hwd
 have H0:=hide (h.new #[.int .i64 0,.int .i64 0,.int .u8 13,.bool x.typed,.slice p1 x.gives.length q1,.int .u32 x.align,.int .u32 x.num,.int .i64 0,.slice p2 x.labels.length q2,.int .i64 x.value] 131)
 have HN:=hide hn
 clear h hn
 go_enter Tryz.func64,Tryz.ntmps64
 go_upto_region 1 with fail
 generalize w.alloc (.cells #[.int .i64 0,.int .i64 0,.int .u8 13,.bool x.typed,.slice p1 x.gives.length q1,.int .u32 x.align,.int .u32 x.num,.int .i64 0,.slice p2 x.labels.length q2,.int .i64 x.value] 131)=w1 at*
 generalize w.heap.size=b at*
 obtain⟨c0,-⟩:=H0.out.cl 0 0
 obtain⟨c1,-⟩:=H0.out.cl 0 1
 obtain⟨c2,-⟩:=H0.out.cl 0 2
 obtain⟨c3,-⟩:=H0.out.cl 0 3
 obtain⟨c4,-⟩:=H0.out.cl 0 4
 obtain⟨c5,-⟩:=H0.out.cl 0 5
 obtain⟨c6,-⟩:=H0.out.cl 0 6
 obtain⟨c7,-⟩:=H0.out.cl 0 7
 obtain⟨c8,-⟩:=H0.out.cl 0 8
 obtain⟨c9,-⟩:=H0.out.cl 0 9
 have l0:=H0.out.lt 0
 go_wp2_with fail
 refine(wr1 (x:=13) (by omega) H0.out (by(try simp only[List.length_append,List.length_cons,List.length_nil]);have:=HN.out;omega) _).mono ?_
 rintro e w2 ⟨rfl,h1⟩
 clear c0 c1 c2 c3 c4 c5 c6 c7 c8 c9 l0
 obtain⟨c0,-⟩:=h1.cl 0 0
 obtain⟨c1,-⟩:=h1.cl 0 1
 obtain⟨c2,-⟩:=h1.cl 0 2
 obtain⟨c3,-⟩:=h1.cl 0 3
 obtain⟨c4,-⟩:=h1.cl 0 4
 obtain⟨c5,-⟩:=h1.cl 0 5
 obtain⟨c6,-⟩:=h1.cl 0 6
 obtain⟨c7,-⟩:=h1.cl 0 7
 obtain⟨c8,-⟩:=h1.cl 0 8
 obtain⟨c9,-⟩:=h1.cl 0 9
 have l0:=h1.lt 0
 have H1:=hide h1
 clear h1 H0
 go_wp2_with fail
 refine(wrU_all (n:=x.num) HU.out.2.1.1 HU.out.2.1.2 H1.out (by(try simp only[List.length_append,List.length_cons,List.length_nil]);have:=HN.out;omega)).mono ?_
 rintro e w3 ⟨rfl,h2⟩
 have H2:=hide h2.pop
 clear h2 H1 c0 c1 c2 c3 c4 c5 c6 c7 c8 c9 l0
 go_wp2
 go_end0
 exact⟨rfl,by simpa [List.append_assoc] using H2.out⟩
set_option maxRecDepth 100000 in
set_option maxHeartbeats 1600000 in
theorem wrIns_16 (x:InsT) {vg vl:Value} (hr1:HasR R 73 1 vg x.gives.length (kindCells x.gives)) (hr2:HasR R 66 2 vl x.labels.length (x.labels.flatMap nuC)) (hs:∀p∈R,p∈Y) (m1:x.labels.length≤1000) (hb:∀y∈x.labels,y≤4294967295) (ha:Uok x.align) (hu:Uok x.num) (hv: -9223372036854775808≤x.value∧x.value≤9223372036854775807) (hwd:x.word=16) (h:WW w0 wb os Y w) (hn:os.length+8000≤1000000000000):Calls Tryz.prog 64 #[.agg #[.int .i64 0,.int .i64 0,.int .u8 16,.bool x.typed,vg,.int .u32 x.align,.int .u32 x.num,.int .i64 0,vl,.int .i64 x.value],.pointer (some ⟨wb,0,none⟩)] w (fun e w'=>e=.returned (.tuple #[])∧WW w0 wb (os++([16]++(uN x.num))) Y w'):=by
 have hnot:∀(x:Bool) (w:World),(Op.unary .not (.bool x)).run Tryz.prog w=.ok (.bool (!x)) w:=fun _ _=>rfl
 obtain⟨p1,q1,rfl⟩:=Row.shape (h.row hr1 hs)
 obtain⟨p2,q2,rfl⟩:=Row.shape (h.row hr2 hs)
 have HR1:=hide hr1
 have HR2:=hide hr2
 have HS:=hide hs
 have HU:Hid (Uok x.align∧Uok x.num∧(-9223372036854775808≤x.value∧x.value≤9223372036854775807)):=⟨ha,hu,hv⟩
 have HLB:=hide hb
 clear hr1 hr2 hs ha hu hv hb
 clear hwd
 have H0:=hide (h.new #[.int .i64 0,.int .i64 0,.int .u8 16,.bool x.typed,.slice p1 x.gives.length q1,.int .u32 x.align,.int .u32 x.num,.int .i64 0,.slice p2 x.labels.length q2,.int .i64 x.value] 131)
 have HN:=hide hn
 clear h hn
 go_enter Tryz.func64,Tryz.ntmps64
 go_upto_region 1 with fail
 generalize w.alloc (.cells #[.int .i64 0,.int .i64 0,.int .u8 16,.bool x.typed,.slice p1 x.gives.length q1,.int .u32 x.align,.int .u32 x.num,.int .i64 0,.slice p2 x.labels.length q2,.int .i64 x.value] 131)=w1 at*
 generalize w.heap.size=b at*
 obtain⟨c0,-⟩:=H0.out.cl 0 0
 obtain⟨c1,-⟩:=H0.out.cl 0 1
 obtain⟨c2,-⟩:=H0.out.cl 0 2
 obtain⟨c3,-⟩:=H0.out.cl 0 3
 obtain⟨c4,-⟩:=H0.out.cl 0 4
 obtain⟨c5,-⟩:=H0.out.cl 0 5
 obtain⟨c6,-⟩:=H0.out.cl 0 6
 obtain⟨c7,-⟩:=H0.out.cl 0 7
 obtain⟨c8,-⟩:=H0.out.cl 0 8
 obtain⟨c9,-⟩:=H0.out.cl 0 9
 have l0:=H0.out.lt 0
 go_wp2_with fail
 refine(wr1 (x:=16) (by omega) H0.out (by(try simp only[List.length_append,List.length_cons,List.length_nil]);have:=HN.out;omega) _).mono ?_
 rintro e w2 ⟨rfl,h1⟩
 clear c0 c1 c2 c3 c4 c5 c6 c7 c8 c9 l0
 obtain⟨c0,-⟩:=h1.cl 0 0
 obtain⟨c1,-⟩:=h1.cl 0 1
 obtain⟨c2,-⟩:=h1.cl 0 2
 obtain⟨c3,-⟩:=h1.cl 0 3
 obtain⟨c4,-⟩:=h1.cl 0 4
 obtain⟨c5,-⟩:=h1.cl 0 5
 obtain⟨c6,-⟩:=h1.cl 0 6
 obtain⟨c7,-⟩:=h1.cl 0 7
 obtain⟨c8,-⟩:=h1.cl 0 8
 obtain⟨c9,-⟩:=h1.cl 0 9
 have l0:=h1.lt 0
 have H1:=hide h1
 clear h1 H0
 go_wp2_with fail
 refine(wrU_all (n:=x.num) HU.out.2.1.1 HU.out.2.1.2 H1.out (by(try simp only[List.length_append,List.length_cons,List.length_nil]);have:=HN.out;omega)).mono ?_
 rintro e w3 ⟨rfl,h2⟩
 have H2:=hide h2.pop
 clear h2 H1 c0 c1 c2 c3 c4 c5 c6 c7 c8 c9 l0
 go_wp2
 go_end0
 exact⟨rfl,by simpa [List.append_assoc] using H2.out⟩
set_option maxRecDepth 100000 in
set_option maxHeartbeats 1600000 in
theorem wrIns_32 (x:InsT) {vg vl:Value} (hr1:HasR R 73 1 vg x.gives.length (kindCells x.gives)) (hr2:HasR R 66 2 vl x.labels.length (x.labels.flatMap nuC)) (hs:∀p∈R,p∈Y) (m1:x.labels.length≤1000) (hb:∀y∈x.labels,y≤4294967295) (ha:Uok x.align) (hu:Uok x.num) (hv: -9223372036854775808≤x.value∧x.value≤9223372036854775807) (hwd:x.word=32) (h:WW w0 wb os Y w) (hn:os.length+8000≤1000000000000):Calls Tryz.prog 64 #[.agg #[.int .i64 0,.int .i64 0,.int .u8 32,.bool x.typed,vg,.int .u32 x.align,.int .u32 x.num,.int .i64 0,vl,.int .i64 x.value],.pointer (some ⟨wb,0,none⟩)] w (fun e w'=>e=.returned (.tuple #[])∧WW w0 wb (os++([32]++(uN x.num))) Y w'):=by
 have hnot:∀(x:Bool) (w:World),(Op.unary .not (.bool x)).run Tryz.prog w=.ok (.bool (!x)) w:=fun _ _=>rfl
 obtain⟨p1,q1,rfl⟩:=Row.shape (h.row hr1 hs)
 obtain⟨p2,q2,rfl⟩:=Row.shape (h.row hr2 hs)
 have HR1:=hide hr1
 have HR2:=hide hr2
 have HS:=hide hs
 have HU:Hid (Uok x.align∧Uok x.num∧(-9223372036854775808≤x.value∧x.value≤9223372036854775807)):=⟨ha,hu,hv⟩
 have HLB:=hide hb
 clear hr1 hr2 hs ha hu hv hb
 clear hwd
 have H0:=hide (h.new #[.int .i64 0,.int .i64 0,.int .u8 32,.bool x.typed,.slice p1 x.gives.length q1,.int .u32 x.align,.int .u32 x.num,.int .i64 0,.slice p2 x.labels.length q2,.int .i64 x.value] 131)
 have HN:=hide hn
 clear h hn
 go_enter Tryz.func64,Tryz.ntmps64
 go_upto_region 1 with fail
 generalize w.alloc (.cells #[.int .i64 0,.int .i64 0,.int .u8 32,.bool x.typed,.slice p1 x.gives.length q1,.int .u32 x.align,.int .u32 x.num,.int .i64 0,.slice p2 x.labels.length q2,.int .i64 x.value] 131)=w1 at*
 generalize w.heap.size=b at*
 obtain⟨c0,-⟩:=H0.out.cl 0 0
 obtain⟨c1,-⟩:=H0.out.cl 0 1
 obtain⟨c2,-⟩:=H0.out.cl 0 2
 obtain⟨c3,-⟩:=H0.out.cl 0 3
 obtain⟨c4,-⟩:=H0.out.cl 0 4
 obtain⟨c5,-⟩:=H0.out.cl 0 5
 obtain⟨c6,-⟩:=H0.out.cl 0 6
 obtain⟨c7,-⟩:=H0.out.cl 0 7
 obtain⟨c8,-⟩:=H0.out.cl 0 8
 obtain⟨c9,-⟩:=H0.out.cl 0 9
 have l0:=H0.out.lt 0
 go_wp2_with fail
 refine(wr1 (x:=32) (by omega) H0.out (by(try simp only[List.length_append,List.length_cons,List.length_nil]);have:=HN.out;omega) _).mono ?_
 rintro e w2 ⟨rfl,h1⟩
 clear c0 c1 c2 c3 c4 c5 c6 c7 c8 c9 l0
 obtain⟨c0,-⟩:=h1.cl 0 0
 obtain⟨c1,-⟩:=h1.cl 0 1
 obtain⟨c2,-⟩:=h1.cl 0 2
 obtain⟨c3,-⟩:=h1.cl 0 3
 obtain⟨c4,-⟩:=h1.cl 0 4
 obtain⟨c5,-⟩:=h1.cl 0 5
 obtain⟨c6,-⟩:=h1.cl 0 6
 obtain⟨c7,-⟩:=h1.cl 0 7
 obtain⟨c8,-⟩:=h1.cl 0 8
 obtain⟨c9,-⟩:=h1.cl 0 9
 have l0:=h1.lt 0
 have H1:=hide h1
 clear h1 H0
 go_wp2_with fail
 refine(wrU_all (n:=x.num) HU.out.2.1.1 HU.out.2.1.2 H1.out (by(try simp only[List.length_append,List.length_cons,List.length_nil]);have:=HN.out;omega)).mono ?_
 rintro e w3 ⟨rfl,h2⟩
 have H2:=hide h2.pop
 clear h2 H1 c0 c1 c2 c3 c4 c5 c6 c7 c8 c9 l0
 go_wp2
 go_end0
 exact⟨rfl,by simpa [List.append_assoc] using H2.out⟩
set_option maxRecDepth 100000 in
set_option maxHeartbeats 1600000 in
theorem wrIns_33 (x:InsT) {vg vl:Value} (hr1:HasR R 73 1 vg x.gives.length (kindCells x.gives)) (hr2:HasR R 66 2 vl x.labels.length (x.labels.flatMap nuC)) (hs:∀p∈R,p∈Y) (m1:x.labels.length≤1000) (hb:∀y∈x.labels,y≤4294967295) (ha:Uok x.align) (hu:Uok x.num) (hv: -9223372036854775808≤x.value∧x.value≤9223372036854775807) (hwd:x.word=33) (h:WW w0 wb os Y w) (hn:os.length+8000≤1000000000000):Calls Tryz.prog 64 #[.agg #[.int .i64 0,.int .i64 0,.int .u8 33,.bool x.typed,vg,.int .u32 x.align,.int .u32 x.num,.int .i64 0,vl,.int .i64 x.value],.pointer (some ⟨wb,0,none⟩)] w (fun e w'=>e=.returned (.tuple #[])∧WW w0 wb (os++([33]++(uN x.num))) Y w'):=by
 have hnot:∀(x:Bool) (w:World),(Op.unary .not (.bool x)).run Tryz.prog w=.ok (.bool (!x)) w:=fun _ _=>rfl
 obtain⟨p1,q1,rfl⟩:=Row.shape (h.row hr1 hs)
 obtain⟨p2,q2,rfl⟩:=Row.shape (h.row hr2 hs)
 have HR1:=hide hr1
 have HR2:=hide hr2
 have HS:=hide hs
 have HU:Hid (Uok x.align∧Uok x.num∧(-9223372036854775808≤x.value∧x.value≤9223372036854775807)):=⟨ha,hu,hv⟩
 have HLB:=hide hb
 clear hr1 hr2 hs ha hu hv hb
 clear hwd
 have H0:=hide (h.new #[.int .i64 0,.int .i64 0,.int .u8 33,.bool x.typed,.slice p1 x.gives.length q1,.int .u32 x.align,.int .u32 x.num,.int .i64 0,.slice p2 x.labels.length q2,.int .i64 x.value] 131)
 have HN:=hide hn
 clear h hn
 go_enter Tryz.func64,Tryz.ntmps64
 go_upto_region 1 with fail
 generalize w.alloc (.cells #[.int .i64 0,.int .i64 0,.int .u8 33,.bool x.typed,.slice p1 x.gives.length q1,.int .u32 x.align,.int .u32 x.num,.int .i64 0,.slice p2 x.labels.length q2,.int .i64 x.value] 131)=w1 at*
 generalize w.heap.size=b at*
 obtain⟨c0,-⟩:=H0.out.cl 0 0
 obtain⟨c1,-⟩:=H0.out.cl 0 1
 obtain⟨c2,-⟩:=H0.out.cl 0 2
 obtain⟨c3,-⟩:=H0.out.cl 0 3
 obtain⟨c4,-⟩:=H0.out.cl 0 4
 obtain⟨c5,-⟩:=H0.out.cl 0 5
 obtain⟨c6,-⟩:=H0.out.cl 0 6
 obtain⟨c7,-⟩:=H0.out.cl 0 7
 obtain⟨c8,-⟩:=H0.out.cl 0 8
 obtain⟨c9,-⟩:=H0.out.cl 0 9
 have l0:=H0.out.lt 0
 go_wp2_with fail
 refine(wr1 (x:=33) (by omega) H0.out (by(try simp only[List.length_append,List.length_cons,List.length_nil]);have:=HN.out;omega) _).mono ?_
 rintro e w2 ⟨rfl,h1⟩
 clear c0 c1 c2 c3 c4 c5 c6 c7 c8 c9 l0
 obtain⟨c0,-⟩:=h1.cl 0 0
 obtain⟨c1,-⟩:=h1.cl 0 1
 obtain⟨c2,-⟩:=h1.cl 0 2
 obtain⟨c3,-⟩:=h1.cl 0 3
 obtain⟨c4,-⟩:=h1.cl 0 4
 obtain⟨c5,-⟩:=h1.cl 0 5
 obtain⟨c6,-⟩:=h1.cl 0 6
 obtain⟨c7,-⟩:=h1.cl 0 7
 obtain⟨c8,-⟩:=h1.cl 0 8
 obtain⟨c9,-⟩:=h1.cl 0 9
 have l0:=h1.lt 0
 have H1:=hide h1
 clear h1 H0
 go_wp2_with fail
 refine(wrU_all (n:=x.num) HU.out.2.1.1 HU.out.2.1.2 H1.out (by(try simp only[List.length_append,List.length_cons,List.length_nil]);have:=HN.out;omega)).mono ?_
 rintro e w3 ⟨rfl,h2⟩
 have H2:=hide h2.pop
 clear h2 H1 c0 c1 c2 c3 c4 c5 c6 c7 c8 c9 l0
 go_wp2
 go_end0
 exact⟨rfl,by simpa [List.append_assoc] using H2.out⟩
set_option maxRecDepth 100000 in
set_option maxHeartbeats 1600000 in
theorem wrIns_34 (x:InsT) {vg vl:Value} (hr1:HasR R 73 1 vg x.gives.length (kindCells x.gives)) (hr2:HasR R 66 2 vl x.labels.length (x.labels.flatMap nuC)) (hs:∀p∈R,p∈Y) (m1:x.labels.length≤1000) (hb:∀y∈x.labels,y≤4294967295) (ha:Uok x.align) (hu:Uok x.num) (hv: -9223372036854775808≤x.value∧x.value≤9223372036854775807) (hwd:x.word=34) (h:WW w0 wb os Y w) (hn:os.length+8000≤1000000000000):Calls Tryz.prog 64 #[.agg #[.int .i64 0,.int .i64 0,.int .u8 34,.bool x.typed,vg,.int .u32 x.align,.int .u32 x.num,.int .i64 0,vl,.int .i64 x.value],.pointer (some ⟨wb,0,none⟩)] w (fun e w'=>e=.returned (.tuple #[])∧WW w0 wb (os++([34]++(uN x.num))) Y w'):=by
 have hnot:∀(x:Bool) (w:World),(Op.unary .not (.bool x)).run Tryz.prog w=.ok (.bool (!x)) w:=fun _ _=>rfl
 obtain⟨p1,q1,rfl⟩:=Row.shape (h.row hr1 hs)
 obtain⟨p2,q2,rfl⟩:=Row.shape (h.row hr2 hs)
 have HR1:=hide hr1
 have HR2:=hide hr2
 have HS:=hide hs
 have HU:Hid (Uok x.align∧Uok x.num∧(-9223372036854775808≤x.value∧x.value≤9223372036854775807)):=⟨ha,hu,hv⟩
 have HLB:=hide hb
 clear hr1 hr2 hs ha hu hv hb
 clear hwd
 have H0:=hide (h.new #[.int .i64 0,.int .i64 0,.int .u8 34,.bool x.typed,.slice p1 x.gives.length q1,.int .u32 x.align,.int .u32 x.num,.int .i64 0,.slice p2 x.labels.length q2,.int .i64 x.value] 131)
 have HN:=hide hn
 clear h hn
 go_enter Tryz.func64,Tryz.ntmps64
 go_upto_region 1 with fail
 generalize w.alloc (.cells #[.int .i64 0,.int .i64 0,.int .u8 34,.bool x.typed,.slice p1 x.gives.length q1,.int .u32 x.align,.int .u32 x.num,.int .i64 0,.slice p2 x.labels.length q2,.int .i64 x.value] 131)=w1 at*
 generalize w.heap.size=b at*
 obtain⟨c0,-⟩:=H0.out.cl 0 0
 obtain⟨c1,-⟩:=H0.out.cl 0 1
 obtain⟨c2,-⟩:=H0.out.cl 0 2
 obtain⟨c3,-⟩:=H0.out.cl 0 3
 obtain⟨c4,-⟩:=H0.out.cl 0 4
 obtain⟨c5,-⟩:=H0.out.cl 0 5
 obtain⟨c6,-⟩:=H0.out.cl 0 6
 obtain⟨c7,-⟩:=H0.out.cl 0 7
 obtain⟨c8,-⟩:=H0.out.cl 0 8
 obtain⟨c9,-⟩:=H0.out.cl 0 9
 have l0:=H0.out.lt 0
 go_wp2_with fail
 refine(wr1 (x:=34) (by omega) H0.out (by(try simp only[List.length_append,List.length_cons,List.length_nil]);have:=HN.out;omega) _).mono ?_
 rintro e w2 ⟨rfl,h1⟩
 clear c0 c1 c2 c3 c4 c5 c6 c7 c8 c9 l0
 obtain⟨c0,-⟩:=h1.cl 0 0
 obtain⟨c1,-⟩:=h1.cl 0 1
 obtain⟨c2,-⟩:=h1.cl 0 2
 obtain⟨c3,-⟩:=h1.cl 0 3
 obtain⟨c4,-⟩:=h1.cl 0 4
 obtain⟨c5,-⟩:=h1.cl 0 5
 obtain⟨c6,-⟩:=h1.cl 0 6
 obtain⟨c7,-⟩:=h1.cl 0 7
 obtain⟨c8,-⟩:=h1.cl 0 8
 obtain⟨c9,-⟩:=h1.cl 0 9
 have l0:=h1.lt 0
 have H1:=hide h1
 clear h1 H0
 go_wp2_with fail
 refine(wrU_all (n:=x.num) HU.out.2.1.1 HU.out.2.1.2 H1.out (by(try simp only[List.length_append,List.length_cons,List.length_nil]);have:=HN.out;omega)).mono ?_
 rintro e w3 ⟨rfl,h2⟩
 have H2:=hide h2.pop
 clear h2 H1 c0 c1 c2 c3 c4 c5 c6 c7 c8 c9 l0
 go_wp2
 go_end0
 exact⟨rfl,by simpa [List.append_assoc] using H2.out⟩
set_option maxRecDepth 100000 in
set_option maxHeartbeats 1600000 in
theorem wrIns_35 (x:InsT) {vg vl:Value} (hr1:HasR R 73 1 vg x.gives.length (kindCells x.gives)) (hr2:HasR R 66 2 vl x.labels.length (x.labels.flatMap nuC)) (hs:∀p∈R,p∈Y) (m1:x.labels.length≤1000) (hb:∀y∈x.labels,y≤4294967295) (ha:Uok x.align) (hu:Uok x.num) (hv: -9223372036854775808≤x.value∧x.value≤9223372036854775807) (hwd:x.word=35) (h:WW w0 wb os Y w) (hn:os.length+8000≤1000000000000):Calls Tryz.prog 64 #[.agg #[.int .i64 0,.int .i64 0,.int .u8 35,.bool x.typed,vg,.int .u32 x.align,.int .u32 x.num,.int .i64 0,vl,.int .i64 x.value],.pointer (some ⟨wb,0,none⟩)] w (fun e w'=>e=.returned (.tuple #[])∧WW w0 wb (os++([35]++(uN x.num))) Y w'):=by
 have hnot:∀(x:Bool) (w:World),(Op.unary .not (.bool x)).run Tryz.prog w=.ok (.bool (!x)) w:=fun _ _=>rfl
 obtain⟨p1,q1,rfl⟩:=Row.shape (h.row hr1 hs)
 obtain⟨p2,q2,rfl⟩:=Row.shape (h.row hr2 hs)
 have HR1:=hide hr1
 have HR2:=hide hr2
 have HS:=hide hs
 have HU:Hid (Uok x.align∧Uok x.num∧(-9223372036854775808≤x.value∧x.value≤9223372036854775807)):=⟨ha,hu,hv⟩
 have HLB:=hide hb
 clear hr1 hr2 hs ha hu hv hb
 clear hwd
 have H0:=hide (h.new #[.int .i64 0,.int .i64 0,.int .u8 35,.bool x.typed,.slice p1 x.gives.length q1,.int .u32 x.align,.int .u32 x.num,.int .i64 0,.slice p2 x.labels.length q2,.int .i64 x.value] 131)
 have HN:=hide hn
 clear h hn
 go_enter Tryz.func64,Tryz.ntmps64
 go_upto_region 1 with fail
 generalize w.alloc (.cells #[.int .i64 0,.int .i64 0,.int .u8 35,.bool x.typed,.slice p1 x.gives.length q1,.int .u32 x.align,.int .u32 x.num,.int .i64 0,.slice p2 x.labels.length q2,.int .i64 x.value] 131)=w1 at*
 generalize w.heap.size=b at*
 obtain⟨c0,-⟩:=H0.out.cl 0 0
 obtain⟨c1,-⟩:=H0.out.cl 0 1
 obtain⟨c2,-⟩:=H0.out.cl 0 2
 obtain⟨c3,-⟩:=H0.out.cl 0 3
 obtain⟨c4,-⟩:=H0.out.cl 0 4
 obtain⟨c5,-⟩:=H0.out.cl 0 5
 obtain⟨c6,-⟩:=H0.out.cl 0 6
 obtain⟨c7,-⟩:=H0.out.cl 0 7
 obtain⟨c8,-⟩:=H0.out.cl 0 8
 obtain⟨c9,-⟩:=H0.out.cl 0 9
 have l0:=H0.out.lt 0
 go_wp2_with fail
 refine(wr1 (x:=35) (by omega) H0.out (by(try simp only[List.length_append,List.length_cons,List.length_nil]);have:=HN.out;omega) _).mono ?_
 rintro e w2 ⟨rfl,h1⟩
 clear c0 c1 c2 c3 c4 c5 c6 c7 c8 c9 l0
 obtain⟨c0,-⟩:=h1.cl 0 0
 obtain⟨c1,-⟩:=h1.cl 0 1
 obtain⟨c2,-⟩:=h1.cl 0 2
 obtain⟨c3,-⟩:=h1.cl 0 3
 obtain⟨c4,-⟩:=h1.cl 0 4
 obtain⟨c5,-⟩:=h1.cl 0 5
 obtain⟨c6,-⟩:=h1.cl 0 6
 obtain⟨c7,-⟩:=h1.cl 0 7
 obtain⟨c8,-⟩:=h1.cl 0 8
 obtain⟨c9,-⟩:=h1.cl 0 9
 have l0:=h1.lt 0
 have H1:=hide h1
 clear h1 H0
 go_wp2_with fail
 refine(wrU_all (n:=x.num) HU.out.2.1.1 HU.out.2.1.2 H1.out (by(try simp only[List.length_append,List.length_cons,List.length_nil]);have:=HN.out;omega)).mono ?_
 rintro e w3 ⟨rfl,h2⟩
 have H2:=hide h2.pop
 clear h2 H1 c0 c1 c2 c3 c4 c5 c6 c7 c8 c9 l0
 go_wp2
 go_end0
 exact⟨rfl,by simpa [List.append_assoc] using H2.out⟩
set_option maxRecDepth 100000 in
set_option maxHeartbeats 1600000 in
theorem wrIns_36 (x:InsT) {vg vl:Value} (hr1:HasR R 73 1 vg x.gives.length (kindCells x.gives)) (hr2:HasR R 66 2 vl x.labels.length (x.labels.flatMap nuC)) (hs:∀p∈R,p∈Y) (m1:x.labels.length≤1000) (hb:∀y∈x.labels,y≤4294967295) (ha:Uok x.align) (hu:Uok x.num) (hv: -9223372036854775808≤x.value∧x.value≤9223372036854775807) (hwd:x.word=36) (h:WW w0 wb os Y w) (hn:os.length+8000≤1000000000000):Calls Tryz.prog 64 #[.agg #[.int .i64 0,.int .i64 0,.int .u8 36,.bool x.typed,vg,.int .u32 x.align,.int .u32 x.num,.int .i64 0,vl,.int .i64 x.value],.pointer (some ⟨wb,0,none⟩)] w (fun e w'=>e=.returned (.tuple #[])∧WW w0 wb (os++([36]++(uN x.num))) Y w'):=by
 have hnot:∀(x:Bool) (w:World),(Op.unary .not (.bool x)).run Tryz.prog w=.ok (.bool (!x)) w:=fun _ _=>rfl
 obtain⟨p1,q1,rfl⟩:=Row.shape (h.row hr1 hs)
 obtain⟨p2,q2,rfl⟩:=Row.shape (h.row hr2 hs)
 have HR1:=hide hr1
 have HR2:=hide hr2
 have HS:=hide hs
 have HU:Hid (Uok x.align∧Uok x.num∧(-9223372036854775808≤x.value∧x.value≤9223372036854775807)):=⟨ha,hu,hv⟩
 have HLB:=hide hb
 clear hr1 hr2 hs ha hu hv hb
 clear hwd
 have H0:=hide (h.new #[.int .i64 0,.int .i64 0,.int .u8 36,.bool x.typed,.slice p1 x.gives.length q1,.int .u32 x.align,.int .u32 x.num,.int .i64 0,.slice p2 x.labels.length q2,.int .i64 x.value] 131)
 have HN:=hide hn
 clear h hn
 go_enter Tryz.func64,Tryz.ntmps64
 go_upto_region 1 with fail
 generalize w.alloc (.cells #[.int .i64 0,.int .i64 0,.int .u8 36,.bool x.typed,.slice p1 x.gives.length q1,.int .u32 x.align,.int .u32 x.num,.int .i64 0,.slice p2 x.labels.length q2,.int .i64 x.value] 131)=w1 at*
 generalize w.heap.size=b at*
 obtain⟨c0,-⟩:=H0.out.cl 0 0
 obtain⟨c1,-⟩:=H0.out.cl 0 1
 obtain⟨c2,-⟩:=H0.out.cl 0 2
 obtain⟨c3,-⟩:=H0.out.cl 0 3
 obtain⟨c4,-⟩:=H0.out.cl 0 4
 obtain⟨c5,-⟩:=H0.out.cl 0 5
 obtain⟨c6,-⟩:=H0.out.cl 0 6
 obtain⟨c7,-⟩:=H0.out.cl 0 7
 obtain⟨c8,-⟩:=H0.out.cl 0 8
 obtain⟨c9,-⟩:=H0.out.cl 0 9
 have l0:=H0.out.lt 0
 go_wp2_with fail
 refine(wr1 (x:=36) (by omega) H0.out (by(try simp only[List.length_append,List.length_cons,List.length_nil]);have:=HN.out;omega) _).mono ?_
 rintro e w2 ⟨rfl,h1⟩
 clear c0 c1 c2 c3 c4 c5 c6 c7 c8 c9 l0
 obtain⟨c0,-⟩:=h1.cl 0 0
 obtain⟨c1,-⟩:=h1.cl 0 1
 obtain⟨c2,-⟩:=h1.cl 0 2
 obtain⟨c3,-⟩:=h1.cl 0 3
 obtain⟨c4,-⟩:=h1.cl 0 4
 obtain⟨c5,-⟩:=h1.cl 0 5
 obtain⟨c6,-⟩:=h1.cl 0 6
 obtain⟨c7,-⟩:=h1.cl 0 7
 obtain⟨c8,-⟩:=h1.cl 0 8
 obtain⟨c9,-⟩:=h1.cl 0 9
 have l0:=h1.lt 0
 have H1:=hide h1
 clear h1 H0
 go_wp2_with fail
 refine(wrU_all (n:=x.num) HU.out.2.1.1 HU.out.2.1.2 H1.out (by(try simp only[List.length_append,List.length_cons,List.length_nil]);have:=HN.out;omega)).mono ?_
 rintro e w3 ⟨rfl,h2⟩
 have H2:=hide h2.pop
 clear h2 H1 c0 c1 c2 c3 c4 c5 c6 c7 c8 c9 l0
 go_wp2
 go_end0
 exact⟨rfl,by simpa [List.append_assoc] using H2.out⟩
end
end
end Go.Proofs.YtkmofapihggjgaaGreatDoor
