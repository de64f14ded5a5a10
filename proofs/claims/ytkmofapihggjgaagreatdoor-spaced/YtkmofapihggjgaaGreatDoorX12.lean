import Derived.Test.YtkmofapihggjgaaGreatDoorX11
namespace Go.Proofs.YtkmofapihggjgaaGreatDoor
section
open Go.RowKit
section
variable {w0 w:World} {ab tg cap mw mb fb:Nat} {T:List Tok} {c:Nat} {f:Bk} {X:List It} {word:Nat}
set_option maxRecDepth 100000 in
set_option maxHeartbeats 12800000 in
theorem behind_loc (h:FF w0 ab tg cap mw mb fb T c f X w) (hg:Ge w0) (hd:Gd w0) (hT:TW T) (hw:word=32∨word=33∨word=34):
  Calls Tryz.prog 149 #[.pointer (some ⟨fb,0,none⟩),.int .u8 (word:Nat)] w (OutX w0 (behT T f word) (BehV w0 ab tg cap mw mb fb T c X)):=by
 have H:=hide (((h.nilR 66 2).new #[.int .i64 0,.int .i64 0,.int .u8 0,.bool false,.slice none 0 0,.int .u32 0,.int .u32 0,.int .i64 0,.slice none 0 0,.int .i64 0] 131).new #[.int .i64 0,.int .i64 0,.int .u8 (word:Nat),.bool false,.slice none 0 0,.int .u32 0,.int .u32 0,.int .i64 0,.slice none 0 0,.int .i64 0] 131)
 have HG:=hide hg
 have HD:=hide hd
 have HWD:=hide hw
 clear h hg hd hw
 go_enter Tryz.func149,Tryz.ntmps149
 go_upto_block 0 with fail
 simp only[World.size_alloc] at H
 generalize ((w.alloc (.cells #[.int .i64 0,.int .i64 0,.int .u8 0,.bool false,.slice none 0 0,.int .u32 0,.int .u32 0,.int .i64 0,.slice none 0 0,.int .i64 0] 131)).alloc (.cells #[.int .i64 0,.int .i64 0,.int .u8 (word:Nat),.bool false,.slice none 0 0,.int .u32 0,.int .u32 0,.int .i64 0,.slice none 0 0,.int .i64 0] 131))=W at*
 generalize w.heap.size=rb at*
 obtain⟨ib,hib⟩:∃ib,ib=rb+1:=⟨_,rfl⟩
 rw[←hib] at H ⊢
 clear hib
 go_cut [] from 9 to 139 (fun V=>∃x lv,lv.oneCell'=true∧x.1.gives=[]∧behT T f word=.ok x∧FF w0 ab tg cap mw mb fb T c x.2 (.b ib (insV (x.1,.slice none 0 0,lv))::.b rb [.int .i64 0,.int .i64 0,.int .u8 0,.bool false,.slice none 0 0,.int .u32 0,.int .u32 0,.int .i64 0,.slice none 0 0,.int .i64 0]::.r 66 2 lv x.1.labels.length (x.1.labels.flatMap nuC)::X) V)
 case first=>
  rcases HWD.out with hw | hw | hw
  case' inl=>
   have e14:((word:Int)==14)=false:=by have:=(hide hw).out;simp;omega
   have e12:((word:Int)==12)=false:=by have:=(hide hw).out;simp;omega
   have e13:((word:Int)==13)=false:=by have:=(hide hw).out;simp;omega
   have e16:((word:Int)==16)=false:=by have:=(hide hw).out;simp;omega
   have e32:((word:Int)==32)=true:=by have:=(hide hw).out;simp;omega
  case' inr.inl=>
   have e14:((word:Int)==14)=false:=by have:=(hide hw).out;simp;omega
   have e12:((word:Int)==12)=false:=by have:=(hide hw).out;simp;omega
   have e13:((word:Int)==13)=false:=by have:=(hide hw).out;simp;omega
   have e16:((word:Int)==16)=false:=by have:=(hide hw).out;simp;omega
   have e32:((word:Int)==32)=false:=by have:=(hide hw).out;simp;omega
   have e33:((word:Int)==33)=true:=by have:=(hide hw).out;simp;omega
  case' inr.inr=>
   have e14:((word:Int)==14)=false:=by have:=(hide hw).out;simp;omega
   have e12:((word:Int)==12)=false:=by have:=(hide hw).out;simp;omega
   have e13:((word:Int)==13)=false:=by have:=(hide hw).out;simp;omega
   have e16:((word:Int)==16)=false:=by have:=(hide hw).out;simp;omega
   have e32:((word:Int)==32)=false:=by have:=(hide hw).out;simp;omega
   have e33:((word:Int)==33)=false:=by have:=(hide hw).out;simp;omega
   have e34:((word:Int)==34)=true:=by have:=(hide hw).out;simp;omega
  all_goals
   clear hw
   obtain⟨hi,g,v,vf,tl,ha,hS⟩:=H.out
   have HI:Hid (f.m.i<T.length∧FA g c v vf f tl):=⟨hi,ha⟩
   have HS:=hide hS
   clear hi ha hS H
   obtain⟨pn,cn,hv⟩:=Row.shape (HS.out.isRow 23 rfl)
   go_wp2_with fail
   have hS:∀(V:World) (q:Value) (j:Nat) (no:List (Nat×Nat)) (ics:List Value),Sx w0 V (LF ab tg cap mw mb fb T {v with no:=q} vf {f with m:={f.m with i:=j,no:=no}} (.b ib ics::.b rb [.int .i64 0,.int .i64 0,.int .u8 0,.bool false,.slice none 0 0,.int .u32 0,.int .u32 0,.int .i64 0,.slice none 0 0,.int .i64 0]::.r 66 2 (.slice none 0 0) 0 []::X++tl))→(fun V:World=>V.cell? ⟨fb,0,none⟩=some (.pointer (some ⟨ab,0,none⟩))∧V.cell? ⟨fb,1,none⟩=some (.slice pn f.nm.length cn)) V:=fun V q j no ics hV=>⟨(hV.c 22 0 rfl rfl).1,(hV.c 22 1 rfl rfl).1.trans (congrArg some hv)⟩
   have hS0:=hS _ v.no f.m.i f.m.no _ HS.out.drew
   refine regK (fun V:World=>V.cell? ⟨fb,0,none⟩=some (.pointer (some ⟨ab,0,none⟩))∧V.cell? ⟨fb,1,none⟩=some (.slice pn f.nm.length cn)) 13 ?_
   iterate 8 refine tkk hS0 (h:=?_) (hy:=by(refine Or.inl ⟨by rfl,?_⟩;intro V hV;obtain⟨u0,u1⟩:=hV;go_simp;try with_reducible rfl))
   refine oneK (fun K hK=>?_)
   refine step_callX (f:=123) (args:= #[.pointer (some ⟨ab,0,none⟩),.slice pn (f.nm).length cn]) (by rfl) (by go_simp) (asIndex_all (kr:=21) (vv:=.slice pn (f.nm).length cn) (v:=v) (s:=f.m) (tl:=FT ab fb vf f (.b ib [.int .i64 0,.int .i64 0,.int .u8 (word:Nat),.bool false,.slice none 0 0,.int .u32 0,.int .u32 0,.int .i64 0,.slice none 0 0,.int .i64 0]::.b rb [.int .i64 0,.int .i64 0,.int .u8 0,.bool false,.slice none 0 0,.int .u32 0,.int .u32 0,.int .i64 0,.slice none 0 0,.int .i64 0]::.r 66 2 (.slice none 0 0) 0 []::X++tl)) HS.out.drew HG.out hT.toTT HI.out.1 (by rw[←hv];rfl) (by have:=HI.out.2.nm;have:=HI.out.1;have:=hT.few;omega) (HI.out.2.nmx) (by have:=HI.out.2.ag.no;have:=HI.out.1;have:=hT.few;omega)) ?_
   intro e w1 h1
   cases hx:indexT T (f.nm) f.m.i with
   | error q=>
    rw[hx] at h1
    obtain⟨rfl,hk⟩:=h1
    exact .inr ⟨_,rfl,⟨rfl,OutX.err_mk (by rw[behT_loc0 HWD.out,hx]) ⟨rfl,hk⟩⟩⟩
   | ok x=>
   obtain⟨⟨n,nb⟩,j,ns⟩:=x
   have hle:=indexT_le hT hx HI.out.1
   rw[hx] at h1
   obtain⟨rfl,q,h1⟩:=h1
   simp only at h1 hle
   have h1':Sx w0 w1 (LF ab tg cap mw mb fb T {v with no:=q} vf {f with m:={f.m with i:=j,no:=f.m.no++ns}} (.b ib [.int .i64 0,.int .i64 0,.int .u8 (word:Nat),.bool false,.slice none 0 0,.int .u32 0,.int .u32 0,.int .i64 0,.slice none 0 0,.int .i64 0]::.b rb [.int .i64 0,.int .i64 0,.int .u8 0,.bool false,.slice none 0 0,.int .u32 0,.int .u32 0,.int .i64 0,.slice none 0 0,.int .i64 0]::.r 66 2 (.slice none 0 0) 0 []::X++tl)):=h1
   have hS2:=hS _ q j _ _ h1'
   refine .inl ⟨_,rfl,hK _ _ (.inr hS2) ?_⟩
   clear hK K hS0
   simp only[Act.put,List.setIfInBounds_toArray,List.set_cons_zero,List.set_cons_succ]
   iterate 2 refine tkk hS2 (h:=?_) (hy:=by(refine Or.inl ⟨by rfl,?_⟩;intro V hV;obtain⟨u0,u1⟩:=hV;go_simp;try with_reducible rfl))
   refine tk 12 [] hS2 (h:=?_)
   obtain⟨c6,d6⟩:=h1'.c 26 6 rfl rfl
   obtain⟨c7,d7⟩:=h1'.c 26 7 rfl rfl
   have li:=h1'.lt 26 rfl
   have h2:Sx w0 _ (LF ab tg cap mw mb fb T {v with no:=q} vf {f with m:={f.m with i:=j,no:=f.m.no++ns}} (.b ib [.int .i64 0,.int .i64 0,.int .u8 (word:Nat),.bool false,.slice none 0 0,.int .u32 0,.int .u32 (n:Nat),.int .i64 0,.slice none 0 0,.int .i64 0]::.b rb [.int .i64 0,.int .i64 0,.int .u8 0,.bool false,.slice none 0 0,.int .u32 0,.int .u32 0,.int .i64 0,.slice none 0 0,.int .i64 0]::.r 66 2 (.slice none 0 0) 0 []::X++tl)):=(h1'.set 26 6 (.int .u32 (n:Nat)) rfl).set 26 7 (.int .i64 0) rfl
   have hS3:=hS _ q j _ _ h2
   have H2:=hide h2
   have HM:Hid (behT T f word=.ok ({insB word with num:=n},{f with m:={f.m with i:=j,no:=f.m.no++ns}})):=by show _=_;rw[behT_loc0 HWD.out,hx]
   have HJ:Hid ((f.m.i≤j∧j<T.length)∧ns.length≤j - f.m.i):=hle
   clear h1 h1' h2 hx hle HS hS
   refine twoE (i:=11) (j:=13) (by kernel_rfl) (wpOp_stepL rfl (fun K hK=>?_)) (wpOp_stepL rfl (fun K hK=>?_))
   case' refine_1=>
    go_simp
    refine hK _ _ ⟨.inr hS2,?_⟩
    clear hK K
    refine wpAnyE_one (i:=13) (by kernel_rfl) (wpOp_stepL rfl (fun K hK=>?_))
    go_simp
    refine hK _ _ ⟨.inl rfl,?_⟩
    clear hK K
    refine wpAnyE_done (by kernel_rfl) ?_ _
   case' refine_2=>
    go_simp
    refine hK _ _ ⟨.inl rfl,?_⟩
    clear hK K
    refine wpAnyE_one (i:=11) (by kernel_rfl) (wpOp_stepL rfl (fun K hK=>?_))
    go_simp
    refine hK _ _ ⟨.inr hS3,?_⟩
    clear hK K
    refine wpAnyE_done (by kernel_rfl) ?_ _
   all_goals
    clear hS2 hS3 c6 d6 c7 d7 li
    try simp only[Act.put,List.setIfInBounds_toArray,List.set_cons_zero,List.set_cons_succ]
    go_wp2
    go_meet
    case rel=>
     refine⟨_,.slice none 0 0,rfl,rfl,HM.out,HJ.out.1.2,g,{v with no:=q},vf,tl,HI.out.2.on (v':={v with no:=q}) ⟨rfl,rfl,rfl,rfl⟩ HJ.out.1.1 (by rw[List.length_append];have:=HJ.out;have:=HI.out.2.ag.no;omega),H2.out⟩
 obtain⟨x,lv,hlv,hgi,hx,hF⟩:=hcut
 have HM:=hide hx
 have HLV:Hid (lv.oneCell'=true∧x.1.gives=[]):=⟨hlv,hgi⟩
 clear hx hgi
 obtain⟨hi,g,v,vf,tl,ha,hS⟩:=hF
 have hS':Sx w0 wc (LF ab tg cap mw mb fb T v vf x.2 (.b ib [.int .i64 0,.int .i64 0,.int .u8 (x.1.word:Nat),.bool x.1.typed,.slice none 0 0,.int .u32 x.1.align,.int .u32 x.1.num,.int .i64 0,lv,.int .i64 x.1.value]::.b rb [.int .i64 0,.int .i64 0,.int .u8 0,.bool false,.slice none 0 0,.int .u32 0,.int .u32 0,.int .i64 0,.slice none 0 0,.int .i64 0]::.r 66 2 lv x.1.labels.length (x.1.labels.flatMap nuC)::X++tl)):=hS
 obtain⟨pl,cl,rfl⟩:=Row.shape (hS'.isRow 28 rfl)
 obtain⟨b0,-⟩:=hS'.c 26 0 rfl rfl
 obtain⟨b1,-⟩:=hS'.c 26 1 rfl rfl
 obtain⟨b2,-⟩:=hS'.c 26 2 rfl rfl
 obtain⟨b3,-⟩:=hS'.c 26 3 rfl rfl
 obtain⟨b4,-⟩:=hS'.c 26 4 rfl rfl
 obtain⟨b5,-⟩:=hS'.c 26 5 rfl rfl
 obtain⟨b6,-⟩:=hS'.c 26 6 rfl rfl
 obtain⟨b7,-⟩:=hS'.c 26 7 rfl rfl
 obtain⟨b8,-⟩:=hS'.c 26 8 rfl rfl
 obtain⟨b9,-⟩:=hS'.c 26 9 rfl rfl
 obtain⟨r0,s0⟩:=hS'.c 27 0 rfl rfl
 obtain⟨r1,s1⟩:=hS'.c 27 1 rfl rfl
 obtain⟨r2,s2⟩:=hS'.c 27 2 rfl rfl
 obtain⟨r3,s3⟩:=hS'.c 27 3 rfl rfl
 obtain⟨r4,s4⟩:=hS'.c 27 4 rfl rfl
 obtain⟨r5,s5⟩:=hS'.c 27 5 rfl rfl
 obtain⟨r6,s6⟩:=hS'.c 27 6 rfl rfl
 obtain⟨r7,s7⟩:=hS'.c 27 7 rfl rfl
 obtain⟨r8,s8⟩:=hS'.c 27 8 rfl rfl
 obtain⟨r9,s9⟩:=hS'.c 27 9 rfl rfl
 have lb:=hS'.lt 26 rfl
 have lr:=hS'.lt 27 rfl
 have h19:Sx w0 _ (LF ab tg cap mw mb fb T v vf x.2 (.b ib [.int .i64 0,.int .i64 0,.int .u8 (x.1.word:Nat),.bool x.1.typed,.slice none 0 0,.int .u32 x.1.align,.int .u32 x.1.num,.int .i64 0,.slice pl x.1.labels.length cl,.int .i64 x.1.value]::.b rb [.int .i64 0,.int .i64 0,.int .u8 (x.1.word:Nat),.bool x.1.typed,.slice none 0 0,.int .u32 x.1.align,.int .u32 x.1.num,.int .i64 0,.slice pl x.1.labels.length cl,.int .i64 x.1.value]::.r 66 2 (.slice pl x.1.labels.length cl) x.1.labels.length (x.1.labels.flatMap nuC)::X++tl)):=((((((((((hS'.set 27 0 (.int .i64 0) rfl).set 27 1 (.int .i64 0) rfl).set 27 2 (.int .u8 (x.1.word:Nat)) rfl).set 27 3 (.bool x.1.typed) rfl).set 27 4 (.slice none 0 0) rfl).set 27 5 (.int .u32 x.1.align) rfl).set 27 6 (.int .u32 x.1.num) rfl).set 27 7 (.int .i64 0) rfl).set 27 8 (.slice pl x.1.labels.length cl) rfl).set 27 9 (.int .i64 x.1.value) rfl)
 obtain⟨y0,-⟩:=h19.c 27 0 rfl rfl
 obtain⟨y1,-⟩:=h19.c 27 1 rfl rfl
 obtain⟨y2,-⟩:=h19.c 27 2 rfl rfl
 obtain⟨y3,-⟩:=h19.c 27 3 rfl rfl
 obtain⟨y4,-⟩:=h19.c 27 4 rfl rfl
 obtain⟨y5,-⟩:=h19.c 27 5 rfl rfl
 obtain⟨y6,-⟩:=h19.c 27 6 rfl rfl
 obtain⟨y7,-⟩:=h19.c 27 7 rfl rfl
 obtain⟨y8,-⟩:=h19.c 27 8 rfl rfl
 obtain⟨y9,-⟩:=h19.c 27 9 rfl rfl
 have h20:=LF.pop (X:=.r 66 2 (.slice pl x.1.labels.length cl) x.1.labels.length (x.1.labels.flatMap nuC)::X) (LF.pop (X:=.b rb [.int .i64 0,.int .i64 0,.int .u8 (x.1.word:Nat),.bool x.1.typed,.slice none 0 0,.int .u32 x.1.align,.int .u32 x.1.num,.int .i64 0,.slice pl x.1.labels.length cl,.int .i64 x.1.value]::.r 66 2 (.slice pl x.1.labels.length cl) x.1.labels.length (x.1.labels.flatMap nuC)::X) h19)
 have H20:=hide h20
 have HF:Hid (x.2.m.i<T.length∧FA g c v vf x.2 tl):=⟨hi,ha⟩
 clear hS hS' h19 h20 hi ha
 go_wp2
 refine bodyPost_ret (v:=.agg #[.int .i64 0,.int .i64 0,.int .u8 (x.1.word:Nat),.bool x.1.typed,.slice none 0 0,.int .u32 x.1.align,.int .u32 x.1.num,.int .i64 0,.slice pl x.1.labels.length cl,.int .i64 x.1.value]) ?_ rfl ?_
 ·simp[results,Tryz.results149,go_sem,y0,y1,y2,y3,y4,y5,y6,y7,y8,y9]
 ·exact OutX.ok_mk HM.out ⟨_,rfl,HLV.out.2,rfl,HF.out.1,g,v,vf,tl,HF.out.2,H20.out⟩
end
end
end Go.Proofs.YtkmofapihggjgaaGreatDoor
