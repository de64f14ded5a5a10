import Derived.Test.YtkmofapihggjgaaGreatDoorX11
namespace Go.Proofs.YtkmofapihggjgaaGreatDoor
section
open Go.RowKit
section
variable {w0 w:World} {ab tg cap mw mb fb:Nat} {T:List Tok} {c:Nat} {f:Bk} {X:List It} {word:Nat}
set_option maxRecDepth 100000 in
set_option maxHeartbeats 12800000 in
theorem behind_bt (h:FF w0 ab tg cap mw mb fb T c f X w) (hg:Ge w0) (hd:Gd w0) (hT:TW T) (hw:word=14):
  Calls Tryz.prog 149 #[.pointer (some ⟨fb,0,none⟩),.int .u8 (word:Nat)] w (OutX w0 (behT T f word) (BehV w0 ab tg cap mw mb fb T c X)):=by
 have H:=hide (((h.nilR 66 2).new #[.int .i64 0,.int .i64 0,.int .u8 0,.bool false,.slice none 0 0,.int .u32 0,.int .u32 0,.int .i64 0,.slice none 0 0,.int .i64 0] 131).new #[.int .i64 0,.int .i64 0,.int .u8 (word:Nat),.bool false,.slice none 0 0,.int .u32 0,.int .u32 0,.int .i64 0,.slice none 0 0,.int .i64 0] 131)
 have HG:=hide hg
 have HD:=hide hd
 have HWD:=hide hw
 clear h hg hd hw
 go_enter Tryz.func149,Tryz.ntmps149
 go_upto_block 0 with fail
 simp only[World.size_alloc] at H
 generalize ((w.alloc (.cells #[.int .i64 0,.int .i64 0,.int .u8 0,.bool false,.slice none 0 0,.int .u32 0,.int .u32 0,.int .i64 0,.slice none 0 0,.int .i64 0] 131)).alloc (.cells #[.int .i64 0,.int .i64 0,.int .u8 (word:Nat),.bool false,.slice none 0 0,.int .u32 0,.int .u32 0,.int .i64 0,.slice none 0 0,.int .i64 0] 131))=W at*
 generalize w.heap.size=rb at*
 obtain⟨ib,hib⟩:∃ib,ib=rb+1:=⟨_,rfl⟩
 rw[←hib] at H ⊢
 clear hib
 go_cut [] from 9 to 139 (fun V=>∃x lv,lv.oneCell'=true∧x.1.gives=[]∧behT T f word=.ok x∧FF w0 ab tg cap mw mb fb T c x.2 (.b ib (insV (x.1,.slice none 0 0,lv))::.b rb [.int .i64 0,.int .i64 0,.int .u8 0,.bool false,.slice none 0 0,.int .u32 0,.int .u32 0,.int .i64 0,.slice none 0 0,.int .i64 0]::.r 66 2 lv x.1.labels.length (x.1.labels.flatMap nuC)::X) V)
 case first=>
  have e14:((word:Int)==14)=true:=by have:=HWD.out;simp;omega
  obtain⟨hi,g,v,vf,tl,ha,hS⟩:=H.out
  have HI:Hid (f.m.i<T.length∧FA g c v vf f tl):=⟨hi,ha⟩
  have HS:=hide hS
  clear hi ha hS H
  obtain⟨i0,hi0,hz0,hz1,hz2⟩:=info_parts Tryz.info66'
  go_wp2_with fail
  go_loopg [] (T.length - f.m.i) (fun k wr=>∃(ls:List Nat) (no:List (Nat×Nat)) (j:Nat) (pl:Option Addr) (cl:Nat) (q:Value),(T.length - j≤k∧j<T.length)∧f.m.i≤j∧ls.length≤20∧no.length≤j∧btT T f.lb (T.length - f.m.i) [] f.m.no f.m.i=btT T f.lb k ls no j∧Sx w0 wr (LF ab tg cap mw mb fb T {v with no:=q} vf {f with m:={f.m with i:=j,no:=no}} (.b ib [.int .i64 0,.int .i64 0,.int .u8 (word:Nat),.bool false,.slice none 0 0,.int .u32 0,.int .u32 0,.int .i64 0,.slice pl ls.length cl,.int .i64 0]::.b rb [.int .i64 0,.int .i64 0,.int .u8 0,.bool false,.slice none 0 0,.int .u32 0,.int .u32 0,.int .i64 0,.slice none 0 0,.int .i64 0]::.r 66 2 (.slice pl ls.length cl) ls.length (ls.flatMap nuC)::X++tl)))
  case atStart=>exact⟨[],f.m.no,f.m.i,none,0,v.no,⟨Nat.le_refl _,HI.out.1⟩,Nat.le_refl _,by simp,HI.out.2.ag.no,rfl,HS.out⟩
  case round=>
   obtain⟨ls,no,j,pl,cl,q,hk,hfj,hls,hno,hL,hS⟩:=hrel
   clear HS
   obtain⟨k',rfl⟩:∃k',gk=k'+1:=⟨gk - 1,by omega⟩
   have hi2:=nx_ok hk.2
   obtain⟨t2,ht2⟩:∃t,T[nx T j]?=some t:=⟨_,List.getElem?_eq_getElem hi2⟩
   have HT2:=hide ht2
   have HZ:=hide (hT.small t2 (List.mem_of_getElem? ht2))
   have HB:Hid ((T.length - j≤k'+1∧j<T.length)∧f.m.i≤j∧ls.length≤20∧no.length≤j):=⟨hk,hfj,hls,hno⟩
   have HL:=hide hL
   obtain⟨a8,-⟩:=hS.c 26 8 rfl rfl
   have li:=hS.lt 26 rfl
   obtain⟨z0,-⟩:=hS.c 22 0 rfl rfl
   have lz:=hS.lt 22 rfl
   have HS:=hide hS
   clear hS hk hfj hno hL hi2 ht2
   by_cases h20:ls.length<20
   ·have t20:(ls.length:Int)<20:=by omega
    have H20:=hide h20
    clear h20
    go_wp2_with fail
    refine(tSecond_any HS.out HT2.out hT.len HB.out.1.2).mono ?_
    rintro e w1 ⟨rfl,h1⟩
    have H1:=hide h1
    clear h1 HS a8 li z0 lz
    go_wp2_with fail
    refine(isLabel_any t2 HZ.out (HG.out.kept H1.out.kept)).mono ?_
    rintro e w2 ⟨rfl,hk2⟩
    have h2:=H1.out.to hk2
    clear hk2 H1
    cases hb:labelB t2 with
    | false=>
     have HW:Hid (btT T f.lb (T.length - f.m.i) [] f.m.no f.m.i=.ok (ls,no,j)):=by
      show _=_
      rw[HL.out]
      unfold btT
      simp only[HT2.out,hb]
      simp
     have HS:=hide h2
     clear hb h2 HL
     go_wp2_with fail
     refine(fnLabel_all (f:={f with m:={f.m with i:=j,no:=no}}) HS.out HG.out hT.toTT HB.out.1.2 (by have:=HI.out.2.lb;show f.lb.length≤1000;omega) (by have:=HB.out;have:=hT.few;show no.length≤100000;omega)).mono ?_
     intro e w1 h1
     change OutX w0 (labT T f.lb j) _ e w1 at h1
     cases hx:labT T f.lb j with
     | error q=>
      rw[hx] at h1
      obtain⟨rfl,hk⟩:=h1
      exact⟨rfl,OutX.err_mk (by rw[behT_bt0 HWD.out,HW.out];simp only[hx]) ⟨rfl,hk⟩⟩
     | ok x=>
     obtain⟨n,j2,ns⟩:=x
     obtain⟨hj,hjl,hns⟩:=labT_nx hT hx
     rw[hx] at h1
     obtain⟨rfl,q2,h1⟩:=h1
     simp only at h1 hj hns ⊢
     obtain⟨c6,d6⟩:=h1.c 26 6 rfl rfl
     obtain⟨c7,d7⟩:=h1.c 26 7 rfl rfl
     have li:=h1.lt 26 rfl
     have h2:Sx w0 _ (LF ab tg cap mw mb fb T {v with no:=q2} vf {f with m:={f.m with i:=j2,no:=no++ns}} (.b ib [.int .i64 0,.int .i64 0,.int .u8 (word:Nat),.bool false,.slice none 0 0,.int .u32 0,.int .u32 (n:Nat),.int .i64 0,.slice pl ls.length cl,.int .i64 0]::.b rb [.int .i64 0,.int .i64 0,.int .u8 0,.bool false,.slice none 0 0,.int .u32 0,.int .u32 0,.int .i64 0,.slice none 0 0,.int .i64 0]::.r 66 2 (.slice pl ls.length cl) ls.length (ls.flatMap nuC)::X++tl)):=(h1.set 26 6 (.int .u32 (n:Nat)) rfl).set 26 7 (.int .i64 0) rfl
     have H2:=hide h2
     have HM:Hid (behT T f word=.ok ({insB word with num:=n,labels:=ls},{f with m:={f.m with i:=j2,no:=no++ns}})):=by show _=_;rw[behT_bt0 HWD.out,HW.out];simp only[hx]
     have HJ:Hid (j2=j+1∧j+1<T.length∧ns.length≤1):=⟨hj,hjl,hns⟩
     clear h1 h2 hx hj hjl hns HS HW
     go_wp2
     go_meet
     case rel=>
      refine⟨_,.slice pl ls.length cl,rfl,rfl,HM.out,by show j2<T.length;have:=HJ.out;omega,g,{v with no:=q2},vf,tl,HI.out.2.on (v':={v with no:=q2}) ⟨rfl,rfl,rfl,rfl⟩ (by have:=HJ.out;have:=HB.out;omega) (by rw[List.length_append];have:=HJ.out;have:=HB.out;omega),H2.out⟩
    | true=>
     obtain⟨a8,-⟩:=h2.c 26 8 rfl rfl
     have li:=h2.lt 26 rfl
     have HS:=hide h2
     have HBT:=hide hb
     clear hb h2
     go_wp2_with fail
     have hS:∀(V:World) (j:Nat) (no:List (Nat×Nat)) (q:Value) (r:It),Sx w0 V (LF ab tg cap mw mb fb T {v with no:=q} vf {f with m:={f.m with i:=j,no:=no}} (.b ib [.int .i64 0,.int .i64 0,.int .u8 (word:Nat),.bool false,.slice none 0 0,.int .u32 0,.int .u32 0,.int .i64 0,.slice pl ls.length cl,.int .i64 0]::.b rb [.int .i64 0,.int .i64 0,.int .u8 0,.bool false,.slice none 0 0,.int .u32 0,.int .u32 0,.int .i64 0,.slice none 0 0,.int .i64 0]::r::X++tl))→(fun V:World=>V.cell? ⟨ib,8,none⟩=some (.slice pl ls.length cl)) V:=fun V j no q r hV=>(hV.c 26 8 rfl rfl).1
     have hS0:=hS _ _ _ _ _ HS.out.drew
     refine regK (fun V:World=>V.cell? ⟨ib,8,none⟩=some (.slice pl ls.length cl)) 7 ?_
     iterate 3 refine tkk hS0 (h:=?_) (hy:=by(refine Or.inl ⟨by rfl,?_⟩;intro V hV;go_simp;try with_reducible rfl))
     refine oneK (fun K hK=>?_)
     refine step_callX (f:=158) (args:= #[.pointer (some ⟨fb,0,none⟩)]) (by rfl) (by go_simp) (fnLabel_all (f:={f with m:={f.m with i:=j,no:=no}}) HS.out.drew HG.out hT.toTT HB.out.1.2 (by have:=HI.out.2.lb;show f.lb.length≤1000;omega) (by have:=HB.out;have:=hT.few;show no.length≤100000;omega)) ?_
     intro e w5 h5
     change OutX w0 (labT T f.lb j) _ e w5 at h5
     have HL2:Hid (btT T f.lb (T.length - f.m.i) [] f.m.no f.m.i=(match labT T f.lb j with
      | .error e=>.error e
      | .ok (n,j,ns)=>btT T f.lb k' (ls++[n]) (no++ns) j)):=by
      show _=_
      rw[HL.out]
      conv=>lhs;unfold btT
      simp only[HT2.out]
      rw[if_pos ⟨H20.out,HBT.out⟩]
      rfl
     cases hx:labT T f.lb j with
     | error q=>
      rw[hx] at h5
      obtain⟨rfl,hk⟩:=h5
      exact .inr ⟨_,rfl,⟨rfl,OutX.err_mk (by rw[behT_bt0 HWD.out,HL2.out,hx]) ⟨rfl,hk⟩⟩⟩
     | ok x=>
     obtain⟨n,j2,ns⟩:=x
     obtain⟨hj,hjl,hns⟩:=labT_nx hT hx
     have HL3:=hide (HL2.out.trans (by rw[hx]))
     rw[hx] at h5
     obtain⟨rfl,q2,h5⟩:=h5
     simp only at h5 hj hns HL3
     have h5':Sx w0 w5 (LF ab tg cap mw mb fb T {v with no:=q2} vf {f with m:={f.m with i:=j2,no:=no++ns}} (.b ib [.int .i64 0,.int .i64 0,.int .u8 (word:Nat),.bool false,.slice none 0 0,.int .u32 0,.int .u32 0,.int .i64 0,.slice pl ls.length cl,.int .i64 0]::.b rb [.int .i64 0,.int .i64 0,.int .u8 0,.bool false,.slice none 0 0,.int .u32 0,.int .u32 0,.int .i64 0,.slice none 0 0,.int .i64 0]::.r 66 2 (.slice pl ls.length cl) ls.length (ls.flatMap nuC)::X++tl)):=h5
     refine .inl ⟨_,rfl,hK _ _ (.inr (hS _ _ _ _ _ h5')) ?_⟩
     clear hK K hS0 hx h5 HL HL2
     simp only[Act.put,List.setIfInBounds_toArray,List.set_cons_zero,List.set_cons_succ]
     have h10:=h5'.alloc (.cells #[.int .u32 (n:Nat),.int .i64 0] 66)
     refine oneK (fun K hK=>?_)
     go_simp
     refine hK _ _ (.inr (hS _ _ _ _ _ h10)) ?_
     clear hK K
     have HOwn:=h10.row 28 rfl
     refine oneK (fun K hK=>?_)
     refine step_append_lies _ (by rfl) (.tmp 52) (.tmp 55) 49 (by rfl) w0.heap.size 66 i0 (.agg #[.int .u32 0,.int .i64 0]) 2 16 (by kernel_rfl) hi0 hz0 hz1 hz2 rfl (by decide) (.slice pl ls.length cl) ls.length (ls.flatMap nuC) (by rfl) HOwn ⟨w5.heap.size,0,none⟩ 1 1 [.int .u32 (n:Nat),.int .i64 0] (by rfl) rfl (cells_at (by simp) rfl) ?c2 (by omega) ?c3 ?c4 ?c5 (w5.heap.size+1) (by simp) ?_
     case c2=>intro u hu;simp at hu;rcases hu with rfl | rfl<;>rfl
     case c3=>unfold maxLen;omega
     case c4=>omega
     case c5=>exact h10.kept.size
     intro gg cp w6 hown hgrow hat hlt6
     have h11:=h10.app 28 hown hgrow (hat.imp id (fun e=>by rw[e];simp)) rfl
     have h12:Sx w0 w6 (LF ab tg cap mw mb fb T {v with no:=q2} vf {f with m:={f.m with i:=j2,no:=no++ns}} (.b ib [.int .i64 0,.int .i64 0,.int .u8 (word:Nat),.bool false,.slice none 0 0,.int .u32 0,.int .u32 0,.int .i64 0,.slice pl ls.length cl,.int .i64 0]::.b rb [.int .i64 0,.int .i64 0,.int .u8 0,.bool false,.slice none 0 0,.int .u32 0,.int .u32 0,.int .i64 0,.slice none 0 0,.int .i64 0]::.r 66 2 (.slice (some ⟨gg,0,none⟩) (ls.length+1) cp) (ls.length+1) (ls.flatMap nuC++[.int .u32 (n:Nat),.int .i64 0])::X++tl)):=h11
     have hS4:=hS _ _ _ _ _ h12
     refine hK _ _ (.inr hS4) ?_
     clear hK K
     simp only[Act.put,List.setIfInBounds_toArray,List.set_cons_zero,List.set_cons_succ]
     iterate 1 refine tkk hS4 (h:=?_)
     obtain⟨c0,c1⟩:=h12.c 26 8 rfl rfl
     have mm:=h12.lt 26 rfl
     have h13:Sx w0 _ (LF ab tg cap mw mb fb T {v with no:=q2} vf {f with m:={f.m with i:=j2,no:=no++ns}} (.b ib [.int .i64 0,.int .i64 0,.int .u8 (word:Nat),.bool false,.slice none 0 0,.int .u32 0,.int .u32 0,.int .i64 0,.slice (some ⟨gg,0,none⟩) (ls.length+1) cp,.int .i64 0]::.b rb [.int .i64 0,.int .i64 0,.int .u8 0,.bool false,.slice none 0 0,.int .u32 0,.int .u32 0,.int .i64 0,.slice none 0 0,.int .i64 0]::.r 66 2 (.slice (some ⟨gg,0,none⟩) (ls.length+1) cp) (ls.length+1) (ls.flatMap nuC++[.int .u32 (n:Nat),.int .i64 0])::X++tl)):=h12.set 26 8 (.slice (some ⟨gg,0,none⟩) (ls.length+1) cp) rfl
     refine lastK (fun K hK=>?_)
     go_simp
     refine hK _ _ ?_
     clear hK K
     have H14:=hide h13
     have HJ:Hid (j2=j+1∧j+1<T.length∧ns.length≤1):=⟨hj,hjl,hns⟩
     clear h13 h12 h11 h10 h5' hS4 hS c0 c1 mm HOwn hown hgrow hat hlt6 hj hjl hns a8 li HS
     go_wp2
     go_roundg k'
     case measure=>omega
     case rel=>
      refine⟨ls++[n],no++ns,j2,some ⟨gg,0,none⟩,cp,q2,by have:=HJ.out;have:=HB.out;omega,by have:=HJ.out;have:=HB.out;omega,by rw[List.length_append];have:=H20.out;simp;omega,by rw[List.length_append];have:=HJ.out;have:=HB.out;omega,HL3.out,?_⟩
      simpa [nuC] using H14.out
   ·have t20:¬(ls.length:Int)<20:=by omega
    have HW:Hid (btT T f.lb (T.length - f.m.i) [] f.m.no f.m.i=.ok (ls,no,j)):=by
     show _=_
     rw[HL.out]
     unfold btT
     simp only[HT2.out]
     rw[if_neg (fun c=>h20 c.1)]
    clear h20 HL
    go_wp2_with fail
    refine(fnLabel_all (f:={f with m:={f.m with i:=j,no:=no}}) HS.out HG.out hT.toTT HB.out.1.2 (by have:=HI.out.2.lb;show f.lb.length≤1000;omega) (by have:=HB.out;have:=hT.few;show no.length≤100000;omega)).mono ?_
    intro e w1 h1
    change OutX w0 (labT T f.lb j) _ e w1 at h1
    cases hx:labT T f.lb j with
    | error q=>
     rw[hx] at h1
     obtain⟨rfl,hk⟩:=h1
     exact⟨rfl,OutX.err_mk (by rw[behT_bt0 HWD.out,HW.out];simp only[hx]) ⟨rfl,hk⟩⟩
    | ok x=>
    obtain⟨n,j2,ns⟩:=x
    obtain⟨hj,hjl,hns⟩:=labT_nx hT hx
    rw[hx] at h1
    obtain⟨rfl,q2,h1⟩:=h1
    simp only at h1 hj hns ⊢
    obtain⟨c6,d6⟩:=h1.c 26 6 rfl rfl
    obtain⟨c7,d7⟩:=h1.c 26 7 rfl rfl
    have li:=h1.lt 26 rfl
    have h2:Sx w0 _ (LF ab tg cap mw mb fb T {v with no:=q2} vf {f with m:={f.m with i:=j2,no:=no++ns}} (.b ib [.int .i64 0,.int .i64 0,.int .u8 (word:Nat),.bool false,.slice none 0 0,.int .u32 0,.int .u32 (n:Nat),.int .i64 0,.slice pl ls.length cl,.int .i64 0]::.b rb [.int .i64 0,.int .i64 0,.int .u8 0,.bool false,.slice none 0 0,.int .u32 0,.int .u32 0,.int .i64 0,.slice none 0 0,.int .i64 0]::.r 66 2 (.slice pl ls.length cl) ls.length (ls.flatMap nuC)::X++tl)):=(h1.set 26 6 (.int .u32 (n:Nat)) rfl).set 26 7 (.int .i64 0) rfl
    have H2:=hide h2
    have HM:Hid (behT T f word=.ok ({insB word with num:=n,labels:=ls},{f with m:={f.m with i:=j2,no:=no++ns}})):=by show _=_;rw[behT_bt0 HWD.out,HW.out];simp only[hx]
    have HJ:Hid (j2=j+1∧j+1<T.length∧ns.length≤1):=⟨hj,hjl,hns⟩
    clear h1 h2 hx hj hjl hns HS HW
    go_wp2
    go_meet
    case rel=>
     refine⟨_,.slice pl ls.length cl,rfl,rfl,HM.out,by show j2<T.length;have:=HJ.out;omega,g,{v with no:=q2},vf,tl,HI.out.2.on (v':={v with no:=q2}) ⟨rfl,rfl,rfl,rfl⟩ (by have:=HJ.out;have:=HB.out;omega) (by rw[List.length_append];have:=HJ.out;have:=HB.out;omega),H2.out⟩
 obtain⟨x,lv,hlv,hgi,hx,hF⟩:=hcut
 have HM:=hide hx
 have HLV:Hid (lv.oneCell'=true∧x.1.gives=[]):=⟨hlv,hgi⟩
 clear hx hgi
 obtain⟨hi,g,v,vf,tl,ha,hS⟩:=hF
 have hS':Sx w0 wc (LF ab tg cap mw mb fb T v vf x.2 (.b ib [.int .i64 0,.int .i64 0,.int .u8 (x.1.word:Nat),.bool x.1.typed,.slice none 0 0,.int .u32 x.1.align,.int .u32 x.1.num,.int .i64 0,lv,.int .i64 x.1.value]::.b rb [.int .i64 0,.int .i64 0,.int .u8 0,.bool false,.slice none 0 0,.int .u32 0,.int .u32 0,.int .i64 0,.slice none 0 0,.int .i64 0]::.r 66 2 lv x.1.labels.length (x.1.labels.flatMap nuC)::X++tl)):=hS
 obtain⟨pl,cl,rfl⟩:=Row.shape (hS'.isRow 28 rfl)
 obtain⟨b0,-⟩:=hS'.c 26 0 rfl rfl
 obtain⟨b1,-⟩:=hS'.c 26 1 rfl rfl
 obtain⟨b2,-⟩:=hS'.c 26 2 rfl rfl
 obtain⟨b3,-⟩:=hS'.c 26 3 rfl rfl
 obtain⟨b4,-⟩:=hS'.c 26 4 rfl rfl
 obtain⟨b5,-⟩:=hS'.c 26 5 rfl rfl
 obtain⟨b6,-⟩:=hS'.c 26 6 rfl rfl
 obtain⟨b7,-⟩:=hS'.c 26 7 rfl rfl
 obtain⟨b8,-⟩:=hS'.c 26 8 rfl rfl
 obtain⟨b9,-⟩:=hS'.c 26 9 rfl rfl
 obtain⟨r0,s0⟩:=hS'.c 27 0 rfl rfl
 obtain⟨r1,s1⟩:=hS'.c 27 1 rfl rfl
 obtain⟨r2,s2⟩:=hS'.c 27 2 rfl rfl
 obtain⟨r3,s3⟩:=hS'.c 27 3 rfl rfl
 obtain⟨r4,s4⟩:=hS'.c 27 4 rfl rfl
 obtain⟨r5,s5⟩:=hS'.c 27 5 rfl rfl
 obtain⟨r6,s6⟩:=hS'.c 27 6 rfl rfl
 obtain⟨r7,s7⟩:=hS'.c 27 7 rfl rfl
 obtain⟨r8,s8⟩:=hS'.c 27 8 rfl rfl
 obtain⟨r9,s9⟩:=hS'.c 27 9 rfl rfl
 have lb:=hS'.lt 26 rfl
 have lr:=hS'.lt 27 rfl
 have h19:Sx w0 _ (LF ab tg cap mw mb fb T v vf x.2 (.b ib [.int .i64 0,.int .i64 0,.int .u8 (x.1.word:Nat),.bool x.1.typed,.slice none 0 0,.int .u32 x.1.align,.int .u32 x.1.num,.int .i64 0,.slice pl x.1.labels.length cl,.int .i64 x.1.value]::.b rb [.int .i64 0,.int .i64 0,.int .u8 (x.1.word:Nat),.bool x.1.typed,.slice none 0 0,.int .u32 x.1.align,.int .u32 x.1.num,.int .i64 0,.slice pl x.1.labels.length cl,.int .i64 x.1.value]::.r 66 2 (.slice pl x.1.labels.length cl) x.1.labels.length (x.1.labels.flatMap nuC)::X++tl)):=((((((((((hS'.set 27 0 (.int .i64 0) rfl).set 27 1 (.int .i64 0) rfl).set 27 2 (.int .u8 (x.1.word:Nat)) rfl).set 27 3 (.bool x.1.typed) rfl).set 27 4 (.slice none 0 0) rfl).set 27 5 (.int .u32 x.1.align) rfl).set 27 6 (.int .u32 x.1.num) rfl).set 27 7 (.int .i64 0) rfl).set 27 8 (.slice pl x.1.labels.length cl) rfl).set 27 9 (.int .i64 x.1.value) rfl)
 obtain⟨y0,-⟩:=h19.c 27 0 rfl rfl
 obtain⟨y1,-⟩:=h19.c 27 1 rfl rfl
 obtain⟨y2,-⟩:=h19.c 27 2 rfl rfl
 obtain⟨y3,-⟩:=h19.c 27 3 rfl rfl
 obtain⟨y4,-⟩:=h19.c 27 4 rfl rfl
 obtain⟨y5,-⟩:=h19.c 27 5 rfl rfl
 obtain⟨y6,-⟩:=h19.c 27 6 rfl rfl
 obtain⟨y7,-⟩:=h19.c 27 7 rfl rfl
 obtain⟨y8,-⟩:=h19.c 27 8 rfl rfl
 obtain⟨y9,-⟩:=h19.c 27 9 rfl rfl
 have h20:=LF.pop (X:=.r 66 2 (.slice pl x.1.labels.length cl) x.1.labels.length (x.1.labels.flatMap nuC)::X) (LF.pop (X:=.b rb [.int .i64 0,.int .i64 0,.int .u8 (x.1.word:Nat),.bool x.1.typed,.slice none 0 0,.int .u32 x.1.align,.int .u32 x.1.num,.int .i64 0,.slice pl x.1.labels.length cl,.int .i64 x.1.value]::.r 66 2 (.slice pl x.1.labels.length cl) x.1.labels.length (x.1.labels.flatMap nuC)::X) h19)
 have H20:=hide h20
 have HF:Hid (x.2.m.i<T.length∧FA g c v vf x.2 tl):=⟨hi,ha⟩
 clear hS hS' h19 h20 hi ha
 go_wp2
 refine bodyPost_ret (v:=.agg #[.int .i64 0,.int .i64 0,.int .u8 (x.1.word:Nat),.bool x.1.typed,.slice none 0 0,.int .u32 x.1.align,.int .u32 x.1.num,.int .i64 0,.slice pl x.1.labels.length cl,.int .i64 x.1.value]) ?_ rfl ?_
 ·simp[results,Tryz.results149,go_sem,y0,y1,y2,y3,y4,y5,y6,y7,y8,y9]
 ·exact OutX.ok_mk HM.out ⟨_,rfl,HLV.out.2,rfl,HF.out.1,g,v,vf,tl,HF.out.2,H20.out⟩
end
end
end Go.Proofs.YtkmofapihggjgaaGreatDoor
