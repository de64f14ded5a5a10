import Derived.Test.YtkmofapihggjgaaGreatDoorX18
namespace Go.Proofs.YtkmofapihggjgaaGreatDoor
section
open Go.RowKit
section
variable {w0 w:World} {ab tg cap mw mb fb:Nat} {T:List Tok} {c:Nat} {f:Bk} {X:List It}
theorem fnPutF (x:InsT) (hg:x.gives=[]) (hl:x.labels=[]) (hT:TW T) (h:FF w0 ab tg cap mw mb fb T (c+1) f X w):
  Calls Tryz.prog 116 #[.pointer (some ⟨fb,0,none⟩),.agg (insV (x,.slice none 0 0,.slice none 0 0)).toArray] w (fun e w'=>e=.returned (.tuple #[])∧FF w0 ab tg cap mw mb fb T c (putF f x) X w'):=by
 have h1:=(h.nilR 66 2).nilR 73 1
 refine fnPut_FF (x:=x) rfl rfl hT.few ?_
 rw[hg,hl]
 exact h1
set_option maxRecDepth 100000 in
set_option maxHeartbeats 6400000 in
theorem fnFlatRest_all {k:Nat} (word:Nat) (hT:TW T) (hI:CR w0 ab tg cap mw mb fb T 115 0 0 2 k) (h:FF w0 ab tg cap mw mb fb T c f X w) (hn:3*(T.length - f.m.i)+3≤k+1):
  Calls Tryz.prog 151 #[.pointer (some ⟨fb,0,none⟩),.int .u8 (word:Nat)] w (OutX w0 (RT T (k+1) 3 word f) (RV w0 ab tg cap mw mb fb T (c+1) 1 f X)):=by
 obtain⟨t,ht⟩:∃t,T[f.m.i]?=some t:=⟨_,List.getElem?_eq_getElem h.1⟩
 have HL:Hid (RT T (k+1) 3 word f=bnd (RT T k 0 0 f) fun f2=>
    if word=4∧isW (T[f2.m.i]?.getD (0,0,⟨#[]⟩)) elseB=true then bnd (wordF T elseB f2) fun f3=>bnd (RT T k 0 0 (putF f3 (insB 5))) (wordF T endB)
    else wordF T endB f2):=by
  show _=_
  conv=>lhs;unfold RT
  rw[ht]
  rfl
 have H:=hide h
 have HI:=hide hI
 have HN:=hide hn
 clear h hI hn ht
 go_enter Tryz.func151,Tryz.ntmps151
 go_wp2_with fail
 refine(HI.out c X f _ H.out (by have:=HN.out;omega)).mono ?_
 intro e w1 h1
 cases hx:RT T k 0 0 f with
 | error q=>
  rw[hx] at h1
  obtain⟨rfl,hk⟩:=h1
  exact⟨rfl,OutX.err_mk (by rw[HL.out,bnd_err hx]) ⟨rfl,hk⟩⟩
 | ok f2=>
 have HL2:=hide (HL.out.trans (bnd_ok hx))
 rw[hx] at h1
 obtain⟨rfl,hl2,hi2,h1⟩:=h1
 obtain⟨t2,ht2⟩:∃t,T[f2.m.i]?=some t:=⟨_,List.getElem?_eq_getElem h1.1⟩
 have HT2:=hide ht2
 have HB:Hid ((f2.lb=f.lb∧f.m.i≤f2.m.i)∧3*(T.length - f2.m.i)+2≤k):=by
  have:=HN.out
  exact⟨⟨hl2,by omega⟩,by omega⟩
 obtain⟨a0,l0⟩:=h1.fb0
 have H1:=hide h1
 rw[ht2] at HL2
 simp only[Option.getD_some] at HL2
 clear hx hl2 hi2 h1 ht2 HL H
 go_upto_region 1 with fail
 obtain⟨el,hel⟩:∃el,el=decide (word=4∧isW t2 elseB=true):=⟨_,rfl⟩
 have HEL:=hide hel
 clear hel
 go_cut [16] from 6 to 16 (fun x W=>x=.bool el∧FF w0 ab tg cap mw mb fb T c f2 X W)
 case first=>
  by_cases h4:word=4
  ·have e4:((word:Int)==4)=true:=by simp;omega
   have H4:=hide h4
   clear h4
   go_wp2_with fail
   refine(tIs_F H1.out HT2.out elseB).mono ?_
   rintro e w2 ⟨rfl,h2⟩
   have HE:Hid (el=isW t2 elseB):=by show _=_;rw[HEL.out];simp[H4.out]
   rw[←HE.out]
   have H2:=hide h2
   clear h2 H1
   go_wp2
   go_meet
   case rel=>exact⟨rfl,H2.out⟩
  ·have e4:((word:Int)==4)=false:=by simp;omega
   have HE:Hid (el=false):=by show _=_;rw[HEL.out];simp[h4]
   clear h4
   go_wp2
   go_meet
   case rel=>exact⟨by rw[HE.out],H1.out⟩
 obtain⟨rfl,h2⟩:=hcut
 clear a0 l0 H1
 obtain⟨a0,l0⟩:=h2.fb0
 have H2:=hide h2
 clear h2
 cases el with
 | true=>
  have HL3:=hide (HL2.out.trans (if_pos (by simpa using HEL.out.symm)))
  clear HL2 HEL
  go_wp2_with fail
  refine(tTakeWordF elseB H2.out hT).mono ?_
  intro e w3 h3
  cases hx:takeW T elseB f2.m.i with
  | error q=>
   rw[hx] at h3
   obtain⟨rfl,hk⟩:=h3
   exact⟨rfl,OutX.err_mk (by rw[HL3.out,bnd_err (show wordF T elseB f2=.error q from bnd_err hx)]) ⟨rfl,hk⟩⟩
  | ok x=>
  have HL4:=hide (HL3.out.trans (bnd_ok (show wordF T elseB f2=.ok (setI f2 x.2) from bnd_ok hx)))
  rw[hx] at h3
  obtain⟨rfl,h3⟩:=h3
  have HJ:=hide h3.1
  have H3:=hide h3.2
  clear h3 hx HL3 H2 a0 l0
  go_wp2_with fail
  refine(fnPutF (insB 5) rfl rfl hT H3.out).mono ?_
  rintro e w4 ⟨rfl,h4⟩
  have H4:=hide h4
  clear h4 H3
  go_wp2_with fail
  refine(HI.out c X _ _ H4.out (by have:=HJ.out;have:=HB.out.2;have:=H4.out.1;show 3*(T.length - x.2)+2≤k;omega)).mono ?_
  intro e w5 h5
  cases hx:RT T k 0 0 (putF (setI f2 x.2) (insB 5)) with
  | error q=>
   rw[hx] at h5
   obtain⟨rfl,hk⟩:=h5
   exact⟨rfl,OutX.err_mk (by rw[HL4.out,bnd_err hx]) ⟨rfl,hk⟩⟩
  | ok f5=>
  have HL5:=hide (HL4.out.trans (bnd_ok hx))
  rw[hx] at h5
  obtain⟨rfl,hl5,hi5,h5⟩:=h5
  have HB2:Hid (f5.lb=f.lb∧f.m.i≤f5.m.i):=by
   have g1:x.2≤f5.m.i:=hi5
   have g2:=HJ.out
   have g3:=HB.out.1
   exact⟨by rw[hl5];exact g3.1,by omega⟩
  obtain⟨a0,l0⟩:=h5.fb0
  have H5:=hide h5
  clear hx hl5 hi5 h5 HL4 H4
  go_wp2_with fail
  refine(tTakeWordF endB H5.out hT).mono ?_
  intro e w6 h6
  cases hx:takeW T endB f5.m.i with
  | error q=>
   rw[hx] at h6
   obtain⟨rfl,hk⟩:=h6
   exact⟨rfl,OutX.err_mk (by rw[HL5.out];exact bnd_err hx) ⟨rfl,hk⟩⟩
  | ok y=>
  have HL6:=hide (HL5.out.trans (bnd_ok hx))
  rw[hx] at h6
  obtain⟨rfl,h6⟩:=h6
  have H6:=hide h6
  clear hx h6 HL5 H5 a0 l0
  go_wp2
  go_end0
  exact OutX.ok_mk HL6.out ⟨rfl,HB2.out.1,by have:=H6.out.1;have:=HB2.out.2;show f.m.i+1≤y.2;omega,H6.out.2⟩
 | false=>
  have HL3:=hide (HL2.out.trans (if_neg (by simpa using HEL.out.symm)))
  clear HL2 HEL
  go_wp2_with fail
  refine(tTakeWordF endB H2.out hT).mono ?_
  intro e w6 h6
  cases hx:takeW T endB f2.m.i with
  | error q=>
   rw[hx] at h6
   obtain⟨rfl,hk⟩:=h6
   exact⟨rfl,OutX.err_mk (by rw[HL3.out];exact bnd_err hx) ⟨rfl,hk⟩⟩
  | ok y=>
  have HL6:=hide (HL3.out.trans (bnd_ok hx))
  rw[hx] at h6
  obtain⟨rfl,h6⟩:=h6
  have H6:=hide h6
  clear hx h6 HL3 H2 a0 l0
  go_wp2
  go_end0
  exact OutX.ok_mk HL6.out ⟨rfl,HB.out.1.1,by have:=H6.out.1;have:=HB.out.1.2;show f.m.i+1≤y.2;omega,H6.out.2⟩
set_option maxRecDepth 100000 in
set_option maxHeartbeats 6400000 in
theorem fnBranches_all {k:Nat} (hT:TW T) (hI:CR w0 ab tg cap mw mb fb T 115 0 0 2 k) (h:FF w0 ab tg cap mw mb fb T c f X w) (hn:3*(T.length - f.m.i)+3≤k+1):
  Calls Tryz.prog 148 #[.pointer (some ⟨fb,0,none⟩)] w (OutX w0 (RT T (k+1) 6 0 f) (RV w0 ab tg cap mw mb fb T (c+1) 1 f X)):=by
 have hff:=tokF
 have te:∀u:Tok,tokV u=.agg #[.int .u8 (u.1:Nat),.int .i64 (u.2.1:Nat),.string u.2.2]:=fun _=>rfl
 obtain⟨t,ht⟩:∃t,T[f.m.i]?=some t:=⟨_,List.getElem?_eq_getElem h.1⟩
 have HL:Hid (RT T (k+1) 6 0 f=bnd (openF T thenB f) fun f1=>bnd (RT T k 0 0 f1) fun f2=>bnd (closeF T f2) fun f3=>
    if(T[f3.m.i]?.getD (0,0,⟨#[]⟩)).1=2 then bnd (openF T elseB f3) fun f4=>bnd (RT T k 0 0 (putF f4 (insB 5))) (closeF T)
    else .ok f3):=by
  show _=_
  conv=>lhs;unfold RT
  rw[ht]
  rfl
 obtain⟨a0,l0⟩:=h.fb0
 have H:=hide h
 have HI:=hide hI
 have HN:=hide hn
 clear h hI hn ht
 go_enter Tryz.func148,Tryz.ntmps148
 go_wp2_with fail
 refine(tTakeOpenF thenB H.out hT).mono ?_
 intro e w1 h1
 cases hx:takeO T thenB f.m.i with
 | error q=>
  rw[hx] at h1
  obtain⟨rfl,hk⟩:=h1
  exact⟨rfl,OutX.err_mk (by rw[HL.out];exact bnd_err (bnd_err hx)) ⟨rfl,hk⟩⟩
 | ok x=>
 have HL2:=hide (HL.out.trans (bnd_ok (show openF T thenB f=.ok (setI f x.2) from bnd_ok hx)))
 rw[hx] at h1
 obtain⟨rfl,h1⟩:=h1
 have HJ:=hide h1.1
 have H1:=hide h1.2
 clear h1 hx HL H a0 l0
 go_wp2_with fail
 refine(HI.out _ X _ _ H1.out (by have:=HJ.out;have:=HN.out;have:=H1.out.1;show 3*(T.length - x.2)+2≤k;omega)).mono ?_
 intro e w2 h2
 cases hx:RT T k 0 0 (setI f x.2) with
 | error q=>
  rw[hx] at h2
  obtain⟨rfl,hk⟩:=h2
  exact⟨rfl,OutX.err_mk (by rw[HL2.out,bnd_err hx]) ⟨rfl,hk⟩⟩
 | ok f2=>
 have HL3:=hide (HL2.out.trans (bnd_ok hx))
 rw[hx] at h2
 obtain⟨rfl,hl2,hi2,h2⟩:=h2
 have HB:Hid (f2.lb=f.lb∧f.m.i+2≤f2.m.i):=by
  have g1:x.2+0≤f2.m.i:=hi2
  have g2:=HJ.out
  exact⟨hl2,by omega⟩
 obtain⟨a0,l0⟩:=h2.fb0
 have H2:=hide h2
 clear hx hl2 hi2 h2 HL2 H1
 go_wp2_with fail
 refine(tTakeF (q:=3) (by decide) H2.out hT).mono ?_
 intro e w3 h3
 cases hx:takeT T 3 f2.m.i with
 | error q=>
  rw[hx] at h3
  obtain⟨rfl,hk⟩:=h3
  exact⟨rfl,OutX.err_mk (by rw[HL3.out];exact bnd_err (bnd_err hx)) ⟨rfl,hk⟩⟩
 | ok y=>
 have HL4:=hide (HL3.out.trans (bnd_ok (show closeF T f2=.ok (setI f2 y.2) from bnd_ok hx)))
 rw[hx] at h3
 obtain⟨rfl,h3⟩:=h3
 have HJ2:=hide h3.1
 have h3':=h3.2
 obtain⟨t3,ht3⟩:∃t,T[(setI f2 y.2).m.i]?=some t:=⟨_,List.getElem?_eq_getElem h3'.1⟩
 rw[ht3] at HL4
 simp only[Option.getD_some] at HL4
 have HT3:=hide ht3
 obtain⟨b0,m0⟩:=h3'.fb0
 have H3:=hide h3'
 clear h3 h3' hx HL3 H2 a0 l0 ht3
 go_wp2_with fail
 refine(tPeek_F H3.out HT3.out).mono ?_
 rintro e w4 ⟨rfl,h4⟩
 rw[te]
 obtain⟨a0,l0⟩:=h4.fb0
 have H4:=hide h4
 clear h4 H3 b0 m0
 by_cases h5:t3.1=2
 ·have t5:((t3.1:Int) !=2)=false:=by rw[h5];rfl
  have HL5:=hide (HL4.out.trans (if_pos h5))
  clear h5 HL4
  go_wp2_with fail
  refine(tTakeOpenF elseB H4.out hT).mono ?_
  intro e w5 h6
  cases hx:takeO T elseB (setI f2 y.2).m.i with
  | error q=>
   rw[hx] at h6
   obtain⟨rfl,hk⟩:=h6
   exact⟨rfl,OutX.err_mk (by rw[HL5.out];exact bnd_err (bnd_err hx)) ⟨rfl,hk⟩⟩
  | ok z=>
  have HL6:=hide (HL5.out.trans (bnd_ok (show openF T elseB (setI f2 y.2)=.ok (setI (setI f2 y.2) z.2) from bnd_ok hx)))
  rw[hx] at h6
  obtain⟨rfl,h6⟩:=h6
  have HJ3:Hid (y.2+2≤z.2):=h6.1
  have H6:=hide (h6.2.less (c':=c+1+1) (by omega))
  clear h6 hx HL5 H4 a0 l0
  go_wp2_with fail
  refine(fnPutF (insB 5) rfl rfl hT H6.out).mono ?_
  rintro e w6 ⟨rfl,h7⟩
  have H7:=hide h7
  clear h7 H6
  go_wp2_with fail
  refine(HI.out _ X _ _ H7.out (by have:=HJ.out;have:=HJ2.out;have:=HJ3.out;have:=HB.out;have:=HN.out;have:=H7.out.1;show 3*(T.length - z.2)+2≤k;omega)).mono ?_
  intro e w7 h8
  cases hx:RT T k 0 0 (putF (setI (setI f2 y.2) z.2) (insB 5)) with
  | error q=>
   rw[hx] at h8
   obtain⟨rfl,hk⟩:=h8
   exact⟨rfl,OutX.err_mk (by rw[HL6.out,bnd_err hx]) ⟨rfl,hk⟩⟩
  | ok f5=>
  have HL7:=hide (HL6.out.trans (bnd_ok hx))
  rw[hx] at h8
  obtain⟨rfl,hl5,hi5,h8⟩:=h8
  have HB2:Hid (f5.lb=f.lb∧f.m.i≤f5.m.i):=by
   have g1:z.2+0≤f5.m.i:=hi5
   have g2:=HJ2.out
   have g3:=HJ3.out
   have g4:=HB.out
   exact⟨by rw[hl5];exact g4.1,by omega⟩
  obtain⟨a0,l0⟩:=h8.fb0
  have H8:=hide h8
  clear hx hl5 hi5 h8 HL6 H7
  go_wp2_with fail
  refine(tTakeF (q:=3) (by decide) H8.out hT).mono ?_
  intro e w8 h9
  cases hx:takeT T 3 f5.m.i with
  | error q=>
   rw[hx] at h9
   obtain⟨rfl,hk⟩:=h9
   exact⟨rfl,OutX.err_mk (by rw[HL7.out];exact bnd_err hx) ⟨rfl,hk⟩⟩
  | ok u=>
  have HL8:=hide (HL7.out.trans (bnd_ok hx))
  rw[hx] at h9
  obtain⟨rfl,h9⟩:=h9
  have HJ9:=hide h9.1
  have H9:=hide (h9.2.less (c':=c+1) (by omega))
  clear hx h9 HL7 H8 a0 l0
  go_wp2
  go_end0
  exact OutX.ok_mk HL8.out ⟨rfl,HB2.out.1,by have:=HJ9.out;have:=HB2.out.2;show f.m.i+1≤u.2;omega,H9.out⟩
 ·have t5:((t3.1:Int) !=2)=true:=by simp;omega
  have HL5:=hide (HL4.out.trans (if_neg h5))
  have H5:=hide (H4.out.less (c':=c+1) (by omega))
  clear h5 HL4 H4
  go_wp2
  go_end0
  exact OutX.ok_mk HL5.out ⟨rfl,HB.out.1,by have:=HJ2.out;have:=HB.out.2;show f.m.i+1≤y.2;omega,H5.out⟩
end
end
section
open Go.RowKit
theorem enters_flatIn:Enters 150:=enters_of Tryz.func150 (by kernel_rfl) (by kernel_rfl)
theorem enters_instructions:Enters 115:=enters_of Tryz.func115 (by kernel_rfl) (by kernel_rfl)
theorem enters_branches:Enters 148:=enters_of Tryz.func148 (by kernel_rfl) (by kernel_rfl)
theorem opnT_le {T:List Tok} {p word:Nat} {f:Bk} {z:(InsT×ByteArray)×Bk} (hT:TW T) (hi:f.m.i<T.length) (h:opnT T p f word=.ok z):f.lb.length≠50∧z.2.lb=f.lb∧f.m.i≤z.2.m.i:=by
 unfold opnT at h
 split at h
 ·cases h
 ·rename_i hl
  split at h
  ·cases h
  ·rename_i u f2 hu
   have hb:=bnT_le hi
   obtain⟨⟨a1,a2⟩,-,-,-,a5,-⟩:=useT_le hT hu hb.2
   simp only at a1 a5
   have e1:f2.lb=f.lb:=by rw[a5]
   split at h
   ·cases h
    exact⟨hl,e1,by show f.m.i≤f2.m.i;omega⟩
   ·split at h
    ·cases h
     exact⟨hl,e1,by show f.m.i≤f2.m.i;omega⟩
    ·split at h
     ·cases h
     ·rename_i n m h3
      cases h
      have:m.i=f2.m.i:=by
       unfold tixT at h3
       split at h3
       ·cases h3;rfl
       ·split at h3
        ·cases h3
        ·cases h3;rfl
      exact⟨hl,e1,by show f.m.i≤m.i;omega⟩
section
variable {w0 w:World} {ab tg cap mw mb fb:Nat} {T:List Tok} {c:Nat} {f:Bk} {X:List It}
set_option maxRecDepth 100000 in
theorem fnFlatIn_all {k i1 i2 q1 q2:Nat} (word:Nat) (hT:TW T) (hI:CR w0 ab tg cap mw mb fb T 115 0 0 2 k) (h:FF w0 ab tg cap mw mb fb T c f X w) (hn:3*(T.length - f.m.i)+3≤k+1) (h1:X[i1]?=some (.b q1 [.pointer (some ⟨fb,0,none⟩)])) (h2:X[i2]?=some (.b q2 [.int .u8 (word:Nat)])):
  Calls Tryz.prog 150 #[.pointer (some ⟨q1,0,none⟩),.pointer (some ⟨q2,0,none⟩)] w (OutX w0 (RT T (k+1) 3 word f) (RV w0 ab tg cap mw mb fb T (c+1) 1 f X)):=by
 obtain⟨a0,-⟩:=h.cl i1 0 h1
 obtain⟨a1,-⟩:=h.cl i2 0 h2
 have l0:=h.lt i1 h1
 have l1:=h.lt i2 h2
 have H:=hide h
 have HI:=hide hI
 have HN:=hide hn
 clear h hI hn h1 h2
 go_enter Tryz.func150,Tryz.ntmps150
 go_wp2_with fail
 refine(fnFlatRest_all word hT HI.out H.out HN.out).mono ?_
 intro e w1 h3
 cases hx:RT T (k+1) 3 word f with
 | error q=>
  rw[hx] at h3
  obtain⟨rfl,hk⟩:=h3
  exact⟨rfl,OutX.err_mk rfl ⟨rfl,hk⟩⟩
 | ok f2=>
  rw[hx] at h3
  obtain⟨rfl,h3⟩:=h3
  have H3:=hide h3
  have HX:=hide hx
  clear h3 hx H a0 a1 l0 l1
  go_wp2
  go_end0
  exact OutX.ok_mk HX.out ⟨rfl,H3.out⟩
set_option maxRecDepth 100000 in
set_option maxHeartbeats 12800000 in
theorem fnFlat_all {n:Nat} (hT:TW T) (hg:Ge w0) (hd:Gd w0) (hI:∀k,k<n→CR w0 ab tg cap mw mb fb T 115 0 0 2 k):CR w0 ab tg cap mw mb fb T 136 2 1 1 n:=by
 intro c X f w h hn
 have hmf:∀(fn:Fn) (first cap:Array Value) (w:World),(Instr.makeFunc fn first cap).run Tryz.prog w=.ok (.func fn first cap) w:=fun _ _ _ _=>rfl
 obtain⟨k,rfl⟩:∃k,n=k+1:=⟨n - 1,by omega⟩
 obtain⟨t,ht⟩:∃t,T[f.m.i]?=some t:=⟨_,List.getElem?_eq_getElem h.1⟩
 have HL:Hid (RT T (k+1) 2 0 f=bnd (wordT T f.m.i) fun y=>
    if y.1=2∨y.1=3∨y.1=4 then bnd (opnT T t.2.1 (setI f y.2) y.1) fun z=>blkT z.1.1 z.1.2 (RT T k 3 y.1) z.2
    else bnd (behT T (setI f y.2) y.1) fun z=>.ok (putF z.2 z.1)):=by
  show _=_
  conv=>lhs;unfold RT
  rw[ht]
  rfl
 have HT:=hide ht
 have H:=hide (h.new #[.pointer (some ⟨fb,0,none⟩)] 173)
 have HI:=hide hI
 have HN:=hide hn
 have HG:=hide hg
 have HD:=hide hd
 clear h hI hn ht hg hd
 go_enter Tryz.func136,Tryz.ntmps136
 go_upto_region 1 with fail
 generalize w.alloc (.cells #[.pointer (some ⟨fb,0,none⟩)] 173)=w1 at*
 generalize w.heap.size=q1 at*
 obtain⟨x0,-⟩:=H.out.cl 0 0
 have y0:=H.out.lt 0
 obtain⟨a0,l0⟩:=H.out.fb0
 go_wp2_with fail
 refine(tPeek_F H.out HT.out).mono ?_
 rintro e w2 ⟨rfl,h2⟩
 rw[show tokV t=.agg #[.int .u8 (t.1:Nat),.int .i64 (t.2.1:Nat),.string t.2.2] from rfl]
 have H2:=hide (h2.new #[.int .u8 (t.1:Nat),.int .i64 (t.2.1:Nat),.string t.2.2] 144)
 clear h2 H x0 y0 a0 l0
 go_upto_region 2 with fail
 generalize w2.alloc (.cells #[.int .u8 (t.1:Nat),.int .i64 (t.2.1:Nat),.string t.2.2] 144)=w3 at*
 generalize w2.heap.size=q2 at*
 obtain⟨x0,-⟩:=H2.out.cl 1 0
 have y0:=H2.out.lt 1
 go_wp2_with fail
 refine(fnWordF H2.out hT).mono ?_
 intro e w4 h4
 cases hx:wordT T f.m.i with
 | error q=>
  rw[hx] at h4
  obtain⟨rfl,hk⟩:=h4
  exact⟨rfl,OutX.err_mk (by rw[HL.out,bnd_err hx]) ⟨rfl,hk⟩⟩
 | ok y=>
 have HL2:=hide (HL.out.trans (bnd_ok hx))
 rw[hx] at h4
 obtain⟨rfl,h4⟩:=h4
 obtain⟨wd,j⟩:=y
 simp only at h4 HL2
 have HJ:=hide h4.1
 have H4:=hide (h4.2.new #[.int .u8 (wd:Nat)] 5)
 clear h4 hx H2 x0 y0 HL
 go_upto_region 3 with fail
 generalize w4.alloc (.cells #[.int .u8 (wd:Nat)] 5)=w5 at*
 generalize w4.heap.size=q3 at*
 obtain⟨c0,-⟩:=H4.out.cl 0 0
 have m0:=H4.out.lt 0
 obtain⟨c1,-⟩:=H4.out.cl 1 0
 obtain⟨c2,-⟩:=H4.out.cl 1 1
 obtain⟨c3,-⟩:=H4.out.cl 1 2
 have m1:=H4.out.lt 1
 obtain⟨c4,-⟩:=H4.out.cl 2 0
 have m2:=H4.out.lt 2
 by_cases hw:wd=2∨wd=3∨wd=4
 ·have HL3:=hide (HL2.out.trans (if_pos hw))
  rcases hw with hw | hw | hw
  case' inl=>have e2:((wd:Int)==2)=true:=by simp;omega
  case' inr.inl=>
   have e2:((wd:Int)==2)=false:=by simp;omega
   have e3:((wd:Int)==3)=true:=by simp;omega
  case' inr.inr=>
   have e2:((wd:Int)==2)=false:=by simp;omega
   have e3:((wd:Int)==3)=false:=by simp;omega
   have e4:((wd:Int)==4)=true:=by simp;omega
  all_goals
   clear hw HL2
   go_wp2_with fail
   refine(fnOpening_all t wd H4.out HG.out hT).mono ?_
   intro e w6 h6
   cases hx:opnT T t.2.1 (setI f j) wd with
   | error q=>
    rw[hx] at h6
    obtain⟨rfl,hk⟩:=h6
    exact⟨rfl,OutX.err_mk (by rw[HL3.out,bnd_err hx]) ⟨rfl,hk⟩⟩
   | ok z=>
   have HL4:=hide (HL3.out.trans (bnd_ok hx))
   have HZ:=hide (opnT_le hT H4.out.1 hx)
   rw[hx] at h6
   obtain⟨gv,hgv,hzl,rfl,h6⟩:=h6
   rw[show(insV (z.1.1,gv,.slice none 0 0)++[Value.string z.1.2]).toArray= #[.int .i64 0,.int .i64 0,.int .u8 (z.1.1.word:Nat),.bool z.1.1.typed,gv,.int .u32 z.1.1.align,.int .u32 z.1.1.num,.int .i64 0,.slice none 0 0,.int .i64 z.1.1.value,.string z.1.2] from rfl]
   obtain⟨pg,cg,rfl⟩:=(h6.row 0).shape
   have h7:=(h6.new #[.int .i64 0,.int .i64 0,.int .u8 (z.1.1.word:Nat),.bool z.1.1.typed,.slice pg z.1.1.gives.length cg,.int .u32 z.1.1.align,.int .u32 z.1.1.num,.int .i64 0,.slice none 0 0,.int .i64 z.1.1.value,.string z.1.2] 206).perm (List.Perm.swap _ _ _)
   have HZL:=hide hzl
   have H7:=hide h7
   clear h6 h7 hx H4 HL3 c0 m0 c1 c2 c3 m1 c4 m2 hgv hzl
   go_upto_region 9 with fail
   generalize w6.alloc (.cells #[.int .i64 0,.int .i64 0,.int .u8 (z.1.1.word:Nat),.bool z.1.1.typed,.slice pg z.1.1.gives.length cg,.int .u32 z.1.1.align,.int .u32 z.1.1.num,.int .i64 0,.slice none 0 0,.int .i64 z.1.1.value,.string z.1.2] 206)=w7 at*
   generalize w6.heap.size=q4 at*
   obtain⟨p0,-⟩:=H7.out.cl 1 0
   obtain⟨p1,-⟩:=H7.out.cl 1 1
   obtain⟨p2,-⟩:=H7.out.cl 1 2
   obtain⟨p3,-⟩:=H7.out.cl 1 3
   obtain⟨p4,-⟩:=H7.out.cl 1 4
   obtain⟨p5,-⟩:=H7.out.cl 1 5
   obtain⟨p6,-⟩:=H7.out.cl 1 6
   obtain⟨p7,-⟩:=H7.out.cl 1 7
   obtain⟨p8,-⟩:=H7.out.cl 1 8
   obtain⟨p9,-⟩:=H7.out.cl 1 9
   obtain⟨p10,-⟩:=H7.out.cl 1 10
   have pm:=H7.out.lt 1
   obtain⟨c4,-⟩:=H7.out.cl 4 0
   have m2:=H7.out.lt 4
   go_wp2_with fail
   refine(fnBlock_c (a:=c) (b:=c) (m:=RT T k 3 wd) (x:=z.1.1) (nm:=z.1.2) (gv:=.slice pg z.1.1.gives.length cg) (q1:=q1) (q2:=q3) enters_flatIn rfl HZL.out hT (by have:=HZ.out;have:=H7.out.2;obtain⟨_,_,_,_,ha,_⟩:=this;have:=ha.lb;rw[HZ.out.2.1] at this ⊢;have:(setI f j).lb.length≠50:=HZ.out.1;omega) ?_ (H7.out.less (by omega))).mono ?_
   ·intro tb cs f' w' hF hfi
    obtain⟨k',rfl⟩:∃k',k=k'+1:=⟨k - 1,by have:=HN.out;have:=HJ.out;have:=H7.out.1;have:=HZ.out.2.2;have:(setI f j).m.i=j:=rfl;omega⟩
    refine(fnFlatIn_all (i1:=4) (i2:=2) wd hT (HI.out k' (by omega)) hF (by have:=HN.out;have:=HJ.out;have:=HZ.out.2.2;have:(setI f j).m.i=j:=rfl;have:=hF.1;omega) rfl rfl).mono ?_
    intro e w' h8
    cases hx:RT T (k'+1) 3 wd f' with
    | error q=>rw[hx] at h8;exact h8
    | ok f2=>
     rw[hx] at h8
     obtain⟨rfl,h9,h10,h11⟩:=h8
     exact⟨rfl,h9,by omega,h11⟩
   ·intro e w8 h8
    cases hx:blkT z.1.1 z.1.2 (RT T k 3 wd) z.2 with
    | error q=>
     rw[hx] at h8
     obtain⟨rfl,hk⟩:=h8
     exact⟨rfl,OutX.err_mk (by rw[HL4.out,hx]) ⟨rfl,hk⟩⟩
    | ok f2=>
    have HL5:=hide (HL4.out.trans hx)
    rw[hx] at h8
    obtain⟨rfl,hl8,hi8,h8⟩:=h8
    have HB:Hid (f2.lb=f.lb∧f.m.i+1≤f2.m.i):=by
     have g1:=HJ.out
     have g2:=HZ.out
     have g3:(setI f j).m.i=j:=rfl
     exact⟨by rw[hl8,g2.2.1];rfl,by omega⟩
    have H8:=hide h8.pop.pop.pop.pop
    clear hx hl8 hi8 h8 HL4 H7 p0 p1 p2 p3 p4 p5 p6 p7 p8 p9 p10 pm c4 m2
    go_wp2
    go_end0
    exact OutX.ok_mk HL5.out ⟨rfl,HB.out.1,HB.out.2,H8.out⟩
 ·have HL3:=hide (HL2.out.trans (if_neg hw))
  have e2:((wd:Int)==2)=false:=by simp;omega
  have e3:((wd:Int)==3)=false:=by simp;omega
  have e4:((wd:Int)==4)=false:=by simp;omega
  clear hw HL2
  go_wp2_with fail
  have hS:∀(V:World) (c:Nat) (f':Bk) (X':List It),FF w0 ab tg cap mw mb fb T c f' X' V→X'[2]?=some (.b q1 [.pointer (some ⟨fb,0,none⟩)])→X'[0]?=some (.b q3 [.int .u8 (wd:Nat)])→(fun V:World=>V.cell? ⟨q1,0,none⟩=some (.pointer (some ⟨fb,0,none⟩))∧V.cell? ⟨q3,0,none⟩=some (.int .u8 (wd:Nat))) V:=fun V c f' X' hV h1 h3=>⟨(hV.cl 2 0 h1).1,(hV.cl 0 0 h3).1⟩
  have hS0:=hS _ _ _ _ H4.out.drew rfl rfl
  refine regK (fun V:World=>V.cell? ⟨q1,0,none⟩=some (.pointer (some ⟨fb,0,none⟩))∧V.cell? ⟨q3,0,none⟩=some (.int .u8 (wd:Nat))) 4 ?_
  iterate 3 refine tkk hS0 (h:=?_) (hy:=by(refine Or.inl ⟨by rfl,?_⟩;intro V hV;obtain⟨u0,u1⟩:=hV;go_simp;try with_reducible rfl))
  refine oneK (fun K hK=>?_)
  refine step_callX (f:=149) (args:= #[.pointer (some ⟨fb,0,none⟩),.int .u8 (wd:Nat)]) (by rfl) (by go_simp) (fnBehind_all wd H4.out.drew HG.out HD.out hT) ?_
  intro e w6 h6
  cases hx:behT T (setI f j) wd with
  | error q=>
   rw[hx] at h6
   obtain⟨rfl,hk⟩:=h6
   exact .inr ⟨_,rfl,⟨rfl,OutX.err_mk (by rw[HL3.out,bnd_err hx]) ⟨rfl,hk⟩⟩⟩
  | ok z=>
  have HL4:=hide (HL3.out.trans (bnd_ok hx))
  have HZ:=hide (behT_le hT H4.out.1 hx)
  rw[hx] at h6
  obtain⟨lv,hlv,hzg,rfl,h6⟩:=h6
  refine .inl ⟨_,rfl,hK _ _ (.inr ?_) ?_⟩
  ·have h7:=h6.pop
   exact⟨(h7.cl 2 0 rfl rfl).1,(h7.cl 0 0 rfl rfl).1⟩
  clear hK K hS0 hS hx HL3 H4
  simp only[Act.put,List.setIfInBounds_toArray,List.set_cons_zero,List.set_cons_succ]
  have h7:FF w0 ab tg cap mw mb fb T (c+1) z.2 (.r 73 1 (.slice none 0 0) z.1.gives.length (kindCells z.1.gives)::.r 66 2 lv z.1.labels.length (z.1.labels.flatMap nuC)::.b q3 [.int .u8 (wd:Nat)]::.b q2 [.int .u8 (t.1:Nat),.int .i64 (t.2.1:Nat),.string t.2.2]::.b q1 [.pointer (some ⟨fb,0,none⟩)]::X) w6:=by
   rw[hzg]
   exact h6.nilR 73 1
  refine lastK (fun K hK=>?_)
  refine step_callX (f:=116) (args:= #[.pointer (some ⟨fb,0,none⟩),.agg (insV (z.1,.slice none 0 0,lv)).toArray]) (by rfl) (by go_simp;try rfl) (fnPut_FF (x:=z.1) rfl hlv hT.few h7) ?_
  rintro e w7 ⟨rfl,h8⟩
  refine .inl ⟨_,rfl,hK _ _ ?_⟩
  have HB:Hid (z.2.lb=f.lb∧f.m.i+1≤z.2.m.i):=by
   have g1:=HJ.out
   have g2:=HZ.out
   have g3:(setI f j).m.i=j:=rfl
   exact⟨by rw[g2.2.1];rfl,by omega⟩
  have H8:=hide h8.pop.pop.pop
  clear hK K h6 h7 h8 hzg hlv c0 m0 c1 c2 c3 m1 c4 m2
  simp only[Act.put,List.setIfInBounds_toArray,List.set_cons_zero,List.set_cons_succ]
  go_wp2
  go_end0
  exact OutX.ok_mk HL4.out ⟨rfl,HB.out.1,HB.out.2,H8.out⟩
end
end
section
open Go.RowKit
section
variable {w0 w:World} {ab tg cap mw mb fb:Nat} {T:List Tok} {c:Nat} {f:Bk} {X:List It}
set_option maxRecDepth 100000 in
set_option maxHeartbeats 12800000 in
theorem fnFolded_all {n:Nat} (hT:TW T) (hg:Ge w0) (hd:Gd w0) (hI:∀k,k<n→CR w0 ab tg cap mw mb fb T 115 0 0 2 k) (hC:∀k,k<n→CR w0 ab tg cap mw mb fb T 134 1 1 1 k):CR w0 ab tg cap mw mb fb T 134 1 1 1 n:=by
 intro c X f w h hn
 have hmf:∀(fn:Fn) (first cap:Array Value) (w:World),(Instr.makeFunc fn first cap).run Tryz.prog w=.ok (.func fn first cap) w:=fun _ _ _ _=>rfl
 have hnot:∀(x:Bool) (w:World),(Op.unary .not (.bool x)).run Tryz.prog w=.ok (.bool (!x)) w:=fun _ _=>rfl
 have hff:=tokF
 have te:∀u:Tok,tokV u=.agg #[.int .u8 (u.1:Nat),.int .i64 (u.2.1:Nat),.string u.2.2]:=fun _=>rfl
 obtain⟨k,rfl⟩:∃k,n=k+1:=⟨n - 1,by omega⟩
 obtain⟨t9,ht⟩:∃t,T[f.m.i]?=some t:=⟨_,List.getElem?_eq_getElem h.1⟩
 have HL:Hid (RT T (k+1) 1 0 f=bnd (takeT T 2 f.m.i) fun x=>bnd (wordT T x.2) fun y=>
    if y.1=2∨y.1=3 then bnd (opnT T x.1.2.1 (setI f y.2) y.1) fun z=>bnd (blkT z.1.1 z.1.2 (RT T k 0 0) z.2) (closeF T)
    else if y.1=4 then bnd (opnT T x.1.2.1 (setI f y.2) y.1) fun z=>bnd (RT T k 5 0 z.2) fun f3=>bnd (blkT z.1.1 z.1.2 (RT T k 6 0) f3) (closeF T)
    else bnd (behT T (setI f y.2) y.1) fun z=>bnd (RT T k 4 0 z.2) fun f3=>closeF T (putF f3 z.1)):=by
  show _=_
  conv=>lhs;unfold RT
  rw[ht]
  rfl
 obtain⟨a0,l0⟩:=h.fb0
 have H:=hide h
 have HI:=hide hI
 have HCF:=hide hC
 have HN:=hide hn
 have HG:=hide hg
 have HD:=hide hd
 clear h hI hn ht hg hd hC
 go_enter Tryz.func134,Tryz.ntmps134
 go_wp2_with fail
 refine(tTakeF (q:=2) (by decide) H.out hT).mono ?_
 intro e w1 h1
 cases hx:takeT T 2 f.m.i with
 | error q=>
  rw[hx] at h1
  obtain⟨rfl,hk⟩:=h1
  exact⟨rfl,OutX.err_mk (by rw[HL.out,bnd_err hx]) ⟨rfl,hk⟩⟩
 | ok x=>
 have HL1:=hide (HL.out.trans (bnd_ok hx))
 rw[hx] at h1
 obtain⟨rfl,h1⟩:=h1
 obtain⟨t,j⟩:=x
 simp only at h1 HL1 ⊢
 rw[te t]
 have HJ1:=hide h1.1
 have H1:=hide (h1.2.new #[.int .u8 (t.1:Nat),.int .i64 (t.2.1:Nat),.string t.2.2] 144)
 clear h1 hx H HL a0 l0
 go_upto_region 1 with fail
 generalize w1.alloc (.cells #[.int .u8 (t.1:Nat),.int .i64 (t.2.1:Nat),.string t.2.2] 144)=w2 at*
 generalize w1.heap.size=q2 at*
 go_wp2_with fail
 refine(fnWordF H1.out hT).mono ?_
 intro e w3 h3
 cases hx:wordT T (setI f j).m.i with
 | error q=>
  rw[hx] at h3
  obtain⟨rfl,hk⟩:=h3
  exact⟨rfl,OutX.err_mk (by rw[HL1.out];exact bnd_err hx) ⟨rfl,hk⟩⟩
 | ok y=>
 have HL2:=hide (HL1.out.trans (bnd_ok hx))
 rw[hx] at h3
 obtain⟨rfl,h3⟩:=h3
 obtain⟨wd,j2⟩:=y
 simp only at h3 HL2
 have HJ:Hid (f.m.i+2≤j2):=by have g1:j+1≤j2:=h3.1;have:=HJ1.out;show f.m.i+2≤j2;omega
 have h4:FF w0 ab tg cap mw mb fb T (c+2) (setI f j2) (.b q2 [.int .u8 (t.1:Nat),.int .i64 (t.2.1:Nat),.string t.2.2]::X) w3:=h3.2
 obtain⟨c0,-⟩:=h4.cl 0 0
 obtain⟨c1,-⟩:=h4.cl 0 1
 obtain⟨c2,-⟩:=h4.cl 0 2
 have m0:=h4.lt 0
 have H4:=hide h4
 clear h3 h4 hx H1 HL1 HJ1
 go_upto_block 0 with fail
 go_cut [4,5,6] from 17 to 77 (fun _ _ _ W=>∃f3,RT T (k+1) 1 0 f=closeF T f3∧f3.lb=f.lb∧f.m.i+1≤f3.m.i∧FF w0 ab tg cap mw mb fb T c f3 (.b q2 [.int .u8 (t.1:Nat),.int .i64 (t.2.1:Nat),.string t.2.2]::X) W)
 case first=>
  by_cases hw:wd=2∨wd=3
  ·have HL3:=hide (HL2.out.trans (if_pos hw))
   rcases hw with hw | hw
   case' inl=>have e2:((wd:Int)==2)=true:=by simp;omega
   case' inr=>
    have e2:((wd:Int)==2)=false:=by simp;omega
    have e3:((wd:Int)==3)=true:=by simp;omega
   all_goals
    clear hw HL2
    go_wp2_with fail
    refine(fnOpening_all t wd H4.out HG.out hT).mono ?_
    intro e w6 h6
    cases hx:opnT T t.2.1 (setI f j2) wd with
    | error q=>
     rw[hx] at h6
     obtain⟨rfl,hk⟩:=h6
     exact⟨rfl,OutX.err_mk (by rw[HL3.out,bnd_err hx]) ⟨rfl,hk⟩⟩
    | ok z=>
    have HL4:=hide (HL3.out.trans (bnd_ok hx))
    have HZ:=hide (opnT_le hT H4.out.1 hx)
    rw[hx] at h6
    obtain⟨gv,hgv,hzl,rfl,h6⟩:=h6
    rw[show(insV (z.1.1,gv,.slice none 0 0)++[Value.string z.1.2]).toArray= #[.int .i64 0,.int .i64 0,.int .u8 (z.1.1.word:Nat),.bool z.1.1.typed,gv,.int .u32 z.1.1.align,.int .u32 z.1.1.num,.int .i64 0,.slice none 0 0,.int .i64 z.1.1.value,.string z.1.2] from rfl]
    obtain⟨pg,cg,rfl⟩:=(h6.row 0).shape
    have h7:=(h6.new #[.int .i64 0,.int .i64 0,.int .u8 (z.1.1.word:Nat),.bool z.1.1.typed,.slice pg z.1.1.gives.length cg,.int .u32 z.1.1.align,.int .u32 z.1.1.num,.int .i64 0,.slice none 0 0,.int .i64 z.1.1.value,.string z.1.2] 206).perm (List.Perm.swap _ _ _)
    have HZL:=hide hzl
    have HLB:Hid (z.2.lb.length<50∧z.2.lb=f.lb∧f.m.i+2≤z.2.m.i):=by
     obtain⟨_,_,_,_,_,ha,_⟩:=h6
     have g1:=ha.lb
     have g2:=HZ.out
     have g3:(setI f j2).lb=f.lb:=rfl
     have g4:(setI f j2).m.i=j2:=rfl
     have g5:=HJ.out
     refine⟨?_,by rw[g2.2.1];rfl,by omega⟩
     have g6:=g2.1
     rw[←g2.2.1] at g6
     omega
    have H7:=hide h7
    clear h6 h7 hx H4 HL3 c0 c1 c2 m0 hgv hzl HZ
    go_upto_region 10 with fail
    generalize w6.alloc (.cells #[.int .i64 0,.int .i64 0,.int .u8 (z.1.1.word:Nat),.bool z.1.1.typed,.slice pg z.1.1.gives.length cg,.int .u32 z.1.1.align,.int .u32 z.1.1.num,.int .i64 0,.slice none 0 0,.int .i64 z.1.1.value,.string z.1.2] 206)=w7 at*
    generalize w6.heap.size=q4 at*
    obtain⟨p0,-⟩:=H7.out.cl 1 0
    obtain⟨p1,-⟩:=H7.out.cl 1 1
    obtain⟨p2,-⟩:=H7.out.cl 1 2
    obtain⟨p3,-⟩:=H7.out.cl 1 3
    obtain⟨p4,-⟩:=H7.out.cl 1 4
    obtain⟨p5,-⟩:=H7.out.cl 1 5
    obtain⟨p6,-⟩:=H7.out.cl 1 6
    obtain⟨p7,-⟩:=H7.out.cl 1 7
    obtain⟨p8,-⟩:=H7.out.cl 1 8
    obtain⟨p9,-⟩:=H7.out.cl 1 9
    obtain⟨p10,-⟩:=H7.out.cl 1 10
    have pm:=H7.out.lt 1
    go_wp2_with fail
    refine(fnBlock_m (a:=c+1) (b:=c) (m:=RT T k 0 0) (x:=z.1.1) (nm:=z.1.2) (gv:=.slice pg z.1.1.gives.length cg) enters_instructions rfl HZL.out hT HLB.out.1 ?_ (H7.out.less (by omega))).mono ?_
    ·intro tb cs f' w' hF hfi
     refine((HI.out k (by omega)) (c+1) _ f' _ hF (by have:=HN.out;have:=HLB.out;have:=hF.1;omega)).mono ?_
     intro e w' h8
     cases hx:RT T k 0 0 f' with
     | error q=>rw[hx] at h8;exact h8
     | ok f2=>
      rw[hx] at h8
      obtain⟨rfl,h9,h10,h11⟩:=h8
      exact⟨rfl,h9,by omega,h11⟩
    ·intro e w8 h8
     cases hx:blkT z.1.1 z.1.2 (RT T k 0 0) z.2 with
     | error q=>
      rw[hx] at h8
      obtain⟨rfl,hk⟩:=h8
      exact⟨rfl,OutX.err_mk (by rw[HL4.out,bnd_err hx]) ⟨rfl,hk⟩⟩
     | ok f2=>
     have HL9:=hide (HL4.out.trans (bnd_ok hx))
     rw[hx] at h8
     obtain⟨rfl,hl8,hi8,h8⟩:=h8
     have HB9:Hid (f2.lb=f.lb∧f.m.i+1≤f2.m.i):=⟨hl8.trans HLB.out.2.1,by have:=HLB.out.2.2;omega⟩
     have H8:=hide h8.pop
     clear hx hl8 hi8 h8 HL4 H7 p0 p1 p2 p3 p4 p5 p6 p7 p8 p9 p10 pm
     go_wp2
     go_meet
     case rel=>exact⟨f2,HL9.out,HB9.out.1,HB9.out.2,H8.out⟩
  ·have e2:((wd:Int)==2)=false:=by simp;omega
   have e3:((wd:Int)==3)=false:=by simp;omega
   by_cases h4:wd=4
   ·have e4:((wd:Int)==4)=true:=by simp;omega
    have HL3:=hide ((HL2.out.trans (if_neg hw)).trans (if_pos h4))
    clear hw h4 HL2
    go_wp2_with fail
    refine(fnOpening_all t wd H4.out HG.out hT).mono ?_
    intro e w6 h6
    cases hx:opnT T t.2.1 (setI f j2) wd with
    | error q=>
     rw[hx] at h6
     obtain⟨rfl,hk⟩:=h6
     exact⟨rfl,OutX.err_mk (by rw[HL3.out,bnd_err hx]) ⟨rfl,hk⟩⟩
    | ok z=>
    have HL4:=hide (HL3.out.trans (bnd_ok hx))
    have HZ:=hide (opnT_le hT H4.out.1 hx)
    rw[hx] at h6
    obtain⟨gv,hgv,hzl,rfl,h6⟩:=h6
    rw[show(insV (z.1.1,gv,.slice none 0 0)++[Value.string z.1.2]).toArray= #[.int .i64 0,.int .i64 0,.int .u8 (z.1.1.word:Nat),.bool z.1.1.typed,gv,.int .u32 z.1.1.align,.int .u32 z.1.1.num,.int .i64 0,.slice none 0 0,.int .i64 z.1.1.value,.string z.1.2] from rfl]
    obtain⟨pg,cg,rfl⟩:=(h6.row 0).shape
    have h7:=(h6.new #[.int .i64 0,.int .i64 0,.int .u8 (z.1.1.word:Nat),.bool z.1.1.typed,.slice pg z.1.1.gives.length cg,.int .u32 z.1.1.align,.int .u32 z.1.1.num,.int .i64 0,.slice none 0 0,.int .i64 z.1.1.value,.string z.1.2] 206).perm (List.Perm.swap _ _ _)
    have HZL:=hide hzl
    have HLB:Hid (z.2.lb.length<50∧z.2.lb=f.lb∧f.m.i+2≤z.2.m.i):=by
     obtain⟨_,_,_,_,_,ha,_⟩:=h6
     have g1:=ha.lb
     have g2:=HZ.out
     have g3:(setI f j2).lb=f.lb:=rfl
     have g4:(setI f j2).m.i=j2:=rfl
     have g5:=HJ.out
     refine⟨?_,by rw[g2.2.1];rfl,by omega⟩
     have g6:=g2.1
     rw[←g2.2.1] at g6
     omega
    have H7:=hide h7
    clear h6 h7 hx H4 HL3 c0 c1 c2 m0 hgv hzl HZ
    go_upto_block 3 with fail
    generalize w6.alloc (.cells #[.int .i64 0,.int .i64 0,.int .u8 (z.1.1.word:Nat),.bool z.1.1.typed,.slice pg z.1.1.gives.length cg,.int .u32 z.1.1.align,.int .u32 z.1.1.num,.int .i64 0,.slice none 0 0,.int .i64 z.1.1.value,.string z.1.2] 206)=w7 at*
    generalize w6.heap.size=q4 at*
    go_wp2_with fail
    go_loopg [] k (fun kk wr=>∃f',kk≤k∧3*(T.length - f'.m.i)+2≤kk∧f'.lb=z.2.lb∧z.2.m.i≤f'.m.i∧RT T k 5 0 z.2=RT T kk 5 0 f'∧FF w0 ab tg cap mw mb fb T (c+2) f' (.r 73 1 (.slice pg z.1.1.gives.length cg) z.1.1.gives.length (kindCells z.1.1.gives)::.b q4 [.int .i64 0,.int .i64 0,.int .u8 (z.1.1.word:Nat),.bool z.1.1.typed,.slice pg z.1.1.gives.length cg,.int .u32 z.1.1.align,.int .u32 z.1.1.num,.int .i64 0,.slice none 0 0,.int .i64 z.1.1.value,.string z.1.2]::.b q2 [.int .u8 (t.1:Nat),.int .i64 (t.2.1:Nat),.string t.2.2]::X) wr)
    case atStart=>exact⟨z.2,Nat.le_refl _,by have:=HN.out;have:=HLB.out;have:=H7.out.1;omega,rfl,Nat.le_refl _,rfl,H7.out⟩
    case round=>
     obtain⟨f',hkn,hk,hlb,hii,hL,hF⟩:=hrel
     clear H7
     obtain⟨k',rfl⟩:∃k',gk=k'+1:=⟨gk - 1,by omega⟩
     obtain⟨u,hu⟩:∃t,T[f'.m.i]?=some t:=⟨_,List.getElem?_eq_getElem hF.1⟩
     have HU:=hide hu
     have HM:Hid (RT T k 5 0 z.2=(if u.1=2∧opensT T thenB f'.m.i=false then bnd (RT T k' 1 0 f') (RT T k' 5 0) else .ok f')):=by
      show _=_
      rw[hL]
      conv=>lhs;unfold RT
      rw[hu]
      rfl
     have HB:Hid ((k'<k∧3*(T.length - f'.m.i)+1≤k')∧f'.lb=z.2.lb∧z.2.m.i≤f'.m.i∧f'.m.i<T.length):=⟨by omega,hlb,hii,hF.1⟩
     obtain⟨a0,l0⟩:=hF.fb0
     have H7:=hide hF
     clear hkn hk hlb hii hL hF hu
     go_wp2_with fail
     refine(tPeek_F H7.out HU.out).mono ?_
     rintro e w8 ⟨rfl,h8⟩
     rw[te]
     obtain⟨b0,n0⟩:=h8.fb0
     have H8:=hide h8
     clear a0 l0 H7 h8
     by_cases h2:u.1=2
     ·have t2:((u.1:Int)==2)=true:=by rw[h2];rfl
      have HU2:=hide h2
      clear h2
      go_wp2_with fail
      refine(tOpens_F H8.out hT thenB).mono ?_
      rintro e w9 ⟨rfl,h9⟩
      have H9:=hide h9
      clear h9 H8 b0 n0
      cases ho:opensT T thenB f'.m.i with
      | false=>
       have HM2:=hide (HM.out.trans (if_pos ⟨HU2.out,ho⟩))
       clear ho HM
       go_wp2_with fail
       refine((HCF.out k' (by have:=HB.out.1;omega)) (c+2) _ f' _ H9.out HB.out.1.2).mono ?_
       intro e w10 h10
       cases hx:RT T k' 1 0 f' with
       | error q=>
        rw[hx] at h10
        obtain⟨rfl,hk⟩:=h10
        exact⟨rfl,OutX.err_mk (by rw[HL4.out,HM2.out,bnd_err hx];rfl) ⟨rfl,hk⟩⟩
       | ok f2=>
       rw[hx] at h10
       obtain⟨rfl,hl2,hi2,h10⟩:=h10
       have HM3:=hide (HM2.out.trans (bnd_ok hx))
       have HB2:Hid ((k'≤k∧3*(T.length - f2.m.i)+2≤k')∧f2.lb=z.2.lb∧z.2.m.i≤f2.m.i):=by
        have hb:=HB.out
        have hl:=h10.1
        exact⟨by omega,by rw[hl2];exact hb.2.1,by omega⟩
       have H10:=hide h10
       clear hx hl2 hi2 h10 HM2 H9
       go_wp2
       go_roundg k'
       case measure=>omega
       case rel=>exact⟨f2,HB2.out.1.1,HB2.out.1.2,HB2.out.2.1,HB2.out.2.2,HM3.out,H10.out⟩
      | true=>
       have HL5:=hide (HL4.out.trans (bnd_ok (HM.out.trans (if_neg (fun c=>by rw[ho] at c;exact absurd c.2 (by decide))))))
       have H7:=hide H9.out
       clear ho HM H9
       obtain⟨p0,-⟩:=H7.out.cl 1 0
       obtain⟨p1,-⟩:=H7.out.cl 1 1
       obtain⟨p2,-⟩:=H7.out.cl 1 2
       obtain⟨p3,-⟩:=H7.out.cl 1 3
       obtain⟨p4,-⟩:=H7.out.cl 1 4
       obtain⟨p5,-⟩:=H7.out.cl 1 5
       obtain⟨p6,-⟩:=H7.out.cl 1 6
       obtain⟨p7,-⟩:=H7.out.cl 1 7
       obtain⟨p8,-⟩:=H7.out.cl 1 8
       obtain⟨p9,-⟩:=H7.out.cl 1 9
       obtain⟨p10,-⟩:=H7.out.cl 1 10
       have pm:=H7.out.lt 1
       go_wp2_with fail
       refine(fnBlock_m (a:=c+1) (b:=c) (m:=RT T k 6 0) (x:=z.1.1) (nm:=z.1.2) (gv:=.slice pg z.1.1.gives.length cg) enters_branches rfl HZL.out hT (by rw[HB.out.2.1];exact HLB.out.1) ?_ (H7.out.less (by omega))).mono ?_
       ·intro tb cs f' w' hF hfi
        obtain⟨k',rfl⟩:∃k',k=k'+1:=⟨k - 1,by have:=HB.out.1;omega⟩
        refine(fnBranches_all hT (HI.out k' (by omega)) hF (by have:=HN.out;have:=HLB.out;have:=HB.out;have:=hF.1;omega)).mono ?_
        intro e w' h8
        cases hx:RT T (k'+1) 6 0 f' with
        | error q=>rw[hx] at h8;exact h8
        | ok f2=>
         rw[hx] at h8
         obtain⟨rfl,h9,h10,h11⟩:=h8
         exact⟨rfl,h9,by omega,h11.less (by omega)⟩
       ·intro e w8 h8
        cases hx:blkT z.1.1 z.1.2 (RT T k 6 0) f' with
        | error q=>
         rw[hx] at h8
         obtain⟨rfl,hk⟩:=h8
         exact⟨rfl,OutX.err_mk (by rw[HL5.out,bnd_err hx]) ⟨rfl,hk⟩⟩
        | ok f2=>
        have HL9:=hide (HL5.out.trans (bnd_ok hx))
        rw[hx] at h8
        obtain⟨rfl,hl8,hi8,h8⟩:=h8
        have HB9:Hid (f2.lb=f.lb∧f.m.i+1≤f2.m.i):=⟨hl8.trans (HB.out.2.1.trans HLB.out.2.1),by have:=HLB.out.2.2;have:=HB.out.2.2.1;omega⟩
        have H8:=hide h8.pop
        clear hx hl8 hi8 h8 HL5 H7 p0 p1 p2 p3 p4 p5 p6 p7 p8 p9 p10 pm
        go_wp2
        go_meet
        case rel=>exact⟨f2,HL9.out,HB9.out.1,HB9.out.2,H8.out⟩
     ·have t2:((u.1:Int)==2)=false:=by simp;omega
      have HL5:=hide (HL4.out.trans (bnd_ok (HM.out.trans (if_neg (fun c=>h2 c.1)))))
      have H7:=hide H8.out
      clear h2 HM H8 b0 n0
      obtain⟨p0,-⟩:=H7.out.cl 1 0
      obtain⟨p1,-⟩:=H7.out.cl 1 1
      obtain⟨p2,-⟩:=H7.out.cl 1 2
      obtain⟨p3,-⟩:=H7.out.cl 1 3
      obtain⟨p4,-⟩:=H7.out.cl 1 4
      obtain⟨p5,-⟩:=H7.out.cl 1 5
      obtain⟨p6,-⟩:=H7.out.cl 1 6
      obtain⟨p7,-⟩:=H7.out.cl 1 7
      obtain⟨p8,-⟩:=H7.out.cl 1 8
      obtain⟨p9,-⟩:=H7.out.cl 1 9
      obtain⟨p10,-⟩:=H7.out.cl 1 10
      have pm:=H7.out.lt 1
      go_wp2_with fail
      refine(fnBlock_m (a:=c+1) (b:=c) (m:=RT T k 6 0) (x:=z.1.1) (nm:=z.1.2) (gv:=.slice pg z.1.1.gives.length cg) enters_branches rfl HZL.out hT (by rw[HB.out.2.1];exact HLB.out.1) ?_ (H7.out.less (by omega))).mono ?_
      ·intro tb cs f' w' hF hfi
       obtain⟨k',rfl⟩:∃k',k=k'+1:=⟨k - 1,by have:=HB.out.1;omega⟩
       refine(fnBranches_all hT (HI.out k' (by omega)) hF (by have:=HN.out;have:=HLB.out;have:=HB.out;have:=hF.1;omega)).mono ?_
       intro e w' h8
       cases hx:RT T (k'+1) 6 0 f' with
       | error q=>rw[hx] at h8;exact h8
       | ok f2=>
        rw[hx] at h8
        obtain⟨rfl,h9,h10,h11⟩:=h8
        exact⟨rfl,h9,by omega,h11.less (by omega)⟩
      ·intro e w8 h8
       cases hx:blkT z.1.1 z.1.2 (RT T k 6 0) f' with
       | error q=>
        rw[hx] at h8
        obtain⟨rfl,hk⟩:=h8
        exact⟨rfl,OutX.err_mk (by rw[HL5.out,bnd_err hx]) ⟨rfl,hk⟩⟩
       | ok f2=>
       have HL9:=hide (HL5.out.trans (bnd_ok hx))
       rw[hx] at h8
       obtain⟨rfl,hl8,hi8,h8⟩:=h8
       have HB9:Hid (f2.lb=f.lb∧f.m.i+1≤f2.m.i):=⟨hl8.trans (HB.out.2.1.trans HLB.out.2.1),by have:=HLB.out.2.2;have:=HB.out.2.2.1;omega⟩
       have H8:=hide h8.pop
       clear hx hl8 hi8 h8 HL5 H7 p0 p1 p2 p3 p4 p5 p6 p7 p8 p9 p10 pm
       go_wp2
       go_meet
       case rel=>exact⟨f2,HL9.out,HB9.out.1,HB9.out.2,H8.out⟩
   ·have e4:((wd:Int)==4)=false:=by simp;omega
    have HL3:=hide ((HL2.out.trans (if_neg hw)).trans (if_neg h4))
    clear hw h4 HL2
    go_wp2_with fail
    refine(fnBehind_all wd H4.out HG.out HD.out hT).mono ?_
    intro e w6 h6
    cases hx:behT T (setI f j2) wd with
    | error q=>
     rw[hx] at h6
     obtain⟨rfl,hk⟩:=h6
     exact⟨rfl,OutX.err_mk (by rw[HL3.out,bnd_err hx]) ⟨rfl,hk⟩⟩
    | ok z=>
    have HL4:=hide (HL3.out.trans (bnd_ok hx))
    have hz:=behT_le hT H4.out.1 hx
    rw[hx] at h6
    obtain⟨lv,hlv,hzg,rfl,h6⟩:=h6
    rw[show(insV (z.1,.slice none 0 0,lv)).toArray= #[.int .i64 0,.int .i64 0,.int .u8 (z.1.word:Nat),.bool z.1.typed,.slice none 0 0,.int .u32 z.1.align,.int .u32 z.1.num,.int .i64 0,lv,.int .i64 z.1.value] from rfl]
    obtain⟨pl,cl,rfl⟩:=(h6.row 0).shape
    have HLB:Hid (z.2.lb=f.lb∧f.m.i+2≤z.2.m.i):=by
     have g4:(setI f j2).m.i=j2:=rfl
     have g5:=HJ.out
     exact⟨by rw[hz.2.1];rfl,by omega⟩
    have H7:=hide ((h6.new #[.int .i64 0,.int .i64 0,.int .u8 (z.1.word:Nat),.bool z.1.typed,.slice none 0 0,.int .u32 z.1.align,.int .u32 z.1.num,.int .i64 0,.slice pl z.1.labels.length cl,.int .i64 z.1.value] 131).perm (List.Perm.swap _ _ _))
    have HZG:=hide hzg
    clear h6 hx H4 HL3 c0 c1 c2 m0 hlv hzg hz
    go_upto_block 1 with fail
    generalize w6.alloc (.cells #[.int .i64 0,.int .i64 0,.int .u8 (z.1.word:Nat),.bool z.1.typed,.slice none 0 0,.int .u32 z.1.align,.int .u32 z.1.num,.int .i64 0,.slice pl z.1.labels.length cl,.int .i64 z.1.value] 131)=w7 at*
    generalize w6.heap.size=q4 at*
    go_wp2_with fail
    go_loopg [] k (fun kk wr=>∃f',kk≤k∧3*(T.length - f'.m.i)+2≤kk∧f'.lb=z.2.lb∧z.2.m.i≤f'.m.i∧RT T k 4 0 z.2=RT T kk 4 0 f'∧FF w0 ab tg cap mw mb fb T (c+2) f' (.r 66 2 (.slice pl z.1.labels.length cl) z.1.labels.length (z.1.labels.flatMap nuC)::.b q4 [.int .i64 0,.int .i64 0,.int .u8 (z.1.word:Nat),.bool z.1.typed,.slice none 0 0,.int .u32 z.1.align,.int .u32 z.1.num,.int .i64 0,.slice pl z.1.labels.length cl,.int .i64 z.1.value]::.b q2 [.int .u8 (t.1:Nat),.int .i64 (t.2.1:Nat),.string t.2.2]::X) wr)
    case atStart=>exact⟨z.2,Nat.le_refl _,by have:=HN.out;have:=HLB.out;have:=H7.out.1;omega,rfl,Nat.le_refl _,rfl,H7.out⟩
    case round=>
     obtain⟨f',hkn,hk,hlb,hii,hL,hF⟩:=hrel
     clear H7
     obtain⟨k',rfl⟩:∃k',gk=k'+1:=⟨gk - 1,by omega⟩
     obtain⟨u,hu⟩:∃t,T[f'.m.i]?=some t:=⟨_,List.getElem?_eq_getElem hF.1⟩
     have HU:=hide hu
     have HM:Hid (RT T k 4 0 z.2=(if u.1=2 then bnd (RT T k' 1 0 f') (RT T k' 4 0) else .ok f')):=by
      show _=_
      rw[hL]
      conv=>lhs;unfold RT
      rw[hu]
      rfl
     have HB:Hid ((k'<k∧3*(T.length - f'.m.i)+1≤k')∧f'.lb=z.2.lb∧z.2.m.i≤f'.m.i∧f'.m.i<T.length):=⟨by omega,hlb,hii,hF.1⟩
     obtain⟨a0,l0⟩:=hF.fb0
     have H7:=hide hF
     clear hkn hk hlb hii hL hF hu
     go_wp2_with fail
     refine(tPeek_F H7.out HU.out).mono ?_
     rintro e w8 ⟨rfl,h8⟩
     rw[te]
     have H8:=hide h8
     clear a0 l0 H7 h8
     by_cases h2:u.1=2
     ·have t2:((u.1:Int)==2)=true:=by rw[h2];rfl
      have HM2:=hide (HM.out.trans (if_pos h2))
      clear h2 HM
      go_wp2_with fail
      refine((HCF.out k' (by have:=HB.out.1;omega)) (c+2) _ f' _ H8.out HB.out.1.2).mono ?_
      intro e w10 h10
      cases hx:RT T k' 1 0 f' with
      | error q=>
       rw[hx] at h10
       obtain⟨rfl,hk⟩:=h10
       exact⟨rfl,OutX.err_mk (by rw[HL4.out,HM2.out,bnd_err hx];rfl) ⟨rfl,hk⟩⟩
      | ok f2=>
      rw[hx] at h10
      obtain⟨rfl,hl2,hi2,h10⟩:=h10
      have HM3:=hide (HM2.out.trans (bnd_ok hx))
      have HB2:Hid ((k'≤k∧3*(T.length - f2.m.i)+2≤k')∧f2.lb=z.2.lb∧z.2.m.i≤f2.m.i):=by
       have hb:=HB.out
       have hl:=h10.1
       exact⟨by omega,by rw[hl2];exact hb.2.1,by omega⟩
      have H10:=hide h10
      clear hx hl2 hi2 h10 HM2 H8
      go_wp2
      go_roundg k'
      case measure=>omega
      case rel=>exact⟨f2,HB2.out.1.1,HB2.out.1.2,HB2.out.2.1,HB2.out.2.2,HM3.out,H10.out⟩
     ·have t2:((u.1:Int)==2)=false:=by simp;omega
      have HL5:=hide (HL4.out.trans (bnd_ok (HM.out.trans (if_neg h2))))
      have h9:FF w0 ab tg cap mw mb fb T (c+1+1) f' (.r 73 1 (.slice none 0 0) z.1.gives.length (kindCells z.1.gives)::.r 66 2 (.slice pl z.1.labels.length cl) z.1.labels.length (z.1.labels.flatMap nuC)::.b q4 [.int .i64 0,.int .i64 0,.int .u8 (z.1.word:Nat),.bool z.1.typed,.slice none 0 0,.int .u32 z.1.align,.int .u32 z.1.num,.int .i64 0,.slice pl z.1.labels.length cl,.int .i64 z.1.value]::.b q2 [.int .u8 (t.1:Nat),.int .i64 (t.2.1:Nat),.string t.2.2]::X) w8:=by
       rw[HZG.out]
       exact H8.out.nilR 73 1
      obtain⟨p0,-⟩:=h9.cl 2 0
      obtain⟨p1,-⟩:=h9.cl 2 1
      obtain⟨p2,-⟩:=h9.cl 2 2
      obtain⟨p3,-⟩:=h9.cl 2 3
      obtain⟨p4,-⟩:=h9.cl 2 4
      obtain⟨p5,-⟩:=h9.cl 2 5
      obtain⟨p6,-⟩:=h9.cl 2 6
      obtain⟨p7,-⟩:=h9.cl 2 7
      obtain⟨p8,-⟩:=h9.cl 2 8
      obtain⟨p9,-⟩:=h9.cl 2 9
      have pm:=h9.lt 2
      have H9:=hide h9
      clear h2 HM H8 h9
      go_wp2_with fail
      refine(fnPut_FF (x:=z.1) (gv:=.slice none 0 0) (lv:=.slice pl z.1.labels.length cl) rfl rfl hT.few H9.out).mono ?_
      rintro e w9 ⟨rfl,h10⟩
      have HB9:Hid (f'.lb=f.lb∧f.m.i+1≤f'.m.i):=⟨HB.out.2.1.trans HLB.out.1,by have:=HLB.out.2;have:=HB.out.2.2.1;omega⟩
      have H10:=hide (h10.pop.less (c':=c) (by omega))
      clear h10 H9 p0 p1 p2 p3 p4 p5 p6 p7 p8 p9 pm
      go_wp2
      go_meet
      case rel=>exact⟨putF f' z.1,HL5.out,HB9.out.1,HB9.out.2,H10.out⟩
 obtain⟨f3,hL,hlb,hii,hF⟩:=hcut
 have HLC:=hide hL
 have HB:Hid (f3.lb=f.lb∧f.m.i+1≤f3.m.i):=⟨hlb,hii⟩
 obtain⟨a0,l0⟩:=hF.fb0
 have HF:=hide hF
 clear hL hlb hii hF H4 HL2 c0 c1 c2 m0
 go_wp2_with fail
 refine(tTakeF (q:=3) (by decide) HF.out hT).mono ?_
 intro e w8 h9
 cases hx:takeT T 3 f3.m.i with
 | error q=>
  rw[hx] at h9
  obtain⟨rfl,hk⟩:=h9
  exact⟨rfl,OutX.err_mk (by rw[HLC.out];exact bnd_err hx) ⟨rfl,hk⟩⟩
 | ok u=>
 have HL8:=hide (HLC.out.trans (bnd_ok hx))
 rw[hx] at h9
 obtain⟨rfl,h9⟩:=h9
 have HJ9:=hide h9.1
 have H9:=hide (h9.2.pop.less (c':=c) (by omega))
 clear hx h9 HLC HF a0 l0
 go_wp2
 go_end0
 exact OutX.ok_mk HL8.out ⟨rfl,HB.out.1,by have:=HJ9.out;have:=HB.out.2;show f.m.i+1≤u.2;omega,H9.out⟩
theorem fnAll (hT:TW T) (hg:Ge w0) (hd:Gd w0):∀n,(∀k,k<n→C1 w0 ab tg cap mw mb fb T k)∧CR w0 ab tg cap mw mb fb T 115 0 0 2 n:=by
 have key:∀n,∀k,k<n→C1 w0 ab tg cap mw mb fb T k:=by
  intro n
  induction n with
  | zero=>intro k hk;omega
  | succ n ih=>
   intro k hk
   rcases Nat.lt_or_ge k n with c | c
   ·exact ih k c
   ·obtain rfl:k=n:=by omega
    have hI:∀m,m<k→CR w0 ab tg cap mw mb fb T 115 0 0 2 m:=fun m hm=>fnInstructions_all hT m (fun q hq=>ih q (by omega))
    exact⟨fnFolded_all hT hg hd hI (fun m hm=>(ih m hm).1),fnFlat_all hT hg hd hI⟩
 intro n
 exact⟨key n,fnInstructions_all hT n (key n)⟩
end
end
section
open Go.RowKit
def Sm (a b:MS):Prop:=b={a with i:=b.i,no:=b.no,ty:=b.ty}
theorem Sm.refl (a:MS):Sm a a:=rfl
theorem Sm.trans {a b c:MS} (h1:Sm a b) (h2:Sm b c):Sm a c:=by
 unfold Sm at*
 rw[h2,h1]
def Sf (f f':Bk):Prop:=f'.nm=f.nm∧Sm f.m f'.m
theorem Sf.refl (f:Bk):Sf f f:=⟨rfl,rfl⟩
theorem Sf.trans {a b c:Bk} (h1:Sf a b) (h2:Sf b c):Sf a c:=⟨h2.1.trans h1.1,h1.2.trans h2.2⟩
section
variable {T:List Tok}
theorem kinF_nm {f:Bk} {x:(List Nat×List Nat)×Bk} (h:kinF false T f=.ok x):x.2.nm=f.nm:=by
 unfold kinF at h
 rw[if_neg (by decide)] at h
 split at h
 ·cases h
 ·cases h;rfl
theorem useT_nm {f:Bk} {x:UseR×Bk} (h:useT false T f=.ok x):x.2.nm=f.nm:=by
 unfold useT at h
 split at h
 ·split at h
  ·cases h
  ·split at h
   ·cases h
   ·split at h
    ·cases h
    ·rename_i hk
     have:=kinF_nm hk
     cases h
     dsimp only at this ⊢
     split<;>exact this
 ·split at h
  ·cases h
  ·rename_i hk
   have:=kinF_nm hk
   cases h
   exact this
theorem useT_sm {b:Bool} {f:Bk} {x:UseR×Bk} (hT:TW T) (hi:f.m.i<T.length) (h:useT b T f=.ok x):Sm f.m x.2.m:=by
 have h5:=(useT_le hT h hi).2.2.2.2.1
 unfold Sm
 rw[h5]
theorem tixT_sm {s:MS} {a:List Nat×List Nat} {x:Nat×MS} (h:tixT T s a=.ok x):Sm s x.2∧x.2.i=s.i:=by
 unfold tixT at h
 split at h
 ·cases h;exact⟨rfl,rfl⟩
 ·split at h
  ·cases h
  ·cases h;exact⟨rfl,rfl⟩
theorem behT_sf {f:Bk} {word:Nat} {x:InsT×Bk} (hT:TW T) (hi:f.m.i<T.length) (h:behT T f word=.ok x):Sf f x.2:=by
 refine⟨(behT_le hT hi h).2.2.1,?_⟩
 unfold behT at h
 split at h
 ·split at h
  ·cases h
  ·split at h
   ·cases h
   ·cases h;rfl
 split at h
 ·split at h
  ·cases h
  ·cases h;rfl
 iterate 3
  split at h
  ·split at h
   ·cases h
   ·cases h;rfl
 split at h
 ·split at h
  ·cases h
  ·rename_i u f2 h2
   have g1:=useT_sm hT hi h2
   split at h
   ·cases h
    exact g1
   ·split at h
    ·cases h
    ·rename_i n m h3
     cases h
     exact g1.trans (tixT_sm h3).1
 split at h
 ·split at h
  ·cases h
  ·split at h
   ·cases h
   ·cases h;rfl
 iterate 2
  split at h
  ·split at h
   ·cases h
   ·cases h;rfl
 cases h
 rfl
theorem opnT_sf {p word:Nat} {f:Bk} {z:(InsT×ByteArray)×Bk} (hT:TW T) (hi:f.m.i<T.length) (h:opnT T p f word=.ok z):Sf f z.2:=by
 have hb:=bnT_le hi
 unfold opnT at h
 split at h
 ·cases h
 ·split at h
  ·cases h
  ·rename_i u f2 hu
   have g0:f2.nm=f.nm:=useT_nm hu
   have g1:Sm f.m f2.m:=useT_sm hT hb.2 hu
   split at h
   ·cases h
    exact⟨g0,g1⟩
   ·split at h
    ·cases h
     exact⟨g0,g1⟩
    ·split at h
     ·cases h
     ·rename_i n m h3
      cases h
      exact⟨g0,g1.trans (tixT_sm h3).1⟩
theorem blkT_sf {x:InsT} {nm:ByteArray} {m:Bk→Except Err Bk} {f f':Bk} (hm:∀g g',m g=.ok g'→g.m.i=f.m.i→Sf g g') (h:blkT x nm m f=.ok f'):Sf f f':=by
 unfold blkT at h
 split at h
 ·cases h
 ·rename_i f2 h2
  have:=hm _ _ h2 rfl
  cases h
  exact this
theorem bnd_inv {α β:Type} {m:Except Err α} {k:α→Except Err β} {y:β} (h:bnd m k=.ok y):∃x,m=.ok x∧k x=.ok y:=by
 cases m with
 | error e=>cases h
 | ok x=>exact⟨x,rfl,h⟩
theorem closeF_sf {f f':Bk} (h:closeF T f=.ok f'):Sf f f':=by
 obtain⟨x,-,h⟩:=bnd_inv h
 cases h
 exact⟨rfl,rfl⟩
theorem wordF_sf {q:ByteArray} {f f':Bk} (h:wordF T q f=.ok f'):Sf f f':=by
 obtain⟨x,-,h⟩:=bnd_inv h
 cases h
 exact⟨rfl,rfl⟩
theorem openF_sf {q:ByteArray} {f f':Bk} (h:openF T q f=.ok f'):Sf f f':=by
 obtain⟨x,-,h⟩:=bnd_inv h
 cases h
 exact⟨rfl,rfl⟩
theorem RT_sf (hT:TW T):∀{k m w:Nat} {f f':Bk},RT T k m w f=.ok f'→Sf f f'
 | 0,_,_,_,_,h=>by cases h
 | k+1,m,w,f,f',h=>by
  unfold RT at h
  split at h
  ·cases h
  ·rename_i t ht
   have hi:f.m.i<T.length:=(List.getElem?_eq_some_iff.1 ht).1
   split at h
   ·split at h
    ·obtain⟨x,h1,h2⟩:=bnd_inv h
     exact(RT_sf hT h1).trans (RT_sf hT h2)
    ·split at h
     ·obtain⟨x,h1,h2⟩:=bnd_inv h
      exact(RT_sf hT h1).trans (RT_sf hT h2)
     ·cases h;exact Sf.refl _
   split at h
   ·obtain⟨x,h1,h⟩:=bnd_inv h
    obtain⟨y,h2,h⟩:=bnd_inv h
    obtain⟨-,-,g3⟩:=takeT_nx h1
    have g4:=wordT_nx hT h2
    have hi2:(setI f y.2).m.i<T.length:=by show y.2<T.length;omega
    split at h
    ·obtain⟨z,h3,h⟩:=bnd_inv h
     obtain⟨f3,h4,h⟩:=bnd_inv h
     exact((opnT_sf hT hi2 h3).trans (blkT_sf (fun g g' hg _=>RT_sf hT hg) h4)).trans (closeF_sf h)
    ·split at h
     ·obtain⟨z,h3,h⟩:=bnd_inv h
      obtain⟨f3,h4,h⟩:=bnd_inv h
      obtain⟨f4,h5,h⟩:=bnd_inv h
      exact(((opnT_sf hT hi2 h3).trans (RT_sf hT h4)).trans (blkT_sf (fun g g' hg _=>RT_sf hT hg) h5)).trans (closeF_sf h)
     ·obtain⟨z,h3,h⟩:=bnd_inv h
      obtain⟨f3,h4,h⟩:=bnd_inv h
      have g5:Sf f3 f':=closeF_sf (f:=putF f3 z.1) h
      exact((behT_sf hT hi2 h3).trans (RT_sf hT h4)).trans g5
   split at h
   ·obtain⟨y,h2,h⟩:=bnd_inv h
    have g4:=wordT_nx hT h2
    have hi2:(setI f y.2).m.i<T.length:=by show y.2<T.length;omega
    split at h
    ·obtain⟨z,h3,h⟩:=bnd_inv h
     exact(opnT_sf hT hi2 h3).trans (blkT_sf (fun g g' hg _=>RT_sf hT hg) h)
    ·obtain⟨z,h3,h⟩:=bnd_inv h
     cases h
     have g5:Sf (setI f y.2) z.2:=behT_sf hT hi2 h3
     exact g5
   split at h
   ·obtain⟨f2,h2,h⟩:=bnd_inv h
    split at h
    ·obtain⟨f3,h3,h⟩:=bnd_inv h
     obtain⟨f4,h4,h⟩:=bnd_inv h
     have g5:Sf f3 f4:=RT_sf hT (f:=putF f3 (insB 5)) h4
     exact(((RT_sf hT h2).trans (wordF_sf h3)).trans g5).trans (wordF_sf h)
    ·exact(RT_sf hT h2).trans (wordF_sf h)
   split at h
   ·split at h
    ·obtain⟨x,h1,h2⟩:=bnd_inv h
     exact(RT_sf hT h1).trans (RT_sf hT h2)
    ·cases h;exact Sf.refl _
   split at h
   ·split at h
    ·obtain⟨x,h1,h2⟩:=bnd_inv h
     exact(RT_sf hT h1).trans (RT_sf hT h2)
    ·cases h;exact Sf.refl _
   ·obtain⟨f1,h1,h⟩:=bnd_inv h
    obtain⟨f2,h2,h⟩:=bnd_inv h
    obtain⟨f3,h3,h⟩:=bnd_inv h
    have g3:=((openF_sf h1).trans (RT_sf hT h2)).trans (closeF_sf h3)
    split at h
    ·obtain⟨f4,h4,h⟩:=bnd_inv h
     obtain⟨f5,h5,h⟩:=bnd_inv h
     have g5:Sf f4 f5:=RT_sf hT (f:=putF f4 (insB 5)) h5
     exact((g3.trans (openF_sf h4)).trans g5).trans (closeF_sf h)
    ·cases h
     exact g3
def Lf (f f':Bk):Prop:=f.m.i≤f'.m.i
theorem Lf.refl (f:Bk):Lf f f:=Nat.le_refl _
theorem Lf.trans {a b c:Bk} (h1:Lf a b) (h2:Lf b c):Lf a c:=Nat.le_trans h1 h2
theorem behT_lf {f:Bk} {word:Nat} {x:InsT×Bk} (hT:TW T) (hi:f.m.i<T.length) (h:behT T f word=.ok x):Lf f x.2:=(behT_le hT hi h).1
theorem opnT_lf {p word:Nat} {f:Bk} {z:(InsT×ByteArray)×Bk} (hT:TW T) (hi:f.m.i<T.length) (h:opnT T p f word=.ok z):Lf f z.2:=(opnT_le hT hi h).2.2
theorem blkT_lf {x:InsT} {nm:ByteArray} {m:Bk→Except Err Bk} {f f':Bk} (hm:∀g g',m g=.ok g'→g.m.i=f.m.i→Lf g g') (h:blkT x nm m f=.ok f'):Lf f f':=by
 unfold blkT at h
 split at h
 ·cases h
 ·rename_i f2 h2
  have:=hm _ _ h2 rfl
  cases h
  exact this
theorem closeF_lf {f f':Bk} (h:closeF T f=.ok f'):Lf f f':=by
 obtain⟨x,h1,h⟩:=bnd_inv h
 obtain⟨g1,-,g3⟩:=takeT_nx h1
 cases h
 show f.m.i≤x.2
 rw[g3]
 exact nx_le (List.getElem?_eq_some_iff.1 g1).1
theorem wordF_lf {q:ByteArray} {f f':Bk} (hT:TW T) (h:wordF T q f=.ok f'):Lf f f':=by
 obtain⟨x,h1,h⟩:=bnd_inv h
 have:=takeW_nx hT h1
 cases h
 show f.m.i≤x.2
 omega
theorem openF_lf {q:ByteArray} {f f':Bk} (hT:TW T) (h:openF T q f=.ok f'):Lf f f':=by
 obtain⟨x,h1,h⟩:=bnd_inv h
 have:=takeO_le hT h1
 cases h
 show f.m.i≤x.2
 omega
theorem RT_le (hT:TW T):∀{k m w:Nat} {f f':Bk},RT T k m w f=.ok f'→Lf f f'
 | 0,_,_,_,_,h=>by cases h
 | k+1,m,w,f,f',h=>by
  unfold RT at h
  split at h
  ·cases h
  ·rename_i t ht
   have hi:f.m.i<T.length:=(List.getElem?_eq_some_iff.1 ht).1
   split at h
   ·split at h
    ·obtain⟨x,h1,h2⟩:=bnd_inv h
     exact(RT_le hT h1).trans (RT_le hT h2)
    ·split at h
     ·obtain⟨x,h1,h2⟩:=bnd_inv h
      exact(RT_le hT h1).trans (RT_le hT h2)
     ·cases h;exact Lf.refl _
   split at h
   ·obtain⟨x,h1,h⟩:=bnd_inv h
    obtain⟨y,h2,h⟩:=bnd_inv h
    obtain⟨-,-,g3⟩:=takeT_nx h1
    have g4:=wordT_nx hT h2
    have hi2:(setI f y.2).m.i<T.length:=by show y.2<T.length;omega
    have hs0:Lf f (setI f y.2):=by show f.m.i≤y.2;have:=nx_le hi;omega
    split at h
    ·obtain⟨z,h3,h⟩:=bnd_inv h
     obtain⟨f3,h4,h⟩:=bnd_inv h
     exact(((hs0.trans (opnT_lf hT hi2 h3))).trans (blkT_lf (fun g g' hg _=>RT_le hT hg) h4)).trans (closeF_lf h)
    ·split at h
     ·obtain⟨z,h3,h⟩:=bnd_inv h
      obtain⟨f3,h4,h⟩:=bnd_inv h
      obtain⟨f4,h5,h⟩:=bnd_inv h
      exact((((hs0.trans (opnT_lf hT hi2 h3))).trans (RT_le hT h4)).trans (blkT_lf (fun g g' hg _=>RT_le hT hg) h5)).trans (closeF_lf h)
     ·obtain⟨z,h3,h⟩:=bnd_inv h
      obtain⟨f3,h4,h⟩:=bnd_inv h
      have g5:Lf f3 f':=closeF_lf (f:=putF f3 z.1) h
      exact((hs0.trans (behT_lf hT hi2 h3)).trans (RT_le hT h4)).trans g5
   split at h
   ·obtain⟨y,h2,h⟩:=bnd_inv h
    have g4:=wordT_nx hT h2
    have hi2:(setI f y.2).m.i<T.length:=by show y.2<T.length;omega
    have hs0:Lf f (setI f y.2):=by show f.m.i≤y.2;omega
    split at h
    ·obtain⟨z,h3,h⟩:=bnd_inv h
     exact(hs0.trans (opnT_lf hT hi2 h3)).trans (blkT_lf (fun g g' hg _=>RT_le hT hg) h)
    ·obtain⟨z,h3,h⟩:=bnd_inv h
     cases h
     have g5:Lf (setI f y.2) z.2:=behT_lf hT hi2 h3
     exact hs0.trans g5
   split at h
   ·obtain⟨f2,h2,h⟩:=bnd_inv h
    split at h
    ·obtain⟨f3,h3,h⟩:=bnd_inv h
     obtain⟨f4,h4,h⟩:=bnd_inv h
     have g5:Lf f3 f4:=RT_le hT (f:=putF f3 (insB 5)) h4
     exact(((RT_le hT h2).trans (wordF_lf hT h3)).trans g5).trans (wordF_lf hT h)
    ·exact(RT_le hT h2).trans (wordF_lf hT h)
   split at h
   ·split at h
    ·obtain⟨x,h1,h2⟩:=bnd_inv h
     exact(RT_le hT h1).trans (RT_le hT h2)
    ·cases h;exact Lf.refl _
   split at h
   ·split at h
    ·obtain⟨x,h1,h2⟩:=bnd_inv h
     exact(RT_le hT h1).trans (RT_le hT h2)
    ·cases h;exact Lf.refl _
   ·obtain⟨f1,h1,h⟩:=bnd_inv h
    obtain⟨f2,h2,h⟩:=bnd_inv h
    obtain⟨f3,h3,h⟩:=bnd_inv h
    have g3:=((openF_lf hT h1).trans (RT_le hT h2)).trans (closeF_lf h3)
    split at h
    ·obtain⟨f4,h4,h⟩:=bnd_inv h
     obtain⟨f5,h5,h⟩:=bnd_inv h
     have g5:Lf f4 f5:=RT_le hT (f:=putF f4 (insB 5)) h5
     exact((g3.trans (openF_lf hT h4)).trans g5).trans (closeF_lf h)
    ·cases h
     exact g3
end
section
variable {w0 w:World} {ab tg cap mw mb fb:Nat} {T:List Tok} {c:Nat} {f:Bk} {X:List It}
theorem groups_F (h:FF w0 ab tg cap mw mb fb T c f X w) (hT:TW T) (q:ByteArray) (most:Nat) (hm:most≤1000) (fr:Nat) (hfr:fr≤1000):
  Calls Tryz.prog 114 #[.pointer (some ⟨ab,0,none⟩),.string q,.int .i64 (most:Nat),.pointer (some ⟨fb,1,none⟩),.int .i64 (fr:Nat)] w (OutX w0 (gnT T q most fr (T.length - f.m.i) [] f.nm f.m.no f.m.i) fun x e w'=>∃u,e=.returned u∧FF w0 ab tg cap mw mb fb T c {f with nm:=x.1.2.1,m:={f.m with i:=x.2,no:=x.1.2.2}} (.r 73 1 u x.1.1.length (kindCells x.1.1)::X) w'):=by
 obtain⟨hi,g,v,vf,tl,ha,hS⟩:=h
 refine(groups_fn hS hT hi q most hm fr hfr ha.nm ha.ag.no).mono ?_
 intro e w' h1
 cases hx:gnT T q most fr (T.length - f.m.i) [] f.nm f.m.no f.m.i with
 | error e=>rw[hx] at h1;exact h1
 | ok x=>
  rw[hx] at h1
  obtain⟨u,q1,q2,rfl,h1⟩:=h1
  obtain⟨g1,g2,g3,g4,g5⟩:=gnT_le hT hx hi (by simp)
  refine⟨u,rfl,g1.2,g,{v with no:=q2},{vf with n:=q1},tl,?_,?_⟩
  ·have h2:=ha.on (v':={v with no:=q2}) ⟨rfl,rfl,rfl,rfl⟩ (j:=x.2) (no:=x.1.2.2) g1.1 (by have:=ha.ag.no;omega)
   have hn:=ha.nm
   exact⟨h2.ag,h2.ty20,h2.al,h2.ins,h2.gi,by show x.1.2.1.length≤x.2;omega,fun y hy=>by rcases g5 y hy with c | c;exact ha.nmx y c;omega,h2.lb⟩
  ·exact LF.push (X:=X) h1
end
end
section
open Go.RowKit
structure SL (k:Nat) (s:MS):Prop where
 ty:s.ty.length+k≤1000
 fu:s.fu.length+k≤s.i
 ta:s.ta.length+k≤s.i
 me:s.me.length+k≤s.i
 gl:s.gl.length+k≤s.i
 st:s.st.length+k≤s.i
 el:s.el.length+k≤s.i
 co:s.co.length+k≤s.i
 da:s.da.length+k≤s.i
 lo:s.lo.length+k≤s.i
 ex:s.ex.length+k≤s.i
 fT:s.fT.length+k≤s.i
 fF:s.fF.length+k≤s.i
 fG:s.fG.length+k≤s.i
def fnT (T:List Tok) (s:MS):Except Err MS:=
 bnd (useT true T ⟨{s with i:=(declT T s.fF s.fu.length s.i).2.2.1,fF:=(declT T s.fF s.fu.length s.i).2.1,no:=s.no++(declT T s.fF s.fu.length s.i).2.2.2},[],[],[]⟩) fun x=>
 bnd (if x.1.told=true then .ok (x.1.ix,x.2.m) else tixT T x.2.m (x.1.a,x.1.b)) fun y=>
 bnd (gnT T ⟨#[108,111,99,97,108]⟩ 50 x.1.a.length (T.length - y.2.i) [] x.2.nm y.2.no y.2.i) fun z=>
 bnd (RT T (3*T.length+2) 0 0 {x.2 with nm:=z.1.2.1,m:={y.2 with fu:=y.2.fu++[y.1],i:=z.2,no:=z.1.2.2}}) fun f3=>
 .ok {f3.m with co:=f3.m.co++[(z.1.1,f3.al++[insB 11])],lo:=f3.m.lo++[(s.fu.length,f3.nm)]}
section
variable {w0 w:World} {ab tg cap mw mb fb:Nat} {T:List Tok} {v:VS} {s:MS} {tl:List It}
theorem LF.start (h:Sx w0 w (LA ab tg cap mw mb T v s tl)) (t:TypeId):Sx w0 (w.alloc (.cells #[.pointer (some ⟨ab,0,none⟩),.slice none 0 0,.slice none 0 0,.slice none 0 0] t)) (LF ab tg cap mw mb w.heap.size T v ⟨.slice none 0 0,.slice none 0 0,.slice none 0 0,[]⟩ ⟨s,[],[],[]⟩ tl):=by
 have h1:=(((h.new #[.pointer (some ⟨ab,0,none⟩),.slice none 0 0,.slice none 0 0,.slice none 0 0] t).nil 135 2).nil 9 1).nil 131 10
 refine h1.perm ?_
 show List.Perm (_::_::_::_::_::_::_::_::_::_::_::_::_::_::_::_::_::_::_::_::_::_::(tl++[_]++[_]++[_]++[_])) (_::_::_::_::_::_::_::_::_::_::_::_::_::_::_::_::_::_::_::_::_::_::(_::_::_::_::tl))
 iterate 22 refine List.Perm.cons _ ?_
 rw[List.append_assoc,List.append_assoc,List.append_assoc]
 exact List.perm_append_comm
set_option maxRecDepth 100000 in
theorem slValues_any (p:Option Addr) (n k:Nat) (w:World):Calls Tryz.prog 117 #[.slice p n k] w fun e w'=>e=.returned (.func (.func 137) #[] #[.pointer (some ⟨w.heap.size,0,none⟩)])∧∃t,w'=w.alloc (.cells #[.slice p n k] t):=by
 have hmf:∀(fn:Fn) (first cap:Array Value) (w:World),(Instr.makeFunc fn first cap).run Tryz.prog w=.ok (.func fn first cap) w:=fun _ _ _ _=>rfl
 go_enter Tryz.func117,Tryz.ntmps117
 go_wp2
 go_ret
 exact⟨rfl,_,rfl⟩
theorem LF.end_ {vf:VF} {f:Bk} (h:Sx w0 w (LF ab tg cap mw mb fb T v vf f tl)):Sx w0 w (LA ab tg cap mw mb T v f.m (.r 135 2 vf.n f.nm.length (f.nm.flatMap namCells)::.r 131 10 vf.a vf.gi.length (vf.gi.flatMap insV)::tl)):=by
 refine h.sub ?_
 show List.Sublist (_::_::_::_::_::_::_::_::_::_::_::_::_::_::_::_::_::_::_::_::_::_::(_::_::tl)) (_::_::_::_::_::_::_::_::_::_::_::_::_::_::_::_::_::_::_::_::_::_::(_::_::_::_::tl))
 iterate 22 refine List.Sublist.cons_cons _ ?_
 exact List.Sublist.cons _ (List.Sublist.cons_cons _ (List.Sublist.cons _ (List.Sublist.cons_cons _ (List.Sublist.refl _))))
end
end
end Go.Proofs.YtkmofapihggjgaaGreatDoor
