import Derived.Test.YtkmofapihggjgaaGreatDoorX9
namespace Go.Proofs.YtkmofapihggjgaaGreatDoor
section
open Go.RowKit
def labelB (t:Tok):Bool:=(uT t).isSome||idA t
set_option maxRecDepth 100000 in
theorem isLabel_any (t:Tok) (hz:t.2.2.size≤100) {w:World} (hg:Ge w):Calls Tryz.prog 157 #[tokV t] w fun e w'=>e=.returned (.bool (labelB t))∧Kept (fun _=>False) w w':=by
 obtain⟨c,p,s⟩:=t
 have HG:=hide hg
 have HZ:=hide hz
 clear hg hz
 rw[show tokV (c,p,s)=.agg #[.int .u8 (c:Nat),.int .i64 (p:Nat),.string s] from rfl]
 have h0:Sx w w []:=⟨Kept.refl _ _,(fun p hp=>by cases hp),List.Pairwise.nil⟩
 have H1:=hide (h0.new #[.int .u8 (c:Nat),.int .i64 (p:Nat),.string s] 144)
 clear h0
 go_enter Tryz.func157,Tryz.ntmps157
 go_wp2_with fail
 refine(tU_any (c,p,s) HZ.out (HG.out.kept H1.out.kept)).mono ?_
 rintro e w1 ⟨n,rfl,-,hk1⟩
 have h2:=H1.out.to hk1
 obtain⟨a0,-⟩:=h2.cL 0
 obtain⟨a1,-⟩:=h2.cL 1
 obtain⟨a2,-⟩:=h2.cL 2
 have K1:=hide h2.kept
 clear hk1 h2 H1
 go_wp2_with fail
 refine(tID_all (c,p,s) HZ.out _).mono ?_
 rintro e w2 ⟨x,rfl,-,hk2⟩
 have K2:=hide hk2
 have HL:Hid (labelB (c,p,s)=((uT (c,p,s)).isSome||idA (c,p,s))):=rfl
 clear hk2
 generalize (uT (c,p,s)).isSome=b1 at*
 generalize idA (c,p,s)=b2 at*
 cases b1<;>(go_wp2;go_ret;exact⟨by rw[HL.out];simp,K1.out.trans K2.out⟩)
set_option maxRecDepth 100000 in
theorem settingF_any (t:Tok) (a:ByteArray) (ha:a.size≤20) (hz:t.2.2.size≤100) {w:World} (hg:Ge w):Calls Tryz.prog 163 #[tokV t,.string a] w fun e w'=>∃q:Int,e=.returned (.tuple #[.int .u32 q,.bool (setM t (a++⟨#[61]⟩)).isSome])∧(∀n,setM t (a++⟨#[61]⟩)=some n→q=IntKind.u32.wrap (n:Int))∧Kept (fun _=>False) w w':=by
 obtain⟨c,p,s⟩:=t
 have HG:=hide hg
 have HZ:=hide hz
 clear hg hz
 rw[show tokV (c,p,s)=.agg #[.int .u8 (c:Nat),.int .i64 (p:Nat),.string s] from rfl]
 have h0:Sx w w []:=⟨Kept.refl _ _,(fun p hp=>by cases hp),List.Pairwise.nil⟩
 have H1:=hide (h0.new #[.int .u8 (c:Nat),.int .i64 (p:Nat),.string s] 144)
 clear h0
 go_enter Tryz.func163,Tryz.ntmps163
 go_wp2_with fail
 refine(setting_any (c,p,s) _ HZ.out (HG.out.kept H1.out.kept)).mono ?_
 rintro e w1 ⟨n,rfl,hn,hk1⟩
 have HN:=hide hn
 have K1:=hide (H1.out.kept.trans hk1)
 clear hn hk1 H1
 go_wp2
 refine bodyPost_ret (v:=.tuple #[.int .u32 n,.bool (setM (c,p,s) (a++⟨#[61]⟩)).isSome]) ?_ rfl ?_
 ·simp[results,Tryz.results163,go_sem]
 ·exact⟨n,rfl,HN.out,K1.out⟩
section
variable {w0 w:World} {ab tg cap i:Nat} {T:List Tok} {z:List Value} {r l:List It} {t t2:Tok}
def offsetT (T:List Tok) (i:Nat):Except Err (Int×Nat):=match T[i]? with
 | none=>.error (0,0)
 | some t=>match setM t (⟨#[111,102,102,115,101,116]⟩++⟨#[61]⟩) with
  | none=>.ok (0,i)
  | some n=>.ok (IntKind.u32.wrap (n:Int),nx T i)
set_option maxRecDepth 100000 in
set_option maxHeartbeats 1600000 in
theorem fnOffset_all {fb kf:Nat} {fcs:List Value} (h:Sx w0 w (AL ab tg cap T i z r)) (hg:Ge w0) (hT:TT T) (hi:i<T.length) (hf:r[kf]?=some (.b fb fcs)) (hfc:fcs[0]?=some (.pointer (some ⟨ab,0,none⟩))):
  Calls Tryz.prog 159 #[.pointer (some ⟨fb,0,none⟩)] w (OutX w0 (offsetT T i) fun x=>Ans w0 (.int .u32 x.1) (AL ab tg cap T x.2 z r)):=by
 have hnot:∀(x:Bool) (w:World),(Op.unary .not (.bool x)).run Tryz.prog w=.ok (.bool (!x)) w:=fun _ _=>rfl
 obtain⟨t,ht⟩:∃t,T[i]?=some t:=⟨_,List.getElem?_eq_getElem hi⟩
 have hs:=hT.small t (List.mem_of_getElem? ht)
 have hl:=hT.len
 obtain⟨a0,-⟩:=h.c _ 0 (inR hf) hfc
 have l0:=h.lt _ (inR hf)
 have H:=hide h
 have HT:=hide ht
 have HG:=hide hg
 clear h ht hg
 go_enter Tryz.func159,Tryz.ntmps159
 go_wp2_with fail
 refine(tPeek_any H.out HT.out).mono ?_
 rintro e w1 ⟨rfl,h1⟩
 have H1:=hide h1
 clear h1 H a0 l0
 go_wp2_with fail
 refine(settingF_any t ⟨#[111,102,102,115,101,116]⟩ (by decide) hs (HG.out.kept H1.out.kept)).mono ?_
 rintro e w2 ⟨n,rfl,hn,hk2⟩
 have h2:=H1.out.to hk2
 obtain⟨b0,-⟩:=h2.c _ 0 (inR hf) hfc
 have m0:=h2.lt _ (inR hf)
 cases hm:setM t (⟨#[111,102,102,115,101,116]⟩++⟨#[61]⟩) with
 | none=>
  have HM:Hid (offsetT T i=.ok (0,i)):=by show _=_;unfold offsetT;rw[HT.out];simp only[hm]
  have H2:=hide h2
  clear hn hk2 hm h2 H1
  go_wp2
  go_ret
  exact OutX.ok_mk HM.out ⟨rfl,H2.out⟩
 | some k=>
  have HM:Hid (offsetT T i=.ok (IntKind.u32.wrap (k:Int),nx T i)):=by show _=_;unfold offsetT;rw[HT.out];simp only[hm]
  have h5:Hid (t.1=5):=by
   show _=_
   unfold setM at hm
   split at hm
   ·rename_i hh;exact hh.2
   ·cases hm
  obtain rfl:=hn k hm
  have H2:=hide h2
  clear hn hk2 hm h2 H1
  go_wp2_with fail
  refine(tTake_any H2.out HT.out hl (by rw[h5.out];rfl)).mono ?_
  rintro e w3 ⟨rfl,h3⟩
  have H3:=hide h3
  clear h3 H2
  go_wp2
  go_ret
  exact OutX.ok_mk HM.out ⟨rfl,H3.out⟩
end
end
section
open Go.RowKit
section
variable {w0 w:World} {ab tg cap i:Nat} {T:List Tok} {z:List Value} {r:List It} {t t2:Tok}
set_option maxRecDepth 100000 in
set_option maxHeartbeats 800000 in
theorem fnLabel_num {fb kf:Nat} {fcs:List Value} (h:Sx w0 w (AL ab tg cap T i z r)) (hg:Ge w0) (ht:T[i]?=some t) (hl:T.length≤100000) (hz:t.2.2.size≤100) (hid:idA t=false) (hf:r[kf]?=some (.b fb fcs)) (hfc:fcs[0]?=some (.pointer (some ⟨ab,0,none⟩))):
  Calls Tryz.prog 158 #[.pointer (some ⟨fb,0,none⟩)] w (OutX w0 (numberM T i) fun x=>Ans w0 (.agg #[.int .u32 (x.1:Nat),.int .i64 0]) (AL ab tg cap T x.2 z r)):=by
 have H:=hide (h.new #[.int .u32 0,.int .i64 0] 66)
 obtain⟨a0,-⟩:=H.out.left.c _ 0 (inR hf) hfc
 have l0:=H.out.left.lt _ (inR hf)
 have HT:=hide ht
 have HG:=hide hg
 have hnot:∀(x:Bool) (w:World),(Op.unary .not (.bool x)).run Tryz.prog w=.ok (.bool (!x)) w:=fun _ _=>rfl
 have HI:=hide hid
 clear h ht hid hg
 go_enter Tryz.func158,Tryz.ntmps158
 go_wp2_with fail
 refine(tPeek_any (r:=r++[.b w.heap.size [.int .u32 0,.int .i64 0]]) H.out HT.out).mono ?_
 rintro e w1 ⟨rfl,h1⟩
 have H1:=hide h1
 generalize w.heap.size=rb at*
 clear h1 H a0 l0
 go_wp2_with fail
 refine(tID_all t hz _).mono ?_
 rintro e w2 ⟨x,rfl,hx,hk2⟩
 rw[HI.out]
 have h2:=H1.out.to hk2
 rw[AL.app] at h2
 obtain⟨b0,-⟩:=h2.left.c _ 0 (inR hf) hfc
 have m0:=h2.left.lt _ (inR hf)
 have H2:Hid (Sx w0 w2 (AL ab tg cap T i z (r++[.b rb [.int .u32 0,.int .i64 0]]))):=h2
 clear hk2 hx H1 h2
 go_wp2_with fail
 refine(asNumber_all H2.out HG.out HT.out hl hz).mono ?_
 intro e w3 h3
 cases hn:numberM T i with
 | error q=>
  rw[hn] at h3
  obtain⟨rfl,hk⟩:=h3
  exact⟨rfl,OutX.err_mk hn ⟨rfl,hk⟩⟩
 | ok x=>
  obtain⟨n,j⟩:=x
  rw[hn] at h3
  obtain⟨rfl,h3⟩:=h3
  simp only at h3 ⊢
  rw[AL.app] at h3
  obtain⟨c0,d0⟩:=h3.cL 0
  obtain⟨c1,d1⟩:=h3.cL 1
  have lr:=h3.ltL
  have h4:=(h3.setL 0 (.int .u32 (n:Nat))).setL 1 (.int .i64 0)
  obtain⟨y0,-⟩:=h4.cL 0
  obtain⟨y1,-⟩:=h4.cL 1
  have H4:=hide h4.left
  have HN:=hide hn
  clear h3 h4 H2 hn
  go_wp2
  refine bodyPost_ret (v:=.agg #[.int .u32 (n:Nat),.int .i64 0]) ?_ rfl ?_
  ·simp[results,Tryz.results158,go_sem,y0,y1]
  ·exact OutX.ok_mk HN.out ⟨rfl,H4.out⟩
end
end
section
open Go.RowKit
def outO (x:ByteArray):List ByteArray→Nat→Option Nat
 | [],_=>none
 | y::l,k=>if(y.toList==x.toList)=true then some k else outO x l (k+1)
section
variable {w0 w:World} {ab tg cap i:Nat} {T:List Tok} {z:List Value} {r:List It} {t t2:Tok}
set_option maxRecDepth 100000 in
set_option maxHeartbeats 3200000 in
theorem fnLabel_hit {fb kf kl k0:Nat} {fcs:List Value} {vl:Value} {ls:List ByteArray} (h:Sx w0 w (AL ab tg cap T i z r)) (ht:T[i]?=some t) (hl:T.length≤100000) (hz:t.2.2.size≤100) (hid:idA t=true) (hf:r[kf]?=some (.b fb fcs)) (hfc:fcs[0]?=some (.pointer (some ⟨ab,0,none⟩))) (hfl:fcs[2]?=some vl) (hr:r[kl]?=some (.r 9 1 vl ls.length (ls.map .string))) (hn:ls.length≤1000) (ho:outO (idRest t) ls.reverse 0=some k0):
  Calls Tryz.prog 158 #[.pointer (some ⟨fb,0,none⟩)] w (Ans w0 (.agg #[.int .u32 (k0:Nat),.int .i64 0]) (AL ab tg cap T (nx T i) z r)):=by
 have H:=hide (h.new #[.int .u32 0,.int .i64 0] 66)
 obtain⟨a0,-⟩:=H.out.left.c _ 0 (inR hf) hfc
 have l0:=H.out.left.lt _ (inR hf)
 have HT:=hide ht
 have hnot:∀(x:Bool) (w:World),(Op.unary .not (.bool x)).run Tryz.prog w=.ok (.bool (!x)) w:=fun _ _=>rfl
 have HI:=hide hid
 have h5:Hid (t.1=5):=by show _=_;unfold idA at hid;simp at hid;exact hid.1.2
 clear h ht hid
 obtain⟨x,hx⟩:∃x,idRest t=x:=⟨_,rfl⟩
 rw[hx] at ho
 have HX:=hide hx
 have HO:=hide ho
 clear hx ho
 go_enter Tryz.func158,Tryz.ntmps158
 go_wp2_with fail
 refine(tPeek_any (r:=r++[.b w.heap.size [.int .u32 0,.int .i64 0]]) H.out HT.out).mono ?_
 rintro e w1 ⟨rfl,h1⟩
 have H1:=hide h1
 generalize w.heap.size=rb at*
 clear h1 H a0 l0
 go_wp2_with fail
 refine(tID_all t hz _).mono ?_
 rintro e w2 ⟨x',rfl,hx,hk2⟩
 obtain rfl:x'=x:=(hx HI.out).trans HX.out
 rw[HI.out]
 have h2:=H1.out.to hk2
 rw[AL.app] at h2
 obtain⟨b0,-⟩:=h2.left.c _ 0 (inR hf) hfc
 have m0:=h2.left.lt _ (inR hf)
 have H2:Hid (Sx w0 w2 (AL ab tg cap T i z (r++[.b rb [.int .u32 0,.int .i64 0]]))):=h2
 clear hk2 hx H1 h2
 go_wp2_with fail
 refine(tTake_any H2.out HT.out hl (by rw[h5.out];rfl)).mono ?_
 rintro e w3 ⟨rfl,h3⟩
 rw[AL.app] at h3
 obtain⟨c,p,s⟩:=t
 rw[show tokV (c,p,s)=.agg #[.int .u8 (c:Nat),.int .i64 (p:Nat),.string s] from rfl]
 have h4:=h3.alloc (.cells #[.int .u8 (c:Nat),.int .i64 (p:Nat),.string s] 144)
 obtain⟨pl,cl,rfl⟩:=Row.shape (h4.left.isRow _ (inR hr))
 obtain⟨d2,-⟩:=h4.left.c _ 2 (inR hf) hfl
 have n2:=h4.left.lt _ (inR hf)
 have hw1:IntKind.i64.wrap ((ls.length:Int) - 1)=(ls.length:Int) - 1:=IntWalk.i64_in _ ⟨by omega,by omega⟩
 have H4:=hide h4
 clear h3 h4 b0 m0 H2
 go_wp2_with fail
 generalize (w3.alloc (.cells #[.int .u8 (c:Nat),.int .i64 (p:Nat),.string s] 144))=w4 at*
 go_loopw [44] (fun q wr=>∃k:Nat,k≤ls.length∧q=.int .i64 k∧wr=w4∧some k0=outO x' (ls.reverse.drop k) k) (fun q _=>ls.length - (intOf q).toNat)
 case atStart=>exact⟨0,Nat.zero_le _,rfl,rfl,HO.out.symm⟩
 case round=>
  obtain⟨k,hk,rfl,rfl,ha⟩:=hrel
  have HA:=hide ha
  clear ha
  by_cases hlt:k<ls.length
  ·have hlt':(k:Int)<(ls.length:Int):=by omega
   have hrr:=H4.out.left.isRow _ (inR hr)
   obtain⟨g,cap',hv,-,hgl,hcap,hcell⟩:=Row.cells hrr (by omega)
   cases hv
   have hlt2:ls.length - 1 - k<ls.length:=by omega
   have hc0:wr.cell? ⟨g,ls.length - 1 - k,none⟩=some (.string ls[ls.length - 1 - k]):=(hcell (ls.length - 1 - k) (by simpa using hlt2)).trans (by simp)
   have hd:outO x' (ls.reverse.drop k) k=if(ls[ls.length - 1 - k].toList==x'.toList)=true then some k else outO x' (ls.reverse.drop (k+1)) (k+1):=by
    rw[List.drop_eq_getElem_cons (by simpa using hlt),List.getElem_reverse]
    rfl
   have HD:=hide hd
   have hw2:IntKind.i64.wrap ((ls.length:Int) - 1 - (k:Int))=((ls.length - 1 - k:Nat):Int):=by rw[IntWalk.i64_in _ ⟨by omega,by omega⟩];omega
   have hw3:IntKind.u32.wrap (k:Int)=(k:Int):=IntWalk.u32_in _ ⟨by omega,by omega⟩
   clear hcell hrr hd
   generalize ls[ls.length - 1 - k]=y at*
   cases hx:(y.toList==x'.toList) with
   | true=>
    have e0:k0=k:=by
     have:=HA.out.trans HD.out
     rw[if_pos hx] at this
     exact Option.some.inj this
    subst e0
    obtain⟨f0,g0⟩:=H4.out.cL 0
    obtain⟨f1,g1⟩:=H4.out.cL 1
    have lr:=H4.out.ltL
    have h6:=(H4.out.setL 0 (.int .u32 (k0:Nat))).setL 1 (.int .i64 0)
    obtain⟨y0,-⟩:=h6.cL 0
    obtain⟨y1,-⟩:=h6.cL 1
    have H6:=hide h6.left
    clear h6 H4
    go_wp2
    refine bodyPost_ret (v:=.agg #[.int .u32 (k0:Nat),.int .i64 0]) ?_ rfl ?_
    ·simp[results,Tryz.results158,go_sem,y0,y1]
    ·exact⟨rfl,H6.out⟩
   | false=>
    have HN:Hid (some k0=outO x' (ls.reverse.drop (k+1)) (k+1)):=by
     show _=_
     rw[HA.out,HD.out,if_neg (by rw[hx];decide)]
    go_wp2
    go_roundw
    case rel=>exact⟨k+1,by omega,by go_num,trivial,HN.out⟩
    case measure=>simp[intOf];omega
  ·exfalso
   have:=HA.out
   rw[List.drop_eq_nil_of_le (by simp;omega)] at this
   cases this
end
end
section
open Go.RowKit
section
variable {w0 w:World} {ab tg cap i:Nat} {T:List Tok} {z:List Value} {r:List It} {t t2:Tok}
set_option maxRecDepth 100000 in
set_option maxHeartbeats 3200000 in
theorem fnLabel_miss {fb kf kl kq m:Nat} {fcs xs:List Value} {vl vQ:Value} {ls:List ByteArray} (h:Sx w0 w (AL ab tg cap T i z r)) (ht:T[i]?=some t) (hl:T.length≤100000) (hz:t.2.2.size≤100) (hid:idA t=true) (hf:r[kf]?=some (.b fb fcs)) (hfc:fcs[0]?=some (.pointer (some ⟨ab,0,none⟩))) (hfl:fcs[2]?=some vl) (hr:r[kl]?=some (.r 9 1 vl ls.length (ls.map .string))) (hn:ls.length≤1000) (ho:outO (idRest t) ls.reverse 0=none) (hz8:z[8]?=some vQ) (hq:r[kq]?=some (.r 38 2 vQ m xs)) (hnq:m≤100000):
  Calls Tryz.prog 158 #[.pointer (some ⟨fb,0,none⟩)] w (fun e w'=>e=.returned (.agg #[.int .u32 0,.int .i64 0])∧∃vQ',Sx w0 w' (AL ab tg cap T (nx T i) (z.set 8 vQ') (r.set kq (.r 38 2 vQ' (m+1) (xs++[.int .i64 9,.int .i64 (t.2.1:Nat)]))))):=by
 have H:=hide (h.new #[.int .u32 0,.int .i64 0] 66)
 obtain⟨a0,-⟩:=H.out.left.c _ 0 (inR hf) hfc
 have l0:=H.out.left.lt _ (inR hf)
 have HT:=hide ht
 have hnot:∀(x:Bool) (w:World),(Op.unary .not (.bool x)).run Tryz.prog w=.ok (.bool (!x)) w:=fun _ _=>rfl
 have HI:=hide hid
 have h5:Hid (t.1=5):=by show _=_;unfold idA at hid;simp at hid;exact hid.1.2
 clear h ht hid
 obtain⟨x,hx⟩:∃x,idRest t=x:=⟨_,rfl⟩
 rw[hx] at ho
 have HX:=hide hx
 have HO:=hide ho
 clear hx ho
 go_enter Tryz.func158,Tryz.ntmps158
 go_wp2_with fail
 refine(tPeek_any (r:=r++[.b w.heap.size [.int .u32 0,.int .i64 0]]) H.out HT.out).mono ?_
 rintro e w1 ⟨rfl,h1⟩
 have H1:=hide h1
 generalize w.heap.size=rb at*
 clear h1 H a0 l0
 go_wp2_with fail
 refine(tID_all t hz _).mono ?_
 rintro e w2 ⟨x',rfl,hx,hk2⟩
 obtain rfl:x'=x:=(hx HI.out).trans HX.out
 rw[HI.out]
 have h2:=H1.out.to hk2
 rw[AL.app] at h2
 obtain⟨b0,-⟩:=h2.left.c _ 0 (inR hf) hfc
 have m0:=h2.left.lt _ (inR hf)
 have H2:Hid (Sx w0 w2 (AL ab tg cap T i z (r++[.b rb [.int .u32 0,.int .i64 0]]))):=h2
 clear hk2 hx H1 h2
 go_wp2_with fail
 refine(tTake_any H2.out HT.out hl (by rw[h5.out];rfl)).mono ?_
 rintro e w3 ⟨rfl,h3⟩
 rw[AL.app] at h3
 obtain⟨c,p,s⟩:=t
 rw[show tokV (c,p,s)=.agg #[.int .u8 (c:Nat),.int .i64 (p:Nat),.string s] from rfl]
 have h4:=h3.new #[.int .u8 (c:Nat),.int .i64 (p:Nat),.string s] 144
 obtain⟨pl,cl,rfl⟩:=Row.shape (h4.left.left.isRow _ (inR hr))
 obtain⟨d2,-⟩:=h4.left.left.c _ 2 (inR hf) hfl
 have n2:=h4.left.left.lt _ (inR hf)
 have hw1:IntKind.i64.wrap ((ls.length:Int) - 1)=(ls.length:Int) - 1:=IntWalk.i64_in _ ⟨by omega,by omega⟩
 have H4:=hide h4
 clear h3 h4 b0 m0 H2
 go_wp2_with fail
 generalize (w3.alloc (.cells #[.int .u8 (c:Nat),.int .i64 (p:Nat),.string s] 144))=w4 at*
 generalize w3.heap.size=tb at*
 go_loopw [44] (fun q wr=>∃k:Nat,k≤ls.length∧q=.int .i64 k∧wr=w4∧none=outO x' (ls.reverse.drop k) k) (fun q _=>ls.length - (intOf q).toNat)
 case atStart=>exact⟨0,Nat.zero_le _,rfl,rfl,HO.out.symm⟩
 case round=>
  obtain⟨k,hk,rfl,rfl,ha⟩:=hrel
  have HA:=hide ha
  clear ha
  by_cases hlt:k<ls.length
  ·have hlt':(k:Int)<(ls.length:Int):=by omega
   have hrr:=H4.out.left.left.isRow _ (inR hr)
   obtain⟨g,cap',hv,-,hgl,hcap,hcell⟩:=Row.cells hrr (by omega)
   cases hv
   have hlt2:ls.length - 1 - k<ls.length:=by omega
   have hc0:wr.cell? ⟨g,ls.length - 1 - k,none⟩=some (.string ls[ls.length - 1 - k]):=(hcell (ls.length - 1 - k) (by simpa using hlt2)).trans (by simp)
   have hd:outO x' (ls.reverse.drop k) k=if(ls[ls.length - 1 - k].toList==x'.toList)=true then some k else outO x' (ls.reverse.drop (k+1)) (k+1):=by
    rw[List.drop_eq_getElem_cons (by simpa using hlt),List.getElem_reverse]
    rfl
   have HD:=hide hd
   have hw2:IntKind.i64.wrap ((ls.length:Int) - 1 - (k:Int))=((ls.length - 1 - k:Nat):Int):=by rw[IntWalk.i64_in _ ⟨by omega,by omega⟩];omega
   have hw3:IntKind.u32.wrap (k:Int)=(k:Int):=IntWalk.u32_in _ ⟨by omega,by omega⟩
   clear hcell hrr hd
   generalize ls[ls.length - 1 - k]=y at*
   cases hx:(y.toList==x'.toList) with
   | true=>
    exfalso
    have:=HA.out.trans HD.out
    rw[if_pos hx] at this
    cases this
   | false=>
    have HN:Hid (none=outO x' (ls.reverse.drop (k+1)) (k+1)):=by
     show _=_
     rw[HA.out,HD.out,if_neg (by rw[hx];decide)]
    go_wp2
    go_roundw
    case rel=>exact⟨k+1,by omega,by go_num,trivial,HN.out⟩
    case measure=>simp[intOf];omega
  ·clear HA
   obtain⟨f0,-⟩:=H4.out.left.left.c _ 0 (inR hf) hfc
   have lf:=H4.out.left.left.lt _ (inR hf)
   go_wp2_with fail
   have hS:∀V:World,Sx w0 V (AL ab tg cap T (nx T i) z r++[.b rb [.int .u32 0,.int .i64 0]]++[.b tb [.int .u8 (c:Nat),.int .i64 (p:Nat),.string s]])→(fun V:World=>V.cell? ⟨fb,0,none⟩=some (.pointer (some ⟨ab,0,none⟩))∧V.cell? ⟨tb,0,none⟩=some (.int .u8 (c:Nat))∧V.cell? ⟨tb,1,none⟩=some (.int .i64 (p:Nat))∧V.cell? ⟨tb,2,none⟩=some (.string s)) V:=fun V hV=>⟨(hV.left.left.c _ 0 (inR hf) hfc).1,(hV.cL 0).1,(hV.cL 1).1,(hV.cL 2).1⟩
   have hS0:=hS _ H4.out.drew
   refine regK (fun V:World=>V.cell? ⟨fb,0,none⟩=some (.pointer (some ⟨ab,0,none⟩))∧V.cell? ⟨tb,0,none⟩=some (.int .u8 (c:Nat))∧V.cell? ⟨tb,1,none⟩=some (.int .i64 (p:Nat))∧V.cell? ⟨tb,2,none⟩=some (.string s)) 5 ?_
   iterate 5 refine tkk hS0 (h:=?_) (hy:=by(refine Or.inl ⟨by rfl,?_⟩;intro V hV;obtain⟨u0,g0,g1,g2⟩:=hV;go_simp;try with_reducible rfl))
   refine lastK (fun K hK=>?_)
   have hkq:kq<r.length:=(List.getElem?_eq_some_iff.1 hq).1
   refine step_call (f:=131) (args:= #[.pointer (some ⟨ab,0,none⟩),.int .i64 9,tokV (c,p,s)]) (by rfl) (by go_simp;try rfl) (asNotice_any (r:=r++[.b rb [.int .u32 0,.int .i64 0]]++[.b tb [.int .u8 (c:Nat),.int .i64 (p:Nat),.string s]]) H4.out.drew hz8 (getL (getL hq)) hnq 9 (c,p,s)) ?_
   rintro e w5 ⟨rfl,vQ',h7⟩
   refine⟨_,rfl,hK _ _ ?_⟩
   clear hK K hS0 hS
   simp only[Act.put,List.setIfInBounds_toArray,List.set_cons_zero,List.set_cons_succ]
   rw[List.append_assoc,List.set_append_left _ _ hkq,←List.append_assoc,AL.app,AL.app] at h7
   have h8:=h7.left
   obtain⟨v0,o0⟩:=h8.cL 0
   obtain⟨v1,o1⟩:=h8.cL 1
   have lr:=h8.ltL
   have h9:=(h8.setL 0 (.int .u32 0)).setL 1 (.int .i64 0)
   obtain⟨y0,-⟩:=h9.cL 0
   obtain⟨y1,-⟩:=h9.cL 1
   have H9:=hide h9.left
   clear h7 h8 h9 H4 f0 lf
   go_wp2
   refine bodyPost_ret (v:=.agg #[.int .u32 0,.int .i64 0]) ?_ rfl ?_
   ·simp[results,Tryz.results158,go_sem,y0,y1]
   ·exact⟨rfl,vQ',H9.out⟩
end
end
section
open Go.RowKit
section
variable {w0 w:World} {ab tg cap i:Nat} {T:List Tok} {z:List Value} {r l:List It} {t t2:Tok}
set_option maxRecDepth 100000 in
set_option maxHeartbeats 3200000 in
theorem typeIndex_full {mb km kt:Nat} {mcs:List Value} {vT:Value} {tys:List TyV} {kks:List (List Nat×List Nat)} {va vb:Value} {a b:List Nat} (h:Sx w0 w (AL ab tg cap T i z r)) (hz:z[7]?=some (.pointer (some ⟨mb,0,none⟩)))
  (hm:(AL ab tg cap T i z r)[km]?=some (.b mb mcs)) (hmc:mcs[0]?=some vT) (ht:(AL ab tg cap T i z r)[kt]?=some (.r 47 2 vT tys.length (tys.flatMap tyvC))) (hty:TyR w tys kks) (hn:tys.length=20)
  (hva:isKinds (fun _=>True) a w va) (hvb:isKinds (fun _=>True) b w vb) (hno:(a,b)∉kks) (htk:T[i]?=some t):
  Calls Tryz.prog 113 #[.pointer (some ⟨ab,0,none⟩),.agg #[va,vb,.bool false,.int .u32 0]] w (Gave w0 (7,t.2.1)):=by
 obtain⟨a9,-⟩:=h.c 0 9 (v:=.pointer (some ⟨mb,0,none⟩)) rfl (by simpa using hz)
 obtain⟨b0,-⟩:=h.c km 0 hm hmc
 have l0:=h.lt 0
 have l1:=h.lt km hm
 obtain⟨pT,cT,rfl⟩:=Row.shape (h.isRow kt ht)
 have HTR:=hide (h.isRow kt ht)
 have H:=hide h
 have HTY:=hide hty
 obtain⟨pva,cva,rfl⟩:=Row.shape hva
 obtain⟨pvb,cvb,rfl⟩:=Row.shape hvb
 have HVA:=hide hva
 have HVB:=hide hvb
 have HNO:=hide hno
 have HZ:=hide hz
 have HLEN:=hide hty.1
 have HTK:=hide htk
 clear htk
 obtain⟨L,hL⟩:∃L,AL ab tg cap T i z r=L:=⟨_,rfl⟩
 have hab0:L[0]?=some (.b ab (.slice (some ⟨tg,0,none⟩) T.length cap::.int .i64 (i:Nat)::z)):=by rw[←hL];rfl
 have HL:=hide hL
 rw[hL] at hm ht H
 clear h hty hva hvb hno hz hL
 go_enter Tryz.func113,Tryz.ntmps113
 go_wp2_with fail
 have h1:Sx w0 (w.alloc (.cells #[.slice pva a.length cva,.slice pvb b.length cvb,.bool false,.int .u32 0] 178)) (L++[.b w.heap.size [.slice pva a.length cva,.slice pvb b.length cvb,.bool false,.int .u32 0]]):=H.out.new #[.slice pva a.length cva,.slice pvb b.length cvb,.bool false,.int .u32 0] 178
 have hkW:Kept (fun _=>False) w (w.alloc (.cells #[.slice pva a.length cva,.slice pvb b.length cvb,.bool false,.int .u32 0] 178)):=(Kept.refl _ _).alloc _
 obtain⟨ub,hub⟩:∃ub,ub=w.heap.size:=⟨_,rfl⟩
 rw[←hub] at h1 ⊢
 clear hub
 generalize (w.alloc (.cells #[.slice pva a.length cva,.slice pvb b.length cvb,.bool false,.int .u32 0] 178))=W at*
 have H1:=hide h1
 clear h1 H
 go_loopw [19] (fun q wr=>∃k:Nat,k≤tys.length∧q=.int .i64 (k:Nat)∧Kept (fun _=>False) W wr) (fun q _=>tys.length - (intOf q).toNat)
 case atStart=>exact⟨0,Nat.zero_le _,by simp,Kept.refl _ _⟩
 case round=>
  obtain⟨k,hk,rfl,hkp⟩:=hrel
  have hk2:=hkW.trans hkp
  have H2:=hide (H1.out.to hkp)
  obtain⟨d0,-⟩:=H2.out.cL 0
  obtain⟨d1,-⟩:=H2.out.cL 1
  have hub:=H2.out.ltL
  by_cases hkl:k<tys.length
  ·have hkl':(k:Int)<(tys.length:Int):=by omega
   obtain⟨x,hx⟩:∃x,tys[k]?=some x:=⟨_,List.getElem?_eq_getElem hkl⟩
   obtain⟨y,hy⟩:∃y,kks[k]?=some y:=⟨_,List.getElem?_eq_getElem (by have:=HLEN.out;omega)⟩
   obtain⟨gT,cpT,hvT,-,hgl,-,hcell⟩:=Row.cells (Row.kept HTR.out hk2 (fun _ _ _ c=>c)) (by omega)
   cases hvT
   have c0:wr.cell? ⟨gT,k*2,none⟩=some x.1:=(hcell (k*2) (by omega)).trans (flat_get (f:=tyvC) (m:=2) (o:=0) (fun _=>rfl) hx (by omega))
   have c1:wr.cell? ⟨gT,k*2+1,none⟩=some x.2:=(hcell (k*2+1) (by omega)).trans (flat_get (f:=tyvC) (m:=2) (o:=1) (fun _=>rfl) hx (by omega))
   obtain⟨r1,r2,r3⟩:=(HTY.out.kept hk2).2 k x y hx hy
   obtain⟨x1,x2⟩:=x
   obtain⟨y1,y2⟩:=y
   simp only at c0 c1 r1 r2 r3
   have r5:=Row.kept HVA.out hk2 (fun _ _ _ c=>c)
   have r6:=Row.kept HVB.out hk2 (fun _ _ _ c=>c)
   obtain⟨p1,q1,rfl⟩:=Row.shape r1
   obtain⟨p2,q2,rfl⟩:=Row.shape r2
   have R:=hide (And.intro r1 (And.intro r2 (And.intro r5 r6)))
   have HE:Hid (¬(y1=a∧y2=b)):=fun c=>HNO.out (by rw[←c.1,←c.2];exact List.mem_of_getElem? hy)
   clear hcell r1 r2 r5 r6 hx hy
   go_wp2_with fail
   have ka:Kept (fun _=>False) wr (wr.alloc (.cells #[.slice p1 y1.length q1,.slice p2 y2.length q2] 47)):=(Kept.refl _ _).alloc _
   refine(same_any (Row.kept R.out.1 ka (fun _ _ _ c=>c)) (Row.kept R.out.2.1 ka (fun _ _ _ c=>c)) (Row.kept R.out.2.2.1 ka (fun _ _ _ c=>c)) (Row.kept R.out.2.2.2 ka (fun _ _ _ c=>c)) r3).mono ?_
   rintro e w2 ⟨rfl,hk3⟩
   have hk4:=hkp.trans (ka.trans hk3)
   rw[show decide (y1=a∧y2=b)=false by simp only[decide_eq_false_iff_not];exact HE.out]
   clear hk3 ka
   go_wp2
   go_roundw
   case rel=>exact⟨k+1,by omega,by go_num,hk4⟩
   case measure=>simp[intOf];omega
  ·have hkl':¬(k:Int)<(tys.length:Int):=by omega
   have t20:((tys.length:Int)==20)=true:=by rw[hn];rfl
   obtain⟨e9,-⟩:=H2.out.c 0 9 (v:=.pointer (some ⟨mb,0,none⟩)) (getL hab0) (by simpa using HZ.out)
   obtain⟨e0,f0⟩:=H2.out.c km 0 (getL hm) hmc
   have m0:=H2.out.lt 0 (getL hab0)
   have m1:=H2.out.lt km (getL hm)
   have h2:=H2.out
   rw[←HL.out] at h2
   have H3:=hide h2
   clear a9 b0 l0 l1 h2 H2
   go_wp2_with fail
   refine(tPeek_any (r:=r++[.b ub [.slice pva a.length cva,.slice pvb b.length cvb,.bool false,.int .u32 0]]) H3.out HTK.out).mono ?_
   rintro e w4 ⟨rfl,h4⟩
   have K4:=hide h4.kept
   clear h4 H3
   go_wp2_with fail
   refine(tkRefuse_any t _).mono ?_
   rintro e w5 ⟨rfl,k5⟩
   exact⟨rfl,rfl,K4.out.trans k5⟩
end
end
section
open Go.RowKit
section
variable {w0 w:World} {ab tg cap i:Nat} {T:List Tok} {z:List Value} {r l:List It} {t t2:Tok}
set_option maxRecDepth 100000 in
set_option maxHeartbeats 1600000 in
theorem asUse_plainX {X M:Type} {m:Except Err M} {L2:M→X→List It} {ks1 ks2:M→List Nat} {p:Value} (h:Sx w0 w (AL ab tg cap T i z r)) (ht:T[i]?=some t) (ht2:T[nx T i]?=some t2) (hl:T.length≤100000) (hq:(t.1==2&&isW t2 ⟨#[116,121,112,101]⟩)=false)
  (hk:∀r' w,Sx w0 w (AL ab tg cap T i z r++r')→Calls Tryz.prog 111 #[.pointer (some ⟨ab,0,none⟩),p] w (OutX w0 m fun xz e w'=>∃v u x,e=.returned (.agg #[v,u])∧Sx w0 w' (L2 xz x++r'++[.r 73 1 v (ks1 xz).length (kindCells (ks1 xz)),.r 73 1 u (ks2 xz).length (kindCells (ks2 xz))]))):
  Calls Tryz.prog 112 #[.pointer (some ⟨ab,0,none⟩),p] w (OutX w0 m fun xz e w'=>∃v u x,e=.returned (.agg #[v,u,.bool false,.int .u32 0])∧Sx w0 w' (L2 xz x++[.r 73 1 v (ks1 xz).length (kindCells (ks1 xz)),.r 73 1 u (ks2 xz).length (kindCells (ks2 xz))])):=by
 have hnot:∀(x:Bool) (w:World),(Op.unary .not (.bool x)).run Tryz.prog w=.ok (.bool (!x)) w:=fun _ _=>rfl
 have H:=hide h
 have HT:=hide ht
 have HT2:=hide ht2
 have HQ:=hide hq
 have HK:=hide hk
 clear h ht ht2 hq hk
 go_enter Tryz.func112,Tryz.ntmps112
 go_wp2_with fail
 refine(tOpens_any (r:=r++[.b w.heap.size [.slice none 0 0,.slice none 0 0,.bool false,.int .u32 0]]) (H.out.new #[.slice none 0 0,.slice none 0 0,.bool false,.int .u32 0] 178) HT.out HT2.out hl _).mono ?_
 rintro e w1 ⟨rfl,h1⟩
 rw[HQ.out]
 generalize w.heap.size=rb at*
 rw[AL.app] at h1
 have H1:=hide h1
 clear h1 H
 go_wp2_with fail
 refine(HK.out _ _ H1.out).mono ?_
 intro e w2 h2
 cases hx:m with
 | error qq=>
  rw[hx] at h2
  obtain⟨rfl,hk⟩:=h2
  exact⟨rfl,OutX.err_mk hx ⟨rfl,hk⟩⟩
 | ok xz=>
 rw[hx] at h2
 obtain⟨v,u,x,rfl,h2⟩:=h2
 have HM:=hide hx
 clear hx
 have h2':Sx w0 w2 (L2 xz x++.b rb [.slice none 0 0,.slice none 0 0,.bool false,.int .u32 0]::[.r 73 1 v (ks1 xz).length (kindCells (ks1 xz)),.r 73 1 u (ks2 xz).length (kindCells (ks2 xz))]):=by simpa using h2
 obtain⟨pv,cv,rfl⟩:=Row.shape (h2'.isRow _ (midB1 _ _ _ _))
 obtain⟨pu,cu,rfl⟩:=Row.shape (h2'.isRow _ (midB2 _ _ _ _ _))
 obtain⟨a0,b0⟩:=h2'.c _ 0 (midB _ _ _) rfl
 obtain⟨a1,b1⟩:=h2'.c _ 1 (midB _ _ _) rfl
 obtain⟨a2,b2⟩:=h2'.c _ 2 (midB _ _ _) rfl
 obtain⟨a3,b3⟩:=h2'.c _ 3 (midB _ _ _) rfl
 have l0:=h2'.lt _ (midB _ _ _)
 have h3:=h2'.set _ 0 (.slice pv (ks1 xz).length cv) (midB _ _ _)
 rw[setB] at h3
 have h4:=h3.set _ 1 (.slice pu (ks2 xz).length cu) (midB _ _ _)
 rw[setB] at h4
 have h5:=h4.set _ 2 (.bool false) (midB _ _ _)
 rw[setB] at h5
 have h6:=h5.set _ 3 (.int .u32 0) (midB _ _ _)
 rw[setB] at h6
 obtain⟨y0,-⟩:=h6.c _ 0 (midB _ _ _) rfl
 obtain⟨y1,-⟩:=h6.c _ 1 (midB _ _ _) rfl
 obtain⟨y2,-⟩:=h6.c _ 2 (midB _ _ _) rfl
 obtain⟨y3,-⟩:=h6.c _ 3 (midB _ _ _) rfl
 have h7:=h6.sub (l':=L2 xz x++[.r 73 1 (.slice pv (ks1 xz).length cv) (ks1 xz).length (kindCells (ks1 xz)),.r 73 1 (.slice pu (ks2 xz).length cu) (ks2 xz).length (kindCells (ks2 xz))]) (List.Sublist.append (List.Sublist.refl _) (List.Sublist.cons _ (List.Sublist.refl _)))
 have H7:=hide h7
 clear h2 h2' h3 h4 h5 h6 h7 H1
 go_wp2
 refine bodyPost_ret (v:=.agg #[.slice pv (ks1 xz).length cv,.slice pu (ks2 xz).length cu,.bool false,.int .u32 0]) ?_ rfl ?_
 ·simp[results,Tryz.results112,go_sem,y0,y1,y2,y3]
 ·exact OutX.ok_mk HM.out ⟨_,_,x,rfl,H7.out⟩
end
end
section
open Go.RowKit
def tellL (ns:List (Nat×Nat)):List Nat→Option (Nat×Nat)
 | []=>none
 | e::l=>match ns.find? (fun x=>x.1==e) with
  | some x=>some x
  | none=>tellL ns l
section
variable {w0 w:World} {ab tg cap i:Nat} {T:List Tok} {z:List Value} {r l:List It} {t t2:Tok}
set_option maxRecDepth 100000 in
set_option maxHeartbeats 3200000 in
theorem asTell_all {kq:Nat} {vQ:Value} {ns:List (Nat×Nat)} (h:Sx w0 w (AL ab tg cap T i z r)) (hz:z[8]?=some vQ) (hq:r[kq]?=some (.r 38 2 vQ ns.length (ns.flatMap noC))) (hn:ns.length≤100000):
  Calls Tryz.prog 37 #[.pointer (some ⟨ab,0,none⟩)] w (fun e w'=>match tellL ns [8,6,9] with | none=>Ans w0 (.tuple #[]) (AL ab tg cap T i z r) e w' | some x=>Gave w0 x e w'):=by
 have H:=hide (h.new #[.int .i64 8,.int .i64 6,.int .i64 9] 27)
 obtain⟨pQ,cQ,rfl⟩:=Row.shape (h.isRow _ (inR hq))
 have hzc:(Value.slice (some ⟨tg,0,none⟩) T.length cap::.int .i64 (i:Nat)::z)[10]?=some (.slice pQ ns.length cQ):=by simpa using hz
 clear h
 go_enter Tryz.func37,Tryz.ntmps37
 go_wp2_with fail
 generalize (w.alloc (.cells #[.int .i64 8,.int .i64 6,.int .i64 9] 27))=w1 at*
 generalize w.heap.size=lb at*
 go_loopw [8] (fun q wr=>∃k:Nat,k≤3∧q=.int .i64 (k:Nat)∧Kept (fun _=>False) w1 wr∧tellL ns [8,6,9]=tellL ns ([8,6,9].drop k)) (fun q _=>3 - (intOf q).toNat)
 case atStart=>exact⟨0,by omega,rfl,Kept.refl _ _,rfl⟩
 case round=>
  obtain⟨k,hk,rfl,hkp,ha⟩:=hrel
  have HA:=hide ha
  clear ha
  have H2:=hide (H.out.to hkp)
  by_cases hlt:k<3
  ·have hlt':(k:Int)<3:=by omega
   obtain⟨er,hc,hd⟩:∃er:Nat,wr.cell? ⟨lb,k,none⟩=some (.int .i64 (er:Nat))∧([8,6,9]:List Nat).drop k=er::([8,6,9]:List Nat).drop (k+1):=by
    rcases(by omega:k=0∨k=1∨k=2) with rfl | rfl | rfl
    ·exact⟨8,(H2.out.cL 0).1,rfl⟩
    ·exact⟨6,(H2.out.cL 1).1,rfl⟩
    ·exact⟨9,(H2.out.cL 2).1,rfl⟩
   have HD:Hid (tellL ns [8,6,9]=match ns.find? (fun x=>x.1==er) with | some x=>some x | none=>tellL ns (([8,6,9]:List Nat).drop (k+1))):=by show _=_;rw[HA.out,hd];rfl
   obtain⟨a0,-⟩:=H2.out.left.c 0 10 rfl hzc
   have l0:=H2.out.left.lt 0
   have llb:=H2.out.ltL
   clear hd HA
   go_wp2_with fail
   generalize wr=W2 at*
   go_loopw [17] (fun q w2=>∃m:Nat,m≤ns.length∧q=.int .i64 (m:Nat)∧Kept (fun _=>False) W2 w2∧ns.find? (fun x=>x.1==er)=(ns.drop m).find? (fun x=>x.1==er)) (fun q _=>ns.length - (intOf q).toNat)
   case atStart=>exact⟨0,by omega,rfl,Kept.refl _ _,rfl⟩
   case round=>
    obtain⟨m,hm,rfl,hkp2,hb⟩:=hrel
    have HB:=hide hb
    clear hb
    have H3:=hide (H2.out.to hkp2)
    by_cases hml:m<ns.length
    ·have hml':(m:Int)<(ns.length:Int):=by omega
     have hrr:=H3.out.left.isRow _ (inR hq)
     obtain⟨g,cap',hv,-,hgl,hcap,hcell⟩:=Row.cells hrr (by omega)
     cases hv
     have hx:ns[m]?=some ns[m]:=List.getElem?_eq_getElem hml
     have c0:wr.cell? ⟨g,m*2,none⟩=some (.int .i64 (ns[m].1:Nat)):=(hcell (m*2) (by omega)).trans (flat_get (f:=noC) (m:=2) (o:=0) (fun _=>rfl) hx (by omega))
     have c1:wr.cell? ⟨g,m*2+1,none⟩=some (.int .i64 (ns[m].2:Nat)):=(hcell (m*2+1) (by omega)).trans (flat_get (f:=noC) (m:=2) (o:=1) (fun _=>rfl) hx (by omega))
     have HD2:Hid ((ns.drop m).find? (fun x=>x.1==er)=if(ns[m].1==er)=true then some ns[m] else(ns.drop (m+1)).find? (fun x=>x.1==er)):=by
      show _=_
      rw[List.drop_eq_getElem_cons hml,List.find?_cons]
      cases(ns[m].1==er)<;>rfl
     clear hcell hrr hx
     generalize ns[m]=y at*
     by_cases he:y.1=er
     ·have te:((y.1:Int)==(er:Int))=true:=by simp[he]
      have HG:Hid (tellL ns [8,6,9]=some y):=by
       show _=_
       rw[HD.out,HB.out,HD2.out,if_pos (by simp[he])]
      have K3:=hide H3.out.kept
      clear he H3 HB HD2
      go_wp2_with fail
      refine(giveUp_any _ _ _).mono ?_
      rintro e w4 ⟨rfl,rfl⟩
      refine⟨rfl,?_⟩
      show(match tellL ns [8,6,9] with | none=>Ans w0 (.tuple #[]) (AL ab tg cap T i z r) _ _ | some x=>Gave w0 x _ _)
      rw[HG.out]
      exact⟨rfl,K3.out.alloc _⟩
     ·have te:((y.1:Int)==(er:Int))=false:=by simp;omega
      have HN:Hid (ns.find? (fun x=>x.1==er)=(ns.drop (m+1)).find? (fun x=>x.1==er)):=by
       show _=_
       rw[HB.out,HD2.out,if_neg (by simp[he])]
      clear he HB HD2 H3
      go_wp2
      go_roundw
      case rel=>exact⟨m+1,by omega,by go_num,hkp2.alloc _,HN.out⟩
      case measure=>simp[intOf];omega
    ·have HN:Hid (tellL ns [8,6,9]=tellL ns (([8,6,9]:List Nat).drop (k+1))):=by
      show _=_
      rw[HD.out,HB.out,List.drop_eq_nil_of_le (by omega)]
      rfl
     clear HB H3
     go_wp2
     go_roundw
     case rel=>exact⟨k+1,by omega,by go_num,hkp.trans hkp2,HN.out⟩
     case measure=>simp[intOf];omega
  ·have HN:Hid (tellL ns [8,6,9]=none):=by
    show _=_
    rw[HA.out,List.drop_eq_nil_of_le (by simp;omega)]
    rfl
   have H5:=hide H2.out.left
   clear HA H2
   go_wp2
   go_end0
   ·exact⟨rfl,H5.out⟩
   ·rename_i x hx
    rw[HN.out] at hx
    cases hx
end
end
section
open Go.RowKit
def HasR (tl:List It) (E:TypeId) (sz:Nat) (v:Value) (n:Nat) (xs:List Value):Prop:=(v=.slice none 0 0∧n=0∧xs=[])∨It.r E sz v n xs∈tl
theorem HasR.mono {tl tl':List It} {E:TypeId} {sz n:Nat} {v:Value} {xs:List Value} (h:HasR tl E sz v n xs) (hs:∀p∈tl,p∈tl'):HasR tl' E sz v n xs:=h.imp id (hs _)
theorem HasR.row {w0 w:World} {l tl:List It} {E:TypeId} {sz n:Nat} {v:Value} {xs:List Value} (h:HasR tl E sz v n xs) (hS:Sx w0 w l) (hs:∀p∈tl,p∈l):Row (fun g=>w0.heap.size≤g) w E sz v n xs:=by
 rcases h with⟨rfl,rfl,rfl⟩ | h
 ·exact Row.nil _ _ _ _
 ·obtain⟨k,hk⟩:=List.mem_iff_getElem?.1 (hs _ h)
  exact hS.isRow k hk
structure Bk where
 m:MS
 nm:List Nam
 lb:List ByteArray
 al:List InsT
structure VF where
 n:Value
 l:Value
 a:Value
 gi:List (InsT×Value×Value)
def insV (x:InsT×Value×Value):List Value:=[.int .i64 0,.int .i64 0,.int .u8 (x.1.word:Nat),.bool x.1.typed,x.2.1,.int .u32 x.1.align,.int .u32 x.1.num,.int .i64 0,x.2.2,.int .i64 x.1.value]
abbrev FT (ab fb:Nat) (vf:VF) (f:Bk) (tl:List It):List It:=.b fb [.pointer (some ⟨ab,0,none⟩),vf.n,vf.l,vf.a]::.r 135 2 vf.n f.nm.length (f.nm.flatMap namCells)::.r 9 1 vf.l f.lb.length (f.lb.map .string)::.r 131 10 vf.a vf.gi.length (vf.gi.flatMap insV)::tl
abbrev LF (ab tg cap mw mb fb:Nat) (T:List Tok) (v:VS) (vf:VF) (f:Bk) (tl:List It):List It:=LA ab tg cap mw mb T v f.m (FT ab fb vf f tl)
abbrev CoG:=(List Nat×List InsT)×(Value×Nat×Value×List (InsT×Value×Value))
structure Gh where
 ty:List ((List Nat×List Nat)×TyV)
 el:List ((Cst×List Nat)×Value)
 co:List CoG
 lo:List ((Nat×List Nam)×Value)
def elV (x:(Cst×List Nat)×Value):List Value:=[.int .i64 0,.int .i64 (x.1.1.at_:Nat),.int .u8 (x.1.1.kind:Nat),.int .i64 x.1.1.val,x.2]
def loV (x:(Nat×List Nam)×Value):List Value:=[.int .i64 (x.1.1:Nat),x.2]
def InsIn (tl:List It) (x:InsT×Value×Value):Prop:=HasR tl 73 1 x.2.1 x.1.gives.length (kindCells x.1.gives)∧HasR tl 66 2 x.2.2 x.1.labels.length (x.1.labels.flatMap nuC)
theorem InsIn.mono {tl tl':List It} {x:InsT×Value×Value} (h:InsIn tl x) (hs:∀p∈tl,p∈tl'):InsIn tl' x:=⟨h.1.mono hs,h.2.mono hs⟩
end
section
open Go.RowKit
def gnT (T:List Tok) (q:ByteArray) (most fr:Nat):Nat→List Nat→List Nam→List (Nat×Nat)→Nat→Except Err ((List Nat×List Nam×List (Nat×Nat))×Nat)
 | 0,_,_,_,_=>.error (0,0)
 | k+1,ks,nm,no,i=>if opensT T q i=true then
   (match(if(declT T nm (fr+ks.length) (nx T (nx T i))).1=true then gkT T most ks (declT T nm (fr+ks.length) (nx T (nx T i))).2.2.1 else gwT T most (T.length - (declT T nm (fr+ks.length) (nx T (nx T i))).2.2.1) ks (declT T nm (fr+ks.length) (nx T (nx T i))).2.2.1) with
   | .error e=>.error e
   | .ok (ks',j)=>match takeT T 3 j with
    | .error e=>.error e
    | .ok (_,m)=>gnT T q most fr k ks' (declT T nm (fr+ks.length) (nx T (nx T i))).2.1 (no++(declT T nm (fr+ks.length) (nx T (nx T i))).2.2.2) m)
  else .ok ((ks,nm,no),i)
theorem declT_len {T:List Tok} {ns:List Nam} {n i:Nat} (hT:TW T) (hi:i<T.length):(declT T ns n i).2.1.length≤ns.length+((declT T ns n i).2.2.1 - i)∧(declT T ns n i).2.2.2.length≤(declT T ns n i).2.2.1 - i∧i≤(declT T ns n i).2.2.1:=by
 obtain⟨t,ht⟩:∃t,T[i]?=some t:=⟨_,List.getElem?_eq_getElem hi⟩
 unfold declT
 rw[ht]
 cases hid:idA t with
 | false=>simp[hid]
 | true=>
  have h5:t.1=5:=by unfold idA at hid;simp at hid;exact hid.1.2
  have:=hT.nx ht (by omega)
  simp only[hid,if_true]
  split<;>simp<;>omega
abbrev LG (ab tg cap mw mb fb gb qb xb:Nat) (T:List Tok) (v:VS) (vf:VF) (f:Bk) (tl:List It) (vv:Value) (most:Nat) (ks:List Nat):List It:=AL ab tg cap T f.m.i (ZA mw mb v) (GL gb qb xb ab vv most ks++RA mw mb v f.m (FT ab fb vf f tl))
section
variable {w0 w:World} {ab tg cap mw mb fb:Nat} {T:List Tok} {v:VS} {vf:VF} {f:Bk} {tl:List It}
theorem asDeclare_fn {gb qb xb most:Nat} {vv:Value} {ks:List Nat} (h:Sx w0 w (LG ab tg cap mw mb fb gb qb xb T v vf f tl vv most ks)) (hT:TT T) (hi:f.m.i<T.length) (n:Nat) (hn:f.nm.length≤1000) (hno:f.m.no.length≤100000):
  Calls Tryz.prog 110 #[.pointer (some ⟨ab,0,none⟩),.pointer (some ⟨fb,1,none⟩),.int .i64 (n:Nat)] w (fun e w'=>e=.returned (.bool (declT T f.nm n f.m.i).1)∧∃q1 q,Sx w0 w' (LG ab tg cap mw mb fb gb qb xb T {v with no:=q} {vf with n:=q1} {f with nm:=(declT T f.nm n f.m.i).2.1,m:={f.m with i:=(declT T f.nm n f.m.i).2.2.1,no:=f.m.no++(declT T f.nm n f.m.i).2.2.2}} tl vv most ks)):=by
 obtain⟨t,ht⟩:∃t,T[f.m.i]?=some t:=⟨_,List.getElem?_eq_getElem hi⟩
 have hz:=hT.small t (List.mem_of_getElem? ht)
 unfold declT
 rw[ht]
 cases hid:idA t with
 | false=>
  refine(asDeclare_noA h ht hz hid _ _).mono ?_
  rintro e w' ⟨rfl,h1⟩
  simp only[hid,Bool.false_eq_true,if_false,List.append_nil]
  exact⟨trivial,vf.n,v.no,h1⟩
 | true=>
  simp only[hid,if_true]
  cases hx:idxO f.nm (idRest t) with
  | none=>
   refine(asDeclare_yesA h ht hT.len hz hid (kb:=26) (kr:=27) (pb:=fb) (po:=1) rfl rfl rfl hx hn).mono ?_
   rintro e w' ⟨rfl,q,h1⟩
   exact⟨rfl,q,v.no,by simpa [LG,LA,AL,RA,ZA,FT,GL] using h1⟩
  | some k=>
   refine(asDeclare_twice h ht hT.len hz hid (kb:=26) (kr:=27) (pb:=fb) (po:=1) rfl rfl rfl hx hn (z:=ZA mw mb v) rfl (kq:=5) rfl hno).mono ?_
   rintro e w' ⟨rfl,q,h1⟩
   refine⟨rfl,vf.n,q,?_⟩
   simpa [LG,LA,AL,RA,ZA,FT,GL,noC] using h1
theorem gwT_nx {most:Nat} {k:Nat} {ks ks':List Nat} {i j:Nat} (h:gwT T most k ks i=.ok (ks',j)) (hk:ks.length≤most):ks'.length≤most:=by
 induction k generalizing ks i with
 | zero=>cases h
 | succ k ih=>
  unfold gwT at h
  split at h
  ·cases h
  ·split at h
   ·split at h
    ·cases h
    ·rename_i hx
     exact ih h (gkT_nx hx hk).2
   ·cases h
    exact hk
end
end
section
open Go.RowKit
section
variable {w0 w:World} {ab tg cap mw mb fb:Nat} {T:List Tok} {v:VS} {vf:VF} {f:Bk} {tl:List It}
set_option maxRecDepth 100000 in
set_option maxHeartbeats 3200000 in
theorem groups_fn (h:Sx w0 w (LF ab tg cap mw mb fb T v vf f tl)) (hT:TW T) (hi:f.m.i<T.length) (q:ByteArray) (most:Nat) (hm:most≤1000) (fr:Nat) (hfr:fr≤1000) (hn:f.nm.length≤f.m.i) (hno:f.m.no.length≤f.m.i):
  Calls Tryz.prog 114 #[.pointer (some ⟨ab,0,none⟩),.string q,.int .i64 (most:Nat),.pointer (some ⟨fb,1,none⟩),.int .i64 (fr:Nat)] w (OutX w0 (gnT T q most fr (T.length - f.m.i) [] f.nm f.m.no f.m.i) fun x e w'=>∃u q1 q,e=.returned u∧Sx w0 w' (LF ab tg cap mw mb fb T {v with no:=q} {vf with n:=q1} {f with nm:=x.1.2.1,m:={f.m with i:=x.2,no:=x.1.2.2}} (tl++[.r 73 1 u x.1.1.length (kindCells x.1.1)]))):=by
 have hmf:∀(fn:Fn) (first cap:Array Value) (w:World),(Instr.makeFunc fn first cap).run Tryz.prog w=.ok (.func fn first cap) w:=fun _ _ _ _=>rfl
 have hcl:∀(args:Array Value) (w:World),(callFunc 133 args).run Tryz.prog w=.ok (.enter 133 args) w:=enters_groupsIn
 have hf:=tokF
 have te:∀u:Tok,tokV u=.agg #[.int .u8 (u.1:Nat),.int .i64 (u.2.1:Nat),.string u.2.2]:=fun _=>rfl
 have H:=hide h
 have HI:Hid (f.m.i<T.length∧f.nm.length≤f.m.i∧f.m.no.length≤f.m.i):=⟨hi,hn,hno⟩
 clear h hi hn hno
 go_enter Tryz.func114,Tryz.ntmps114
 go_wp2_with fail
 go_loopg [] (T.length - f.m.i) (fun k wr=>∃(ks:List Nat) (nm:List Nam) (no:List (Nat×Nat)) (j:Nat) (vv q1 qq:Value),T.length - j≤k∧j<T.length∧ks.length≤most∧nm.length≤j∧no.length≤j∧gnT T q most fr (T.length - f.m.i) [] f.nm f.m.no f.m.i=gnT T q most fr k ks nm no j∧Sx w0 wr (LG ab tg cap mw mb fb (w.heap.size+1+1) (w.heap.size+1) w.heap.size T {v with no:=qq} {vf with n:=q1} {f with nm:=nm,m:={f.m with i:=j,no:=no}} tl vv most ks))
 case atStart=>exact⟨[],f.nm,f.m.no,f.m.i,_,vf.n,v.no,Nat.le_refl _,HI.out.1,by simp,HI.out.2.1,HI.out.2.2,rfl,GL.mk H.out most⟩
 case round=>
  obtain⟨ks,nm,no,j,vv,q1,qq,hk,hj,hks,hnm,hno,hL,hS⟩:=hrel
  clear H HI
  generalize w.heap.size=b0 at*
  have hi2:=nx_ok hj
  have hi3:=nx_ok hi2
  obtain⟨t,ht⟩:∃t,T[j]?=some t:=⟨_,List.getElem?_eq_getElem hj⟩
  obtain⟨t2,ht2⟩:∃t,T[nx T j]?=some t:=⟨_,List.getElem?_eq_getElem hi2⟩
  have ho:opensT T q j=(t.1==2&&isW t2 q):=by unfold opensT;rw[ht,ht2]
  obtain⟨k',rfl⟩:∃k',gk=k'+1:=⟨gk - 1,by omega⟩
  obtain⟨a4,-⟩:=hS.c 4 0
  have l4:=hS.lt 4
  have HS:=hide hS
  have HT:=hide ht
  have HT2:=hide ht2
  have HO:=hide ho
  have HL:=hide hL
  have HB:Hid ((T.length - j≤k'+1∧j<T.length)∧nx T (nx T j)<T.length∧ks.length≤most∧nm.length≤j∧no.length≤j):=⟨⟨hk,hj⟩,hi3,hks,hnm,hno⟩
  have hwn:IntKind.i64.wrap ((fr:Int)+(ks.length:Int))=((fr+ks.length:Nat):Int):=by rw[IntWalk.i64_in _ ⟨by omega,by omega⟩];simp
  clear hS ht ht2 ho hk hL hj hi2 hi3 hks hnm hno
  go_wp2_with fail
  refine(tOpens_any HS.out HT.out HT2.out hT.len q).mono ?_
  rintro e w2 ⟨rfl,h2⟩
  clear a4 l4 HS
  cases hq:(t.1==2&&isW t2 q) with
  | false=>
   have HM:Hid (gnT T q most fr (T.length - f.m.i) [] f.nm f.m.no f.m.i=.ok ((ks,nm,no),j)):=by
    show _=_
    rw[HL.out]
    unfold gnT
    rw[HO.out,hq]
    rfl
   obtain⟨b2,-⟩:=h2.c 2 0
   have m2:=h2.lt 2
   have H2:=hide (GL.drop h2)
   clear hq h2 HL HO
   go_wp2
   go_ret
   exact OutX.ok_mk HM.out ⟨vv,q1,qq,rfl,H2.out⟩
  | true=>
   have HO2:Hid (opensT T q j=true):=by show _=_;rw[HO.out,hq]
   have hc:Hid (t.1=2):=by show _=_;simp at hq;exact hq.1
   have hw:Hid (isW t2 q=true):=by show _=_;simp at hq;exact hq.2
   obtain⟨b4,-⟩:=h2.c 4 0
   have m4:=h2.lt 4
   have H2:=hide h2
   clear hq h2 HO
   go_wp2_with fail
   refine(tTakeOpen_any H2.out HT.out hc.out HT2.out hT.len q hw.out).mono ?_
   rintro e w3 ⟨rfl,h3⟩
   obtain⟨pv,cv,rfl⟩:=Row.shape (h3.isRow 5)
   obtain⟨b4,-⟩:=h3.c 4 0
   have m4:=h3.lt 4
   obtain⟨b2,-⟩:=h3.c 2 0
   have m2:=h3.lt 2
   have h3':Sx w0 w3 (LG ab tg cap mw mb fb (b0+1+1) (b0+1) b0 T {v with no:=qq} {vf with n:=q1} {f with nm:=nm,m:={f.m with i:=nx T (nx T j),no:=no}} tl (.slice pv ks.length cv) most ks):=h3
   have H3:=hide h3'
   clear h3 h3' H2
   go_wp2_with fail
   refine(asDeclare_fn H3.out hT.toTT HB.out.2.1 (fr+ks.length) (by have:=HB.out.2.2.2.1;have:=hT.few;have:=HB.out.1.2;show nm.length≤1000;omega) (by have:=HB.out.2.2.2.2;have:=hT.few;have:=HB.out.1.2;show no.length≤100000;omega)).mono ?_
   rintro e w4 ⟨rfl,q2,qq2,h4⟩
   clear H3 b4 m4 b2 m2
   simp only at h4 ⊢
   obtain⟨d,hd⟩:∃d,d=declT T nm (fr+ks.length) (nx T (nx T j)):=⟨_,rfl⟩
   have hdl:=declT_len (ns:=nm) (n:=fr+ks.length) hT HB.out.2.1
   have hdt:=declT_lt (ns:=nm) (n:=fr+ks.length) HB.out.2.1
   rw[←hd] at h4 hdl hdt ⊢
   have hg2:nx T (nx T j)=j+2:=by
    obtain⟨e1,l1⟩:=opensT_nx hT HO2.out
    have h5:t2.1=5:=by have:=hw.out;unfold isW at this;simp at this;exact this.1
    rw[hT.nx HT2.out (by omega),e1]
   have HL2:Hid (gnT T q most fr (T.length - f.m.i) [] f.nm f.m.no f.m.i=(match(if d.1=true then gkT T most ks d.2.2.1 else gwT T most (T.length - d.2.2.1) ks d.2.2.1) with
    | .error e=>.error e
    | .ok (ks',j)=>match takeT T 3 j with
     | .error e=>.error e
     | .ok (_,m)=>gnT T q most fr k' ks' d.2.1 (no++d.2.2.2) m)):=by
    show _=_
    rw[HL.out]
    conv=>lhs;unfold gnT
    rw[if_pos HO2.out,←hd]
    all_goals rfl
   have HB2:Hid (j+2≤d.2.2.1∧d.2.2.1<T.length∧T.length - j≤k'+1∧ks.length≤most∧d.2.1.length≤d.2.2.1∧(no++d.2.2.2).length≤d.2.2.1):=by
    have hb:=HB.out
    refine⟨by omega,hdt,hb.1.1,hb.2.2.1,by omega,?_⟩
    rw[List.length_append]
    omega
   obtain⟨d0,nm2,j2,no2⟩:=d
   simp only at h4 HL2 HB2 ⊢
   clear hd hdl hdt hg2 HL HB HO2 hw hc HT HT2 hwn
   obtain⟨t3,ht3⟩:∃t,T[j2]?=some t:=⟨_,List.getElem?_eq_getElem HB2.out.2.1⟩
   have HT3:=hide ht3
   clear ht3
   obtain⟨b4,-⟩:=h4.c 4 0
   have m4:=h4.lt 4
   have H4:=hide h4
   clear h4
   cases d0 with
   | true=>
    simp only[if_true] at HL2
    go_wp2_with fail
    refine(groupsIn_all H4.out HT3.out hT.len hm HB2.out.2.2.2.1).mono ?_
    intro e w5 h6
    change OutX w0 (gkT T most ks j2) _ e w5 at h6
    cases hx:gkT T most ks j2 with
    | error eq=>
     rw[hx] at h6
     obtain⟨rfl,hk⟩:=h6
     exact⟨rfl,OutX.err_mk (by rw[HL2.out,hx]) ⟨rfl,hk⟩⟩
    | ok x=>
    obtain⟨ks3,j3⟩:=x
    rw[hx] at h6
    obtain⟨rfl,vv3,h6⟩:=h6
    obtain⟨hj3,hks3⟩:=gkT_nx hx HB2.out.2.2.2.1
    have HL3:=hide (HL2.out.trans (by rw[hx]))
    have HB3:Hid (j2≤j3∧j3<T.length∧ks3.length≤most):=by
     have:=nx_le HB2.out.2.1
     have:=nx_ok HB2.out.2.1
     exact⟨by omega,by omega,hks3⟩
    simp only at h6 HL3
    obtain⟨b4,-⟩:=h6.c 4 0
    have m4:=h6.lt 4
    obtain⟨t4,ht4⟩:∃t,T[j3]?=some t:=⟨_,List.getElem?_eq_getElem HB3.out.2.1⟩
    have HT4:=hide ht4
    have H6:=hide h6
    clear h6 hx H4 hj3 hks3 HL2 ht4
    go_wp2_with fail
    refine(tTake_all H6.out HT4.out hT.len 3).mono ?_
    intro e w6 h7
    cases hx:takeT T 3 j3 with
    | error eq=>
     rw[hx] at h7
     obtain⟨rfl,hk⟩:=h7
     exact⟨rfl,OutX.err_mk (by rw[HL3.out,hx]) ⟨rfl,hk⟩⟩
    | ok x=>
    obtain⟨t6,j4⟩:=x
    obtain⟨-,-,hj4⟩:=takeT_nx hx
    rw[hx] at h7
    obtain⟨rfl,h7⟩:=h7
    have HL4:=hide (HL3.out.trans (by rw[hx]))
    have HB4:Hid (T.length - j4≤k'∧j4<T.length∧ks3.length≤most∧nm2.length≤j4∧(no++no2).length≤j4):=by
     have g1:=nx_le HB3.out.2.1
     have g2:=nx_ok HB3.out.2.1
     have g3:=HB2.out
     have g4:=HB3.out
     exact⟨by omega,by omega,g4.2.2,by omega,by omega⟩
    simp only at h7 HL4
    have h8:Sx w0 w6 (LG ab tg cap mw mb fb (b0+1+1) (b0+1) b0 T {v with no:=qq2} {vf with n:=q2} {f with nm:=nm2,m:={f.m with i:=j4,no:=no++no2}} tl vv3 most ks3):=h7
    have H8:=hide h8
    clear h7 h8 hx H6 hj4 HL3 b4 m4
    go_wp2
    go_roundg k'
    case measure=>omega
    case rel=>exact⟨ks3,nm2,no++no2,j4,vv3,q2,qq2,HB4.out.1,HB4.out.2.1,HB4.out.2.2.1,HB4.out.2.2.2.1,HB4.out.2.2.2.2,HL4.out,H8.out⟩
   | false=>
    rw[if_neg (by decide)] at HL2
    go_wp2_with fail
    go_loopg [] (T.length - j2) (fun k wr=>∃(ks2:List Nat) (j3:Nat) (vv2:Value),T.length - j3≤k∧j2≤j3∧j3<T.length∧ks2.length≤most∧gwT T most (T.length - j2) ks j2=gwT T most k ks2 j3∧Sx w0 wr (AL ab tg cap T j3 (ZA mw mb {v with no:=qq2}) (GL (b0+1+1) (b0+1) b0 ab vv2 most ks2++RA mw mb {v with no:=qq2} {f.m with i:=j2,no:=no++no2} (FT ab fb {vf with n:=q2} {f with nm:=nm2,m:={f.m with i:=j2,no:=no++no2}} tl))))
    case atStart=>exact⟨ks,j2,_,Nat.le_refl _,Nat.le_refl _,HB2.out.2.1,HB2.out.2.2.2.1,rfl,H4.out⟩
    case round=>
     obtain⟨ks2,j3,vv2,hk2,hjj,hj2,hks2,hL2,hS2⟩:=hrel
     clear H4 b4 m4
     obtain⟨t3,ht3⟩:∃t,T[j3]?=some t:=⟨_,List.getElem?_eq_getElem hj2⟩
     obtain⟨k2,rfl⟩:∃k2,gk=k2+1:=⟨gk - 1,by omega⟩
     obtain⟨a4,-⟩:=hS2.c 4 0
     have l4:=hS2.lt 4
     have HS2:=hide hS2
     have HT3:=hide ht3
     have HK2:Hid ((T.length - j3≤k2+1∧j2≤j3)∧j3<T.length∧ks2.length≤most):=⟨⟨hk2,hjj⟩,hj2,hks2⟩
     have HL3:=hide hL2
     clear hS2 ht3 hk2 hL2 hj2 hks2 hjj
     go_wp2_with fail
     refine(tPeek_any HS2.out HT3.out).mono ?_
     rintro e w4 ⟨rfl,h4⟩
     rw[te]
     clear a4 l4 HS2
     by_cases h5:t3.1=5
     ·have t5:((t3.1:Int)==5)=true:=by rw[h5];rfl
      have H5:=hide h5
      have H4:=hide h4
      clear h5 h4
      go_wp2_with fail
      refine(groupsIn_all H4.out HT3.out hT.len hm HK2.out.2.2).mono ?_
      intro e w5 h6
      cases hx:gkT T most ks2 j3 with
      | error eq=>
       rw[hx] at h6
       obtain⟨rfl,hk⟩:=h6
       have e1:gwT T most (T.length - j2) ks j2=.error eq:=by
        rw[HL3.out];unfold gwT;simp only[HT3.out,H5.out,if_true,hx]
       exact⟨rfl,OutX.err_mk (by rw[HL2.out,e1]) ⟨rfl,hk⟩⟩
      | ok x=>
      obtain⟨ks3,j4⟩:=x
      rw[hx] at h6
      obtain⟨rfl,vv3,h6⟩:=h6
      obtain⟨hj3,hks3⟩:=gkT_nx hx HK2.out.2.2
      have hjn:=hT.nx HT3.out (by rw[H5.out];decide)
      have hlast:=hT.last j3 t3 HT3.out (by rw[H5.out];decide)
      have HB:Hid ((T.length - j4≤k2∧j2≤j4)∧j4<T.length∧ks3.length≤most):=⟨by have:=HK2.out;omega,by omega,hks3⟩
      have HL4:Hid (gwT T most (T.length - j2) ks j2=gwT T most k2 ks3 j4):=by
       show _=_
       rw[HL3.out]
       conv=>lhs;unfold gwT
       simp only[HT3.out,H5.out,if_true,hx]
      have H6:=hide h6
      clear h6 hx H4 hj3 hks3 hjn hlast HL3
      go_wp2
      go_roundg k2
      case measure=>omega
      case rel=>exact⟨ks3,j4,vv3,HB.out.1.1,HB.out.1.2,HB.out.2.1,HB.out.2.2,HL4.out,H6.out⟩
     ·have t5:((t3.1:Int)==5)=false:=by simp;omega
      have HW:Hid (gwT T most (T.length - j2) ks j2=.ok (ks2,j3)):=by
       show _=_
       rw[HL3.out]
       unfold gwT
       simp only[HT3.out,h5,if_false]
      obtain⟨b4,-⟩:=h4.c 4 0
      have m4:=h4.lt 4
      have H4:=hide h4
      clear h5 h4 HL3
      go_wp2_with fail
      refine(tTake_all H4.out HT3.out hT.len 3).mono ?_
      intro e w5 h6
      cases hx:takeT T 3 j3 with
      | error eq=>
       rw[hx] at h6
       obtain⟨rfl,hk⟩:=h6
       exact⟨rfl,OutX.err_mk (by rw[HL2.out,HW.out];simp only[hx]) ⟨rfl,hk⟩⟩
      | ok x=>
      obtain⟨t6,j4⟩:=x
      obtain⟨-,-,hj3⟩:=takeT_nx hx
      rw[hx] at h6
      obtain⟨rfl,h6⟩:=h6
      have HL3:Hid (gnT T q most fr (T.length - f.m.i) [] f.nm f.m.no f.m.i=gnT T q most fr k' ks2 nm2 (no++no2) j4):=by
       show _=_
       rw[HL2.out,HW.out]
       simp only[hx]
      have HB:Hid (T.length - j4≤k'∧j4<T.length∧ks2.length≤most∧nm2.length≤j4∧(no++no2).length≤j4):=by
       have g5:=nx_le HK2.out.2.1
       have g6:=nx_ok HK2.out.2.1
       have g7:=HB2.out
       have g8:=HK2.out
       exact⟨by omega,by omega,g8.2.2,by omega,by omega⟩
      simp only at h6
      have h8:Sx w0 w5 (LG ab tg cap mw mb fb (b0+1+1) (b0+1) b0 T {v with no:=qq2} {vf with n:=q2} {f with nm:=nm2,m:={f.m with i:=j4,no:=no++no2}} tl vv2 most ks2):=h6
      have H6:=hide h8
      clear h6 h8 hx H4 hj3 HL2 b4 m4
      go_wp2
      go_roundg k'
      case measure=>omega
      case rel=>exact⟨ks2,nm2,no++no2,j4,vv2,q2,qq2,HB.out.1,HB.out.2.1,HB.out.2.2.1,HB.out.2.2.2.1,HB.out.2.2.2.2,HL3.out,H6.out⟩
end
end
section
open Go.RowKit
def coV (x:CoG):List Value:=[x.2.1,.func (.func 137) #[] #[.pointer (some ⟨x.2.2.1,0,none⟩)]]
structure CoIn (tl:List It) (x:CoG):Prop where
 al:x.1.2=x.2.2.2.2.map (·.1)
 lo:HasR tl 73 1 x.2.1 x.1.1.length (kindCells x.1.1)
 bx:It.b x.2.2.1 [x.2.2.2.1]∈tl
 row:HasR tl 131 10 x.2.2.2.1 x.2.2.2.2.length (x.2.2.2.2.flatMap insV)
 ins:∀y∈x.2.2.2.2,InsIn tl y
 len:x.1.1.length≤1000
 few:x.2.2.2.2.length≤1000
structure AG (g:Gh) (v:VS) (s:MS) (tl:List It):Prop where
 ty:s.ty=g.ty.map (·.1)
 tyv:v.xty=g.ty.flatMap (fun x=>tyvC x.2)
 tyr:∀x∈g.ty,HasR tl 73 1 x.2.1 x.1.1.length (kindCells x.1.1)∧HasR tl 73 1 x.2.2 x.1.2.length (kindCells x.1.2)∧x.1.1.length≤50∧x.1.2.length≤50
 el:s.el=g.el.map (·.1)
 elv:v.xel=g.el.flatMap elV
 elr:∀x∈g.el,HasR tl 66 2 x.2 x.1.2.length (x.1.2.flatMap nuC)
 co:s.co=g.co.map (·.1)
 cov:v.xco=g.co.flatMap coV
 cor:∀x∈g.co,CoIn tl x
 lo:s.lo=g.lo.map (·.1)
 lov:v.xlo=g.lo.flatMap loV
 lor:∀x∈g.lo,HasR tl 135 2 x.2 x.1.2.length (x.1.2.flatMap namCells)∧x.1.2.length≤1000
 no:s.no.length≤s.i
 tyn:s.ty.length≤1000
 fu:s.fu.length≤s.i
 ta:s.ta.length≤s.i
 me:s.me.length≤s.i
 gl:s.gl.length≤s.i
 st:s.st.length≤s.i
 eln:s.el.length≤s.i
 con:s.co.length≤s.i
 da:s.da.length≤s.i
 lon:s.lo.length≤s.i
 ex:s.ex.length≤s.i
 fT:s.fT.length≤s.i
 fF:s.fF.length≤s.i
 fG:s.fG.length≤s.i
 kT:s.kT.length≤1000
 kF:s.kF.length≤1000
 kG:s.kG.length≤1000
 kTx:∀x∈s.kT,x.1≤100000
 kFx:∀x∈s.kF,x.1≤100000
 kGx:∀x∈s.kG,x.1≤100000
 fTx:∀x∈s.fT,x.1≤100000
 fFx:∀x∈s.fF,x.1≤100000
 fGx:∀x∈s.fG,x.1≤100000
theorem CoIn.mono {tl tl':List It} {x:CoG} (h:CoIn tl x) (hs:∀p∈tl,p∈tl'):CoIn tl' x:=⟨h.al,h.lo.mono hs,hs _ h.bx,h.row.mono hs,fun y hy=>(h.ins y hy).mono hs,h.len,h.few⟩
theorem AG.mono {g:Gh} {v:VS} {s:MS} {tl tl':List It} (h:AG g v s tl) (hs:∀p∈tl,p∈tl'):AG g v s tl':=
 {h with
  tyr:=fun x hx=>⟨(h.tyr x hx).1.mono hs,(h.tyr x hx).2.1.mono hs,(h.tyr x hx).2.2⟩
  elr:=fun x hx=>(h.elr x hx).mono hs
  cor:=fun x hx=>(h.cor x hx).mono hs
  lor:=fun x hx=>⟨(h.lor x hx).1.mono hs,(h.lor x hx).2⟩}
theorem AG.on {g:Gh} {v v':VS} {s:MS} {tl:List It} (h:AG g v s tl) (hv:VSame v v') {j:Nat} {no:List (Nat×Nat)} (hj:s.i≤j) (hno:no.length≤j):AG g v' {s with i:=j,no:=no} tl:=
 {h with
  tyv:=hv.1.symm.trans h.tyv
  elv:=hv.2.1.symm.trans h.elv
  cov:=hv.2.2.1.symm.trans h.cov
  lov:=hv.2.2.2.symm.trans h.lov
  no:=hno
  fu:=Nat.le_trans h.fu hj,ta:=Nat.le_trans h.ta hj,me:=Nat.le_trans h.me hj,gl:=Nat.le_trans h.gl hj,st:=Nat.le_trans h.st hj,eln:=Nat.le_trans h.eln hj,con:=Nat.le_trans h.con hj,da:=Nat.le_trans h.da hj,lon:=Nat.le_trans h.lon hj,ex:=Nat.le_trans h.ex hj,fT:=Nat.le_trans h.fT hj,fF:=Nat.le_trans h.fF hj,fG:=Nat.le_trans h.fG hj}
theorem VSame.refl (v:VS):VSame v v:=⟨rfl,rfl,rfl,rfl⟩
structure FA (g:Gh) (c:Nat) (v:VS) (vf:VF) (f:Bk) (tl:List It):Prop where
 ag:AG g v f.m tl
 ty20:f.m.ty.length≤20
 al:f.al=vf.gi.map (·.1)
 ins:∀x∈vf.gi,InsIn tl x
 gi:vf.gi.length+c≤f.m.i
 nm:f.nm.length≤f.m.i
 nmx:∀x∈f.nm,x.1≤100000
 lb:f.lb.length≤50
def FF (w0:World) (ab tg cap mw mb fb:Nat) (T:List Tok) (c:Nat) (f:Bk) (X:List It) (w:World):Prop:=f.m.i<T.length∧∃g v vf tl,FA g c v vf f tl∧Sx w0 w (LF ab tg cap mw mb fb T v vf f (X++tl))
theorem FA.mono {g:Gh} {c:Nat} {v:VS} {vf:VF} {f:Bk} {tl tl':List It} (h:FA g c v vf f tl) (hs:∀p∈tl,p∈tl'):FA g c v vf f tl':={h with ag:=h.ag.mono hs,ins:=fun x hx=>(h.ins x hx).mono hs}
theorem FA.on {g:Gh} {c:Nat} {v v':VS} {vf:VF} {f:Bk} {tl:List It} (h:FA g c v vf f tl) (hv:VSame v v') {j:Nat} {no:List (Nat×Nat)} (hj:f.m.i≤j) (hno:no.length≤j):FA g c v' vf {f with m:={f.m with i:=j,no:=no}} tl:=
 ⟨h.ag.on hv hj hno,h.ty20,h.al,h.ins,Nat.le_trans h.gi hj,Nat.le_trans h.nm hj,h.nmx,h.lb⟩
theorem FA.less {g:Gh} {c c':Nat} {v:VS} {vf:VF} {f:Bk} {tl:List It} (h:FA g c v vf f tl) (hc:c'≤c):FA g c' v vf f tl:={h with gi:=by have:=h.gi;omega}
theorem FA.step {g:Gh} {c k:Nat} {v:VS} {vf:VF} {f:Bk} {tl:List It} (h:FA g c v vf f tl) {j:Nat} (hj:f.m.i+k≤j):FA g (c+k) v vf {f with m:={f.m with i:=j}} tl:=by
 have h1:=h.on (VSame.refl v) (j:=j) (no:=f.m.no) (by omega) (by have:=h.ag.no;omega)
 exact {h1 with gi:=by have:=h.gi;show vf.gi.length+(c+k)≤j;omega}
section
variable {w0 w w':World} {ab tg cap mw mb fb:Nat} {T:List Tok} {c:Nat} {v:VS} {vf:VF} {f:Bk} {tl X:List It} {p p2:It}
theorem LF.push (h:Sx w0 w (LF ab tg cap mw mb fb T v vf f (X++tl)++[p])):Sx w0 w (LF ab tg cap mw mb fb T v vf f (p::X++tl)):=by
 refine h.perm ?_
 show List.Perm (_::_::_::_::_::_::_::_::_::_::_::_::_::_::_::_::_::_::_::_::_::_::_::_::_::_::(X++tl++[p])) (_::_::_::_::_::_::_::_::_::_::_::_::_::_::_::_::_::_::_::_::_::_::_::_::_::_::(p::(X++tl)))
 iterate 26 refine List.Perm.cons _ ?_
 exact List.perm_append_singleton p (X++tl)
theorem LF.pop (h:Sx w0 w (LF ab tg cap mw mb fb T v vf f (p::X++tl))):Sx w0 w (LF ab tg cap mw mb fb T v vf f (X++tl)):=by
 refine h.sub ?_
 show List.Sublist (_::_::_::_::_::_::_::_::_::_::_::_::_::_::_::_::_::_::_::_::_::_::_::_::_::_::(X++tl)) (_::_::_::_::_::_::_::_::_::_::_::_::_::_::_::_::_::_::_::_::_::_::_::_::_::_::(p::(X++tl)))
 iterate 26 refine List.Sublist.cons_cons _ ?_
 exact List.Sublist.cons _ (List.Sublist.refl _)
theorem LF.join (h:Sx w0 w (LF ab tg cap mw mb fb T v vf f (p::X++tl))):Sx w0 w (LF ab tg cap mw mb fb T v vf f (X++(p::tl))):=by
 refine h.perm ?_
 show List.Perm (_::_::_::_::_::_::_::_::_::_::_::_::_::_::_::_::_::_::_::_::_::_::_::_::_::_::(p::(X++tl))) (_::_::_::_::_::_::_::_::_::_::_::_::_::_::_::_::_::_::_::_::_::_::_::_::_::_::(X++(p::tl)))
 iterate 26 refine List.Perm.cons _ ?_
 exact List.perm_middle.symm
theorem FF.pop (h:FF w0 ab tg cap mw mb fb T c f (p::X) w):FF w0 ab tg cap mw mb fb T c f X w:=by
 obtain⟨hi,g,v,vf,tl,ha,hS⟩:=h
 exact⟨hi,g,v,vf,tl,ha,LF.pop hS⟩
theorem FF.less {c':Nat} (h:FF w0 ab tg cap mw mb fb T c f X w) (hc:c'≤c):FF w0 ab tg cap mw mb fb T c' f X w:=by
 obtain⟨hi,g,v,vf,tl,ha,hS⟩:=h
 exact⟨hi,g,v,vf,tl,ha.less hc,hS⟩
theorem FF.to (h:FF w0 ab tg cap mw mb fb T c f X w) (hk:Kept (fun _=>False) w w'):FF w0 ab tg cap mw mb fb T c f X w':=by
 obtain⟨hi,g,v,vf,tl,ha,hS⟩:=h
 exact⟨hi,g,v,vf,tl,ha,hS.to hk⟩
theorem FF.new (h:FF w0 ab tg cap mw mb fb T c f X w) (cs:Array Value) (t:TypeId):FF w0 ab tg cap mw mb fb T c f (.b w.heap.size cs.toList::X) (w.alloc (.cells cs t)):=by
 obtain⟨hi,g,v,vf,tl,ha,hS⟩:=h
 exact⟨hi,g,v,vf,tl,ha,LF.push (hS.new cs t)⟩
theorem FF.nilR (h:FF w0 ab tg cap mw mb fb T c f X w) (E:TypeId) (sz:Nat):FF w0 ab tg cap mw mb fb T c f (.r E sz (.slice none 0 0) 0 []::X) w:=by
 obtain⟨hi,g,v,vf,tl,ha,hS⟩:=h
 exact⟨hi,g,v,vf,tl,ha,LF.push (hS.nil E sz)⟩
theorem FF.kept (h:FF w0 ab tg cap mw mb fb T c f X w):Kept (fun _=>False) w0 w:=by
 obtain⟨hi,g,v,vf,tl,ha,hS⟩:=h
 exact hS.kept
end
end
section
open Go.RowKit
def labT (T:List Tok) (lb:List ByteArray) (i:Nat):Except Err (Nat×Nat×List (Nat×Nat)):=match T[i]? with
 | none=>.error (0,0)
 | some t=>if idA t=true then(match outO (idRest t) lb.reverse 0 with | some k=>.ok (k,nx T i,[]) | none=>.ok (0,nx T i,[(9,t.2.1)])) else(match numberM T i with | .ok (n,j)=>.ok (n,j,[]) | .error e=>.error e)
theorem labT_nx {T:List Tok} {lb:List ByteArray} {i:Nat} {x:Nat×Nat×List (Nat×Nat)} (hT:TW T) (h:labT T lb i=.ok x):x.2.1=i+1∧i+1<T.length∧x.2.2.length≤1:=by
 unfold labT at h
 split at h
 ·cases h
 ·rename_i t ht
  split at h
  ·rename_i hid
   have h5:t.1=5:=by unfold idA at hid;simp at hid;exact hid.1.2
   have h1:=hT.nx ht (by omega)
   have h2:=hT.last i t ht (by omega)
   split at h<;>cases h<;>exact⟨h1,h2,by simp⟩
  ·split at h
   ·rename_i hn
    cases h
    have hj:=numberM_nx hn
    unfold numberM at hn
    split at hn
    ·rename_i htk
     obtain⟨h3,h4,h5⟩:=takeT_nx htk
     have h1:=hT.nx h3 (by omega)
     have h2:=hT.last i _ h3 (by omega)
     exact⟨by rw[hj,h1],h2,by simp⟩
    ·cases hn
   ·cases h
section
variable {w0 w:World} {ab tg cap mw mb fb:Nat} {T:List Tok} {v:VS} {vf:VF} {f:Bk} {tl X:List It}
theorem fnLabel_all (h:Sx w0 w (LF ab tg cap mw mb fb T v vf f tl)) (hg:Ge w0) (hT:TT T) (hi:f.m.i<T.length) (hlb:f.lb.length≤1000) (hno:f.m.no.length≤100000):
  Calls Tryz.prog 158 #[.pointer (some ⟨fb,0,none⟩)] w (OutX w0 (labT T f.lb f.m.i) fun x e w'=>e=.returned (.agg #[.int .u32 (x.1:Nat),.int .i64 0])∧∃q,Sx w0 w' (LF ab tg cap mw mb fb T {v with no:=q} vf {f with m:={f.m with i:=x.2.1,no:=f.m.no++x.2.2}} tl)):=by
 obtain⟨t,ht⟩:∃t,T[f.m.i]?=some t:=⟨_,List.getElem?_eq_getElem hi⟩
 have hz:=hT.small t (List.mem_of_getElem? ht)
 cases hid:idA t with
 | false=>
  refine(fnLabel_num (kf:=20) h hg ht hT.len hz hid rfl rfl).mono ?_
  intro e w' h1
  unfold labT
  rw[ht]
  simp only[hid]
  cases hn:numberM T f.m.i with
  | error q=>rw[hn] at h1;exact h1
  | ok y=>
   rw[hn] at h1
   obtain⟨rfl,h1⟩:=h1
   exact⟨rfl,v.no,by simpa using h1⟩
 | true=>
  cases hx:outO (idRest t) f.lb.reverse 0 with
  | none=>
   refine(fnLabel_miss (kf:=20) (kl:=22) (kq:=1) h ht hT.len hz hid rfl rfl rfl rfl hlb hx rfl rfl hno).mono ?_
   rintro e w' ⟨rfl,q,h1⟩
   unfold labT
   rw[ht]
   simp only[hid,if_true,hx]
   refine⟨rfl,q,?_⟩
   have h2:=LA.no_eq (ab:=ab) (tg:=tg) (cap:=cap) (mw:=mw) (mb:=mb) (T:=T) (v:=v) (s:=f.m) (tl:=FT ab fb vf f tl) (j:=nx T f.m.i) (q:=q) (e:=9) (p:=t.2.1) rfl
   exact(congrArg (Sx w0 w') h2).mp h1
  | some k=>
   refine(fnLabel_hit (kf:=20) (kl:=22) h ht hT.len hz hid rfl rfl rfl rfl hlb hx).mono ?_
   rintro e w' ⟨rfl,h1⟩
   unfold labT
   rw[ht]
   simp only[hid,if_true,hx]
   exact⟨rfl,v.no,by simpa using h1⟩
theorem fnPut_FF {c:Nat} {x:InsT} {gv lv:Value} (hgv:gv.oneCell'=true) (hlv:lv.oneCell'=true) (hfew:T.length≤1000)
  (h:FF w0 ab tg cap mw mb fb T (c+1) f (.r 73 1 gv x.gives.length (kindCells x.gives)::.r 66 2 lv x.labels.length (x.labels.flatMap nuC)::X) w):
  Calls Tryz.prog 116 #[.pointer (some ⟨fb,0,none⟩),.agg (insV (x,gv,lv)).toArray] w (fun e w'=>e=.returned (.tuple #[])∧FF w0 ab tg cap mw mb fb T c {f with al:=f.al++[x]} X w'):=by
 obtain⟨hi,g,v,vf,tl,ha,hS⟩:=h
 have hgi:=ha.gi
 refine(fnPut_any (kf:=22) (ka:=25) (.int .i64 0) (.int .i64 0) (.int .u8 (x.word:Nat)) (.bool x.typed) gv (.int .u32 x.align) (.int .u32 x.num) (.int .i64 0) lv (.int .i64 x.value) ?_ hS rfl rfl rfl (by omega)).mono ?_
 ·intro u hu
  simp only[List.mem_cons,List.not_mem_nil,or_false] at hu
  rcases hu with rfl | rfl | rfl | rfl | rfl | rfl | rfl | rfl | rfl | rfl<;>first | rfl | assumption
 rintro e w' ⟨rfl,vA',h1⟩
 refine⟨rfl,hi,g,v,{vf with a:=vA',gi:=vf.gi++[(x,gv,lv)]},.r 66 2 lv x.labels.length (x.labels.flatMap nuC)::.r 73 1 gv x.gives.length (kindCells x.gives)::tl,?_,?_⟩
 ·have hm:∀p∈tl,p∈(It.r 66 2 lv x.labels.length (x.labels.flatMap nuC)::It.r 73 1 gv x.gives.length (kindCells x.gives)::tl):=fun p hp=>List.mem_cons_of_mem _ (List.mem_cons_of_mem _ hp)
  have h2:=ha.mono hm
  refine⟨h2.ag,h2.ty20,by simp[ha.al],?_,?_,h2.nm,h2.nmx,h2.lb⟩
  ·intro y hy
   rcases List.mem_append.1 hy with hy | hy
   ·exact h2.ins y hy
   ·cases List.mem_singleton.1 hy
    exact⟨.inr (by simp),.inr (by simp)⟩
  ·simp only[List.length_append,List.length_singleton]
   show vf.gi.length+1+c≤f.m.i
   omega
 ·refine LF.join (LF.join ?_)
  simpa [LF,LA,AL,RA,ZA,FT,insV] using h1
end
end
section
open Go.RowKit
set_option linter.unusedVariables false
def tyIx (x:List Nat×List Nat):List (List Nat×List Nat)→Nat→Option Nat
 | [],_=>none
 | y::l,k=>if y=x then some k else tyIx x l (k+1)
theorem tyIx_some {x:List Nat×List Nat}:∀{l:List (List Nat×List Nat)} {k n:Nat},tyIx x l k=some n→∃m,n=k+m∧l[m]?=some x∧∀j,j<m→l[j]?≠some x
 | [],_,_,h=>by cases h
 | y::l,k,n,h=>by
  unfold tyIx at h
  split at h
  ·rename_i e
   cases h
   exact⟨0,rfl,by simp[e],fun j hj=>by omega⟩
  ·rename_i e
   obtain⟨m,h1,h2,h3⟩:=tyIx_some h
   refine⟨m+1,by omega,by simpa using h2,fun j hj=>?_⟩
   cases j with
   | zero=>simpa using e
   | succ j=>simpa using h3 j (by omega)
theorem tyIx_none {x:List Nat×List Nat}:∀{l:List (List Nat×List Nat)} {k:Nat},tyIx x l k=none→x∉l
 | [],_,_=>by simp
 | y::l,k,h=>by
  unfold tyIx at h
  split at h
  ·cases h
  ·rename_i e
   have:=tyIx_none h
   simp only[List.mem_cons,not_or]
   exact⟨fun c=>e c.symm,this⟩
def tixT (T:List Tok) (s:MS) (x:List Nat×List Nat):Except Err (Nat×MS):=match tyIx x s.ty 0 with
 | some n=>.ok (n,s)
 | none=>if s.ty.length=20 then .error (7,(T[s.i]?.getD (0,0,⟨#[]⟩)).2.1) else .ok (s.ty.length,{s with ty:=s.ty++[x]})
section
variable {w0 w:World} {ab tg cap mw mb fb:Nat} {T:List Tok} {c:Nat} {f:Bk} {X:List It}
theorem typeIndex_toldF (h:FF w0 ab tg cap mw mb fb T c f X w) (a b:Value) (k:Nat):Calls Tryz.prog 113 #[.pointer (some ⟨ab,0,none⟩),.agg #[a,b,.bool true,.int .u32 (k:Nat)]] w (fun e w'=>e=.returned (.int .u32 (k:Nat))∧FF w0 ab tg cap mw mb fb T c f X w'):=by
 obtain⟨hi,g,v,vf,tl,ha,hS⟩:=h
 refine(typeIndex_told hS a b k).mono ?_
 rintro e w' ⟨rfl,h1⟩
 exact⟨rfl,hi,g,v,vf,tl,ha,h1⟩
theorem AG.TyR {g:Gh} {v:VS} {s:MS} {tl l:List It} (h:AG g v s tl) (hS:Sx w0 w l) (hs:∀p∈tl,p∈l):TyR w (g.ty.map (·.2)) s.ty:=by
 rw[h.ty]
 refine⟨by simp,fun k a b ha hb=>?_⟩
 simp only[List.getElem?_map,Option.map_eq_some_iff] at ha hb
 obtain⟨x,hx,rfl⟩:=ha
 obtain⟨y,hy,rfl⟩:=hb
 obtain rfl:x=y:=by rw[hx] at hy;exact Option.some.inj hy
 obtain⟨h1,h2,h3⟩:=h.tyr x (List.mem_of_getElem? hx)
 exact⟨(h1.row hS hs).mono (fun _ _ _=>trivial),(h2.row hS hs).mono (fun _ _ _=>trivial),h3⟩
theorem typeIndex_L {g:Gh} {v:VS} {vf:VF} {tl:List It} {va vb:Value} {a b:List Nat} (hab:a.length≤50∧b.length≤50) (hi:f.m.i<T.length) (ha:FA g c v vf f tl)
  (hS:Sx w0 w (LF ab tg cap mw mb fb T v vf f (.r 73 1 va a.length (kindCells a)::.r 73 1 vb b.length (kindCells b)::X++tl))):
  Calls Tryz.prog 113 #[.pointer (some ⟨ab,0,none⟩),.agg #[va,vb,.bool false,.int .u32 0]] w (OutX w0 (tixT T f.m (a,b)) fun x e w'=>e=.returned (.int .u32 (x.1:Nat))∧∃g' v' tl',v'.fu=v.fu∧FA g' c v' vf {f with m:=x.2} tl'∧Sx w0 w' (LF ab tg cap mw mb fb T v' vf {f with m:=x.2} (X++tl'))):=by
 obtain⟨t,ht⟩:∃t,T[f.m.i]?=some t:=⟨_,List.getElem?_eq_getElem hi⟩
 have hTy:=ha.ag.TyR hS (fun p hp=>by simp[hp])
 have hr1:Row (fun _=>True) w 73 1 va a.length (kindCells a):=(hS.isRow 26 rfl).mono (fun _ _ _=>trivial)
 have hr2:Row (fun _=>True) w 73 1 vb b.length (kindCells b):=(hS.isRow 27 rfl).mono (fun _ _ _=>trivial)
 have e1:f.m.ty.length=(g.ty.map (·.2)).length:=by rw[ha.ag.ty];simp
 have e2:v.xty=(g.ty.map (·.2)).flatMap tyvC:=by rw[ha.ag.tyv,List.flatMap_map]
 have hrow:(AL ab tg cap T f.m.i (ZA mw mb v) (RA mw mb v f.m (FT ab fb vf f (.r 73 1 va a.length (kindCells a)::.r 73 1 vb b.length (kindCells b)::X++tl))))[11]?=some (.r 47 2 v.ty (g.ty.map (·.2)).length ((g.ty.map (·.2)).flatMap tyvC)):=by
  rw[←e1,←e2];rfl
 unfold tixT
 cases hx:tyIx (a,b) f.m.ty 0 with
 | some n=>
  obtain⟨m,hm,h2,h3⟩:=tyIx_some hx
  obtain rfl:n=m:=by omega
  refine(typeIndex_old (km:=10) hS rfl rfl rfl hrow hTy (by rw[←e1];exact ha.ty20) hr1 hr2 h2 h3).mono ?_
  rintro e w' ⟨rfl,h4⟩
  exact⟨rfl,g,v,tl,rfl,ha,LF.pop (LF.pop (X:=.r 73 1 vb b.length (kindCells b)::X) h4)⟩
 | none=>
  have hno:=tyIx_none hx
  by_cases h20:f.m.ty.length=20
  ·refine(typeIndex_full (km:=10) hS rfl rfl rfl hrow hTy (by rw[←e1];exact h20) hr1 hr2 hno ht).mono ?_
   intro e w' h4
   rw[if_pos h20,ht]
   exact h4
  ·have hlt:f.m.ty.length<20:=by have:=ha.ty20;omega
   refine(typeIndex_new (km:=10) hS rfl rfl rfl hrow hTy (by rw[←e1];exact hlt) hr1 hr2 hno (by decide)).mono ?_
   rintro e w' ⟨rfl,vT',h4⟩
   rw[if_neg h20]
   refine⟨by rw[e1],{g with ty:=g.ty++[((a,b),(va,vb))]},{v with ty:=vT',xty:=(g.ty.map (·.2)++[(va,vb)]).flatMap tyvC},.r 73 1 vb b.length (kindCells b)::.r 73 1 va a.length (kindCells a)::tl,rfl,?_,?_⟩
   ·have hm:∀p∈tl,p∈(It.r 73 1 vb b.length (kindCells b)::It.r 73 1 va a.length (kindCells a)::tl):=fun p hp=>List.mem_cons_of_mem _ (List.mem_cons_of_mem _ hp)
    have h5:=ha.mono hm
    refine⟨{h5.ag with ty:=by simp[h5.ag.ty],tyv:=by simp[List.flatMap_map],tyr:=?_,tyn:=by simp only[List.length_append,List.length_singleton];omega},by simp only[List.length_append,List.length_singleton];omega,h5.al,h5.ins,h5.gi,h5.nm,h5.nmx,h5.lb⟩
    intro x hx
    rcases List.mem_append.1 hx with hx | hx
    ·exact h5.ag.tyr x hx
    ·cases List.mem_singleton.1 hx
     exact⟨.inr (by simp),.inr (by simp),hab⟩
   ·refine LF.join (LF.join ?_)
    have e3:f.m.ty.length+1=(g.ty.map (·.2)++[(va,vb)]).length:=by rw[e1];simp
    have h6:Sx w0 w' (LF ab tg cap mw mb fb T {v with ty:=vT',xty:=(g.ty.map (·.2)++[(va,vb)]).flatMap tyvC} vf {f with m:={f.m with ty:=f.m.ty++[(a,b)]}} (.r 73 1 va a.length (kindCells a)::.r 73 1 vb b.length (kindCells b)::X++tl)):=by
     have e4:(f.m.ty++[(a,b)]).length=(g.ty.map (·.2)++[(va,vb)]).length:=by rw[←e3];simp
     simp only[LF,LA,RA,e4]
     exact h4
    exact h6
theorem typeIndex_F {va vb:Value} {a b:List Nat} (hab:a.length≤50∧b.length≤50) (hl:T.length≤100000) (h1a:va.oneCell'=true) (h1b:vb.oneCell'=true)
  (h:FF w0 ab tg cap mw mb fb T c f (.r 73 1 va a.length (kindCells a)::.r 73 1 vb b.length (kindCells b)::X) w):
  Calls Tryz.prog 113 #[.pointer (some ⟨ab,0,none⟩),.agg #[va,vb,.bool false,.int .u32 0]] w (OutX w0 (tixT T f.m (a,b)) fun x e w'=>e=.returned (.int .u32 (x.1:Nat))∧FF w0 ab tg cap mw mb fb T c {f with m:=x.2} X w'):=by
 obtain⟨hi,g,v,vf,tl,ha,hS⟩:=h
 refine(typeIndex_L hab hi ha hS).mono ?_
 intro e w' h1
 cases hx:tixT T f.m (a,b) with
 | error q=>rw[hx] at h1;exact h1
 | ok x=>
  rw[hx] at h1
  obtain⟨rfl,g',v',tl',-,ha',hS'⟩:=h1
  have hi':x.2.i=f.m.i:=by
   unfold tixT at hx
   split at hx
   ·cases hx;rfl
   ·split at hx
    ·cases hx
    ·cases hx;rfl
  exact⟨rfl,by show x.2.i<T.length;omega,g',v',vf,tl',ha',hS'⟩
end
end
end Go.Proofs.YtkmofapihggjgaaGreatDoor
