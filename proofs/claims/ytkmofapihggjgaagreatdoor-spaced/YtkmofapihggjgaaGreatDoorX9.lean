import Derived.Deep.LoopGhost
import Derived.Test.YtkmofapihggjgaaGreatDoorX8
namespace Go.Proofs.YtkmofapihggjgaaGreatDoor
section
open Go.RowKit
structure TW (T:List Tok):Prop extends TT T where
 few:T.length≤1000
 exF:∀i t,T[i]?=some t→t.1=4→t.2.2.size≤20∧allExp t.2.2 0=true∧∃t2 t3 t4 t5,(T[i+1]?=some t2∧t2.1=2)∧(T[i+2]?=some t3∧t3.1=5∧t3.2.2=⟨#[102,117,110,99]⟩)∧(T[i+3]?=some t4∧idA t4=true)∧T[i+4]?=some t5∧t5.1=3
 last:∀i t,T[i]?=some t→t.1≠1→i+1<T.length
theorem TW.nx {T:List Tok} (h:TW T) {i:Nat} {t:Tok} (ht:T[i]?=some t) (h1:t.1≠1):nx T i=i+1:=by
 have:=h.last i t ht h1
 unfold Go.Proofs.YtkmofapihggjgaaGreatDoor.nx
 omega
theorem indexT_nx {T:List Tok} {ns:List Nam} {i:Nat} {x:(Nat×Bool)×Nat×List (Nat×Nat)} (h:indexT T ns i=.ok x):x.2.1=nx T i∧x.2.2.length≤1:=by
 unfold indexT at h
 split at h
 ·cases h
 ·split at h
  ·split at h<;>cases h<;>simp
  ·split at h
   ·rename_i hn
    cases h
    exact⟨numberM_nx hn,by simp⟩
   ·cases h
def elemL (T:List Tok) (kF:List Nam):Nat→Nat→List (Nat×Nat)→List Nat→Except Err (List Nat×Nat×List (Nat×Nat))
 | 0,_,_,_=>.error (0,0)
 | k+1,j,no,fs=>match T[j]? with
  | none=>.error (0,0)
  | some t=>if t.1=5 then(if fs.length=20 then .error (7,t.2.1) else match indexT T kF j with
    | .error e=>.error e
    | .ok (x,j',ns)=>elemL T kF k j' (no++ns) (fs++[x.1]))
   else .ok (fs,j,no)
def elemT (T:List Tok) (s:MS):Except Err ((Cst×List Nat)×MS):=match constT T s.i with
 | .error e=>.error e
 | .ok (c,j)=>match elemL T s.kF (T.length - j) j s.no [] with
  | .error e=>.error e
  | .ok (fs,j',no)=>.ok ((c,fs),{s with i:=j',no:=no,el:=s.el++[(c,fs)]})
def exportT (T:List Tok) (s:MS):Except Err MS:=match T[s.i]? with
 | none=>.error (0,0)
 | some t=>if t.1=4 then(match indexT T s.kF (s.i+3) with
   | .error e=>.error e
   | .ok (x,j,ns)=>.ok {s with i:=nx T j,no:=s.no++ns,ex:=s.ex++[(t.2.2,0,x.1)]})
  else .error (7,t.2.1)
theorem get3 (l:List It) (x y z:It):(l++[x]++[y]++[z])[l.length]?=some x:=by simp
theorem set3 (l:List It) (x x' y z:It):(l++[x]++[y]++[z]).set l.length x'=l++[x']++[y]++[z]:=by simp
section
variable {w0 w:World} {ab tg cap mw mb:Nat} {T:List Tok} {v:VS} {s:MS} {tl:List It}
set_option maxRecDepth 100000 in
theorem asExport_no {t:Tok} (h:Sx w0 w (LA ab tg cap mw mb T v s tl)) (ht:T[s.i]?=some t) (h4:t.1≠4):
  Calls Tryz.prog 94 #[.pointer (some ⟨ab,0,none⟩)] w (OutX w0 (exportT T s) (ItemV w0 ab tg cap mw mb T v tl)):=by
 have H:=hide h
 have HT:=hide ht
 have H4:=hide h4
 clear h ht h4
 go_enter Tryz.func94,Tryz.ntmps94
 go_wp2_with fail
 refine(tTake_bad H.out HT.out (q:=4) H4.out).mono ?_
 rintro e w2 ⟨rfl,k2⟩
 exact⟨rfl,OutX.err_mk (by unfold exportT;rw[HT.out];simp only[H4.out,if_false]) ⟨rfl,k2⟩⟩
theorem asExport_all (h:Sx w0 w (LA ab tg cap mw mb T v s tl)) (hg:Ge w0) (hT:TW T) (hi:s.i<T.length) (hn:s.kF.length≤1000) (hk:∀x∈s.kF,x.1≤100000) (hno:s.no.length≤100000) (hex:s.ex.length≤1000):
  Calls Tryz.prog 94 #[.pointer (some ⟨ab,0,none⟩)] w (OutX w0 (exportT T s) (ItemV w0 ab tg cap mw mb T v tl)):=by
 obtain⟨t,ht⟩:∃t,T[s.i]?=some t:=⟨_,List.getElem?_eq_getElem hi⟩
 by_cases h4:t.1=4
 ·obtain⟨hs,hal,t2,t3,t4,t5,⟨ht2,h2⟩,⟨ht3,h3,hw3⟩,⟨ht4,hid⟩,ht5,h5⟩:=hT.exF s.i t ht h4
  have e1:=hT.nx ht (by omega)
  have e2:=hT.nx ht2 (by omega)
  have e3:=hT.nx ht3 (by omega)
  have h45:t4.1=5:=by unfold idA at hid;simp at hid;exact hid.1.2
  have e4:=hT.nx ht4 (by omega)
  obtain⟨x,hx⟩:∃x,indexT T s.kF (s.i+3)=.ok x:=by
   unfold indexT
   rw[ht4]
   simp only[hid,if_true]
   split<;>exact⟨_,rfl⟩
  obtain⟨⟨k,bb⟩,j,ns⟩:=x
  have hj:j=s.i+4:=(indexT_nx hx).1.trans e4
  subst hj
  refine(asExport_any (X:=Value) (z':=fun q=>ZA mw mb {v with no:=q}) (r':=fun q=>RA mw mb {v with no:=q} {s with i:=s.i+4,no:=s.no++ns} tl) (j:=s.i+4) (k:=k) (mb:=mb) (km:=8) (ke:=19) (mcs:=[v.ty,v.fu,v.ta,v.me,v.gl,v.ex,v.st,v.el,v.co,v.da,v.nf,v.lo]) (n:=s.ex.length) (xs:=s.ex.flatMap exC) (vE:=v.ex) h ht hT.len h4 hs hal (by rw[e1];exact ht2) h2 ?_ ht5 h5 (fun _=>rfl) (fun _=>rfl) rfl (fun _=>rfl) hex).mono ?_
  ·intro q w hq
   rw[e1,e2] at hq
   refine(asExported_func (X:=Value) (i:=s.i+2) (r:=RA mw mb v s tl++q) (L1:=fun q'=>AL ab tg cap T (s.i+4) (ZA mw mb {v with no:=q'}) (RA mw mb {v with no:=q'} {s with i:=s.i+4,no:=s.no++ns} tl)++q) (k:=k) (bb:=bb) (v:=v.kF) hq ht3 hT.len h3 hw3 rfl ?_).mono ?_
   ·intro r' w hr
    rw[e3] at hr
    refine(asIndex_all (kr:=3) (v:=v) (s:={s with i:=s.i+3}) (tl:=tl++q++r') hr hg hT.toTT (List.getElem?_eq_some_iff.1 ht4).1 rfl hn hk hno).mono ?_
    intro e w' h6
    change OutX w0 (indexT T s.kF (s.i+3)) _ e w' at h6
    rw[hx] at h6
    obtain⟨rfl,q',h6⟩:=h6
    exact⟨q',rfl,h6⟩
   ·rintro e w' ⟨q',rfl,h6⟩
    exact⟨q',rfl,h6⟩
  ·rintro e w' ⟨rfl,q,vE',h6⟩
   refine OutX.ok_mk (x:={s with i:=nx T (s.i+4),no:=s.no++ns,ex:=s.ex++[(t.2.2,0,k)]}) (by unfold exportT;rw[ht];simp only[h4,if_true,hx]) ⟨rfl,{v with no:=q,ex:=vE'},⟨rfl,rfl,rfl,rfl⟩,?_⟩
   simpa [LA,AL,RA,ZA,exC] using h6
 ·exact asExport_no h ht h4
def ElemV (w0:World) (ab tg cap mw mb:Nat) (T:List Tok) (v0:VS) (tl:List It) (x:(Cst×List Nat)×MS) (e:Ending) (w':World):Prop:=e=.returned (.tuple #[])∧∃v vf,v.xty=v0.xty∧v.xel=v0.xel++[.int .i64 0,.int .i64 (x.1.1.at_:Nat),.int .u8 (x.1.1.kind:Nat),.int .i64 x.1.1.val,vf]∧v.xco=v0.xco∧v.xlo=v0.xlo∧Sx w0 w' (LA ab tg cap mw mb T v x.2 (tl++[.r 66 2 vf x.1.2.length (x.1.2.flatMap nuC)]))
set_option maxRecDepth 100000 in
set_option maxHeartbeats 6400000 in
theorem asElement_all (h:Sx w0 w (LA ab tg cap mw mb T v s tl)) (hg:Ge w0) (hT:TW T) (hi:s.i<T.length) (hn:s.kF.length≤1000) (hk:∀x∈s.kF,x.1≤100000) (hno:s.no.length≤50000) (hel:s.el.length≤1000):
  Calls Tryz.prog 96 #[.pointer (some ⟨ab,0,none⟩)] w (OutX w0 (elemT T s) (ElemV w0 ab tg cap mw mb T v tl)):=by
 obtain⟨i0,hi0,hz0,hz1,hz2⟩:=info_parts Tryz.info86
 obtain⟨i1,hi1,hy0,hy1,hy2⟩:=info_parts Tryz.info66'
 have hff:=tokF
 have te:∀u:Tok,tokV u=.agg #[.int .u8 (u.1:Nat),.int .i64 (u.2.1:Nat),.string u.2.2]:=fun _=>rfl
 have H:=hide h
 have HG:=hide hg
 have HI:=hide hi
 have HK:=hide hk
 clear h hg hi hk
 go_enter Tryz.func96,Tryz.ntmps96
 go_wp2_with fail
 refine(asConstant_all (km:=0) H.out HG.out hT.toTT HI.out rfl rfl).mono ?_
 intro e w1 h1
 cases hx:constT T s.i with
 | error q=>
  rw[hx] at h1
  obtain⟨rfl,hk⟩:=h1
  exact⟨rfl,OutX.err_mk (by unfold elemT;rw[hx]) ⟨rfl,hk⟩⟩
 | ok x=>
 obtain⟨c,j⟩:=x
 have hj:=constT_lt HI.out hx
 rw[hx] at h1
 obtain⟨rfl,h1⟩:=h1
 have HM:Hid (elemT T s=match elemL T s.kF (T.length - j) j s.no [] with
  | .error e=>.error e
  | .ok (fs,j',no)=>.ok ((c,fs),{s with i:=j',no:=no,el:=s.el++[(c,fs)]})):=by show _=_;unfold elemT;rw[hx]
 simp only at h1 ⊢
 have h1':Sx w0 w1 (LA ab tg cap mw mb T {v with no:=v.no} {s with i:=j,no:=s.no} tl):=h1
 have h2:=(h1'.nil 66 2).new #[.int .i64 0,.int .i64 (c.at_:Nat),.int .u8 (c.kind:Nat),.int .i64 c.val,.slice none 0 0] 86
 have H2:=hide h2
 have HJ:=hide hj
 clear h1 h1' h2 H hx hj
 go_wp2_with fail
 generalize w1.alloc (.cells #[.int .i64 0,.int .i64 (c.at_:Nat),.int .u8 (c.kind:Nat),.int .i64 c.val,.slice none 0 0] 86)=w2 at*
 generalize w1.heap.size=ub at*
 go_loopg [] (T.length - j) (fun k wr=>∃(j2:Nat) (no:List (Nat×Nat)) (fs:List Nat) (vf q:Value),k=T.length - j2∧j2<T.length∧fs.length≤20∧no.length≤s.no.length+fs.length∧elemL T s.kF (T.length - j) j s.no []=elemL T s.kF k j2 no fs∧Sx w0 wr (LA ab tg cap mw mb T {v with no:=q} {s with i:=j2,no:=no} tl++[.r 66 2 vf fs.length (fs.flatMap nuC)]++[.b ub [.int .i64 0,.int .i64 (c.at_:Nat),.int .u8 (c.kind:Nat),.int .i64 c.val,vf]]))
 case atStart=>exact⟨j,s.no,[],_,v.no,rfl,HJ.out,by simp,by simp,rfl,H2.out⟩
 case round=>
  obtain⟨j2,no,fs,vf,q,hk2,hj2,hf2,hno2,hL,hS⟩:=hrel
  obtain⟨t,ht⟩:∃t,T[j2]?=some t:=⟨_,List.getElem?_eq_getElem hj2⟩
  obtain⟨k',rfl⟩:∃k',gk=k'+1:=⟨gk - 1,by omega⟩
  have HT:=hide ht
  have HL:=hide hL
  have HB:Hid (k'+1=T.length - j2∧j2<T.length):=⟨hk2,hj2⟩
  have HS:=hide hS
  clear hk2 hj2 hL hS ht H2
  go_wp2_with fail
  refine(tPeek_any (r:=RA mw mb {v with no:=q} {s with i:=j2,no:=no} tl++[.r 66 2 vf fs.length (fs.flatMap nuC)]++[.b ub [.int .i64 0,.int .i64 (c.at_:Nat),.int .u8 (c.kind:Nat),.int .i64 c.val,vf]]) HS.out HT.out).mono ?_
  rintro e w3 ⟨rfl,h3⟩
  rw[te]
  have h3':Sx w0 w3 (LA ab tg cap mw mb T {v with no:=q} {s with i:=j2,no:=no} tl++[.r 66 2 vf fs.length (fs.flatMap nuC)]++[.b ub [.int .i64 0,.int .i64 (c.at_:Nat),.int .u8 (c.kind:Nat),.int .i64 c.val,vf]]):=h3
  clear h3 HS
  by_cases h5:t.1=5
  ·have t5:((t.1:Int)==5)=true:=by rw[h5];rfl
   have H5:=hide h5
   clear h5
   obtain⟨pf,cf,rfl⟩:=Row.shape (h3'.left.isRow _ List.getElem?_concat_length)
   obtain⟨a4,-⟩:=h3'.cL 4
   have lu:=h3'.ltL
   by_cases h20:fs.length=20
   ·have t20:((fs.length:Int)==20)=true:=by rw[h20];rfl
    have H20:=hide h20
    have H3:=hide h3'
    clear h20 h3'
    go_wp2_with fail
    refine(tPeek_any (r:=RA mw mb {v with no:=q} {s with i:=j2,no:=no} tl++[.r 66 2 (.slice pf fs.length cf) fs.length (fs.flatMap nuC)]++[.b ub [.int .i64 0,.int .i64 (c.at_:Nat),.int .u8 (c.kind:Nat),.int .i64 c.val,.slice pf fs.length cf]]) H3.out HT.out).mono ?_
    rintro e w4 ⟨rfl,h4⟩
    have K4:=hide h4.kept
    clear h4 H3
    go_wp2_with fail
    refine(tkRefuse_any t _).mono ?_
    rintro e w5 ⟨rfl,k5⟩
    exact⟨rfl,OutX.err_mk (x:=(7,t.2.1)) (by rw[HM.out,HL.out];unfold elemL;simp only[HT.out,H5.out,H20.out,if_true]) ⟨rfl,K4.out.trans k5⟩⟩
   ·have t20:((fs.length:Int)==20)=false:=by simp;omega
    obtain⟨a5,-⟩:=h3'.c 0 4 (v:=v.kF) rfl rfl
    have l0:=h3'.lt 0 rfl
    have H3:=hide h3'
    have H20:=hide h20
    clear h20 h3'
    go_wp2_with fail
    refine(asIndex_all (kr:=3) (v:={v with no:=q}) (s:={s with i:=j2,no:=no}) (tl:=tl++[.r 66 2 (.slice pf fs.length cf) fs.length (fs.flatMap nuC)]++[.b ub [.int .i64 0,.int .i64 (c.at_:Nat),.int .u8 (c.kind:Nat),.int .i64 c.val,.slice pf fs.length cf]]) H3.out HG.out hT.toTT HB.out.2 rfl hn HK.out (by show no.length≤100000;omega)).mono ?_
    intro e w4 h4
    change OutX w0 (indexT T s.kF j2) _ e w4 at h4
    cases hx:indexT T s.kF j2 with
    | error qq=>
     rw[hx] at h4
     obtain⟨rfl,hk⟩:=h4
     exact⟨rfl,OutX.err_mk (by rw[HM.out,HL.out];unfold elemL;simp only[HT.out,H5.out,H20.out,if_true,if_false,hx]) ⟨rfl,hk⟩⟩
    | ok x=>
    obtain⟨⟨n,b⟩,j3,ns⟩:=x
    obtain⟨hj3,hns⟩:=indexT_nx hx
    rw[hx] at h4
    obtain⟨rfl,q2,h4⟩:=h4
    simp only at h4 hj3 hns ⊢
    have h4':Sx w0 w4 (LA ab tg cap mw mb T {v with no:=q2} {s with i:=j3,no:=no++ns} tl++[.r 66 2 (.slice pf fs.length cf) fs.length (fs.flatMap nuC)]++[.b ub [.int .i64 0,.int .i64 (c.at_:Nat),.int .u8 (c.kind:Nat),.int .i64 c.val,.slice pf fs.length cf]]):=h4
    have HL':Hid (elemL T s.kF (T.length - j) j s.no []=elemL T s.kF k' j3 (no++ns) (fs++[n])):=by
     show _=_
     rw[HL.out]
     conv=>lhs;unfold elemL
     simp only[HT.out,H5.out,H20.out,if_true,if_false,hx]
    have hjn:=hT.nx HT.out (by rw[H5.out];decide)
    have HB':Hid (k'=T.length - j3∧j3<T.length∧(fs++[n]).length≤20∧(no++ns).length≤s.no.length+(fs++[n]).length):=by
     have hb:=HB.out
     have h20:=H20.out
     have hl5:=hT.last j2 t HT.out (by rw[H5.out];decide)
     simp only[List.length_append,List.length_singleton]
     exact⟨by omega,by omega,by omega,by omega⟩
    have h5:=h4'.new #[.int .u32 (n:Nat),.int .i64 0] 66
    obtain⟨b4,e4⟩:=h5.left.cL 4
    obtain⟨c0,-⟩:=h5.cL 0
    obtain⟨c1,-⟩:=h5.cL 1
    have lub:=h5.left.ltL
    have lnb:=h5.ltL
    have HOwn:=hide ((h5.row _ (get3 _ _ _ _)).alloc (.cells #[.int .u32 (n:Nat),.int .i64 0] 66))
    have HA:=hide (h5.alloc (.cells #[.int .u32 (n:Nat),.int .i64 0] 66))
    clear h4 h4' h5 hx H3 HL HB a4 a5 l0 lu hj3 hns hjn
    go_wp2_with (at_builtin;refine wpList_append_lies _ rfl _ _ 49 rfl w0.heap.size 66 i1 (.agg #[.int .u32 0,.int .i64 0]) 2 16 (by kernel_rfl) hi1 hy0 hy1 hy2 rfl (by decide) _ _ _ rfl HOwn.out ⟨_,0,none⟩ 1 1 [_,_] rfl rfl (cells_at (by simp) rfl) ?c2 (by omega) ?c3 ?c4 ?c5 (w4.heap.size+2) (by simp) ?_)
    case c2=>exact⟨rfl,rfl⟩
    case c3=>unfold maxLen;omega
    case c4=>omega
    case c5=>have:=HA.out.kept.size;simp at this ⊢;omega
    intro gg cp w6 hown hgrow hat hlt6
    have h6:=HA.out.app _ hown hgrow (hat.imp id (fun e=>by rw[e];simp)) (get3 _ _ _ _)
    rw[set3] at h6
    obtain⟨d4,f4⟩:=h6.left.cL 4
    have lub6:=h6.left.ltL
    have h7:=(h6.left.setL 4 (.slice (some ⟨gg,0,none⟩) (fs.length+1) cp))
    have H7:Hid (Sx w0 _ (LA ab tg cap mw mb T {v with no:=q2} {s with i:=j3,no:=no++ns} tl++[.r 66 2 (.slice (some ⟨gg,0,none⟩) (fs.length+1) cp) (fs.length+1) (fs.flatMap nuC++[.int .u32 (n:Nat),.int .i64 0])]++[.b ub [.int .i64 0,.int .i64 (c.at_:Nat),.int .u8 (c.kind:Nat),.int .i64 c.val,.slice (some ⟨gg,0,none⟩) (fs.length+1) cp]])):=h7
    clear h6 h7 hown hgrow hat hlt6 HA HOwn b4 e4 c0 c1 lub lnb
    go_wp2
    go_roundg k'
    case measure=>omega
    case rel=>
     refine⟨j3,no++ns,fs++[n],.slice (some ⟨gg,0,none⟩) (fs.length+1) cp,q2,HB'.out.1,HB'.out.2.1,HB'.out.2.2.1,HB'.out.2.2.2,HL'.out,?_⟩
     simpa [nuC] using H7.out
  ·have t5:((t.1:Int)==5)=false:=by simp;omega
   have HM':Hid (elemT T s=.ok ((c,fs),{s with i:=j2,no:=no,el:=s.el++[(c,fs)]})):=by
    show _=_
    rw[HM.out,HL.out]
    unfold elemL
    simp only[HT.out,h5,if_false]
   rw[show({s with i:=j2,no:=no,el:=s.el++[(c,fs)]}:MS)={({s with i:=j2,no:=no}:MS) with el:=({s with i:=j2,no:=no}:MS).el++[(c,fs)]} from rfl] at HM'
   have hel':({s with i:=j2,no:=no}:MS).el.length≤1000:=hel
   obtain⟨tl',htl⟩:∃tl',tl'=tl++[.r 66 2 vf fs.length (fs.flatMap nuC)]:=⟨_,rfl⟩
   have h4:Sx w0 w3 (LA ab tg cap mw mb T {v with no:=q} {s with i:=j2,no:=no} tl'++[.b ub [.int .i64 0,.int .i64 (c.at_:Nat),.int .u8 (c.kind:Nat),.int .i64 c.val,vf]]):=by rw[htl];exact h3'
   have HV:Hid (({v with no:=q}:VS).xty=v.xty∧({v with no:=q}:VS).xel=v.xel∧({v with no:=q}:VS).xco=v.xco∧({v with no:=q}:VS).xlo=v.xlo):=⟨rfl,rfl,rfl,rfl⟩
   have hvf:vf.oneCell'=true:=by
    obtain⟨pf,cf,e⟩:=Row.shape (h3'.left.isRow _ List.getElem?_concat_length)
    rw[e];rfl
   have HTL:=hide htl
   have H9:=hide h4
   clear h5 h3' HL HM h4 htl HT HB hf2 hno2
   generalize ({s with i:=j2,no:=no}:MS)=s1 at*
   generalize ({v with no:=q}:VS)=v1 at*
   go_wp2_with fail
   generalize w3=w5 at*
   obtain⟨pE,cE,hE⟩:=Row.shape (H9.out.isRow 17 rfl)
   have hS:∀V:World,Sx w0 V (LA ab tg cap mw mb T v1 s1 tl'++[.b ub [.int .i64 0,.int .i64 (c.at_:Nat),.int .u8 (c.kind:Nat),.int .i64 c.val,vf]])→(fun V:World=>V.cell? ⟨ab,9,none⟩=some (.pointer (some ⟨mb,0,none⟩))∧V.cell? ⟨mb,7,none⟩=some (.slice pE s1.el.length cE)∧V.cell? ⟨ub,0,none⟩=some (.int .i64 0)∧V.cell? ⟨ub,1,none⟩=some (.int .i64 (c.at_:Nat))∧V.cell? ⟨ub,2,none⟩=some (.int .u8 (c.kind:Nat))∧V.cell? ⟨ub,3,none⟩=some (.int .i64 c.val)∧V.cell? ⟨ub,4,none⟩=some (vf)) V:=fun V hV=>⟨(hV.c 0 9 rfl rfl).1,(hV.c 10 7 rfl rfl).1.trans (congrArg some hE),(hV.cL 0).1,(hV.cL 1).1,(hV.cL 2).1,(hV.cL 3).1,(hV.cL 4).1⟩
   have hS0:=hS _ H9.out.drew
   refine regK (fun V:World=>V.cell? ⟨ab,9,none⟩=some (.pointer (some ⟨mb,0,none⟩))∧V.cell? ⟨mb,7,none⟩=some (.slice pE s1.el.length cE)∧V.cell? ⟨ub,0,none⟩=some (.int .i64 0)∧V.cell? ⟨ub,1,none⟩=some (.int .i64 (c.at_:Nat))∧V.cell? ⟨ub,2,none⟩=some (.int .u8 (c.kind:Nat))∧V.cell? ⟨ub,3,none⟩=some (.int .i64 c.val)∧V.cell? ⟨ub,4,none⟩=some (vf)) 16 ?_
   iterate 12 refine tkk hS0 (h:=?_) (hy:=by(refine Or.inl ⟨by rfl,?_⟩;intro V hV;obtain⟨u0,u1,g0,g1,g2,g3,g4⟩:=hV;go_simp;try with_reducible rfl))
   have h10:=H9.out.drew.alloc (.cells #[.int .i64 0,.int .i64 (c.at_:Nat),.int .u8 (c.kind:Nat),.int .i64 c.val,vf] 86)
   refine oneK (fun K hK=>?_)
   go_simp
   refine hK _ _ (.inr (hS _ h10)) ?_
   clear hK K
   have HOwn:=h10.row 17 rfl
   rw[hE] at HOwn
   refine oneK (fun K hK=>?_)
   refine step_append_lies _ (by rfl) (.tmp 49) (.tmp 51) 53 (by rfl) w0.heap.size 86 i0 (.agg #[.int .i64 0,.int .i64 0,.int .u8 0,.int .i64 0,.slice none 0 0]) 5 56 (by kernel_rfl) hi0 hz0 hz1 hz2 rfl (by decide) (.slice pE s1.el.length cE) s1.el.length v1.xel (by rfl) HOwn ⟨w5.heap.size,0,none⟩ 1 1 [.int .i64 0,.int .i64 (c.at_:Nat),.int .u8 (c.kind:Nat),.int .i64 c.val,vf] (by rfl) rfl (cells_at (by simp) rfl) ?c2 (by omega) ?c3 ?c4 ?c5 (w5.heap.size+1) (by simp) ?_
   case c2=>intro u hu;simp at hu;rcases hu with rfl | rfl | rfl | rfl | rfl<;>first | rfl | exact hvf
   case c3=>unfold maxLen;omega
   case c4=>omega
   case c5=>exact h10.kept.size
   intro gg cp w6 hown hgrow hat hlt6
   have h11:=h10.app 17 (v:=v1.el) hown (by rw[hE];exact hgrow) (by rw[hE];exact hat.imp id (fun e=>by rw[e];simp)) rfl
   have h12:Sx w0 w6 ((LA ab tg cap mw mb T v1 s1 tl').set 17 (.r 86 5 (.slice (some ⟨gg,0,none⟩) (s1.el.length+1) cp) (s1.el.length+1) (v1.xel++[.int .i64 0,.int .i64 (c.at_:Nat),.int .u8 (c.kind:Nat),.int .i64 c.val,vf]))++[.b ub [.int .i64 0,.int .i64 (c.at_:Nat),.int .u8 (c.kind:Nat),.int .i64 c.val,vf]]):=h11
   have hS4:(fun V:World=>V.cell? ⟨ab,9,none⟩=some (.pointer (some ⟨mb,0,none⟩))∧V.cell? ⟨mb,7,none⟩=some (.slice pE s1.el.length cE)∧V.cell? ⟨ub,0,none⟩=some (.int .i64 0)∧V.cell? ⟨ub,1,none⟩=some (.int .i64 (c.at_:Nat))∧V.cell? ⟨ub,2,none⟩=some (.int .u8 (c.kind:Nat))∧V.cell? ⟨ub,3,none⟩=some (.int .i64 c.val)∧V.cell? ⟨ub,4,none⟩=some (vf)) w6:=⟨(h12.c 0 9 rfl rfl).1,(h12.c 10 7 rfl rfl).1.trans (congrArg some hE),(h12.cL 0).1,(h12.cL 1).1,(h12.cL 2).1,(h12.cL 3).1,(h12.cL 4).1⟩
   refine hK _ _ (.inr hS4) ?_
   clear hK K
   simp only[Act.put,List.setIfInBounds_toArray,List.set_cons_zero,List.set_cons_succ]
   iterate 2 refine tkk hS4 (h:=?_)
   obtain⟨c0,c1⟩:=h12.c 10 7 rfl rfl
   have mm:=h12.lt 10 rfl
   have h13:=h12.left.set 10 7 (.slice (some ⟨gg,0,none⟩) (s1.el.length+1) cp) rfl
   have h14:Sx w0 (w6.setCell ⟨mb,7,none⟩ (.slice (some ⟨gg,0,none⟩) (s1.el.length+1) cp)) (LA ab tg cap mw mb T {v1 with el:=.slice (some ⟨gg,0,none⟩) (s1.el.length+1) cp,xel:=v1.xel++[.int .i64 0,.int .i64 (c.at_:Nat),.int .u8 (c.kind:Nat),.int .i64 c.val,vf]} {s1 with el:=s1.el++[(c,fs)]} tl'):=by
    simpa [LA,AL,RA,ZA] using h13
   refine lastK (fun K hK=>?_)
   go_simp
   refine hK _ _ ?_
   clear hK K
   have H14:=hide h14
   generalize (w6.setCell ⟨mb,7,none⟩ (.slice (some ⟨gg,0,none⟩) (s1.el.length+1) cp))=W7 at*
   clear h14 h13 h12 h11 h10 hS4 hS0 hS c0 c1 mm HOwn hown hgrow hat hlt6
   go_wp2
   go_end0
   refine OutX.ok_mk HM'.out ⟨rfl,_,vf,?_,?_,?_,?_,by rw[←HTL.out];exact H14.out⟩
   ·exact HV.out.1
   ·show _++_=_++_
    rw[HV.out.2.1]
   ·exact HV.out.2.2.1
   ·exact HV.out.2.2.2
end
end
section
open Go.RowKit
def opensT (T:List Tok) (q:ByteArray) (i:Nat):Bool:=match T[i]?,T[nx T i]? with
 | some t,some t2=>t.1==2&&isW t2 q
 | _,_=>false
def perhapsT (T:List Tok) (q:ByteArray) (item:MS→Except Err MS) (s:MS):Except Err MS:=
 if opensT T q s.i=true then(match item {s with i:=nx T (nx T s.i)} with
  | .error e=>.error e
  | .ok s'=>match takeT T 3 s'.i with
   | .error e=>.error e
   | .ok (_,j)=>.ok {s' with i:=j})
 else .ok s
def itemsT (T:List Tok) (q:ByteArray) (most:Nat) (item:MS→Except Err MS):Nat→Nat→MS→Except Err MS
 | 0,_,_=>.error (0,0)
 | k+1,many,s=>if opensT T q s.i=true then(if many=most then .error (7,(T[s.i]?.getD (0,0,⟨#[]⟩)).2.1) else match perhapsT T q item s with
   | .error e=>.error e
   | .ok s'=>itemsT T q most item k (many+1) s')
  else .ok s
theorem nx_le {T:List Tok} {i:Nat} (h:i<T.length):i≤nx T i:=by unfold nx;omega
section
variable {w0 w:World} {ab tg cap mw mb:Nat} {T:List Tok}
def Fu (w0:World) (ab tg cap mw mb:Nat) (T:List Tok) (A:VS→MS→List It→Prop) (s:MS) (w:World):Prop:=s.i<T.length∧∃v tl,A v s tl∧Sx w0 w (LA ab tg cap mw mb T v s tl)
def Fwd (T:List Tok) (A:VS→MS→List It→Prop):Prop:=∀v s tl j,A v s tl→s.i≤j→j<T.length→A v {s with i:=j} tl
def Gain (T:List Tok) (A A':VS→MS→List It→Prop):Prop:=∀v s tl,A v s tl→s.i+2<T.length→A' v {s with i:=s.i+2} tl
def ItemC (w0:World) (ab tg cap mw mb:Nat) (T:List Tok) (A A':VS→MS→List It→Prop) (F:Nat) (item:MS→Except Err MS):Prop:=
 (∀s s',item s=.ok s'→s.i<T.length→s.i≤s'.i)∧∀s w,Fu w0 ab tg cap mw mb T A' s w→Calls Tryz.prog F #[.pointer (some ⟨ab,0,none⟩)] w (OutX w0 (item s) fun s' e w'=>e=.returned (.tuple #[])∧Fu w0 ab tg cap mw mb T A s' w')
set_option maxRecDepth 100000 in
set_option maxHeartbeats 1600000 in
theorem asPerhaps_all {A A':VS→MS→List It→Prop} {F:Nat} {item:MS→Except Err MS} {s:MS} (hF:Enters F) (hI:ItemC w0 ab tg cap mw mb T A A' F item) (hA:Fwd T A) (hG:Gain T A A') (hT:TW T) (h:Fu w0 ab tg cap mw mb T A s w) (q:ByteArray):
  Calls Tryz.prog 90 #[.pointer (some ⟨ab,0,none⟩),.string q,.func (.func F) #[.pointer (some ⟨ab,0,none⟩)] #[]] w (OutX w0 (perhapsT T q item s) fun s' e w'=>e=.returned (.tuple #[])∧Fu w0 ab tg cap mw mb T A s' w'):=by
 obtain⟨hi,v,tl,hAv,hS⟩:=h
 have hi2:=nx_ok hi
 have hi3:=nx_ok hi2
 obtain⟨t,ht⟩:∃t,T[s.i]?=some t:=⟨_,List.getElem?_eq_getElem hi⟩
 obtain⟨t2,ht2⟩:∃t,T[nx T s.i]?=some t:=⟨_,List.getElem?_eq_getElem hi2⟩
 have ho:opensT T q s.i=(t.1==2&&isW t2 q):=by unfold opensT;rw[ht,ht2]
 cases hq:(t.1==2&&isW t2 q) with
 | false=>
  refine(asPerhaps_no hS ht ht2 hT.len q hq _).mono ?_
  rintro e w1 ⟨rfl,h1⟩
  exact OutX.ok_mk (by unfold perhapsT;rw[ho,hq];rfl) ⟨rfl,hi,v,tl,hAv,h1⟩
 | true=>
  have hc:t.1=2:=by simp at hq;exact hq.1
  have hw:isW t2 q=true:=by simp at hq;exact hq.2
  have hnot:∀(x:Bool) (w:World),(Op.unary .not (.bool x)).run Tryz.prog w=.ok (.bool (!x)) w:=fun _ _=>rfl
  have hcl:∀(args:Array Value) (w:World),(callFunc F args).run Tryz.prog w=.ok (.enter F args) w:=hF
  have HP:Hid (perhapsT T q item s=match item {s with i:=nx T (nx T s.i)} with
   | .error e=>.error e
   | .ok s'=>match takeT T 3 s'.i with
    | .error e=>.error e
    | .ok (_,j)=>.ok {s' with i:=j}):=by show _=_;unfold perhapsT;rw[ho,hq];rfl
  have H:=hide hS
  have HT:=hide ht
  have HT2:=hide ht2
  have HC:=hide hc
  have HW:=hide hw
  have HI:=hide hI
  have HQ:=hide hq
  have HA:=hide hA
  have e1:=hT.nx ht (by omega)
  have e5:t2.1=5:=by unfold isW at hw;simp at hw;exact hw.1
  have e2:=hT.nx ht2 (by omega)
  have e3:=hT.last _ t2 ht2 (by omega)
  rw[e1] at e2 e3
  have hAV:A' v {s with i:=nx T (nx T s.i)} tl:=by
   rw[e1,e2]
   exact hG v s tl hAv (by omega)
  have HAV:=hide hAV
  have HLT:=hide hi3
  clear hS ht ht2 hc hw hI hF hq ho hAv hA hi hi2 hi3 e1 e2 e3 e5 hAV hG
  go_enter Tryz.func90,Tryz.ntmps90
  go_wp2_with fail
  refine(tOpens_any H.out HT.out HT2.out hT.len q).mono ?_
  rintro e w1 ⟨rfl,h1⟩
  rw[HQ.out]
  have H1:=hide h1
  clear h1 H
  go_wp2_with fail
  refine(tTakeOpen_any H1.out HT.out HC.out HT2.out hT.len q HW.out).mono ?_
  rintro e w2 ⟨rfl,h2⟩
  have H2:Hid (Fu w0 ab tg cap mw mb T A' {s with i:=nx T (nx T s.i)} w2):=⟨HLT.out,v,tl,HAV.out,h2⟩
  clear h2 H1 HAV
  generalize ({s with i:=nx T (nx T s.i)}:MS)=s1 at*
  go_wp2_with fail
  refine(HI.out.2 s1 _ H2.out).mono ?_
  intro e w3 h3
  cases hx:item s1 with
  | error qq=>
   rw[hx] at h3
   obtain⟨rfl,hk⟩:=h3
   exact⟨rfl,OutX.err_mk (by rw[HP.out,hx]) ⟨rfl,hk⟩⟩
  | ok s2=>
  rw[hx] at h3
  obtain⟨rfl,h3⟩:=h3
  obtain⟨hi,v,tl,hAv,hS⟩:=h3
  obtain⟨t3,ht3⟩:∃t,T[s2.i]?=some t:=⟨_,List.getElem?_eq_getElem hi⟩
  have HP2:Hid (perhapsT T q item s=match takeT T 3 s2.i with
    | .error e=>.error e
    | .ok (_,j)=>.ok {s2 with i:=j}):=by show _=_;rw[HP.out,hx]
  have H3:=hide hS
  have HT3:=hide ht3
  have HAV:=hide (HA.out v s2 tl _ hAv (nx_le hi) (nx_ok hi))
  have HLT:=hide (nx_ok hi)
  clear hS ht3 hx hAv hi H2 HP
  go_wp2_with fail
  refine(tTake_all H3.out HT3.out hT.len 3).mono ?_
  intro e w4 h4
  cases hx:takeT T 3 s2.i with
  | error qq=>
   rw[hx] at h4
   obtain⟨rfl,hk⟩:=h4
   exact⟨rfl,OutX.err_mk (by rw[HP2.out,hx]) ⟨rfl,hk⟩⟩
  | ok x=>
  obtain⟨t4,j⟩:=x
  obtain⟨-,-,rfl⟩:=takeT_nx hx
  rw[hx] at h4
  obtain⟨rfl,h4⟩:=h4
  have HP3:Hid (perhapsT T q item s=.ok {s2 with i:=nx T s2.i}):=by show _=_;rw[HP2.out,hx]
  have H4:Hid (Fu w0 ab tg cap mw mb T A {s2 with i:=nx T s2.i} w4):=⟨HLT.out,v,tl,HAV.out,h4⟩
  clear hx h4 HP2 H3 HAV HA
  go_wp2
  go_end0
  exact OutX.ok_mk HP3.out ⟨rfl,H4.out⟩
end
end
section
open Go.RowKit
section
variable {w0 w:World} {ab tg cap mw mb:Nat} {T:List Tok}
theorem opensT_nx {q:ByteArray} {i:Nat} (hT:TW T) (h:opensT T q i=true):nx T i=i+1∧i+1<T.length:=by
 unfold opensT at h
 split at h
 ·rename_i t t2 ht ht2
  simp at h
  exact⟨hT.nx ht (by omega),hT.last i t ht (by omega)⟩
 ·cases h
theorem perhapsT_lt {q:ByteArray} {item:MS→Except Err MS} {s s':MS} (hT:TW T) (hI:∀s s',item s=.ok s'→s.i<T.length→s.i≤s'.i) (ho:opensT T q s.i=true) (h:perhapsT T q item s=.ok s') (hl:s'.i<T.length):s.i<s'.i:=by
 unfold perhapsT at h
 rw[if_pos ho] at h
 obtain⟨e1,l1⟩:=opensT_nx hT ho
 split at h
 ·cases h
 ·rename_i s2 hs
  have:=hI _ _ hs (nx_ok (nx_ok (by omega)))
  simp only at this
  split at h
  ·cases h
  ·rename_i h2
   obtain⟨h3,-,rfl⟩:=takeT_nx h2
   cases h
   simp only at hl ⊢
   have h4:s2.i<T.length:=(List.getElem?_eq_some_iff.1 h3).1
   have h5:=nx_le h4
   have h6:=nx_le (T:=T) (i:=nx T s.i) (by omega)
   omega
set_option maxRecDepth 100000 in
set_option maxHeartbeats 1600000 in
theorem asItems_all {A A':VS→MS→List It→Prop} {F:Nat} {item:MS→Except Err MS} {s:MS} (hF:Enters F) (hI:ItemC w0 ab tg cap mw mb T A A' F item) (hA:Fwd T A) (hG:Gain T A A') (hT:TW T) (h:Fu w0 ab tg cap mw mb T A s w) (q:ByteArray) (most:Nat) (hm:most≤1000):
  Calls Tryz.prog 87 #[.pointer (some ⟨ab,0,none⟩),.string q,.int .i64 (most:Nat),.func (.func F) #[.pointer (some ⟨ab,0,none⟩)] #[]] w (OutX w0 (itemsT T q most item (T.length - s.i) 0 s) fun s' e w'=>e=.returned (.tuple #[])∧Fu w0 ab tg cap mw mb T A s' w'):=by
 have H:=hide h
 have HF:=hide hF
 have HI:=hide hI
 have HA:=hide hA
 have HGA:=hide hG
 clear h hF hI hA hG
 go_enter Tryz.func87,Tryz.ntmps87
 go_wp2_with fail
 go_loopg [8] (T.length - s.i) (fun k u wr=>∃(many:Nat) (s2:MS),u=.int .i64 (many:Nat)∧many≤most∧T.length - s2.i≤k∧itemsT T q most item (T.length - s.i) 0 s=itemsT T q most item k many s2∧Fu w0 ab tg cap mw mb T A s2 wr)
 case atStart=>exact⟨0,s,rfl,by omega,Nat.le_refl _,rfl,H.out⟩
 case round=>
  obtain⟨many,s2,rfl,hmm,hk,hL,hFu⟩:=hrel
  have hFu':=hFu
  obtain⟨hi,v,tl,hAv,hS⟩:=hFu
  have hi2:=nx_ok hi
  obtain⟨t,ht⟩:∃t,T[s2.i]?=some t:=⟨_,List.getElem?_eq_getElem hi⟩
  obtain⟨t2,ht2⟩:∃t,T[nx T s2.i]?=some t:=⟨_,List.getElem?_eq_getElem hi2⟩
  have ho:opensT T q s2.i=(t.1==2&&isW t2 q):=by unfold opensT;rw[ht,ht2]
  obtain⟨k',rfl⟩:∃k',gk=k'+1:=⟨gk - 1,by omega⟩
  have HS:=hide hS
  have HT:=hide ht
  have HT2:=hide ht2
  have HO:=hide ho
  have HK:=hide hk
  have HL:=hide hL
  have HI2:=hide hi
  have HAV:=hide hAv
  clear hS ht ht2 ho hk hL hi hi2 hAv H hFu'
  go_wp2_with fail
  refine(tOpens_any HS.out HT.out HT2.out hT.len q).mono ?_
  rintro e w1 ⟨rfl,h1⟩
  have H1:Hid (Fu w0 ab tg cap mw mb T A s2 w1):=⟨HI2.out,v,tl,HAV.out,h1⟩
  have h1':Sx w0 w1 (LA ab tg cap mw mb T v s2 tl):=h1
  clear h1 HS HAV
  cases hq:(t.1==2&&isW t2 q) with
  | false=>
   have HM:Hid (itemsT T q most item (T.length - s.i) 0 s=.ok s2):=by
    show _=_
    rw[HL.out]
    unfold itemsT
    rw[HO.out,hq]
    rfl
   clear hq h1' HL HO
   go_wp2
   go_end0
   exact OutX.ok_mk HM.out ⟨rfl,H1.out⟩
  | true=>
   have HO2:Hid (opensT T q s2.i=true):=by show _=_;rw[HO.out,hq]
   clear hq
   by_cases he:many=most
   ·have te:((many:Int)==(most:Int))=true:=by simp[he]
    have HM:Hid (itemsT T q most item (T.length - s.i) 0 s=.error (7,t.2.1)):=by
     show _=_
     rw[HL.out]
     unfold itemsT
     rw[if_pos HO2.out,if_pos he,HT.out]
     rfl
    have H1':=hide h1'
    clear he h1' HL HO H1
    go_wp2_with fail
    refine(tPeek_any H1'.out HT.out).mono ?_
    rintro e w4 ⟨rfl,h4⟩
    have K4:=hide h4.kept
    clear h4 H1'
    go_wp2_with fail
    refine(tkRefuse_any t _).mono ?_
    rintro e w5 ⟨rfl,k5⟩
    exact⟨rfl,OutX.err_mk HM.out ⟨rfl,K4.out.trans k5⟩⟩
   ·have te:((many:Int)==(most:Int))=false:=by simp;omega
    have HE:=hide he
    have HMM:Hid (many≤most):=hmm
    have hwn:IntKind.i64.wrap ((many:Int)+1)=((many+1:Nat):Int):=by rw[IntWalk.i64_in _ ⟨by omega,by omega⟩];simp
    clear he h1'
    go_wp2_with fail
    refine(asPerhaps_all HF.out HI.out HA.out HGA.out hT H1.out q).mono ?_
    intro e w2 h2
    cases hx:perhapsT T q item s2 with
    | error qq=>
     rw[hx] at h2
     obtain⟨rfl,hk⟩:=h2
     exact⟨rfl,OutX.err_mk (by rw[HL.out];unfold itemsT;rw[if_pos HO2.out,if_neg HE.out,hx]) ⟨rfl,hk⟩⟩
    | ok s3=>
    rw[hx] at h2
    obtain⟨rfl,h2⟩:=h2
    have hlt:=perhapsT_lt hT HI.out.1 HO2.out hx h2.1
    have HL2:Hid (itemsT T q most item (T.length - s.i) 0 s=itemsT T q most item k' (many+1) s3):=by
     show _=_
     rw[HL.out]
     conv=>lhs;unfold itemsT
     rw[if_pos HO2.out,if_neg HE.out,hx]
    have HK2:Hid (T.length - s3.i≤k'):=by show _≤_;have:=HK.out;have:=h2.1;omega
    have H2:=hide h2
    clear hx h2 H1 HL hlt
    go_wp2
    go_roundg k'
    case measure=>omega
    case rel=>exact⟨many+1,s3,by simp,by have:=HMM.out;have:=HE.out;omega,HK2.out,HL2.out,H2.out⟩
end
end
section
open Go.RowKit
def gkT (T:List Tok) (most:Nat) (ks:List Nat) (i:Nat):Except Err (List Nat×Nat):=match T[i]? with
 | none=>.error (0,0)
 | some t=>if ks.length=most then .error (7,t.2.1) else match kindT T i with
  | .error e=>.error e
  | .ok (k,j)=>.ok (ks++[k],j)
section
variable {w0 w:World} {ab tg cap i:Nat} {T:List Tok} {z:List Value} {r l:List It} {t t2:Tok}
set_option maxRecDepth 100000 in
set_option maxHeartbeats 1600000 in
theorem groupsIn_all {gb mb xb most:Nat} {ks:List Nat} {v:Value} (h:Sx w0 w (AL ab tg cap T i z (GL gb mb xb ab v most ks++r))) (ht:T[i]?=some t) (hl:T.length≤100000) (hm2:most≤1000) (hkm:ks.length≤most):
  Calls Tryz.prog 133 #[.pointer (some ⟨gb,0,none⟩),.pointer (some ⟨mb,0,none⟩),.pointer (some ⟨xb,0,none⟩)] w (OutX w0 (gkT T most ks i) fun x e w'=>e=.returned (.tuple #[])∧∃v',Sx w0 w' (AL ab tg cap T x.2 z (GL gb mb xb ab v' most x.1++r))):=by
 obtain⟨i0,hi0,hz0,hz1,hz2⟩:=info_parts Tryz.info73
 obtain⟨pv,cv,rfl⟩:=Row.shape (h.isRow 5)
 obtain⟨a0,-⟩:=h.c 2 0
 obtain⟨a1,-⟩:=h.c 3 0
 obtain⟨a2,-⟩:=h.c 4 0
 have l2:=h.lt 2
 have l3:=h.lt 3
 have l4:=h.lt 4
 have H:=hide h
 have HT:=hide ht
 clear h ht
 by_cases hme:ks.length=most
 ·have tm:((ks.length:Int)==(most:Int))=true:=by simp[hme]
  have HM:Hid (gkT T most ks i=.error (7,t.2.1)):=by show _=_;unfold gkT;simp only[HT.out];rw[if_pos hme]
  clear hme
  go_enter Tryz.func133,Tryz.ntmps133
  go_wp2_with fail
  refine(tPeek_any H.out HT.out).mono ?_
  rintro e w1 ⟨rfl,h1⟩
  have K1:=hide h1.kept
  clear h1 H
  go_wp2_with fail
  refine(tkRefuse_any t _).mono ?_
  rintro e w2 ⟨rfl,k2⟩
  exact⟨rfl,OutX.err_mk HM.out ⟨rfl,K1.out.trans k2⟩⟩
 ·have tm:((ks.length:Int)==(most:Int))=false:=by simp;omega
  have HME:=hide hme
  clear hme
  go_enter Tryz.func133,Tryz.ntmps133
  go_wp2_with fail
  have hS0:(fun W:World=>W.cell? ⟨gb,0,none⟩=some (.slice pv ks.length cv)∧W.cell? ⟨xb,0,none⟩=some (.pointer (some ⟨ab,0,none⟩))) w.drew:=⟨a0,a2⟩
  refine regK (fun W:World=>W.cell? ⟨gb,0,none⟩=some (.slice pv ks.length cv)∧W.cell? ⟨xb,0,none⟩=some (.pointer (some ⟨ab,0,none⟩))) 5 ?_
  refine tkk hS0 (h:=?_) (hy:=by(refine Or.inl ⟨by rfl,?_⟩;intro W hW;obtain⟨u0,u1⟩:=hW;go_simp;try with_reducible rfl))
  refine tkk hS0 (h:=?_) (hy:=by(refine Or.inl ⟨by rfl,?_⟩;intro W hW;obtain⟨u0,u1⟩:=hW;go_simp;try with_reducible rfl))
  refine oneK (fun K hK=>?_)
  refine step_callX (f:=119) (args:= #[.pointer (some ⟨ab,0,none⟩)]) (by rfl) (by go_simp) (asKind_all H.out.drew HT.out hl) ?_
  intro e w1 h1
  cases hx:kindT T i with
  | error qq=>
   rw[hx] at h1
   obtain⟨rfl,hk⟩:=h1
   exact .inr ⟨_,rfl,⟨rfl,OutX.err_mk (by unfold gkT;simp only[HT.out];rw[if_neg HME.out,hx]) ⟨rfl,hk⟩⟩⟩
  | ok x=>
  obtain⟨k,j⟩:=x
  rw[hx] at h1
  obtain⟨rfl,h1⟩:=h1
  have HM:Hid (gkT T most ks i=.ok (ks++[k],j)):=by show _=_;unfold gkT;simp only[HT.out];rw[if_neg HME.out,hx]
  simp only at h1
  obtain⟨b0,-⟩:=h1.c 2 0
  obtain⟨b2,-⟩:=h1.c 4 0
  refine .inl ⟨_,rfl,hK _ _ (.inr ⟨b0,b2⟩) ?_⟩
  clear hK K a0 a1 a2 hS0 l2 l3 l4 hx
  simp only[Act.put,List.setIfInBounds_toArray,List.set_cons_zero,List.set_cons_succ]
  have h2:=h1.alloc (.cells #[.int .u8 (k:Nat)] 73)
  obtain⟨b0',-⟩:=h2.c 2 0
  obtain⟨b2',-⟩:=h2.c 4 0
  refine oneK (fun K hK=>?_)
  go_simp
  refine hK _ _ (.inr ⟨b0',b2'⟩) ?_
  clear hK K
  have HOwn:=hide (h2.row 5)
  refine oneK (fun K hK=>?_)
  refine step_append_lies _ (by rfl) (.tmp 12) (.tmp 15) 45 (by rfl) w0.heap.size 73 i0 (.int .u8 0) 1 1 Tryz.underlying45 hi0 hz0 hz1 hz2 rfl (by decide) (.slice pv ks.length cv) ks.length (kindCells ks) (by rfl) HOwn.out ⟨w1.heap.size,0,none⟩ 1 1 [.int .u8 (k:Nat)] (by rfl) rfl (cells_at (by simp) rfl) ?c2 (by omega) ?c3 ?c4 ?c5 (w1.heap.size+1) (by simp) ?_
  case c2=>intro u hu;simp at hu;subst hu;rfl
  case c3=>unfold maxLen;omega
  case c4=>omega
  case c5=>have:=h2.kept.size;exact this
  intro gg cp w3 hown hgrow hat hlt3
  have h3:=h2.app 5 hown hgrow (hat.imp id (fun e=>by rw[e];simp))
  obtain⟨c0,d0⟩:=h3.c 2 0
  obtain⟨c2,-⟩:=h3.c 4 0
  have l2:=h3.lt 2
  refine hK _ _ (.inr ⟨c0,c2⟩) ?_
  clear hK K
  simp only[Act.put,List.setIfInBounds_toArray,List.set_cons_zero,List.set_cons_succ]
  have H4:=hide (h3.set 2 0 (.slice (some ⟨gg,0,none⟩) (ks.length+1) cp))
  refine lastK (fun K hK=>?_)
  go_simp
  refine hK _ _ ?_
  clear hK K
  go_wp2
  go_end0
  refine OutX.ok_mk HM.out ⟨rfl,.slice (some ⟨gg,0,none⟩) (ks.length+1) cp,?_⟩
  simpa [kindCells] using H4.out
end
end
section
open Go.RowKit
def gwT (T:List Tok) (most:Nat):Nat→List Nat→Nat→Except Err (List Nat×Nat)
 | 0,_,_=>.error (0,0)
 | k+1,ks,i=>match T[i]? with
  | none=>.error (0,0)
  | some t=>if t.1=5 then(match gkT T most ks i with
    | .error e=>.error e
    | .ok (ks',j)=>gwT T most k ks' j)
   else .ok (ks,i)
def groT (T:List Tok) (q:ByteArray) (most:Nat):Nat→List Nat→Nat→Except Err (List Nat×Nat)
 | 0,_,_=>.error (0,0)
 | k+1,ks,i=>if opensT T q i=true then(match gwT T most (T.length - nx T (nx T i)) ks (nx T (nx T i)) with
   | .error e=>.error e
   | .ok (ks',j)=>match takeT T 3 j with
    | .error e=>.error e
    | .ok (_,m)=>groT T q most k ks' m)
  else .ok (ks,i)
section
variable {w0 w:World} {ab tg cap i:Nat} {T:List Tok} {z:List Value} {r l:List It} {t t2:Tok}
theorem gkT_nx {most j:Nat} {ks ks':List Nat} (h:gkT T most ks i=.ok (ks',j)) (hk:ks.length≤most):j=nx T i∧ks'.length≤most:=by
 unfold gkT at h
 split at h
 ·cases h
 ·split at h
  ·cases h
  ·split at h
   ·cases h
   ·rename_i hx
    cases h
    exact⟨kindT_nx hx,by simp;omega⟩
theorem gwT_le {most:Nat}:∀{k:Nat} {ks ks':List Nat} {i j:Nat},gwT T most k ks i=.ok (ks',j)→i<T.length→i≤j∧j<T.length
 | 0,_,_,_,_,h,_=>by cases h
 | k+1,ks,ks',i,j,h,hi=>by
  unfold gwT at h
  split at h
  ·cases h
  ·split at h
   ·split at h
    ·cases h
    ·rename_i ks2 j2 hx
     have hj:j2=nx T i:=by
      unfold gkT at hx
      split at hx
      ·cases hx
      ·split at hx
       ·cases hx
       ·split at hx
        ·cases hx
        ·rename_i hy
         cases hx
         exact kindT_nx hy
     subst hj
     have:=gwT_le h (nx_ok hi)
     have:=nx_le hi
     omega
   ·cases h
    exact⟨Nat.le_refl _,hi⟩
set_option maxRecDepth 100000 in
set_option maxHeartbeats 3200000 in
theorem groups_nil (h:Sx w0 w (AL ab tg cap T i z r)) (hT:TW T) (hi:i<T.length) (q:ByteArray) (most:Nat) (hm:most≤1000) (n:Int):
  Calls Tryz.prog 114 #[.pointer (some ⟨ab,0,none⟩),.string q,.int .i64 (most:Nat),.pointer none,.int .i64 n] w (OutX w0 (groT T q most (T.length - i) [] i) fun x e w'=>∃v,e=.returned v∧Sx w0 w' (AL ab tg cap T x.2 z (r++[.r 73 1 v x.1.length (kindCells x.1)]))):=by
 have hmf:∀(fn:Fn) (first cap:Array Value) (w:World),(Instr.makeFunc fn first cap).run Tryz.prog w=.ok (.func fn first cap) w:=fun _ _ _ _=>rfl
 have hcl:∀(args:Array Value) (w:World),(callFunc 133 args).run Tryz.prog w=.ok (.enter 133 args) w:=enters_groupsIn
 have hf:=tokF
 have te:∀u:Tok,tokV u=.agg #[.int .u8 (u.1:Nat),.int .i64 (u.2.1:Nat),.string u.2.2]:=fun _=>rfl
 have H:=hide h
 have HI:=hide hi
 clear h hi
 go_enter Tryz.func114,Tryz.ntmps114
 go_wp2_with fail
 go_loopg [] (T.length - i) (fun k wr=>∃(ks:List Nat) (j:Nat) (vv:Value),T.length - j≤k∧j<T.length∧ks.length≤most∧groT T q most (T.length - i) [] i=groT T q most k ks j∧Sx w0 wr (AL ab tg cap T j z (GL (w.heap.size+1+1) (w.heap.size+1) w.heap.size ab vv most ks++r)))
 case atStart=>exact⟨[],i,_,Nat.le_refl _,HI.out,by simp,rfl,GL.mk H.out most⟩
 case round=>
  obtain⟨ks,j,vv,hk,hj,hks,hL,hS⟩:=hrel
  clear H
  generalize w.heap.size=b0 at*
  have hi2:=nx_ok hj
  have hi3:=nx_ok hi2
  obtain⟨t,ht⟩:∃t,T[j]?=some t:=⟨_,List.getElem?_eq_getElem hj⟩
  obtain⟨t2,ht2⟩:∃t,T[nx T j]?=some t:=⟨_,List.getElem?_eq_getElem hi2⟩
  have ho:opensT T q j=(t.1==2&&isW t2 q):=by unfold opensT;rw[ht,ht2]
  obtain⟨k',rfl⟩:∃k',gk=k'+1:=⟨gk - 1,by omega⟩
  obtain⟨a4,-⟩:=hS.c 4 0
  have l4:=hS.lt 4
  have HS:=hide hS
  have HT:=hide ht
  have HT2:=hide ht2
  have HO:=hide ho
  have HK:=hide hk
  have HL:=hide hL
  have HJ:=hide hj
  have HJ3:=hide hi3
  have HKS:=hide hks
  clear hS ht ht2 ho hk hL hj hi2 hi3 hks
  go_wp2_with fail
  refine(tOpens_any HS.out HT.out HT2.out hT.len q).mono ?_
  rintro e w2 ⟨rfl,h2⟩
  clear a4 l4 HS
  cases hq:(t.1==2&&isW t2 q) with
  | false=>
   have HM:Hid (groT T q most (T.length - i) [] i=.ok (ks,j)):=by
    show _=_
    rw[HL.out]
    unfold groT
    rw[HO.out,hq]
    rfl
   obtain⟨b2,-⟩:=h2.c 2 0
   have m2:=h2.lt 2
   have H2:=hide (GL.drop h2)
   clear hq h2 HL HO
   go_wp2
   go_ret
   exact OutX.ok_mk HM.out ⟨vv,rfl,H2.out⟩
  | true=>
   have HO2:Hid (opensT T q j=true):=by show _=_;rw[HO.out,hq]
   have hc:Hid (t.1=2):=by show _=_;simp at hq;exact hq.1
   have hw:Hid (isW t2 q=true):=by show _=_;simp at hq;exact hq.2
   obtain⟨b4,-⟩:=h2.c 4 0
   have m4:=h2.lt 4
   have H2:=hide h2
   clear hq h2 HO
   go_wp2_with fail
   refine(tTakeOpen_any H2.out HT.out hc.out HT2.out hT.len q hw.out).mono ?_
   rintro e w3 ⟨rfl,h3⟩
   have H3:=hide h3
   clear h3 b4 m4 H2
   go_wp2_with fail
   go_loopg [] (T.length - nx T (nx T j)) (fun k wr=>∃(ks2:List Nat) (j2:Nat) (vv2:Value),T.length - j2≤k∧j2<T.length∧ks2.length≤most∧gwT T most (T.length - nx T (nx T j)) ks (nx T (nx T j))=gwT T most k ks2 j2∧Sx w0 wr (AL ab tg cap T j2 z (GL (b0+1+1) (b0+1) b0 ab vv2 most ks2++r)))
   case atStart=>exact⟨ks,_,vv,Nat.le_refl _,HJ3.out,HKS.out,rfl,H3.out⟩
   case round=>
    obtain⟨ks2,j2,vv2,hk2,hj2,hks2,hL2,hS2⟩:=hrel
    clear H3
    obtain⟨t3,ht3⟩:∃t,T[j2]?=some t:=⟨_,List.getElem?_eq_getElem hj2⟩
    obtain⟨k2,rfl⟩:∃k2,gk=k2+1:=⟨gk - 1,by omega⟩
    obtain⟨a4,-⟩:=hS2.c 4 0
    have l4:=hS2.lt 4
    have HS2:=hide hS2
    have HT3:=hide ht3
    have HK2:=hide hk2
    have HL2:=hide hL2
    have HJ2:=hide hj2
    have HKS2:=hide hks2
    clear hS2 ht3 hk2 hL2 hj2 hks2
    go_wp2_with fail
    refine(tPeek_any HS2.out HT3.out).mono ?_
    rintro e w4 ⟨rfl,h4⟩
    rw[te]
    clear a4 l4 HS2
    by_cases h5:t3.1=5
    ·have t5:((t3.1:Int)==5)=true:=by rw[h5];rfl
     have H5:=hide h5
     have H4:=hide h4
     clear h5 h4
     go_wp2_with fail
     refine(groupsIn_all H4.out HT3.out hT.len hm HKS2.out).mono ?_
     intro e w5 h6
     cases hx:gkT T most ks2 j2 with
     | error qq=>
      rw[hx] at h6
      obtain⟨rfl,hk⟩:=h6
      have e1:gwT T most (T.length - nx T (nx T j)) ks (nx T (nx T j))=.error qq:=by
       rw[HL2.out];unfold gwT;simp only[HT3.out,H5.out,if_true,hx]
      exact⟨rfl,OutX.err_mk (by rw[HL.out];unfold groT;rw[if_pos HO2.out,e1]) ⟨rfl,hk⟩⟩
     | ok x=>
     obtain⟨ks3,j3⟩:=x
     rw[hx] at h6
     obtain⟨rfl,vv3,h6⟩:=h6
     obtain⟨hj3,hks3⟩:=gkT_nx hx HKS2.out
     have hjn:=hT.nx HT3.out (by rw[H5.out];decide)
     have hlast:=hT.last j2 t3 HT3.out (by rw[H5.out];decide)
     have HB:Hid (T.length - j3≤k2∧j3<T.length∧ks3.length≤most):=⟨by have:=HK2.out;omega,by omega,hks3⟩
     have HL3:Hid (gwT T most (T.length - nx T (nx T j)) ks (nx T (nx T j))=gwT T most k2 ks3 j3):=by
      show _=_
      rw[HL2.out]
      conv=>lhs;unfold gwT
      simp only[HT3.out,H5.out,if_true,hx]
     have H6:=hide h6
     clear h6 hx H4 hj3 hks3 hjn hlast HL2
     go_wp2
     go_roundg k2
     case measure=>omega
     case rel=>exact⟨ks3,j3,vv3,HB.out.1,HB.out.2.1,HB.out.2.2,HL3.out,H6.out⟩
    ·have t5:((t3.1:Int)==5)=false:=by simp;omega
     have HW:Hid (gwT T most (T.length - nx T (nx T j)) ks (nx T (nx T j))=.ok (ks2,j2)):=by
      show _=_
      rw[HL2.out]
      unfold gwT
      simp only[HT3.out,h5,if_false]
     obtain⟨b4,-⟩:=h4.c 4 0
     have m4:=h4.lt 4
     have H4:=hide h4
     clear h5 h4 HL2
     go_wp2_with fail
     refine(tTake_all H4.out HT3.out hT.len 3).mono ?_
     intro e w5 h6
     cases hx:takeT T 3 j2 with
     | error qq=>
      rw[hx] at h6
      obtain⟨rfl,hk⟩:=h6
      exact⟨rfl,OutX.err_mk (by rw[HL.out];unfold groT;rw[if_pos HO2.out,HW.out];simp only[hx]) ⟨rfl,hk⟩⟩
     | ok x=>
     obtain⟨t6,j3⟩:=x
     obtain⟨-,-,hj3⟩:=takeT_nx hx
     rw[hx] at h6
     obtain⟨rfl,h6⟩:=h6
     have HL3:Hid (groT T q most (T.length - i) [] i=groT T q most k' ks2 j3):=by
      show _=_
      rw[HL.out]
      conv=>lhs;unfold groT
      rw[if_pos HO2.out,HW.out]
      simp only[hx]
     have HB:Hid (T.length - j3≤k'∧j3<T.length∧ks2.length≤most):=by
      have g1:=(gwT_le HW.out HJ3.out).1
      obtain⟨g2,g3⟩:=opensT_nx hT HO2.out
      have g4:=nx_le (T:=T) (i:=nx T j) (by omega)
      have g5:=nx_le HJ2.out
      have g6:=nx_ok HJ2.out
      have g7:=HK.out
      exact⟨by omega,by omega,HKS2.out⟩
     simp only at h6
     have H6:=hide h6
     clear h6 hx H4 hj3 HL b4 m4
     go_wp2
     go_roundg k'
     case measure=>omega
     case rel=>exact⟨ks2,j3,vv2,HB.out.1,HB.out.2.1,HB.out.2.2,HL3.out,H6.out⟩
end
end
section
open Go.RowKit
def seqT {X Z:Type} (m1:Except Err X) (m2:X→Except Err Z):Except Err (X×Z):=match m1 with
 | .error e=>.error e
 | .ok x=>match m2 x with
  | .error e=>.error e
  | .ok z=>.ok (x,z)
section
variable {w0 w:World} {ab:Nat} {l:List It}
set_option maxRecDepth 100000 in
set_option maxHeartbeats 1600000 in
theorem asKinds_all {X Y Z:Type} {m1:Except Err X} {m2:X→Except Err Z} {ks1:X→List Nat} {ks2:Z→List Nat} {L0:List It} {L1:X→Y→List It} {L2:X→Z→Y→List It} {p:Value}
  (hp:∀r' w,Sx w0 w (L0++r')→Calls Tryz.prog 114 #[.pointer (some ⟨ab,0,none⟩),.string ⟨#[112,97,114,97,109]⟩,.int .i64 8,p,.int .i64 0] w (OutX w0 m1 fun x e w'=>∃v y,e=.returned v∧Sx w0 w' (L1 x y++r'++[.r 73 1 v (ks1 x).length (kindCells (ks1 x))])))
  (hq:∀x y r' w,m1=.ok x→Sx w0 w (L1 x y++r')→Calls Tryz.prog 114 #[.pointer (some ⟨ab,0,none⟩),.string ⟨#[114,101,115,117,108,116]⟩,.int .i64 4,.pointer none,.int .i64 0] w (OutX w0 (m2 x) fun z e w'=>∃u,e=.returned u∧Sx w0 w' (L2 x z y++r'++[.r 73 1 u (ks2 z).length (kindCells (ks2 z))])))
  (h:Sx w0 w L0):Calls Tryz.prog 111 #[.pointer (some ⟨ab,0,none⟩),p] w (OutX w0 (seqT m1 m2) fun xz e w'=>∃v u y,e=.returned (.agg #[v,u])∧Sx w0 w' (L2 xz.1 xz.2 y++[.r 73 1 v (ks1 xz.1).length (kindCells (ks1 xz.1)),.r 73 1 u (ks2 xz.2).length (kindCells (ks2 xz.2))])):=by
 have H:=hide h
 have HP:=hide hp
 have HQ:=hide hq
 clear h hp hq
 go_enter Tryz.func111,Tryz.ntmps111
 go_wp2_with fail
 have h1:Sx w0 ((w.alloc (.cells #[.slice none 0 0,.slice none 0 0] 47)).alloc (.cells #[.slice none 0 0,.slice none 0 0] 47)) (L0++[.b w.heap.size [.slice none 0 0,.slice none 0 0],.b (w.heap.size+1) [.slice none 0 0,.slice none 0 0]]):=by
  have:=(H.out.new #[.slice none 0 0,.slice none 0 0] 47).new #[.slice none 0 0,.slice none 0 0] 47
  simpa using this
 refine(HP.out _ _ h1).mono ?_
 intro e w1 h2
 cases hx:m1 with
 | error qq=>
  rw[hx] at h2
  obtain⟨rfl,hk⟩:=h2
  exact⟨rfl,OutX.err_mk (by unfold seqT;rw[hx]) ⟨rfl,hk⟩⟩
 | ok x=>
 rw[hx] at h2
 obtain⟨v,y,rfl,h2⟩:=h2
 have HX:=hide hx
 clear hx
 generalize w.heap.size=rb at*
 have h2':Sx w0 w1 (L1 x y++.b rb [.slice none 0 0,.slice none 0 0]::.b (rb+1) [.slice none 0 0,.slice none 0 0]::[.r 73 1 v (ks1 x).length (kindCells (ks1 x))]):=by simpa using h2
 obtain⟨pv,cv,rfl⟩:=Row.shape (h2'.isRow _ (midB2 _ _ _ _ _))
 obtain⟨a0,b0⟩:=h2'.c _ 0 (midB1 _ _ _ _) rfl
 have l0:=h2'.lt _ (midB1 _ _ _ _)
 have h3:=h2'.set _ 0 (.slice pv (ks1 x).length cv) (midB1 _ _ _ _)
 rw[setB1] at h3
 have H3:=hide h3
 clear h1 h2 h2' h3 H
 go_wp2_with fail
 refine(HQ.out x y _ _ HX.out H3.out).mono ?_
 intro e w2 h4
 cases hx:m2 x with
 | error qq=>
  rw[hx] at h4
  obtain⟨rfl,hk⟩:=h4
  exact⟨rfl,OutX.err_mk (by unfold seqT;rw[HX.out];simp only;rw[hx]) ⟨rfl,hk⟩⟩
 | ok z=>
 rw[hx] at h4
 obtain⟨u,rfl,h4⟩:=h4
 have HM:Hid (seqT m1 m2=.ok (x,z)):=by show _=_;unfold seqT;rw[HX.out];simp only;rw[hx]
 clear hx
 have h4':Sx w0 w2 (L2 x z y++.b rb [.slice none 0 0,.slice none 0 0]::.b (rb+1) [.slice pv (ks1 x).length cv,.slice none 0 0]::[.r 73 1 (.slice pv (ks1 x).length cv) (ks1 x).length (kindCells (ks1 x)),.r 73 1 u (ks2 z).length (kindCells (ks2 z))]):=by simpa using h4
 obtain⟨pu,cu,rfl⟩:=Row.shape (h4'.isRow _ (midB3 _ _ _ _ _ _))
 obtain⟨a1,b1⟩:=h4'.c _ 1 (midB1 _ _ _ _) rfl
 have l1:=h4'.lt _ (midB1 _ _ _ _)
 have h5:=h4'.set _ 1 (.slice pu (ks2 z).length cu) (midB1 _ _ _ _)
 rw[setB1] at h5
 clear a0 b0 l0 h4 h4' H3
 obtain⟨c0,-⟩:=h5.c _ 0 (midB1 _ _ _ _) rfl
 obtain⟨c1,-⟩:=h5.c _ 1 (midB1 _ _ _ _) rfl
 obtain⟨d0,f0⟩:=h5.c _ 0 (midB _ _ _) rfl
 obtain⟨d1,f1⟩:=h5.c _ 1 (midB _ _ _) rfl
 have l2:=h5.lt _ (midB _ _ _)
 have h6:=h5.set _ 0 (.slice pv (ks1 x).length cv) (midB _ _ _)
 rw[setB] at h6
 have h7:=h6.set _ 1 (.slice pu (ks2 z).length cu) (midB _ _ _)
 rw[setB] at h7
 obtain⟨y0,-⟩:=h7.c _ 0 (midB _ _ _) rfl
 obtain⟨y1,-⟩:=h7.c _ 1 (midB _ _ _) rfl
 have H8:Hid (Sx w0 _ (L2 x z y++[.r 73 1 (.slice pv (ks1 x).length cv) (ks1 x).length (kindCells (ks1 x)),.r 73 1 (.slice pu (ks2 z).length cu) (ks2 z).length (kindCells (ks2 z))])):=h7.sub (List.Sublist.append (List.Sublist.refl _) (List.Sublist.cons _ (List.Sublist.cons _ (List.Sublist.refl _))))
 clear h5 h6 h7
 go_wp2
 refine bodyPost_ret (v:=.agg #[.slice pv (ks1 x).length cv,.slice pu (ks2 z).length cu]) ?_ rfl ?_
 ·simp[results,Tryz.results111,go_sem,y0,y1]
 ·exact OutX.ok_mk HM.out ⟨_,_,y,rfl,H8.out⟩
end
section
variable {w0 w:World} {ab tg cap i:Nat} {T:List Tok} {z:List Value} {r:List It}
theorem groT_le {q:ByteArray} {most:Nat} (hT:TW T):∀{k:Nat} {ks ks':List Nat} {i j:Nat},groT T q most k ks i=.ok (ks',j)→i<T.length→i≤j∧j<T.length
 | 0,_,_,_,_,h,_=>by cases h
 | k+1,ks,ks',i,j,h,hi=>by
  unfold groT at h
  split at h
  ·split at h
   ·cases h
   ·rename_i hx
    have g1:=gwT_le hx (nx_ok (nx_ok hi))
    split at h
    ·cases h
    ·rename_i h2
     obtain⟨-,-,rfl⟩:=takeT_nx h2
     have g2:=groT_le hT h (nx_ok g1.2)
     have g3:=nx_le hi
     have g4:=nx_le (nx_ok hi)
     have g5:=nx_le g1.2
     omega
  ·cases h
   exact⟨Nat.le_refl _,hi⟩
def kindsT (T:List Tok) (i:Nat):Except Err ((List Nat×Nat)×(List Nat×Nat)):=seqT (groT T ⟨#[112,97,114,97,109]⟩ 8 (T.length - i) [] i) fun x=>groT T ⟨#[114,101,115,117,108,116]⟩ 4 (T.length - x.2) [] x.2
theorem kinds_nil (h:Sx w0 w (AL ab tg cap T i z r)) (hT:TW T) (hi:i<T.length):
  Calls Tryz.prog 111 #[.pointer (some ⟨ab,0,none⟩),.pointer none] w (OutX w0 (kindsT T i) fun x e w'=>∃v u,e=.returned (.agg #[v,u])∧Sx w0 w' (AL ab tg cap T x.2.2 z (r++[.r 73 1 v x.1.1.length (kindCells x.1.1),.r 73 1 u x.2.1.length (kindCells x.2.1)]))):=by
 refine(asKinds_all (X:=List Nat×Nat) (Y:=Unit) (Z:=List Nat×Nat) (m1:=groT T ⟨#[112,97,114,97,109]⟩ 8 (T.length - i) [] i) (m2:=fun x=>groT T ⟨#[114,101,115,117,108,116]⟩ 4 (T.length - x.2) [] x.2) (ks1:=fun x=>x.1) (ks2:=fun z=>z.1) (L0:=AL ab tg cap T i z r) (L1:=fun x _=>AL ab tg cap T x.2 z r) (L2:=fun _ y _=>AL ab tg cap T y.2 z r) ?_ ?_ h).mono ?_
 ·intro r' w h
  refine(groups_nil (r:=r++r') h hT hi _ 8 (by omega) 0).mono ?_
  intro e w' hh
  cases hx:groT T ⟨#[112,97,114,97,109]⟩ 8 (T.length - i) [] i with
  | error q=>rw[hx] at hh;exact hh
  | ok x=>
   rw[hx] at hh
   obtain⟨v,rfl,h1⟩:=hh
   exact⟨v,(),rfl,by simpa using h1⟩
 ·intro x y r' w hx h
  have hj:=(groT_le hT hx hi).2
  refine(groups_nil (r:=r++r') h hT hj _ 4 (by omega) 0).mono ?_
  intro e w' hh
  cases hx:groT T ⟨#[114,101,115,117,108,116]⟩ 4 (T.length - x.2) [] x.2 with
  | error q=>rw[hx] at hh;exact hh
  | ok x=>
   rw[hx] at hh
   obtain⟨v,rfl,h1⟩:=hh
   exact⟨v,rfl,by simpa using h1⟩
 ·intro e w' hh
  cases hx:kindsT T i with
  | error q=>
   unfold kindsT at hx
   rw[hx] at hh
   exact hh
  | ok x=>
   unfold kindsT at hx
   rw[hx] at hh
   obtain⟨v,u,y,rfl,h1⟩:=hh
   exact⟨v,u,rfl,by simpa using h1⟩
end
end
section
open Go.RowKit
def typeT (T:List Tok) (s:MS):Except Err ((List Nat×List Nat)×MS):=
 let d:=declT T s.fT s.ty.length s.i
 match takeO T ⟨#[102,117,110,99]⟩ d.2.2.1 with
 | .error e=>.error e
 | .ok (_,j)=>match kindsT T j with
  | .error e=>.error e
  | .ok x=>match closeM T x.2.2 with
   | .error e=>.error e
   | .ok m=>.ok ((x.1.1,x.2.1),{s with i:=m,fT:=d.2.1,no:=s.no++d.2.2.2,ty:=s.ty++[(x.1.1,x.2.1)]})
theorem kindsT_le {T:List Tok} {i:Nat} {x:(List Nat×Nat)×(List Nat×Nat)} (hT:TW T) (h:kindsT T i=.ok x) (hi:i<T.length):i≤x.2.2∧x.2.2<T.length:=by
 unfold kindsT seqT at h
 split at h
 ·cases h
 ·rename_i h1
  split at h
  ·cases h
  ·rename_i h2
   cases h
   have g1:=groT_le hT h1 hi
   have g2:=groT_le hT h2 g1.2
   simp only
   omega
section
variable {w0 w:World} {ab tg cap mw mb:Nat} {T:List Tok} {v:VS} {s:MS} {tl:List It}
def TypeV (w0:World) (ab tg cap mw mb:Nat) (T:List Tok) (v0:VS) (tl:List It) (x:(List Nat×List Nat)×MS) (e:Ending) (w':World):Prop:=e=.returned (.tuple #[])∧∃v vi vo,v.xty=v0.xty++[vi,vo]∧v.xel=v0.xel∧v.xco=v0.xco∧v.xlo=v0.xlo∧Sx w0 w' (LA ab tg cap mw mb T v x.2 (tl++[.r 73 1 vi x.1.1.length (kindCells x.1.1),.r 73 1 vo x.1.2.length (kindCells x.1.2)]))
set_option maxRecDepth 100000 in
set_option maxHeartbeats 6400000 in
theorem asType_all (h:Sx w0 w (LA ab tg cap mw mb T v s tl)) (hT:TW T) (hi:s.i<T.length) (hn:s.ty.length≤1000) (hf:s.fT.length≤1000) (hno:s.no.length≤100000):
  Calls Tryz.prog 88 #[.pointer (some ⟨ab,0,none⟩)] w (OutX w0 (typeT T s) (TypeV w0 ab tg cap mw mb T v tl)):=by
 obtain⟨i0,hi0,hz0,hz1,hz2⟩:=info_parts Tryz.info47'
 obtain⟨pE,cE,hE⟩:=Row.shape (h.isRow 11 rfl)
 have H:=hide h
 have HI:=hide hi
 clear h hi
 go_enter Tryz.func88,Tryz.ntmps88
 go_wp2_with fail
 have hS0:(fun V:World=>V.cell? ⟨ab,9,none⟩=some (.pointer (some ⟨mb,0,none⟩))∧V.cell? ⟨mb,0,none⟩=some (.slice pE s.ty.length cE)) w.drew:=⟨(H.out.drew.c 0 9 rfl rfl).1,(H.out.drew.c 10 0 rfl rfl).1.trans (congrArg some hE)⟩
 refine regK (fun V:World=>V.cell? ⟨ab,9,none⟩=some (.pointer (some ⟨mb,0,none⟩))∧V.cell? ⟨mb,0,none⟩=some (.slice pE s.ty.length cE)) 13 ?_
 iterate 13 refine tkk hS0 (h:=?_) (hy:=by(refine Or.inl ⟨by rfl,?_⟩;intro V hV;obtain⟨u0,u1⟩:=hV;go_simp;try with_reducible rfl))
 refine lastK (fun K hK=>?_)
 refine step_call (f:=110) (args:= #[.pointer (some ⟨ab,0,none⟩),.pointer (some ⟨ab,6,none⟩),.int .i64 (s.ty.length:Nat)]) (by rfl) (by go_simp) (asDeclare_fT H.out.drew hT.toTT HI.out s.ty.length hf hno) ?_
 rintro e w1 ⟨rfl,q1,q,h1⟩
 refine⟨_,rfl,hK _ _ ?_⟩
 clear hK K hS0 hE
 simp only[Act.put,List.setIfInBounds_toArray,List.set_cons_zero,List.set_cons_succ]
 obtain⟨s1,hs1⟩:∃s1:MS,s1={s with i:=(declT T s.fT s.ty.length s.i).2.2.1,fT:=(declT T s.fT s.ty.length s.i).2.1,no:=s.no++(declT T s.fT s.ty.length s.i).2.2.2}:=⟨_,rfl⟩
 have HGT:Hid (typeT T s=(match takeO T ⟨#[102,117,110,99]⟩ s1.i with
  | .error e=>.error e
  | .ok (_,j)=>match kindsT T j with
   | .error e=>.error e
   | .ok x=>match closeM T x.2.2 with
    | .error e=>.error e
    | .ok m=>.ok ((x.1.1,x.2.1),{s1 with i:=m,ty:=s1.ty++[(x.1.1,x.2.1)]}))):=by subst hs1;show _=_;rfl
 have hj:s1.i<T.length:=by subst hs1;exact declT_lt HI.out
 have hn1:s1.ty.length≤1000:=by subst hs1;exact hn
 rw[←hs1] at h1
 have HV:Hid (({v with fT:=q1,no:=q}:VS).xty=v.xty∧({v with fT:=q1,no:=q}:VS).xel=v.xel∧({v with fT:=q1,no:=q}:VS).xco=v.xco∧({v with fT:=q1,no:=q}:VS).xlo=v.xlo):=⟨rfl,rfl,rfl,rfl⟩
 generalize (.bool (declT T s.fT s.ty.length s.i).1:Value)=bd at*
 clear hs1
 generalize ({v with fT:=q1,no:=q}:VS)=v1 at*
 generalize (Value.slice pE s.ty.length cE)=xE
 clear pE cE
 have H1:=hide h1
 clear h1 H
 have hi2:=nx_ok hj
 have hi3:=nx_ok hi2
 obtain⟨t,ht⟩:∃t,T[s1.i]?=some t:=⟨_,List.getElem?_eq_getElem hj⟩
 obtain⟨t2,ht2⟩:∃t,T[nx T s1.i]?=some t:=⟨_,List.getElem?_eq_getElem hi2⟩
 have HT:=hide ht
 have HT2:=hide ht2
 have HJ3:=hide hi3
 clear ht ht2 hi2 hi3
 go_wp2_with fail
 refine(tTakeOpen_all H1.out HT.out HT2.out hT.len ⟨#[102,117,110,99]⟩).mono ?_
 intro e w3 h3
 cases hx:takeO T ⟨#[102,117,110,99]⟩ s1.i with
 | error q=>
  rw[hx] at h3
  obtain⟨rfl,hk⟩:=h3
  exact⟨rfl,OutX.err_mk (by rw[HGT.out,hx]) ⟨rfl,hk⟩⟩
 | ok x=>
 obtain⟨ty,k⟩:=x
 obtain rfl:=takeO_nx hx
 rw[hx] at h3
 obtain⟨rfl,h3⟩:=h3
 simp only at h3 ⊢
 have HX:=hide hx
 have H3:=hide h3
 clear h3 hx H1
 go_wp2_with fail
 refine(kinds_nil H3.out hT HJ3.out).mono ?_
 intro e w4 h4
 cases hx:kindsT T (nx T (nx T s1.i)) with
 | error q=>
  rw[hx] at h4
  obtain⟨rfl,hk⟩:=h4
  exact⟨rfl,OutX.err_mk (by rw[HGT.out,HX.out];simp only[hx]) ⟨rfl,hk⟩⟩
 | ok x=>
 have hlt:=(kindsT_le hT hx HJ3.out).2
 obtain⟨⟨ka,ja⟩,kb,jb⟩:=x
 rw[hx] at h4
 obtain⟨vi,vo,rfl,h4⟩:=h4
 simp only at h4 hlt ⊢
 have h4b:Sx w0 w4 (LA ab tg cap mw mb T v1 {s1 with i:=jb} tl++[.r 73 1 vi ka.length (kindCells ka),.r 73 1 vo kb.length (kindCells kb)]):=h4
 obtain⟨pI,cI,rfl⟩:=Row.shape (h4b.isRow _ (midB _ _ _))
 obtain⟨pO,cO,rfl⟩:=Row.shape (h4b.isRow _ (midB1 _ _ _ _))
 have HM:Hid (typeT T s=(match closeM T jb with
    | .error e=>.error e
    | .ok m=>.ok ((ka,kb),{({s1 with i:=jb}:MS) with i:=m,ty:=({s1 with i:=jb}:MS).ty++[(ka,kb)]}))):=by show _=_;rw[HGT.out,HX.out];simp only[hx]
 obtain⟨tl',htl⟩:∃tl',tl'=tl++[.r 73 1 (.slice pI ka.length cI) ka.length (kindCells ka),.r 73 1 (.slice pO kb.length cO) kb.length (kindCells kb)]:=⟨_,rfl⟩
 have h4':Sx w0 w4 (LA ab tg cap mw mb T v1 {s1 with i:=jb} tl'):=by rw[htl];exact h4
 have hn2:({s1 with i:=jb}:MS).ty.length≤1000:=hn1
 have hlt2:({s1 with i:=jb}:MS).i<T.length:=hlt
 rw[show closeM T jb=closeM T ({s1 with i:=jb}:MS).i from rfl] at HM
 have HTL:=hide htl
 have H9:=hide (h4'.new #[(.slice pI ka.length cI),(.slice pO kb.length cO)] 47)
 clear h4 h4' h4b hx H3 HGT HX htl hlt
 generalize ({s1 with i:=jb}:MS)=s2 at*
 go_wp2_with fail
 generalize w4.alloc (.cells #[(.slice pI ka.length cI),(.slice pO kb.length cO)] 47)=w5 at*
 generalize w4.heap.size=ub at*
 obtain⟨pE,cE,hE⟩:=Row.shape (H9.out.isRow 11 rfl)
 have hS:∀V:World,Sx w0 V (LA ab tg cap mw mb T v1 s2 tl'++[.b ub [.slice pI ka.length cI,.slice pO kb.length cO]])→(fun V:World=>V.cell? ⟨ab,9,none⟩=some (.pointer (some ⟨mb,0,none⟩))∧V.cell? ⟨mb,0,none⟩=some (.slice pE s2.ty.length cE)∧V.cell? ⟨ub,0,none⟩=some (.slice pI ka.length cI)∧V.cell? ⟨ub,1,none⟩=some (.slice pO kb.length cO)) V:=fun V hV=>⟨(hV.c 0 9 rfl rfl).1,(hV.c 10 0 rfl rfl).1.trans (congrArg some hE),(hV.cL 0).1,(hV.cL 1).1⟩
 have hS0:=hS _ H9.out.drew
 refine regK (fun V:World=>V.cell? ⟨ab,9,none⟩=some (.pointer (some ⟨mb,0,none⟩))∧V.cell? ⟨mb,0,none⟩=some (.slice pE s2.ty.length cE)∧V.cell? ⟨ub,0,none⟩=some (.slice pI ka.length cI)∧V.cell? ⟨ub,1,none⟩=some (.slice pO kb.length cO)) 16 ?_
 iterate 12 refine tkk hS0 (h:=?_) (hy:=by(refine Or.inl ⟨by rfl,?_⟩;intro V hV;obtain⟨u0,u1,g0,g1⟩:=hV;go_simp;try with_reducible rfl))
 have h10:=H9.out.drew.alloc (.cells #[.slice pI ka.length cI,.slice pO kb.length cO] 47)
 refine oneK (fun K hK=>?_)
 go_simp
 refine hK _ _ (.inr (hS _ h10)) ?_
 clear hK K
 have HOwn:=h10.row 11 rfl
 rw[hE] at HOwn
 refine oneK (fun K hK=>?_)
 refine step_append_lies _ (by rfl) (.tmp 33) (.tmp 35) 48 (by rfl) w0.heap.size 47 i0 (.agg #[.slice none 0 0,.slice none 0 0]) 2 48 (by kernel_rfl) hi0 hz0 hz1 hz2 rfl (by decide) (.slice pE s2.ty.length cE) s2.ty.length v1.xty (by rfl) HOwn ⟨w5.heap.size,0,none⟩ 1 1 [.slice pI ka.length cI,.slice pO kb.length cO] (by rfl) rfl (cells_at (by simp) rfl) ?c2 (by omega) ?c3 ?c4 ?c5 (w5.heap.size+1) (by simp) ?_
 case c2=>intro u hu;simp at hu;rcases hu with rfl | rfl<;>rfl
 case c3=>unfold maxLen;omega
 case c4=>omega
 case c5=>exact h10.kept.size
 intro gg cp w6 hown hgrow hat hlt6
 have h11:=h10.app 11 (v:=v1.ty) hown (by rw[hE];exact hgrow) (by rw[hE];exact hat.imp id (fun e=>by rw[e];simp)) rfl
 have h12:Sx w0 w6 ((LA ab tg cap mw mb T v1 s2 tl').set 11 (.r 47 2 (.slice (some ⟨gg,0,none⟩) (s2.ty.length+1) cp) (s2.ty.length+1) (v1.xty++[.slice pI ka.length cI,.slice pO kb.length cO]))++[.b ub [.slice pI ka.length cI,.slice pO kb.length cO]]):=h11
 have hS4:(fun V:World=>V.cell? ⟨ab,9,none⟩=some (.pointer (some ⟨mb,0,none⟩))∧V.cell? ⟨mb,0,none⟩=some (.slice pE s2.ty.length cE)∧V.cell? ⟨ub,0,none⟩=some (.slice pI ka.length cI)∧V.cell? ⟨ub,1,none⟩=some (.slice pO kb.length cO)) w6:=⟨(h12.c 0 9 rfl rfl).1,(h12.c 10 0 rfl rfl).1.trans (congrArg some hE),(h12.cL 0).1,(h12.cL 1).1⟩
 refine hK _ _ (.inr hS4) ?_
 clear hK K
 simp only[Act.put,List.setIfInBounds_toArray,List.set_cons_zero,List.set_cons_succ]
 iterate 2 refine tkk hS4 (h:=?_)
 obtain⟨c0,c1⟩:=h12.c 10 0 rfl rfl
 have mm:=h12.lt 10 rfl
 have h13:=h12.left.set 10 0 (.slice (some ⟨gg,0,none⟩) (s2.ty.length+1) cp) rfl
 have h14:Sx w0 (w6.setCell ⟨mb,0,none⟩ (.slice (some ⟨gg,0,none⟩) (s2.ty.length+1) cp)) (LA ab tg cap mw mb T {v1 with ty:=.slice (some ⟨gg,0,none⟩) (s2.ty.length+1) cp,xty:=v1.xty++[.slice pI ka.length cI,.slice pO kb.length cO]} {s2 with ty:=s2.ty++[(ka,kb)]} tl'):=by
  simpa [LA,AL,RA,ZA] using h13
 refine lastK (fun K hK=>?_)
 go_simp
 refine hK _ _ ?_
 clear hK K
 have H14:=hide h14
 generalize (w6.setCell ⟨mb,0,none⟩ (.slice (some ⟨gg,0,none⟩) (s2.ty.length+1) cp))=W7 at*
 clear h14 h13 h12 h11 h10 hS4 hS0 hS c0 c1 mm HOwn hown hgrow hat hlt6
 have hh:=H14.out
 obtain⟨s3,hs3⟩:∃s3:MS,s3={s2 with ty:=s2.ty++[(ka,kb)]}:=⟨_,rfl⟩
 have hlt3:s3.i<T.length:=by rw[hs3];exact hlt2
 rw[←hs3] at hh
 have HM2:Hid (typeT T s=(match closeM T s3.i with
    | .error e=>.error e
    | .ok m=>.ok ((ka,kb),{s3 with i:=m}))):=by show _=_;rw[HM.out,hs3]
 obtain⟨v3,hv3⟩:∃v3:VS,v3={v1 with ty:=.slice (some ⟨gg,0,none⟩) (s2.ty.length+1) cp,xty:=v1.xty++[(.slice pI ka.length cI),(.slice pO kb.length cO)]}:=⟨_,rfl⟩
 have HV3:Hid (v3.xty=v.xty++[(.slice pI ka.length cI),(.slice pO kb.length cO)]∧v3.xel=v.xel∧v3.xco=v.xco∧v3.xlo=v.xlo):=by
  rw[hv3]
  exact⟨by show v1.xty++_=_;rw[HV.out.1],HV.out.2.1,HV.out.2.2.1,HV.out.2.2.2⟩
 rw[←hv3] at hh
 have HH:=hide hh
 have HLT3:=hide hlt3
 clear hh hs3 hv3 hlt3 H14 HM HV
 go_wp2_with fail
 refine(asClose_all HH.out hT.len HLT3.out).mono ?_
 intro e w8 h8
 cases hx:closeM T s3.i with
 | error q=>
  rw[hx] at h8
  obtain⟨rfl,hk⟩:=h8
  exact⟨rfl,OutX.err_mk (by rw[HM2.out];simp only[hx]) ⟨rfl,hk⟩⟩
 | ok m=>
 rw[hx] at h8
 obtain⟨rfl,h8⟩:=h8
 have HM3:Hid (typeT T s=.ok ((ka,kb),{s3 with i:=m})):=by show _=_;rw[HM2.out,hx]
 have H8:Hid (Sx w0 w8 (LA ab tg cap mw mb T v3 {s3 with i:=m} tl')):=h8
 clear h8 hx HH HM2
 go_wp2
 go_end0
 exact OutX.ok_mk HM3.out ⟨rfl,v3,(.slice pI ka.length cI),(.slice pO kb.length cO),HV3.out.1,HV3.out.2.1,HV3.out.2.2.1,HV3.out.2.2.2,by rw[←HTL.out];exact H8.out⟩
end
end
section
open Go.RowKit Go.Maps
def wordT (T:List Tok) (i:Nat):Except Err (Nat×Nat):=match takeT T 5 i with
 | .error e=>.error e
 | .ok (t,j)=>if wordH t.2.2=true∧wordN t.2.2≠5∧wordN t.2.2≠11 then .ok (wordN t.2.2,j) else .error (7,t.2.1)
section
variable {w0 w:World} {ab tg cap i:Nat} {T:List Tok} {z:List Value} {r l:List It} {t t2:Tok}
set_option maxRecDepth 100000 in
set_option maxHeartbeats 3200000 in
theorem fnWord_all {fb kf km mw:Nat} {fcs:List Value} (h:Sx w0 w (AL ab tg cap T i z r)) (hT:TT T) (hi:i<T.length) (hf:r[kf]?=some (.b fb fcs)) (hfc:fcs[0]?=some (.pointer (some ⟨ab,0,none⟩))) (hz:z[0]?=some (.map (some mw))) (hm:r[km]?=some (.m mw 256 (wordsD 256))):
  Calls Tryz.prog 145 #[.pointer (some ⟨fb,0,none⟩)] w (OutX w0 (wordT T i) fun x=>Ans w0 (.int .u8 (x.1:Nat)) (AL ab tg cap T x.2 z r)):=by
 have hnot:∀(x:Bool) (w:World),(Op.unary .not (.bool x)).run Tryz.prog w=.ok (.bool (!x)) w:=fun _ _=>rfl
 obtain⟨t,ht⟩:∃t,T[i]?=some t:=⟨_,List.getElem?_eq_getElem hi⟩
 have hs:=hT.small t (List.mem_of_getElem? ht)
 have hl:=hT.len
 obtain⟨a0,-⟩:=h.c _ 0 (inR hf) hfc
 have l0:=h.lt _ (inR hf)
 have H:=hide h
 have HT:=hide ht
 clear h ht
 go_enter Tryz.func145,Tryz.ntmps145
 go_wp2_with fail
 refine(tTake_all H.out HT.out hl 5).mono ?_
 intro e w1 h1
 cases hx:takeT T 5 i with
 | error q=>
  rw[hx] at h1
  obtain⟨rfl,hk⟩:=h1
  exact⟨rfl,OutX.err_mk (by unfold wordT;rw[hx]) ⟨rfl,hk⟩⟩
 | ok x=>
 obtain⟨t',j⟩:=x
 obtain⟨he,-,rfl⟩:=takeT_nx hx
 obtain rfl:t=t':=by rw[HT.out] at he;exact Option.some.inj he
 rw[hx] at h1
 obtain⟨rfl,h1⟩:=h1
 have HX:=hide hx
 clear hx he
 simp only at h1 ⊢
 obtain⟨c,p,s⟩:=t
 rw[show tokV (c,p,s)=.agg #[.int .u8 (c:Nat),.int .i64 (p:Nat),.string s] from rfl]
 have h2:=h1.new #[.int .u8 (c:Nat),.int .i64 (p:Nat),.string s] 144
 obtain⟨b0,-⟩:=h2.left.c _ 0 (inR hf) hfc
 have m0:=h2.left.lt _ (inR hf)
 obtain⟨b1,-⟩:=h2.left.c 0 2 (v:=.map (some mw)) rfl (by simpa using hz)
 have m1:=h2.left.lt 0
 obtain⟨k0,-⟩:=h2.cL 0
 obtain⟨k1,-⟩:=h2.cL 1
 obtain⟨k2,-⟩:=h2.cL 2
 have mt:=h2.ltL
 have hlook:∀n,(Instr.lookup 104 (.map (some mw)) (.string s) true).run Tryz.prog ((w1.alloc (.cells #[.int .u8 (c:Nat),.int .i64 (p:Nat),.string s] 144)).drewN n)=.ok (.tuple #[.int .u8 (wordN s:Nat),.bool (wordH s)]) ((w1.alloc (.cells #[.int .u8 (c:Nat),.int .i64 (p:Nat),.string s] 144)).drewN n):=fun n=>(look_any ((h2.left.drewN n).map _ (inR hm)) hs).1
 have hh2:∀n,Sx w0 ((w1.alloc (.cells #[.int .u8 (c:Nat),.int .i64 (p:Nat),.string s] 144)).drewN n) (AL ab tg cap T (nx T i) z r++[.b w1.heap.size [.int .u8 (c:Nat),.int .i64 (p:Nat),.string s]]):=fun n=>h2.drewN n
 have HH2:=hide hh2
 clear h1 h2 hh2 a0 l0 H
 go_wp2_with fail
 go_quiet (fail)
 have h3:=HH2.out nq
 clear HH2 hlook b0 b1 m0 m1 k0 k1 k2 mt
 generalize (w1.alloc (.cells #[.int .u8 (c:Nat),.int .i64 (p:Nat),.string s] 144)).drewN nq=wq at*
 generalize w1.heap.size=tb at*
 cases hh:wordH s with
 | false=>
  have HM:Hid (wordT T i=.error (7,p)):=by show _=_;unfold wordT;rw[HX.out];simp[hh]
  obtain⟨q0,-⟩:=h3.cL 0
  obtain⟨q1,-⟩:=h3.cL 1
  obtain⟨q2,-⟩:=h3.cL 2
  have K:=hide h3.kept
  clear h3
  clear hh
  go_wp2_with fail
  refine(tkRefuse_any (c,p,s) _).mono ?_
  rintro e w4 ⟨rfl,k4⟩
  exact⟨rfl,OutX.err_mk (x:=(7,p)) HM.out ⟨rfl,K.out.trans k4⟩⟩
 | true=>
  by_cases h5:wordN s=5
  ·have t5:((wordN s:Int)==5)=true:=by rw[h5];rfl
   have HM:Hid (wordT T i=.error (7,p)):=by show _=_;unfold wordT;rw[HX.out];simp[h5]
   obtain⟨q0,-⟩:=h3.cL 0
   obtain⟨q1,-⟩:=h3.cL 1
   obtain⟨q2,-⟩:=h3.cL 2
   have K:=hide h3.kept
   clear h3
   clear h5 hh
   go_wp2_with fail
   refine(tkRefuse_any (c,p,s) _).mono ?_
   rintro e w4 ⟨rfl,k4⟩
   exact⟨rfl,OutX.err_mk (x:=(7,p)) HM.out ⟨rfl,K.out.trans k4⟩⟩
  ·have t5:((wordN s:Int)==5)=false:=by simp;omega
   by_cases h11:wordN s=11
   ·have t11:((wordN s:Int)==11)=true:=by rw[h11];rfl
    have HM:Hid (wordT T i=.error (7,p)):=by show _=_;unfold wordT;rw[HX.out];simp[h11]
    obtain⟨q0,-⟩:=h3.cL 0
    obtain⟨q1,-⟩:=h3.cL 1
    obtain⟨q2,-⟩:=h3.cL 2
    have K:=hide h3.kept
    clear h3
    clear h11 h5 hh
    go_wp2_with fail
    refine(tkRefuse_any (c,p,s) _).mono ?_
    rintro e w4 ⟨rfl,k4⟩
    exact⟨rfl,OutX.err_mk (x:=(7,p)) HM.out ⟨rfl,K.out.trans k4⟩⟩
   ·have t11:((wordN s:Int)==11)=false:=by simp;omega
    have HM:Hid (wordT T i=.ok (wordN s,nx T i)):=by show _=_;unfold wordT;rw[HX.out];simp[hh,h5,h11]
    have H3:=hide h3.left
    clear h5 h11 hh h3
    go_wp2
    go_ret
    exact OutX.ok_mk HM.out ⟨rfl,H3.out⟩
end
end
end Go.Proofs.YtkmofapihggjgaaGreatDoor
