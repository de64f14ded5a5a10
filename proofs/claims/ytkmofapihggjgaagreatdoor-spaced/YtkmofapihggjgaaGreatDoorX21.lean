import Derived.Lib.AppendStr
import Derived.Test.YtkmofapihggjgaaGreatDoorX20
namespace Go.Proofs.YtkmofapihggjgaaGreatDoor
section
open Go.RowKit
def mkS (kT kF kG:List Nam):MS:=⟨0,kT,kF,kG,[],[],[],[],[],[],[],[],[],[],[],[],[],[],[]⟩
def mkV (vT vF vG:Value):VS:=⟨vT,vF,vG,.slice none 0 0,.slice none 0 0,.slice none 0 0,.slice none 0 0,.slice none 0 0,.slice none 0 0,.slice none 0 0,.slice none 0 0,.slice none 0 0,.slice none 0 0,.slice none 0 0,.slice none 0 0,.slice none 0 0,.slice none 0 0,.slice none 0 0,.slice none 0 0,[],[],[],[]⟩
structure KN (ns:List Nam):Prop where
 few:ns.length≤1000
 ix:∀x∈ns,x.1≤100000
theorem AG.start {kT kF kG:List Nam} (hT:KN kT) (hF:KN kF) (hG:KN kG) (vT vF vG:Value) (tl:List It):AG ⟨[],[],[],[]⟩ (mkV vT vF vG) (mkS kT kF kG) tl:=by
 constructor<;>first | exact hT.few | exact hF.few | exact hG.few | exact hT.ix | exact hF.ix | exact hG.ix | simp[mkS,mkV]
theorem AG.vsame {g:Gh} {v v':VS} {s:MS} {tl:List It} (h:AG g v s tl) (hv:VSame v v'):AG g v' s tl:=h.on hv (j:=s.i) (no:=s.no) (Nat.le_refl _) h.no
section
variable {w0 w:World} {ab tg cap mw:Nat} {T:List Tok} {rest:List It}
theorem Sx.insN {l:List It} (h:Sx w0 w l) (k:Nat) (E:TypeId) (sz:Nat) (hk:k≤l.length:=by simp):Sx w0 w (l.insertIdx k (.r E sz (.slice none 0 0) 0 [])):=by
 refine(h.nil E sz).perm ?_
 exact(List.perm_append_singleton _ _).trans (List.perm_insertIdx _ _ hk).symm
theorem Sx.cIn {l:List It} {g:Nat} {cs:List Value} (h:Sx w0 w l) (hm:It.b g cs∈l) (j:Nat) {v:Value} (hj:cs[j]?=some v:=by rfl):(w.cell? ⟨g,j,none⟩=some v∧w.frozen? ⟨g,j,none⟩=false)∧g<w.heap.size:=by
 obtain⟨k,hk⟩:=List.mem_iff_getElem?.1 hm
 exact⟨h.c k j hk hj,h.lt k hk⟩
abbrev LR (ab tg cap mw:Nat) (T:List Tok) (vT vF vG a4 a5 a6 a7 a8:Value) (kT kF kG:List Nam) (rest:List It):List It:=
 AL ab tg cap T 0 [.map (some mw),vT,vF,vG,a4,a5,a6,a7,a8] (.m mw 256 (wordsD 256)::.r 135 2 vT kT.length (kT.flatMap namCells)::.r 135 2 vF kF.length (kF.flatMap namCells)::.r 135 2 vG kG.length (kG.flatMap namCells)::rest)
theorem LR.start {vT vF vG:Value} {kT kF kG:List Nam} {mb:Nat} (h:Sx w0 w (LR ab tg cap mw T vT vF vG (.slice none 0 0) (.slice none 0 0) (.slice none 0 0) (.pointer (some ⟨mb,0,none⟩)) (.slice none 0 0) kT kF kG rest++[.b mb [.slice none 0 0,.slice none 0 0,.slice none 0 0,.slice none 0 0,.slice none 0 0,.slice none 0 0,.slice none 0 0,.slice none 0 0,.slice none 0 0,.slice none 0 0,.slice none 0 0,.slice none 0 0]])):
  Sx w0 w (LA ab tg cap mw mb T (mkV vT vF vG) (mkS kT kF kG) rest):=by
 have h1:Sx w0 w (.b ab [.slice (some ⟨tg,0,none⟩) T.length cap,.int .i64 ((0:Nat):Int),.map (some mw),vT,vF,vG,.slice none 0 0,.slice none 0 0,.slice none 0 0,.pointer (some ⟨mb,0,none⟩),.slice none 0 0]::.r 144 3 (.slice (some ⟨tg,0,none⟩) T.length cap) T.length (T.flatMap tokCells)::.m mw 256 (wordsD 256)::.r 135 2 vT kT.length (kT.flatMap namCells)::.r 135 2 vF kF.length (kF.flatMap namCells)::.r 135 2 vG kG.length (kG.flatMap namCells)::.b mb [.slice none 0 0,.slice none 0 0,.slice none 0 0,.slice none 0 0,.slice none 0 0,.slice none 0 0,.slice none 0 0,.slice none 0 0,.slice none 0 0,.slice none 0 0,.slice none 0 0,.slice none 0 0]::rest):=by
  refine h.perm ?_
  show List.Perm (_::_::_::_::_::_::(rest++[_])) (_::_::_::_::_::_::(_::rest))
  iterate 6 refine List.Perm.cons _ ?_
  exact List.perm_append_singleton _ _
 have h2:=(((h1.insN 3 38 2).insN 7 135 2).insN 8 135 2).insN 9 135 2
 have h3:=((((h2.insN 11 47 2).insN 12 66 2).insN 13 70 4).insN 14 70 4).insN 15 77 5
 have h4:=(((((h3.insN 16 66 2).insN 17 86 5).insN 18 92 2).insN 19 96 5).insN 20 139 2).insN 21 81 5
 exact h4
set_option maxRecDepth 100000 in
set_option maxHeartbeats 1600000 in
theorem asRead_all {vT vF vG a4 a5 a6 a7 a8:Value} {kT kF kG:List Nam} (h:Sx w0 w (LR ab tg cap mw T vT vF vG a4 a5 a6 a7 a8 kT kF kG rest)) (hkT:KN kT) (hkF:KN kF) (hkG:KN kG) (hg:Ge w0) (hd:Gd w0) (hT:TW T) (h0:0<T.length) (hD:(∀t∈T,t.1≠4)∨∀i,opensT T ⟨#[100,97,116,97]⟩ i=false):
  Calls Tryz.prog 36 #[.pointer (some ⟨ab,0,none⟩)] w (OutX w0 (modT T (mkS kT kF kG)) fun s e w'=>e=.returned (.tuple #[])∧∃mb g v tl,AG g v s tl∧v.nf=v.fF∧s.i<T.length∧Sx w0 w' (LA ab tg cap mw mb T v {s with i:=0} (rest++tl))):=by
 obtain⟨a0,-⟩:=h.c 0 0 rfl rfl
 obtain⟨a1,-⟩:=h.c 0 1 rfl rfl
 have l0:=h.lt 0 rfl
 have hN:=h.new #[.slice (some ⟨tg,0,none⟩) T.length cap,.int .i64 0] 102
 have H:=hide hN
 have HK:Hid (KN kT∧KN kF∧KN kG):=⟨hkT,hkF,hkG⟩
 have HG:=hide hg
 have HD:=hide hd
 have HDD:=hide hD
 have H0:=hide h0
 clear h hN hkT hkF hkG hg hd hD h0
 go_enter Tryz.func36,Tryz.ntmps36
 go_upto_region 1 with fail
 generalize w.alloc (.cells #[.slice (some ⟨tg,0,none⟩) T.length cap,.int .i64 0] 102)=w1 at*
 generalize w.heap.size=hb at*
 have h1:Sx w0 w1 (LR ab tg cap mw T vT vF vG a4 a5 a6 a7 a8 kT kF kG (rest++[.b hb [.slice (some ⟨tg,0,none⟩) T.length cap,.int .i64 0]])):=H.out
 have h2:=h1.new #[.slice none 0 0,.slice none 0 0,.slice none 0 0,.slice none 0 0,.slice none 0 0,.slice none 0 0,.slice none 0 0,.slice none 0 0,.slice none 0 0,.slice none 0 0,.slice none 0 0,.slice none 0 0] 61
 obtain⟨c6,d6⟩:=h2.c 0 6 rfl rfl
 obtain⟨c7,d7⟩:=h2.c 0 7 rfl rfl
 obtain⟨c8,d8⟩:=h2.c 0 8 rfl rfl
 obtain⟨c9,d9⟩:=h2.c 0 9 rfl rfl
 obtain⟨c10,d10⟩:=h2.c 0 10 rfl rfl
 have lab:=h2.lt 0 rfl
 have h3:=((((h2.set 0 9 (.pointer (some ⟨w1.heap.size,0,none⟩)) rfl).set 0 6 (.slice none 0 0) rfl).set 0 7 (.slice none 0 0) rfl).set 0 8 (.slice none 0 0) rfl).set 0 10 (.slice none 0 0) rfl
 have h4:=LR.start (mb:=w1.heap.size) (rest:=rest++[.b hb [.slice (some ⟨tg,0,none⟩) T.length cap,.int .i64 0]]) h3
 have H4:=hide h4
 clear h1 h2 h3 h4 H a0 a1 l0
 go_upto_region 2 with fail
 generalize w1.heap.size=mb at*
 obtain⟨X,hX⟩:∃X,X=rest++[.b hb [.slice (some ⟨tg,0,none⟩) T.length cap,.int .i64 0]]:=⟨_,rfl⟩
 rw[←hX] at H4
 have HX:=hide hX
 clear hX c6 d6 c7 d7 c8 d8 c9 d9 c10 d10 lab
 have HF:Hid (Fu w0 ab tg cap mw mb T (AT X) (mkS kT kF kG) _):=⟨H0.out,_,_,⟨[],(List.append_nil _).symm,⟨_,AG.start HK.out.1 HK.out.2.1 HK.out.2.2 vT vF vG []⟩,by simp[mkS]⟩,H4.out⟩
 clear H4
 go_wp2_with fail
 refine(asMod_all HF.out rfl HG.out HD.out hT HDD.out).mono ?_
 intro e w2 h5
 cases hx:modT T (mkS kT kF kG) with
 | error q=>
  rw[hx] at h5
  obtain⟨rfl,hk⟩:=h5
  exact⟨rfl,OutX.err_mk hx ⟨rfl,hk⟩⟩
 | ok s=>
 rw[hx] at h5
 obtain⟨rfl,hi,v,tx,⟨tl,rfl,⟨g,ha⟩,-⟩,hS⟩:=h5
 have HA:Hid (s.i<T.length∧AG g v s tl):=⟨hi,ha⟩
 have HMX:=hide hx
 obtain⟨pF,cF,hF⟩:=Row.shape (hS.isRow 8 rfl)
 obtain⟨b9,-⟩:=hS.c 0 9 rfl rfl
 obtain⟨b7,-⟩:=hS.c 0 7 (v:=.slice pF s.fF.length cF) rfl (congrArg some hF)
 obtain⟨b10,e10⟩:=hS.c 10 10 rfl rfl
 have lb0:=hS.lt 0 rfl
 have lb1:=hS.lt 10 rfl
 have H5:=hide hS
 clear hi ha hS hx HF
 go_wp2_with fail
 have hS0:(fun V:World=>V.cell? ⟨ab,9,none⟩=some (.pointer (some ⟨mb,0,none⟩))∧V.cell? ⟨ab,7,none⟩=some (.slice pF s.fF.length cF)) w2.drew:=⟨b9,b7⟩
 refine regK (fun V:World=>V.cell? ⟨ab,9,none⟩=some (.pointer (some ⟨mb,0,none⟩))∧V.cell? ⟨ab,7,none⟩=some (.slice pF s.fF.length cF)) 12 ?_
 iterate 12 refine tkk hS0 (h:=?_) (hy:=by(refine Or.inl ⟨by rfl,?_⟩;intro V hV;obtain⟨u0,u1⟩:=hV;go_simp;try with_reducible rfl))
 have h6:=(H5.out.set 10 10 (.slice pF s.fF.length cF) rfl).drew
 have h7:Sx w0 _ (LA ab tg cap mw mb T {v with nf:=.slice pF s.fF.length cF} s (X++tl)):=h6
 have H7:=hide h7
 have HV:Hid (v.fF=.slice pF s.fF.length cF):=hF
 clear h6 h7 H5 hF
 refine lastK (fun K hK=>?_)
 go_simp
 refine hK _ _ ?_
 clear hK K hS0
 generalize (w2.setCell ⟨mb,10,none⟩ (.slice pF s.fF.length cF)).drew=w3 at*
 clear b9 b7 b10 e10 lb0 lb1
 have hin:It.b hb [.slice (some ⟨tg,0,none⟩) T.length cap,.int .i64 0]∈LA ab tg cap mw mb T {v with nf:=.slice pF s.fF.length cF} s (X++tl):=by rw[HX.out];simp
 obtain⟨⟨x0,-⟩,lx⟩:=H7.out.cIn hin 0
 obtain⟨⟨x1,-⟩,-⟩:=H7.out.cIn hin 1
 obtain⟨y0,z0⟩:=H7.out.c 0 0 rfl rfl
 obtain⟨y1,z1⟩:=H7.out.c 0 1 rfl rfl
 have ly:=H7.out.lt 0 rfl
 have h8:=(H7.out.set 0 0 (.slice (some ⟨tg,0,none⟩) T.length cap) rfl).set 0 1 (.int .i64 0) rfl
 have h9:Sx w0 _ (LA ab tg cap mw mb T {v with nf:=.slice pF s.fF.length cF} {s with i:=0} (X++tl)):=h8
 have H9:=hide h9
 clear h8 h9 H7 hin
 go_wp2
 go_end0
 refine OutX.ok_mk HMX.out ⟨rfl,mb,g,{v with nf:=.slice pF s.fF.length cF},.b hb [.slice (some ⟨tg,0,none⟩) T.length cap,.int .i64 0]::tl,?_,HV.out.symm,HA.out.1,?_⟩
 ·exact(HA.out.2.mono (fun p hp=>List.mem_cons_of_mem _ hp)).vsame ⟨rfl,rfl,rfl,rfl⟩
 ·have h10:=H9.out
  rw[HX.out,List.append_assoc] at h10
  exact h10
end
end
section
open Go.RowKit
def asmT (T:List Tok):Except Err MS:=
 bnd (modT T (mkS [] [] [])) fun s1=>bnd (modT T (mkS s1.fT s1.fF s1.fG)) fun s2=>match tellL s2.no [8,6,9] with
  | some x=>.error x
  | none=>.ok s2
theorem KN.nil:KN []:=⟨by simp,by simp⟩
section
variable {w:World} {T:List Tok}
def NewsC (text:ByteArray) (T:List Tok):Prop:=∀w:World,Calls Tryz.prog 34 #[.string text] w fun e w'=>∃v,e=.returned (.agg #[v,.int .i64 0])∧Kept (fun _=>False) w w'∧Row (fun g=>w.heap.size≤g) w' 144 3 v T.length (T.flatMap tokCells)
def Two (T:List Tok) (s:MS):Prop:=∃s1,modT T (mkS [] [] [])=.ok s1∧KN s1.fF∧KN s1.fG∧modT T (mkS s1.fT s1.fF s1.fG)=.ok s
def ModV (w:World) (T:List Tok) (s:MS) (e:Ending) (w':World):Prop:=∃ab tg cap mw mb g v tl,e=.returned (.pointer (some ⟨mb,0,none⟩))∧AG g v s tl∧v.nf=v.fF∧s.i<T.length∧Two T s∧Sx w w' (LA ab tg cap mw mb T v {s with i:=0} tl)
set_option maxRecDepth 100000 in
set_option maxHeartbeats 1600000 in
theorem asModule_all {text:ByteArray} (hN:NewsC text T) (hl:Gl w) (hg:Ge w) (hd:Gd w) (hT:TW T) (h0:0<T.length) (hD:(∀t∈T,t.1≠4)∨∀i,opensT T ⟨#[100,97,116,97]⟩ i=false):
  Calls Tryz.prog 11 #[.string text] w (OutX w (asmT T) (ModV w T)):=by
 have HN:=hide hN
 have HL:=hide hl
 have HG:=hide hg
 have HD:=hide hd
 have HDD:=hide hD
 have H0:=hide h0
 clear hN hl hg hd hD h0
 go_enter Tryz.func11,Tryz.ntmps11
 go_wp2_with fail
 refine(HN.out w).mono ?_
 rintro e w1 ⟨v,rfl,hk1,hr1⟩
 obtain⟨tg,cap,rfl,htg,-⟩:=Row.cells hr1 H0.out
 have h1:Sx w w1 [.r 144 3 (.slice (some ⟨tg,0,none⟩) T.length cap) T.length (T.flatMap tokCells)]:=(Sx.start w).add (p:=.r 144 3 (.slice (some ⟨tg,0,none⟩) T.length cap) T.length (T.flatMap tokCells)) hk1 (hr1.toBase (fun _ c=>c)) (fun g e=>(hr1.at_ g e))
 have HL1:=hide (HL.out.kept hk1)
 have H1:=hide h1
 clear hk1 hr1 h1
 go_wp2_with fail
 refine(words_any HL1.out).mono ?_
 rintro e w2 ⟨rfl,hk2,hm2⟩
 have h2:Sx w w2 ([.r 144 3 (.slice (some ⟨tg,0,none⟩) T.length cap) T.length (T.flatMap tokCells)]++[.m w1.heap.size 256 (wordsD 256)]):=H1.out.add (p:=.m w1.heap.size 256 (wordsD 256)) hk2 ⟨H1.out.kept.size,hm2⟩ (fun g e=>by cases e;exact Nat.le_refl _)
 generalize w1.heap.size=mw at*
 have h3:=h2.new #[.slice (some ⟨tg,0,none⟩) T.length cap,.int .i64 0,.map (some mw),.slice none 0 0,.slice none 0 0,.slice none 0 0,.slice none 0 0,.slice none 0 0,.slice none 0 0,.pointer none,.slice none 0 0] 110
 have h4:Sx w _ (.b w2.heap.size [.slice (some ⟨tg,0,none⟩) T.length cap,.int .i64 ((0:Nat):Int),.map (some mw),.slice none 0 0,.slice none 0 0,.slice none 0 0,.slice none 0 0,.slice none 0 0,.slice none 0 0,.pointer none,.slice none 0 0]::.r 144 3 (.slice (some ⟨tg,0,none⟩) T.length cap) T.length (T.flatMap tokCells)::.m mw 256 (wordsD 256)::[]):=h3.perm (List.perm_append_singleton _ _)
 have h5:Sx w _ (LR w2.heap.size tg cap mw T (.slice none 0 0) (.slice none 0 0) (.slice none 0 0) (.slice none 0 0) (.slice none 0 0) (.slice none 0 0) (.pointer none) (.slice none 0 0) [] [] [] []):=((h4.insN 3 135 2).insN 4 135 2).insN 5 135 2
 have H5:=hide h5
 clear h2 h3 h4 h5 hk2 hm2 H1 HL1
 go_upto_region 2 with fail
 generalize w2.alloc (.cells #[.slice (some ⟨tg,0,none⟩) T.length cap,.int .i64 0,.map (some mw),.slice none 0 0,.slice none 0 0,.slice none 0 0,.slice none 0 0,.slice none 0 0,.slice none 0 0,.pointer none,.slice none 0 0] 110)=w3 at*
 generalize w2.heap.size=ab at*
 go_wp2_with fail
 refine(asRead_all H5.out KN.nil KN.nil KN.nil HG.out HD.out hT H0.out HDD.out).mono ?_
 intro e w4 h6
 cases hx:modT T (mkS [] [] []) with
 | error q=>
  rw[hx] at h6
  obtain⟨rfl,hk⟩:=h6
  exact⟨rfl,OutX.err_mk (bnd_err hx) ⟨rfl,hk⟩⟩
 | ok s1=>
 have HM1:Hid (asmT T=_):=bnd_ok hx
 have HX1:=hide hx
 rw[hx] at h6
 obtain⟨rfl,mb,g,v,tl,ha,-,hi,hS⟩:=h6
 have hfew:=hT.few
 have HK:Hid (KN s1.fT∧KN s1.fF∧KN s1.fG):=⟨⟨by have:=ha.fT;omega,ha.fTx⟩,⟨by have:=ha.fF;omega,ha.fFx⟩,⟨by have:=ha.fG;omega,ha.fGx⟩⟩
 obtain⟨p1,q1,e1⟩:=Row.shape (hS.isRow 7 rfl)
 obtain⟨p2,q2,e2⟩:=Row.shape (hS.isRow 8 rfl)
 obtain⟨p3,q3,e3⟩:=Row.shape (hS.isRow 9 rfl)
 obtain⟨a6,-⟩:=hS.c 0 6 (v:=.slice p1 s1.fT.length q1) rfl (congrArg some e1)
 obtain⟨a7,-⟩:=hS.c 0 7 (v:=.slice p2 s1.fF.length q2) rfl (congrArg some e2)
 obtain⟨a8,-⟩:=hS.c 0 8 (v:=.slice p3 s1.fG.length q3) rfl (congrArg some e3)
 obtain⟨b3,c3⟩:=hS.c 0 3 rfl rfl
 obtain⟨b4,c4⟩:=hS.c 0 4 rfl rfl
 obtain⟨b5,c5⟩:=hS.c 0 5 rfl rfl
 have l0:=hS.lt 0 rfl
 have h7:=((hS.set 0 3 v.fT rfl).set 0 4 v.fF rfl).set 0 5 v.fG rfl
 have h8:Sx w (((w4.setCell ⟨ab,3,none⟩ v.fT).setCell ⟨ab,4,none⟩ v.fF).setCell ⟨ab,5,none⟩ v.fG) (LR ab tg cap mw T v.fT v.fF v.fG v.fT v.fF v.fG (.pointer (some ⟨mb,0,none⟩)) v.no s1.fT s1.fF s1.fG []):=h7.sub (by
  show List.Sublist [_,_,_,_,_,_] (_::_::_::_::_::_::_::_::_::_::_)
  exact((((((List.nil_sublist _).cons_cons _).cons_cons _).cons_cons _).cons _).cons _ |>.cons _ |>.cons _).cons_cons _ |>.cons_cons _ |>.cons_cons _)
 rw[e1,e2,e3] at h8
 have H8:=hide h8
 clear hx ha hi hS h7 h8 H5 e1 e2 e3
 go_upto_region 4 with fail
 generalize ((w4.setCell ⟨ab,3,none⟩ (.slice p1 s1.fT.length q1)).setCell ⟨ab,4,none⟩ (.slice p2 s1.fF.length q2)).setCell ⟨ab,5,none⟩ (.slice p3 s1.fG.length q3)=w5 at*
 clear a6 a7 a8 b3 c3 b4 c4 b5 c5 l0
 go_wp2_with fail
 refine(asRead_all H8.out HK.out.1 HK.out.2.1 HK.out.2.2 HG.out HD.out hT H0.out HDD.out).mono ?_
 intro e w6 h9
 cases hx:modT T (mkS s1.fT s1.fF s1.fG) with
 | error q=>
  rw[hx] at h9
  obtain⟨rfl,hk⟩:=h9
  exact⟨rfl,OutX.err_mk (HM1.out.trans (bnd_err hx)) ⟨rfl,hk⟩⟩
 | ok s2=>
 have HM2:Hid (asmT T=_):=HM1.out.trans (bnd_ok hx)
 have HTW:Hid (Two T s2):=⟨s1,HX1.out,HK.out.2.1,HK.out.2.2,hx⟩
 rw[hx] at h9
 obtain⟨rfl,mb2,g2,v2,tl2,ha2,hnf,hi2,hS2⟩:=h9
 have HA:Hid (AG g2 v2 s2 tl2∧v2.nf=v2.fF∧s2.i<T.length):=⟨ha2,hnf,hi2⟩
 have H9:=hide hS2
 clear hx ha2 hnf hi2 hS2 H8
 go_wp2_with fail
 refine(asTell_all (kq:=1) (vQ:=v2.no) (ns:=s2.no) H9.out rfl rfl (by have:=HA.out.1.no;have:=HA.out.2.2;omega)).mono ?_
 intro e w7 h10
 cases ht:tellL s2.no [8,6,9] with
 | some x=>
  rw[ht] at h10
  obtain⟨rfl,hk⟩:=h10
  exact⟨rfl,OutX.err_mk (HM2.out.trans (by rw[ht])) ⟨rfl,hk⟩⟩
 | none=>
 rw[ht] at h10
 obtain⟨rfl,h10⟩:=h10
 have h11:Sx w w7 (LA ab tg cap mw mb2 T v2 {s2 with i:=0} tl2):=h10
 have HM3:Hid (asmT T=.ok s2):=HM2.out.trans (by rw[ht])
 obtain⟨a9,-⟩:=h11.c 0 9 rfl rfl
 have l0:=h11.lt 0 rfl
 have H11:=hide h11
 clear ht h10 h11 H9
 go_wp2
 go_ret
 exact OutX.ok_mk HM3.out ⟨ab,tg,cap,mw,mb2,g2,v2,tl2,rfl,HA.out.1,HA.out.2.1,HA.out.2.2,HTW.out,H11.out⟩
end
end
section
open Go.RowKit
def WW (w0:World) (wb:Nat) (os:List Nat) (Y:List It) (w:World):Prop:=∃vB,Sx w0 w (.b wb [vB]::.r 5 1 vB os.length (byteCells os)::Y)
section
variable {w0 w w':World} {wb:Nat} {os:List Nat} {Y:List It} {p:It}
theorem WW.new (h:WW w0 wb os Y w) (cs:Array Value) (t:TypeId):WW w0 wb os (.b w.heap.size cs.toList::Y) (w.alloc (.cells cs t)):=by
 obtain⟨vB,h⟩:=h
 exact⟨vB,(h.new cs t).perm ((List.perm_append_singleton _ _).trans ((List.Perm.swap _ _ _).trans (List.Perm.cons _ (List.Perm.swap _ _ _))))⟩
theorem WW.pop (h:WW w0 wb os (p::Y) w):WW w0 wb os Y w:=by
 obtain⟨vB,h⟩:=h
 exact⟨vB,h.sub ((List.Sublist.cons _ (List.Sublist.refl _)).cons_cons _ |>.cons_cons _)⟩
theorem WW.to (h:WW w0 wb os Y w) (hk:Kept (fun _=>False) w w'):WW w0 wb os Y w':=by
 obtain⟨vB,h⟩:=h
 exact⟨vB,h.to hk⟩
theorem WW.alloc (h:WW w0 wb os Y w) (o:Obj):WW w0 wb os Y (w.alloc o):=h.to ((Kept.refl _ _).alloc o)
theorem WW.kept (h:WW w0 wb os Y w):Kept (fun _=>False) w0 w:=by
 obtain⟨vB,h⟩:=h
 exact h.kept
theorem WW.cl {g:Nat} {cs:List Value} {v:Value} (h:WW w0 wb os Y w) (k j:Nat) (hk:Y[k]?=some (.b g cs):=by rfl) (hj:cs[j]?=some v:=by rfl):w.cell? ⟨g,j,none⟩=some v∧w.frozen? ⟨g,j,none⟩=false:=by
 obtain⟨vB,h⟩:=h
 exact h.c (k+2) j hk hj
theorem WW.lt {g:Nat} {cs:List Value} (h:WW w0 wb os Y w) (k:Nat) (hk:Y[k]?=some (.b g cs):=by rfl):g<w.heap.size:=by
 obtain⟨vB,h⟩:=h
 exact h.lt (k+2) hk
theorem WW.row {E:TypeId} {sz n:Nat} {v:Value} {xs:List Value} {R:List It} (h:WW w0 wb os Y w) (hr:HasR R E sz v n xs) (hs:∀p∈R,p∈Y):Row (fun g=>w0.heap.size≤g) w E sz v n xs:=by
 obtain⟨vB,h⟩:=h
 exact hr.row h (fun p hp=>by simp[hs p hp])
theorem WW.cIn {g:Nat} {cs:List Value} {v:Value} (h:WW w0 wb os Y w) (hm:It.b g cs∈Y) (j:Nat) (hj:cs[j]?=some v:=by rfl):(w.cell? ⟨g,j,none⟩=some v∧w.frozen? ⟨g,j,none⟩=false)∧g<w.heap.size:=by
 obtain⟨vB,h⟩:=h
 exact h.cIn (by simp[hm]) j hj
theorem wr1 {x:Int} (h0:0≤x) (h:WW w0 wb os Y w) (hn:os.length≤1000000000000) (t:TypeId):Calls Tryz.prog 38 #[.pointer (some ⟨wb,0,none⟩),.slice (some ⟨w.heap.size,0,none⟩) 1 1] (w.alloc (.cells #[.int .u8 x] t)) (fun e w'=>e=.returned (.tuple #[])∧WW w0 wb (os++[x.toNat]) Y w'):=by
 obtain⟨vB,h⟩:=h
 refine(wrBytes_one (kb:=0) (kr:=1) (x:=x) (h.alloc (.cells #[.int .u8 x] t)) rfl rfl hn ?_).mono ?_
 ·have:=(h.new #[.int .u8 x] t).cL 0
  exact this.1
 rintro e w' ⟨rfl,vB',h1⟩
 refine⟨rfl,vB',?_⟩
 have e1:byteCells (os++[x.toNat])=byteCells os++[.int .u8 x]:=by
  unfold byteCells
  simp only[List.map_append,List.map_cons,List.map_nil]
  rw[Int.toNat_of_nonneg h0]
 rw[e1]
 simpa using h1
def uB:Nat→Int→List Nat
 | 0,_=>[]
 | k+1,n=>if 127<n then(bits BinOp.or IntKind.u8 (IntKind.u8.wrap n) 128).toNat::uB k (n / 128) else[(IntKind.u8.wrap n).toNat]
def uN (n:Int):List Nat:=uB 6 n
theorem wrap8 (x:Int):0≤IntKind.u8.wrap x∧IntKind.u8.wrap x≤255:=by rw[IntKind.wrap_u8];omega
theorem bits8 (op:BinOp) (x y:Int):0≤bits op IntKind.u8 x y:=(wrap8 _).1
end
end
section
open Go.RowKit
def sB:Nat→Int→List Nat
 | 0,_=>[]
 | k+1,n=>if n< -64∨64≤n then(bits BinOp.or IntKind.u8 (IntKind.u8.wrap n) 128).toNat::sB k (n / 128) else[(bits BinOp.and IntKind.u8 (IntKind.u8.wrap n) 127).toNat]
def sN (n:Int):List Nat:=sB 10 n
def strN (os:List Nat):ByteArray:=strOfNums (os.map fun(k:Nat)=>(k:Int))
def numsOf (s:ByteArray):List Nat:=s.data.toList.map (·.toNat)
def sizedN (s:ByteArray):List Nat:=uN (s.size:Nat)++numsOf s
theorem uB_len:∀(k:Nat) (n:Int),(uB k n).length≤k
 | 0,_=>by simp[uB]
 | k+1,n=>by
  unfold uB
  split
  ·have:=uB_len k (n / 128)
   simp
   exact this
  ·simp
theorem sB_len:∀(k:Nat) (n:Int),(sB k n).length≤k
 | 0,_=>by simp[sB]
 | k+1,n=>by
  unfold sB
  split
  ·have:=sB_len k (n / 128)
   simp
   exact this
  ·simp
theorem uN_len (n:Int):(uN n).length≤6:=uB_len 6 n
theorem sN_len (n:Int):(sN n).length≤10:=sB_len 10 n
theorem numsOf_len (s:ByteArray):(numsOf s).length=s.size:=by unfold numsOf;simp
theorem sizedN_len (s:ByteArray):(sizedN s).length≤s.size+6:=by
 unfold sizedN
 rw[List.length_append,numsOf_len]
 have:=uN_len (s.size:Nat)
 omega
section
variable {w0 w:World} {wb:Nat} {os:List Nat} {Y:List It}
set_option maxRecDepth 100000 in
set_option maxHeartbeats 1600000 in
theorem wrU_all {n:Int} (h0:0≤n) (h1:n≤4294967295) (h:WW w0 wb os Y w) (hn:os.length+6≤1000000000000):Calls Tryz.prog 46 #[.pointer (some ⟨wb,0,none⟩),.int .u32 n] w (fun e w'=>e=.returned (.tuple #[])∧WW w0 wb (os++uN n) Y w'):=by
 have H:=hide h
 have HN:=hide hn
 have HB:Hid (0≤n∧n<128 ^ 5):=⟨h0,by have:(128:Int) ^ 5=34359738368:=by decide
                                     omega⟩
 clear h hn h0 h1
 go_enter Tryz.func46,Tryz.ntmps46
 go_wp2_with fail
 go_loopg [1] 6 (fun k u wr=>∃(n':Int) (os':List Nat) (m:Nat),u=.int .u32 n'∧k=m+1∧0≤n'∧n'<128 ^ m∧m≤5∧os'.length+k≤os.length+6∧os++uN n=os'++uB k n'∧WW w0 wb os' Y wr)
 case atStart=>exact⟨n,os,5,rfl,rfl,HB.out.1,HB.out.2,by omega,by omega,rfl,H.out⟩
 case round=>
  obtain⟨n',os',m,rfl,rfl,g0,g1,g2,g3,g4,hW⟩:=hrel
  clear H
  have HW:=hide hW
  have HL:=hide g4
  have hw8:=wrap8 n'
  clear hW g4
  by_cases h127:(127:Int)<n'
  ·obtain⟨m',rfl⟩:∃m',m=m'+1:=by
    rcases m with _ | m'
    ·simp at g1;omega
    ·exact⟨m',rfl⟩
   have HD:Hid (0≤n' / 128∧n' / 128<128 ^ m'):=by
    refine⟨by omega,Int.ediv_lt_of_lt_mul (by omega) ?_⟩
    rw[Int.pow_succ] at g1
    exact g1
   have HL2:Hid (os++uN n=(os'++[(bits BinOp.or IntKind.u8 (IntKind.u8.wrap n') 128).toNat])++uB (m'+1) (n' / 128)):=by
    show _=_
    rw[HL.out]
    conv=>lhs;unfold uB
    rw[if_pos h127]
    simp
   have HB8:=hide (bits8 BinOp.or (IntKind.u8.wrap n') 128)
   have G:Hid (os'.length+(m'+1+1)≤os.length+6∧m'+1≤5):=⟨g3,g2⟩
   clear g1 g3 HL hw8
   go_wp2_with fail
   refine(wr1 HB8.out HW.out (by have:=G.out;have:=HN.out;omega) _).mono ?_
   rintro e w2 ⟨rfl,h2⟩
   have H2:=hide h2
   clear h2 HW
   go_wp2
   go_roundg (m'+1)
   case measure=>omega
   case rel=>exact⟨n' / 128,_,m',rfl,rfl,HD.out.1,HD.out.2,by have:=G.out;omega,by rw[List.length_append];have:=G.out;simp;omega,HL2.out,H2.out⟩
  ·have HL2:Hid (os++uN n=os'++[n'.toNat]):=by
    show _=_
    rw[HL.out]
    unfold uB
    rw[if_neg h127,IntWalk.u8_in _ ⟨g0,by omega⟩]
   have G:Hid (os'.length+(m+1)≤os.length+6):=g3
   have HB8:=hide g0
   clear g1 HL g3
   go_wp2_with fail
   refine(wr1 HB8.out HW.out (by have:=G.out;have:=HN.out;omega) _).mono ?_
   rintro e w2 ⟨rfl,h2⟩
   have H2:=hide h2
   clear h2 HW
   go_wp2
   go_end0
   exact⟨rfl,by rw[HL2.out];exact H2.out⟩
set_option maxRecDepth 100000 in
set_option maxHeartbeats 1600000 in
theorem wrS_all {n:Int} (h0: -9223372036854775808≤n) (h1:n≤9223372036854775807) (h:WW w0 wb os Y w) (hn:os.length+10≤1000000000000):Calls Tryz.prog 76 #[.pointer (some ⟨wb,0,none⟩),.int .i64 n] w (fun e w'=>e=.returned (.tuple #[])∧WW w0 wb (os++sN n) Y w'):=by
 have H:=hide h
 have HN:=hide hn
 have HB:Hid (-(64*128 ^ 9)≤n∧n<64*128 ^ 9):=by
  have e:(64:Int)*128 ^ 9=590295810358705651712:=by decide
  rw[e]
  exact⟨by omega,by omega⟩
 clear h hn h0 h1
 go_enter Tryz.func76,Tryz.ntmps76
 go_wp2_with fail
 go_loopg [1] 10 (fun k u wr=>∃(n':Int) (os':List Nat) (m:Nat),u=.int .i64 n'∧k=m+1∧ -(64*128 ^ m)≤n'∧n'<64*128 ^ m∧m≤9∧os'.length+k≤os.length+10∧os++sN n=os'++sB k n'∧WW w0 wb os' Y wr)
 case atStart=>exact⟨n,os,9,rfl,rfl,HB.out.1,HB.out.2,by omega,by omega,rfl,H.out⟩
 case round=>
  obtain⟨n',os',m,rfl,rfl,g0,g1,g2,g3,g4,hW⟩:=hrel
  clear H
  have HW:=hide hW
  have HL:=hide g4
  clear hW g4
  by_cases hc:n'< -64∨64≤n'
  ·obtain⟨m',rfl⟩:∃m',m=m'+1:=by
    rcases m with _ | m'
    ·simp at g0 g1;omega
    ·exact⟨m',rfl⟩
   have HD:Hid (-(64*128 ^ m')≤n' / 128∧n' / 128<64*128 ^ m'):=by
    rw[Int.pow_succ] at g0 g1
    generalize (128:Int) ^ m'=q at*
    exact⟨by omega,by omega⟩
   have HL2:Hid (os++sN n=(os'++[(bits BinOp.or IntKind.u8 (IntKind.u8.wrap n') 128).toNat])++sB (m'+1) (n' / 128)):=by
    show _=_
    rw[HL.out]
    conv=>lhs;unfold sB
    rw[if_pos hc]
    simp
   have HB8:=hide (bits8 BinOp.or (IntKind.u8.wrap n') 128)
   have G:Hid (os'.length+(m'+1+1)≤os.length+10∧m'+1≤9):=⟨g3,g2⟩
   clear g0 g1 g3 HL
   by_cases hlo:n'< -64
   case' pos=>clear hc
   case' neg=>
    have hhi:(64:Int)≤n':=by omega
    clear hc
   all_goals
    go_wp2_with fail
    refine(wr1 HB8.out HW.out (by have:=G.out;have:=HN.out;omega) _).mono ?_
    rintro e w2 ⟨rfl,h2⟩
    have H2:=hide h2
    clear h2 HW
    go_wp2
    go_roundg (m'+1)
    case measure=>omega
    case rel=>exact⟨n' / 128,_,m',rfl,rfl,HD.out.1,HD.out.2,by have:=G.out;omega,by rw[List.length_append];have:=G.out;simp;omega,HL2.out,H2.out⟩
  ·have HL2:Hid (os++sN n=os'++[(bits BinOp.and IntKind.u8 (IntKind.u8.wrap n') 127).toNat]):=by
    show _=_
    rw[HL.out]
    unfold sB
    rw[if_neg hc]
   have G:Hid (os'.length+(m+1)≤os.length+10):=g3
   have HB8:=hide (bits8 BinOp.and (IntKind.u8.wrap n') 127)
   have hlo:¬n'< -64:=by omega
   have hhi:¬(64:Int)≤n':=by omega
   clear g0 g1 HL g3 hc
   go_wp2_with fail
   refine(wr1 HB8.out HW.out (by have:=G.out;have:=HN.out;omega) _).mono ?_
   rintro e w2 ⟨rfl,h2⟩
   have H2:=hide h2
   clear h2 HW
   go_wp2
   go_end0
   exact⟨rfl,by rw[HL2.out];exact H2.out⟩
theorem strCells_nums (s:ByteArray):Lib.strCells s=byteCells (numsOf s):=by
 unfold Lib.strCells byteCells numsOf
 simp
theorem append_str {P:Program} {t u ty e:TypeId} {i:TypeInfo} {base n:Nat} {v:Value} {xs:List Value} {s:ByteArray} (ht:P.underlying t=some (.slice e)) (hu:P.underlying u=some .string) (hi:P.info? e=some i) (hz:i.zero=some (.int .u8 0)) (hsize:i.size=1) (hby:i.bytes=1) (hown:w.ownsRow base e 1 v n xs) (hb:n+s.size≤100000000000000) (hbase:base≤w.heap.size):
  ∃v' w',(Builtin.append_ #[t,u] ty #[v,.string s]).run P w=.ok v' w'∧w'.ownsRow base e 1 v' (n+s.size) (xs++Lib.strCells s)∧w.grownBy w' v.ownBlock∧(∀g,v'.ownBlock=some g→v.ownBlock=some g∨w.heap.size≤g):=by
 obtain⟨v',w',hr,h2,h3,h4⟩:=Lib.run_append_own_string (P:=P) w base t u ty e i ht hu hi hz hsize hby v n xs hown s (by unfold maxLen;omega) (by omega) hbase
 refine⟨v',w',hr,h2,h3,fun g hg=>?_⟩
 have hxl:xs.length=n:=by simpa using hown.1
 rcases hown.2 with⟨rfl,rfl⟩ | ⟨g0,cap,cur,rfl,hbg,hgg,hnc,hcm,hcs,htake⟩
 ·by_cases hm:s.size=0
  ·obtain rfl:=h4.2 ⟨rfl,hm⟩
   cases hg
  ·have hr2:=run_append_nil_string (P:=P) w t u ty e i (.int .u8 0) ht hu hi hz s (by omega) (by omega) (by rw[hby];omega)
   rw[hr] at hr2
   cases hr2
   cases hg
   exact .inr (Nat.le_refl _)
 ·by_cases hroom:n+s.size≤cap
  ·have hr2:=Lib.run_append_room_string (P:=P) w t u ty e i ht hu hi hsize g0 n cap cur hgg s hroom (by omega)
   rw[hr] at hr2
   cases hr2
   exact .inl hg
  ·have holds:∀j u,xs[j]?=some u→w.cell? ((⟨g0,0,none⟩:Addr).add j)=some u:=hown.cells (g:=g0) rfl
   have hr2:=Lib.run_append_grow_string (P:=P) w t u ty e i (.int .u8 0) ht hu hi hz ⟨g0,0,none⟩ n cap xs (by rw[hsize];simpa using hxl) holds s (by omega) (by omega) (by rw[hby];exact growslice_fits (by omega) (by omega))
   rw[hr] at hr2
   cases hr2
   cases hg
   exact .inr (Nat.le_refl _)
end
end
section
open Go.RowKit
theorem wpList_append_str {P:Program} {w:World} {ops:Array Oper} {rest:List Oper} {o:Oper} {a:Act} {Q:Exit→Act→World→Prop} (hgd:o.guard=none) (sl x:Operand) (t u:TypeId)
  (ho:o.op=.call {callee:=.builtin .append,args:= #[sl,x],argTypes:= #[t,u]})
  (base:Nat) (e:TypeId) (i:TypeInfo) (ht:P.underlying t=some (.slice e)) (hu:P.underlying u=some .string) (hi:P.info? e=some i) (hz:i.zero=some (.int .u8 0)) (hsize:i.size=1) (hby:i.bytes=1)
  (v:Value) (n:Nat) (xs:List Value) (hs:a.eval sl=v) (hown:w.ownsRow base e 1 v n xs) (s:ByteArray) (hx:a.eval x=.string s) (hb:n+s.size≤100000000000000) (hbase:base≤w.heap.size)
  (h:∀v' w',w'.ownsRow base e 1 v' (n+s.size) (xs++Lib.strCells s)→w.grownBy w' v.ownBlock→(∀g,v'.ownBlock=some g→v.ownBlock=some g∨w.heap.size≤g)→wpList P ops Q rest (a.put o.dst v') w'):wpList P ops Q (o::rest) a w:=by
 refine wpList_plain hgd fun K hK=>?_
 obtain⟨v',w',hr,h2,h3,h4⟩:=append_str (P:=P) (ty:=o.type) ht hu hi hz hsize hby hown hb hbase
 unfold Oper.wp execOp
 simp only[ho,resolve,invoke,builtin,Sem.run_bind,Sem.run_pure,Result.andThen_ok,List.map_toArray,List.map_cons,List.map_nil,hs,hx,hr]
 exact hK _ _ (h v' w' h2 h3 h4)
section
variable {w0 w:World} {wb:Nat} {os:List Nat} {Y:List It}
set_option maxRecDepth 100000 in
set_option maxHeartbeats 1600000 in
theorem wrText_all (s:ByteArray) (h:WW w0 wb os Y w) (hn:os.length+s.size≤1000000000000):Calls Tryz.prog 13 #[.pointer (some ⟨wb,0,none⟩),.string s] w (fun e w'=>e=.returned (.tuple #[])∧WW w0 wb (os++numsOf s) Y w'):=by
 obtain⟨i0,hi0,hz0,hz1,hz2⟩:=info_parts Tryz.info5
 obtain⟨vB,h⟩:=h
 obtain⟨pB,cB,rfl⟩:=Row.shape (h.isRow 1 rfl)
 obtain⟨a0,b0⟩:=h.c 0 0 rfl rfl
 have l0:=h.lt 0 rfl
 have HOwn:=hide (h.row 1 rfl)
 have H:=hide h
 clear h
 go_enter Tryz.func13,Tryz.ntmps13
 go_wp2_with (at_builtin;refine wpList_append_str rfl _ _ 31 9 rfl w0.heap.size 5 i0 Tryz.underlying31 Tryz.underlying9 hi0 hz0 hz1 hz2 _ _ _ rfl HOwn.out s rfl (by omega) H.out.kept.size ?_)
 intro v' w1 hown hgrow hat
 obtain⟨os2,hos⟩:∃os2,os2=os++numsOf s:=⟨_,rfl⟩
 have h1:=H.out.upd (k:=1) (S:=fun i=>Value.ownBlock (.slice pB os.length cB)=some i) (p2:=.r 5 1 v' os2.length (byteCells os2)) rfl (Kept.of_grown hgrow) (fun i e=>e) (by
  rw[strCells_nums] at hown
  have e1:os2.length=os.length+s.size:=by rw[hos,List.length_append,numsOf_len]
  have e2:byteCells os2=byteCells os++byteCells (numsOf s):=by rw[hos];unfold byteCells;simp
  show w1.ownsRow _ _ _ _ _ _
  rw[e1,e2]
  exact hown) hat
 obtain⟨pv,cv,hv⟩:=Row.shape (h1.isRow 1 rfl)
 obtain⟨a1,b1⟩:=h1.c 0 0 rfl rfl
 have l1:=h1.lt 0 rfl
 have h2:Sx w0 _ (.b wb [v']::.r 5 1 v' os2.length (byteCells os2)::Y):=h1.set 0 0 v' rfl
 subst hv
 have H2:=hide h2
 have HOS:=hide hos
 clear h1 h2 hown hgrow hat a0 b0 l0 HOwn H hos
 go_wp2
 go_end0
 rw[←HOS.out]
 exact⟨rfl,_,H2.out⟩
theorem conv_nil (w:World):(convert 31 9 (.slice none 0 0)).run Tryz.prog w=.ok (.string ⟨#[]⟩) w:=by kernel_rfl
theorem wrAll_all (h:WW w0 wb os Y w):Calls Tryz.prog 33 #[.pointer (some ⟨wb,0,none⟩)] w (fun e w'=>e=.returned (.string (strN os))∧WW w0 wb os Y w'):=by
 obtain⟨vB,h⟩:=h
 obtain⟨a0,-⟩:=h.c 0 0 rfl rfl
 have l0:=h.lt 0 rfl
 have hcv:(convert 31 9 vB).run Tryz.prog w=.ok (.string (strN os)) w:=by
  rcases(h.row 1 rfl).2 with⟨rfl,hn⟩ | ⟨g,cap,cur,rfl,hb,hg,hnc,hcm,hcs,htake⟩
  ·obtain rfl:os=[]:=List.length_eq_zero_iff.1 hn
   exact conv_nil w
  ·have hrow:=h.isRow 1 rfl
   refine run_convert_bytes_arg (P:=Tryz.prog) w 31 5 Tryz.underlying31 Tryz.underlying5 g 0 os.length cap (os.map fun(k:Nat)=>(k:Int)) (by simp) (fun i hi=>?_) 9 Tryz.underlying9
   have hi':i<os.length:=by simpa using hi
   obtain⟨g',cap',e1,-,-,-,hc⟩:=Row.cells hrow (by omega)
   cases e1
   have h1:=hc i (by simpa using hi')
   simp[byteCells,hi'] at h1 ⊢
   exact h1
 have H:=hide h
 clear h
 go_enter Tryz.func33,Tryz.ntmps33
 go_wp2
 go_ret
 exact⟨rfl,vB,H.out⟩
set_option maxRecDepth 100000 in
theorem wrSized_all (s:ByteArray) (hs:s.size≤4000000000) (h:WW w0 wb os Y w) (hn:os.length+(s.size+6)≤1000000000000):Calls Tryz.prog 54 #[.pointer (some ⟨wb,0,none⟩),.string s] w (fun e w'=>e=.returned (.tuple #[])∧WW w0 wb (os++sizedN s) Y w'):=by
 have hw:IntKind.u32.wrap (s.size:Int)=(s.size:Int):=wrap_u32 (by omega)
 have H:=hide h
 have HN:=hide hn
 clear h hn
 go_enter Tryz.func54,Tryz.ntmps54
 go_wp2_with fail
 refine(wrU_all (n:=(s.size:Int)) (by omega) (by omega) H.out (by have:=HN.out;omega)).mono ?_
 rintro e w1 ⟨rfl,h1⟩
 have H1:=hide h1
 clear h1 H
 go_wp2_with fail
 refine(wrText_all s H1.out (by rw[List.length_append];have:=uN_len (s.size:Nat);have:=HN.out;omega)).mono ?_
 rintro e w2 ⟨rfl,h2⟩
 have H2:=hide h2
 clear h2 H1
 go_wp2
 go_end0
 refine⟨rfl,?_⟩
 have h3:=H2.out
 rw[List.append_assoc] at h3
 exact h3
set_option maxRecDepth 100000 in
theorem wrKind_all (k:Nat) (h:WW w0 wb os Y w) (hn:os.length+1≤1000000000000):Calls Tryz.prog 43 #[.pointer (some ⟨wb,0,none⟩),.int .u8 (k:Nat)] w (fun e w'=>e=.returned (.tuple #[])∧WW w0 wb (os++[k]) Y w'):=by
 have H:=hide h
 clear h
 go_enter Tryz.func43,Tryz.ntmps43
 go_wp2_with fail
 refine(wr1 (x:=(k:Int)) (by omega) H.out (by omega) _).mono ?_
 rintro e w2 ⟨rfl,h2⟩
 have H2:=hide h2
 clear h2 H
 go_wp2
 go_end0
 exact⟨rfl,by simpa using H2.out⟩
set_option maxRecDepth 100000 in
theorem wrNumber_all (n:Nat) (z:Int) (hb:n≤4294967295) (h:WW w0 wb os Y w) (hn:os.length+6≤1000000000000):Calls Tryz.prog 17 #[.pointer (some ⟨wb,0,none⟩),.agg #[.int .u32 (n:Nat),.int .i64 z]] w (fun e w'=>e=.returned (.tuple #[])∧WW w0 wb (os++uN n) Y w'):=by
 have H:=hide (h.new #[.int .u32 (n:Nat),.int .i64 z] 66)
 clear h
 go_enter Tryz.func17,Tryz.ntmps17
 go_upto_region 1 with fail
 generalize w.alloc (.cells #[.int .u32 (n:Nat),.int .i64 z] 66)=w1 at*
 generalize w.heap.size=b at*
 obtain⟨a0,-⟩:=H.out.cl 0 0
 have l0:=H.out.lt 0
 go_wp2_with fail
 refine(wrU_all (n:=(n:Int)) (by omega) (by omega) H.out hn).mono ?_
 rintro e w2 ⟨rfl,h2⟩
 have H2:=hide h2.pop
 clear h2 H a0 l0
 go_wp2
 go_end0
 exact⟨rfl,H2.out⟩
def constN (c:Cst):List Nat:=[if c.kind=126 then 66 else 65]++sN c.val++[11]
theorem constN_len (c:Cst):(constN c).length≤12:=by
 unfold constN
 have:=sN_len c.val
 simp
 omega
set_option maxRecDepth 100000 in
set_option maxHeartbeats 1600000 in
theorem wrConstant_all (c:Cst) (h0: -9223372036854775808≤c.val) (h1:c.val≤9223372036854775807) (h:WW w0 wb os Y w) (hn:os.length+12≤1000000000000):Calls Tryz.prog 51 #[.pointer (some ⟨wb,0,none⟩),.agg #[.int .i64 (c.at_:Nat),.int .u8 (c.kind:Nat),.int .i64 c.val]] w (fun e w'=>e=.returned (.tuple #[])∧WW w0 wb (os++constN c) Y w'):=by
 have H:=hide (h.new #[.int .i64 (c.at_:Nat),.int .u8 (c.kind:Nat),.int .i64 c.val] 75)
 have HB:Hid (-9223372036854775808≤c.val∧c.val≤9223372036854775807):=⟨h0,h1⟩
 clear h h0 h1
 go_enter Tryz.func51,Tryz.ntmps51
 go_upto_region 1 with fail
 generalize w.alloc (.cells #[.int .i64 (c.at_:Nat),.int .u8 (c.kind:Nat),.int .i64 c.val] 75)=w1 at*
 generalize w.heap.size=b at*
 obtain⟨a1,-⟩:=H.out.cl 0 1
 obtain⟨a2,-⟩:=H.out.cl 0 2
 have l0:=H.out.lt 0
 by_cases hk:c.kind=126
 case' pos=>
  have tk:((c.kind:Int)==126)=true:=by rw[hk];rfl
  have HC:Hid (constN c=[66]++sN c.val++[11]):=by show _=_;unfold constN;rw[if_pos hk]
 case' neg=>
  have tk:((c.kind:Int)==126)=false:=by simp;omega
  have HC:Hid (constN c=[65]++sN c.val++[11]):=by show _=_;unfold constN;rw[if_neg hk]
 all_goals
  clear hk
  go_wp2_with fail
  refine(wr1 (by omega) H.out (by omega) _).mono ?_
  rintro e w2 ⟨rfl,h2⟩
  obtain⟨b2,-⟩:=h2.cl 0 2
  have m0:=h2.lt 0
  have H2:=hide h2
  clear h2 H a1 a2 l0
  go_wp2_with fail
  refine(wrS_all HB.out.1 HB.out.2 H2.out (by rw[List.length_append];simp;omega)).mono ?_
  rintro e w3 ⟨rfl,h3⟩
  have H3:=hide h3
  clear h3 H2 b2 m0
  go_wp2_with fail
  refine(wr1 (by omega) H3.out (by have:=sN_len c.val;rw[List.length_append,List.length_append];simp;omega) _).mono ?_
  rintro e w4 ⟨rfl,h4⟩
  have H4:=hide h4.pop
  clear h4 H3
  go_wp2
  go_end0
  refine⟨rfl,?_⟩
  rw[HC.out]
  have h5:=H4.out
  rw[List.append_assoc,List.append_assoc,←List.append_assoc _ (sN c.val)] at h5
  exact h5
end
end
section
open Go.RowKit
set_option linter.unusedSimpArgs false
set_option linter.unusedVariables false
def Uok (n:Int):Prop:=0≤n∧n≤4294967295
def Cok (c:Cst):Prop:= -9223372036854775808≤c.val∧c.val≤9223372036854775807
def limN (l:Lim):List Nat:=if l.has=true then[1]++uN l.least++uN l.most else[0]++uN l.least
def tableN (l:Lim):List Nat:=[112]++limN l
def globN (g:Glb):List Nat:=[g.kind]++[if g.set_=true then 1 else 0]++constN g.first
def expN (x:ByteArray×Nat×Nat):List Nat:=sizedN x.1++[x.2.1]++uN (x.2.2:Nat)
def dataN (c:Cst):List Nat:=[0]++constN c++sizedN ⟨#[]⟩
def nameN (x:Nam):List Nat:=uN (x.1:Nat)++sizedN x.2
def runN (x:Nat×Nat):List Nat:=uN (x.1:Nat)++[x.2]
section
variable {w0 w:World} {wb:Nat} {os:List Nat} {Y R:List It}
set_option maxRecDepth 100000 in
set_option maxHeartbeats 1600000 in
theorem wrRun_all (x:Nat×Nat) (hx:x.1≤4294967295) (h:WW w0 wb os Y w) (hn:os.length+7≤1000000000000):Calls Tryz.prog 63 #[.pointer (some ⟨wb,0,none⟩),.agg #[.int .u32 (x.1:Nat),.int .u8 (x.2:Nat)]] w (fun e w'=>e=.returned (.tuple #[])∧WW w0 wb (os++runN x) Y w'):=by
 have hnot:∀(x:Bool) (w:World),(Op.unary .not (.bool x)).run Tryz.prog w=.ok (.bool (!x)) w:=fun _ _=>rfl
 have H0:=hide (h.new #[.int .u32 (x.1:Nat),.int .u8 (x.2:Nat)] 126)
 have HN:=hide hn
 clear h hn
 go_enter Tryz.func63,Tryz.ntmps63
 go_upto_region 1 with fail
 generalize w.alloc (.cells #[.int .u32 (x.1:Nat),.int .u8 (x.2:Nat)] 126)=w1 at*
 generalize w.heap.size=b at*
 obtain⟨c0,-⟩:=H0.out.cl 0 0
 obtain⟨c1,-⟩:=H0.out.cl 0 1
 have l0:=H0.out.lt 0
 go_wp2_with fail
 refine(wrU_all (n:=(x.1:Int)) (by omega) (by omega) H0.out (by(try simp only[List.length_append,List.length_cons,List.length_nil]);have:=HN.out;omega)).mono ?_
 rintro e w2 ⟨rfl,h1⟩
 clear c0 c1 l0
 obtain⟨c0,-⟩:=h1.cl 0 0
 obtain⟨c1,-⟩:=h1.cl 0 1
 have l0:=h1.lt 0
 have H1:=hide h1
 clear h1 H0
 go_wp2_with fail
 refine(wrKind_all x.2 H1.out (by(try simp only[List.length_append,List.length_cons,List.length_nil]);have:=uN_len (x.1:Nat);have:=HN.out;omega)).mono ?_
 rintro e w3 ⟨rfl,h2⟩
 have H2:=hide h2.pop
 clear h2 H1 c0 c1 l0
 go_wp2
 go_end0
 exact⟨rfl,by simpa [runN,List.append_assoc] using H2.out⟩
set_option maxRecDepth 100000 in
set_option maxHeartbeats 1600000 in
theorem wrName_all (x:Nam) (hx:x.1≤4294967295) (hs:x.2.size≤4000000000) (h:WW w0 wb os Y w) (hn:os.length+(x.2.size+12)≤1000000000000):Calls Tryz.prog 68 #[.pointer (some ⟨wb,0,none⟩),.agg #[.int .i64 (x.1:Nat),.string x.2]] w (fun e w'=>e=.returned (.tuple #[])∧WW w0 wb (os++nameN x) Y w'):=by
 have hnot:∀(x:Bool) (w:World),(Op.unary .not (.bool x)).run Tryz.prog w=.ok (.bool (!x)) w:=fun _ _=>rfl
 have hw:IntKind.u32.wrap (x.1:Int)=(x.1:Int):=wrap_u32 hx
 have H0:=hide (h.new #[.int .i64 (x.1:Nat),.string x.2] 135)
 have HN:=hide hn
 clear h hn
 go_enter Tryz.func68,Tryz.ntmps68
 go_upto_region 1 with fail
 generalize w.alloc (.cells #[.int .i64 (x.1:Nat),.string x.2] 135)=w1 at*
 generalize w.heap.size=b at*
 obtain⟨c0,-⟩:=H0.out.cl 0 0
 obtain⟨c1,-⟩:=H0.out.cl 0 1
 have l0:=H0.out.lt 0
 go_wp2_with fail
 refine(wrU_all (n:=(x.1:Int)) (by omega) (by omega) H0.out (by(try simp only[List.length_append,List.length_cons,List.length_nil]);have:=HN.out;omega)).mono ?_
 rintro e w2 ⟨rfl,h1⟩
 clear c0 c1 l0
 obtain⟨c0,-⟩:=h1.cl 0 0
 obtain⟨c1,-⟩:=h1.cl 0 1
 have l0:=h1.lt 0
 have H1:=hide h1
 clear h1 H0
 go_wp2_with fail
 refine(wrSized_all x.2 hs H1.out (by(try simp only[List.length_append,List.length_cons,List.length_nil]);have:=uN_len (x.1:Nat);have:=HN.out;omega)).mono ?_
 rintro e w3 ⟨rfl,h2⟩
 have H2:=hide h2.pop
 clear h2 H1 c0 c1 l0
 go_wp2
 go_end0
 exact⟨rfl,by simpa [nameN,List.append_assoc] using H2.out⟩
set_option maxRecDepth 100000 in
set_option maxHeartbeats 1600000 in
theorem wrExport_all (x:ByteArray×Nat×Nat) (hs:x.1.size≤4000000000) (hx:x.2.2≤4294967295) (h:WW w0 wb os Y w) (hn:os.length+(x.1.size+20)≤1000000000000):Calls Tryz.prog 24 #[.pointer (some ⟨wb,0,none⟩),.agg #[.int .i64 0,.string x.1,.int .u8 (x.2.1:Nat),.int .u32 (x.2.2:Nat),.int .i64 0]] w (fun e w'=>e=.returned (.tuple #[])∧WW w0 wb (os++expN x) Y w'):=by
 have hnot:∀(x:Bool) (w:World),(Op.unary .not (.bool x)).run Tryz.prog w=.ok (.bool (!x)) w:=fun _ _=>rfl
 have H0:=hide (h.new #[.int .i64 0,.string x.1,.int .u8 (x.2.1:Nat),.int .u32 (x.2.2:Nat),.int .i64 0] 81)
 have HN:=hide hn
 clear h hn
 go_enter Tryz.func24,Tryz.ntmps24
 go_upto_region 1 with fail
 generalize w.alloc (.cells #[.int .i64 0,.string x.1,.int .u8 (x.2.1:Nat),.int .u32 (x.2.2:Nat),.int .i64 0] 81)=w1 at*
 generalize w.heap.size=b at*
 obtain⟨c0,-⟩:=H0.out.cl 0 0
 obtain⟨c1,-⟩:=H0.out.cl 0 1
 obtain⟨c2,-⟩:=H0.out.cl 0 2
 obtain⟨c3,-⟩:=H0.out.cl 0 3
 obtain⟨c4,-⟩:=H0.out.cl 0 4
 have l0:=H0.out.lt 0
 go_wp2_with fail
 refine(wrSized_all x.1 hs H0.out (by(try simp only[List.length_append,List.length_cons,List.length_nil]);have:=HN.out;omega)).mono ?_
 rintro e w2 ⟨rfl,h1⟩
 clear c0 c1 c2 c3 c4 l0
 obtain⟨c0,-⟩:=h1.cl 0 0
 obtain⟨c1,-⟩:=h1.cl 0 1
 obtain⟨c2,-⟩:=h1.cl 0 2
 obtain⟨c3,-⟩:=h1.cl 0 3
 obtain⟨c4,-⟩:=h1.cl 0 4
 have l0:=h1.lt 0
 have H1:=hide h1
 clear h1 H0
 go_wp2_with fail
 refine(wr1 (x:=(x.2.1:Int)) (by omega) H1.out (by(try simp only[List.length_append,List.length_cons,List.length_nil]);have:=sizedN_len x.1;have:=HN.out;omega) _).mono ?_
 rintro e w3 ⟨rfl,h2⟩
 clear c0 c1 c2 c3 c4 l0
 obtain⟨c0,-⟩:=h2.cl 0 0
 obtain⟨c1,-⟩:=h2.cl 0 1
 obtain⟨c2,-⟩:=h2.cl 0 2
 obtain⟨c3,-⟩:=h2.cl 0 3
 obtain⟨c4,-⟩:=h2.cl 0 4
 have l0:=h2.lt 0
 have H2:=hide h2
 clear h2 H1
 go_wp2_with fail
 refine(wrU_all (n:=(x.2.2:Int)) (by omega) (by omega) H2.out (by(try simp only[List.length_append,List.length_cons,List.length_nil]);have:=sizedN_len x.1;have:=HN.out;omega)).mono ?_
 rintro e w4 ⟨rfl,h3⟩
 have H3:=hide h3.pop
 clear h3 H2 c0 c1 c2 c3 c4 l0
 go_wp2
 go_end0
 exact⟨rfl,by simpa [expN,List.append_assoc] using H3.out⟩
set_option maxRecDepth 100000 in
set_option maxHeartbeats 1600000 in
theorem wrData_all (x:Cst) (hc:Cok x) (h:WW w0 wb os Y w) (hn:os.length+20≤1000000000000):Calls Tryz.prog 31 #[.pointer (some ⟨wb,0,none⟩),.agg #[.int .i64 0,.int .i64 (x.at_:Nat),.int .u8 (x.kind:Nat),.int .i64 x.val,.string ⟨#[]⟩]] w (fun e w'=>e=.returned (.tuple #[])∧WW w0 wb (os++dataN x) Y w'):=by
 have hnot:∀(x:Bool) (w:World),(Op.unary .not (.bool x)).run Tryz.prog w=.ok (.bool (!x)) w:=fun _ _=>rfl
 have H0:=hide (h.new #[.int .i64 0,.int .i64 (x.at_:Nat),.int .u8 (x.kind:Nat),.int .i64 x.val,.string ⟨#[]⟩] 96)
 have HN:=hide hn
 clear h hn
 go_enter Tryz.func31,Tryz.ntmps31
 go_upto_region 1 with fail
 generalize w.alloc (.cells #[.int .i64 0,.int .i64 (x.at_:Nat),.int .u8 (x.kind:Nat),.int .i64 x.val,.string ⟨#[]⟩] 96)=w1 at*
 generalize w.heap.size=b at*
 obtain⟨c0,-⟩:=H0.out.cl 0 0
 obtain⟨c1,-⟩:=H0.out.cl 0 1
 obtain⟨c2,-⟩:=H0.out.cl 0 2
 obtain⟨c3,-⟩:=H0.out.cl 0 3
 obtain⟨c4,-⟩:=H0.out.cl 0 4
 have l0:=H0.out.lt 0
 go_wp2_with fail
 refine(wr1 (x:=0) (by omega) H0.out (by(try simp only[List.length_append,List.length_cons,List.length_nil]);have:=HN.out;omega) _).mono ?_
 rintro e w2 ⟨rfl,h1⟩
 clear c0 c1 c2 c3 c4 l0
 obtain⟨c0,-⟩:=h1.cl 0 0
 obtain⟨c1,-⟩:=h1.cl 0 1
 obtain⟨c2,-⟩:=h1.cl 0 2
 obtain⟨c3,-⟩:=h1.cl 0 3
 obtain⟨c4,-⟩:=h1.cl 0 4
 have l0:=h1.lt 0
 have H1:=hide h1
 clear h1 H0
 go_wp2_with fail
 refine(wrConstant_all x hc.1 hc.2 H1.out (by(try simp only[List.length_append,List.length_cons,List.length_nil]);have:=HN.out;omega)).mono ?_
 rintro e w3 ⟨rfl,h2⟩
 clear c0 c1 c2 c3 c4 l0
 obtain⟨c0,-⟩:=h2.cl 0 0
 obtain⟨c1,-⟩:=h2.cl 0 1
 obtain⟨c2,-⟩:=h2.cl 0 2
 obtain⟨c3,-⟩:=h2.cl 0 3
 obtain⟨c4,-⟩:=h2.cl 0 4
 have l0:=h2.lt 0
 have H2:=hide h2
 clear h2 H1
 go_wp2_with fail
 refine(wrSized_all ⟨#[]⟩ (by decide) H2.out (by have:(⟨#[]⟩:ByteArray).size=0:=rfl;simp only[List.length_append,List.length_cons,List.length_nil];have:=constN_len x;have:=HN.out;omega)).mono ?_
 rintro e w4 ⟨rfl,h3⟩
 have H3:=hide h3.pop
 clear h3 H2 c0 c1 c2 c3 c4 l0
 go_wp2
 go_end0
 exact⟨rfl,by simpa [dataN,List.append_assoc] using H3.out⟩
end
end
section
open Go.RowKit
set_option linter.unusedSimpArgs false
set_option linter.unusedVariables false
structure InsOk (x:InsT):Prop where
 few:x.labels.length≤100
 lab:∀y∈x.labels,y≤4294967295
 al:Uok x.align
 num:Uok x.num
 val: -9223372036854775808≤x.value∧x.value≤9223372036854775807
theorem numberM_ok {T:List Tok} {i:Nat} {x:Nat×Nat} (h:numberM T i=.ok x):x.1≤4294967295:=by
 unfold numberM at h
 split at h
 ·split at h
  ·rename_i h1
   cases h
   exact uT_lt h1
  ·cases h
 ·cases h
theorem wrap64_ok (x:Int): -9223372036854775808≤wrap64 x∧wrap64 x≤9223372036854775807:=by
 unfold wrap64
 omega
theorem sT32_ok {t:Tok} {n:Int} (h:sT32 t=some n): -9223372036854775808≤n∧n≤9223372036854775807:=by
 have key:∀x,-9223372036854775808≤valS32 x∧valS32 x≤9223372036854775807:=fun x=>by
  unfold valS32
  have:=wrap64_ok (wrap64 x*4294967296)
  omega
 unfold sT32 at h
 split at h
 ·cases h
 ·split at h
  ·split at h
   ·split at h
    ·cases h;exact key _
    ·cases h
   ·cases h;exact key _
  ·cases h
theorem sT64_ok {t:Tok} {n:Int} (h:sT64 t=some n): -9223372036854775808≤n∧n≤9223372036854775807:=by
 have key:∀x,-9223372036854775808≤valS64 x∧valS64 x≤9223372036854775807:=fun x=>by
  unfold valS64
  exact wrap64_ok _
 unfold sT64 at h
 split at h
 ·cases h
 ·split at h
  ·split at h
   ·split at h
    ·cases h;exact key _
    ·cases h
   ·cases h;exact key _
  ·cases h
theorem signedM_ok {b:Nat} {T:List Tok} {i:Nat} {x:Int×Nat} (h:signedM b T i=.ok x): -9223372036854775808≤x.1∧x.1≤9223372036854775807:=by
 unfold signedM at h
 split at h
 ·split at h
  ·rename_i h1
   cases h
   split at h1
   ·exact sT32_ok h1
   ·exact sT64_ok h1
  ·cases h
 ·cases h
theorem indexT_ok {T:List Tok} {ns:List Nam} {i:Nat} {x:(Nat×Bool)×Nat×List (Nat×Nat)} (hn:∀y∈ns,y.1≤100000) (h:indexT T ns i=.ok x):x.1.1≤4294967295:=by
 unfold indexT at h
 split at h
 ·cases h
 ·split at h
  ·split at h
   ·rename_i h1
    cases h
    obtain⟨p,hp,rfl⟩:=idxO_mem h1
    have:=hn p hp
    show p.1≤_
    omega
   ·cases h
    exact Nat.zero_le _
  ·split at h
   ·rename_i h1
    cases h
    exact numberM_ok h1
   ·cases h
theorem constT_ok {T:List Tok} {i:Nat} {x:Cst×Nat} (h:constT T i=.ok x):Cok x.1:=by
 unfold constT at h
 split at h
 ·cases h
 ·split at h
  ·cases h
  ·split at h
   ·split at h
    ·cases h
    ·rename_i h1
     split at h
     ·cases h
     ·cases h
      exact signedM_ok h1
   ·split at h
    ·split at h
     ·cases h
     ·rename_i h1
      split at h
      ·cases h
      ·cases h
       exact signedM_ok h1
    ·cases h
theorem limitsM_ok {T:List Tok} {i:Nat} {x:Lim×Nat} (h:limitsM T i=.ok x):Uok x.1.least∧Uok x.1.most:=by
 unfold limitsM at h
 split at h
 ·cases h
 ·rename_i h1
  have g1:=numberM_ok h1
  split at h
  ·cases h
  ·split at h
   ·split at h
    ·rename_i h2
     cases h
     have g2:=numberM_ok h2
     exact⟨⟨by simp,by show((_:Nat):Int)≤_;omega⟩,⟨by simp,by show((_:Nat):Int)≤_;omega⟩⟩
    ·cases h
   ·cases h
    exact⟨⟨by simp,by show((_:Nat):Int)≤_;omega⟩,⟨by simp,by simp⟩⟩
theorem elemL_ok {T:List Tok} {kF:List Nam} (hn:∀y∈kF,y.1≤100000):∀{k j:Nat} {no:List (Nat×Nat)} {fs:List Nat} {x:List Nat×Nat×List (Nat×Nat)},elemL T kF k j no fs=.ok x→(∀y∈fs,y≤4294967295)→fs.length≤20→(∀y∈x.1,y≤4294967295)∧x.1.length≤20
 | 0,_,_,_,_,h,_,_=>by cases h
 | k+1,j,no,fs,x,h,hf,hl=>by
  unfold elemL at h
  split at h
  ·cases h
  ·split at h
   ·split at h
    ·cases h
    ·split at h
     ·cases h
     ·rename_i h1
      refine elemL_ok hn h ?_ (by simp;omega)
      intro y hy
      rcases List.mem_append.1 hy with hy | hy
      ·exact hf y hy
      ·cases List.mem_singleton.1 hy
       exact indexT_ok hn h1
   ·cases h
    exact⟨hf,hl⟩
end
section
open Go.RowKit
set_option linter.unusedSimpArgs false
set_option linter.unusedVariables false
theorem insB_ok (k:Nat):InsOk (insB k):=⟨by simp[insB],by simp[insB],⟨by simp[insB],by simp[insB]⟩,⟨by simp[insB],by simp[insB]⟩,by simp[insB]⟩
theorem insB_num (k:Nat) {n:Nat} (h:n≤4294967295):InsOk {insB k with num:=n}:=⟨by simp[insB],by simp[insB],⟨by simp[insB],by simp[insB]⟩,⟨by simp,by show((n:Nat):Int)≤_;omega⟩,by simp[insB]⟩
theorem outO_lt {x:ByteArray}:∀{l:List ByteArray} {k n:Nat},outO x l k=some n→n<k+l.length
 | [],_,_,h=>by cases h
 | y::l,k,n,h=>by
  unfold outO at h
  split at h
  ·cases h;simp
  ·have:=outO_lt h
   simp only[List.length_cons]
   omega
theorem labT_ok {T:List Tok} {lb:List ByteArray} {i:Nat} {x:Nat×Nat×List (Nat×Nat)} (hl:lb.length≤50) (h:labT T lb i=.ok x):x.1≤4294967295:=by
 unfold labT at h
 split at h
 ·cases h
 ·split at h
  ·split at h
   ·rename_i h1
    cases h
    have:=outO_lt h1
    simp at this
    show _≤_
    omega
   ·cases h;exact Nat.zero_le _
  ·split at h
   ·rename_i h1
    cases h
    exact numberM_ok h1
   ·cases h
theorem btT_ok {T:List Tok} {lb:List ByteArray} (hl:lb.length≤50):∀{k:Nat} {ls:List Nat} {no:List (Nat×Nat)} {i:Nat} {x:List Nat×List (Nat×Nat)×Nat},btT T lb k ls no i=.ok x→(∀y∈ls,y≤4294967295)→ls.length≤20→(∀y∈x.1,y≤4294967295)∧x.1.length≤20
 | 0,_,_,_,_,h,_,_=>by cases h
 | k+1,ls,no,i,x,h,hf,hn=>by
  unfold btT at h
  split at h
  ·cases h
  ·split at h
   ·rename_i hc
    split at h
    ·cases h
    ·rename_i h1
     refine btT_ok hl h ?_ (by have:=hc.1;simp;omega)
     intro y hy
     rcases List.mem_append.1 hy with hy | hy
     ·exact hf y hy
     ·cases List.mem_singleton.1 hy
      exact labT_ok hl h1
   ·cases h
    exact⟨hf,hn⟩
theorem offsetT_ok {T:List Tok} {i:Nat} {x:Int×Nat} (h:offsetT T i=.ok x):Uok x.1:=by
 unfold offsetT at h
 split at h
 ·cases h
 ·split at h
  ·cases h;exact⟨by simp,by simp⟩
  ·cases h
   have key:∀z:Int,Uok (IntKind.u32.wrap z):=fun z=>by
    unfold Uok
    rw[IntKind.wrap_u32]
    omega
   exact key _
theorem tixT_ok {T:List Tok} {s:MS} {a:List Nat×List Nat} {x:Nat×MS} (hs:s.ty.length≤20) (h:tixT T s a=.ok x):x.1≤20∧x.2.ty.length≤20:=by
 unfold tixT at h
 split at h
 ·rename_i h1
  cases h
  obtain⟨m,rfl,h2,-⟩:=tyIx_some h1
  have:=(List.getElem?_eq_some_iff.1 h2).1
  exact⟨by show 0+m≤20;omega,hs⟩
 ·split at h
  ·cases h
  ·cases h
   exact⟨hs,by simp;omega⟩
theorem alignT_ok {T:List Tok} {word i:Nat} {x:Int×Nat} (h:alignT T word i=.ok x):Uok x.1:=by
 have hu:Uok (usualM word):=by unfold usualM Uok;split<;>(try split)<;>omega
 unfold alignT at h
 split at h
 ·cases h
 ·split at h
  ·cases h;exact hu
  ·split at h
   ·rename_i n _ _
    cases h
    have:=tzN_lt n
    exact⟨by simp,by show((tzN n:Nat):Int)≤_;omega⟩
   ·cases h;exact hu
structure Okf (f:Bk):Prop where
 al:∀x∈f.al,InsOk x
 lb:f.lb.length≤50
 ty:f.m.ty.length≤20
 nm:∀x∈f.nm,x.1≤100000
 kF:∀x∈f.m.kF,x.1≤100000
 kG:∀x∈f.m.kG,x.1≤100000
 fT:∀x∈f.m.fT,x.1≤100000
 tl:∀x∈f.m.ty,x.1.length≤50
theorem Okf.on {f:Bk} (h:Okf f) (i:Nat) (no:List (Nat×Nat)):Okf {f with m:={f.m with i:=i,no:=no}}:=⟨h.al,h.lb,h.ty,h.nm,h.kF,h.kG,h.fT,h.tl⟩
theorem Okf.tym {f:Bk} {m:MS} (h:Okf f) (hm:m={f.m with ty:=m.ty}) (ht:m.ty.length≤20) (hl:∀x∈m.ty,x.1.length≤50):Okf {f with m:=m}:=⟨h.al,h.lb,ht,h.nm,by show ∀x∈m.kF,_;rw[hm];exact h.kF,by show ∀x∈m.kG,_;rw[hm];exact h.kG,by show ∀x∈m.fT,_;rw[hm];exact h.fT,hl⟩
theorem tixT_m {T:List Tok} {s:MS} {a:List Nat×List Nat} {x:Nat×MS} (h:tixT T s a=.ok x):x.2={s with ty:=x.2.ty}:=by
 unfold tixT at h
 split at h
 ·cases h;rfl
 ·split at h
  ·cases h
  ·cases h;rfl
theorem tixT_tl {T:List Tok} {s:MS} {a:List Nat×List Nat} {x:Nat×MS} (hs:∀y∈s.ty,y.1.length≤50) (ha:a.1.length≤50) (h:tixT T s a=.ok x):∀y∈x.2.ty,y.1.length≤50:=by
 unfold tixT at h
 split at h
 ·cases h;exact hs
 ·split at h
  ·cases h
  ·cases h
   intro y hy
   rcases List.mem_append.1 hy with hy | hy
   ·exact hs y hy
   ·cases List.mem_singleton.1 hy
    exact ha
theorem groT_n {T:List Tok} {q:ByteArray} {most:Nat}:∀{k:Nat} {ks:List Nat} {i:Nat} {x:List Nat×Nat},groT T q most k ks i=.ok x→ks.length≤most→x.1.length≤most
 | 0,_,_,_,h,_=>by cases h
 | k+1,ks,i,x,h,hk=>by
  unfold groT at h
  split at h
  ·split at h
   ·cases h
   ·rename_i h1
    split at h
    ·cases h
    ·exact groT_n h (gwT_nx h1 hk)
  ·cases h
   exact hk
theorem kinF_n {T:List Tok} {f:Bk} {x:(List Nat×List Nat)×Bk} (h:kinF false T f=.ok x):x.1.1.length≤8:=by
 unfold kinF at h
 split at h
 ·contradiction
 ·split at h
  ·cases h
  ·rename_i h1
   cases h
   unfold kindsT seqT at h1
   split at h1
   ·cases h1
   ·rename_i h2
    split at h1
    ·cases h1
    ·cases h1
     exact groT_n h2 (by simp)
theorem kinF_on {T:List Tok} {f:Bk} {x:(List Nat×List Nat)×Bk} (h:kinF false T f=.ok x):∃i no,x.2={f with m:={f.m with i:=i,no:=no}}:=by
 unfold kinF at h
 split at h
 ·contradiction
 ·split at h
  ·cases h
  ·cases h
   exact⟨_,f.m.no,rfl⟩
theorem useT_ok {T:List Tok} {f:Bk} {x:UseR×Bk} (hf:Okf f) (h:useT false T f=.ok x):x.1.ix≤4294967295∧(x.1.told=false→x.1.a.length≤8)∧∃i no,x.2={f with m:={f.m with i:=i,no:=no}}:=by
 unfold useT at h
 split at h
 ·split at h
  ·cases h
  ·rename_i h1
   split at h
   ·cases h
   ·split at h
    ·cases h
    ·rename_i h2
     obtain⟨i,no,e⟩:=kinF_on h2
     cases h
     refine⟨indexT_ok hf.fT h1,fun c=>(by cases c),?_⟩
     simp only at e ⊢
     subst e
     split
     ·exact⟨_,_,rfl⟩
     ·exact⟨_,_,rfl⟩
 ·split at h
  ·cases h
  ·rename_i h2
   obtain⟨i,no,e⟩:=kinF_on h2
   cases h
   exact⟨Nat.zero_le _,fun _=>kinF_n h2,i,no,e⟩
theorem behT_ok {T:List Tok} {f:Bk} {word:Nat} {x:InsT×Bk} (hf:Okf f) (h:behT T f word=.ok x):InsOk x.1∧Okf x.2∧x.2.lb=f.lb:=by
 unfold behT at h
 split at h
 ·split at h
  ·cases h
  ·rename_i h1
   split at h
   ·cases h
   ·rename_i h2
    cases h
    have g1:=btT_ok hf.lb h1 (by simp) (by simp)
    have g2:=labT_ok hf.lb h2
    have g3:=insB_num word g2
    exact⟨⟨Nat.le_trans g1.2 (by omega),g1.1,g3.al,g3.num,g3.val⟩,hf.on _ _,rfl⟩
 split at h
 ·split at h
  ·cases h
  ·rename_i h1
   cases h
   exact⟨insB_num word (labT_ok hf.lb h1),hf.on _ _,rfl⟩
 split at h
 ·split at h
  ·cases h
  ·rename_i h1
   cases h
   exact⟨insB_num word (indexT_ok hf.kF h1),hf.on _ _,rfl⟩
 split at h
 ·split at h
  ·cases h
  ·rename_i h1
   cases h
   exact⟨insB_num word (indexT_ok hf.nm h1),hf.on _ _,rfl⟩
 split at h
 ·split at h
  ·cases h
  ·rename_i h1
   cases h
   exact⟨insB_num word (indexT_ok hf.kG h1),hf.on _ _,rfl⟩
 split at h
 ·split at h
  ·cases h
  ·rename_i h1
   obtain⟨g1,g0,i,no,e⟩:=useT_ok hf h1
   simp only at g1 g0 e
   split at h
   ·cases h
    exact⟨insB_num word g1,by rw[e];exact hf.on _ _,by rw[e]⟩
   ·split at h
    ·cases h
    ·rename_i h2
     have g2:Okf _:=hf.on i no
     rw[←e] at g2
     have g3:=tixT_ok g2.ty h2
     have g4:=tixT_m h2
     cases h
     exact⟨insB_num word (by have:=g3.1;omega),g2.tym g4 g3.2 (tixT_tl g2.tl (Nat.le_trans (g0 (by simp_all)) (by omega)) h2),by rw[e]⟩
 split at h
 ·split at h
  ·cases h
  ·rename_i h1
   split at h
   ·cases h
   ·rename_i h2
    cases h
    exact⟨⟨by simp[insB],by simp[insB],alignT_ok h2,offsetT_ok h1,by simp[insB]⟩,hf.on _ _,rfl⟩
 split at h
 ·split at h
  ·cases h
  ·rename_i h1
   cases h
   have g:=insB_ok word
   exact⟨⟨g.few,g.lab,g.al,g.num,signedM_ok h1⟩,hf.on _ _,rfl⟩
 split at h
 ·split at h
  ·cases h
  ·rename_i h1
   cases h
   have g:=insB_ok word
   exact⟨⟨g.few,g.lab,g.al,g.num,signedM_ok h1⟩,hf.on _ _,rfl⟩
 cases h
 exact⟨insB_ok word,hf,rfl⟩
theorem opnT_ok {T:List Tok} {p word:Nat} {f:Bk} {x:(InsT×ByteArray)×Bk} (hf:Okf f) (h:opnT T p f word=.ok x):InsOk x.1.1∧Okf x.2∧x.2.lb=f.lb∧f.lb.length<50:=by
 unfold opnT at h
 split at h
 ·cases h
 ·rename_i hl
  have hl2:f.lb.length<50:=by have:=hf.lb;omega
  have hf1:=hf.on (bnT T f.m.i).2 f.m.no
  split at h
  ·cases h
  ·rename_i h1
   obtain⟨g1,g0,i,no,e⟩:=useT_ok hf1 h1
   simp only at g1 g0 e
   split at h
   ·cases h
    have g:=insB_ok word
    exact⟨⟨g.few,g.lab,g.al,g.num,g.val⟩,by rw[e];exact hf1.on _ _,by rw[e],hl2⟩
   ·split at h
    ·cases h
     have g:=insB_num word g1
     exact⟨⟨g.few,g.lab,g.al,g.num,g.val⟩,by rw[e];exact hf1.on _ _,by rw[e],hl2⟩
    ·split at h
     ·cases h
     ·rename_i h2
      have g2:Okf _:=hf1.on i no
      rw[←e] at g2
      have g3:=tixT_ok g2.ty h2
      have g4:=tixT_m h2
      cases h
      have g:=insB_num word (Nat.le_trans g3.1 (by omega))
      exact⟨⟨g.few,g.lab,g.al,g.num,g.val⟩,g2.tym g4 g3.2 (tixT_tl g2.tl (Nat.le_trans (g0 (by simp_all)) (by omega)) h2),by rw[e],hl2⟩
end
section
open Go.RowKit
set_option linter.unusedSimpArgs false
set_option linter.unusedVariables false
def Ro (f f':Bk):Prop:=Okf f→Okf f'∧f'.lb=f.lb
theorem Ro.refl (f:Bk):Ro f f:=fun h=>⟨h,rfl⟩
theorem Ro.trans {a b c:Bk} (h1:Ro a b) (h2:Ro b c):Ro a c:=fun h=>⟨(h2 (h1 h).1).1,(h2 (h1 h).1).2.trans (h1 h).2⟩
theorem setI_ro (f:Bk) (j:Nat):Ro f (setI f j):=fun h=>⟨⟨h.al,h.lb,h.ty,h.nm,h.kF,h.kG,h.fT,h.tl⟩,rfl⟩
theorem putF_ro (f:Bk) {x:InsT} (hx:InsOk x):Ro f (putF f x):=fun h=>⟨⟨fun y hy=>by
 rcases List.mem_append.1 hy with hy | hy
 ·exact h.al y hy
 ·cases List.mem_singleton.1 hy
  exact hx,h.lb,h.ty,h.nm,h.kF,h.kG,h.fT,h.tl⟩,rfl⟩
theorem closeF_ro {T:List Tok} {f f':Bk} (h:closeF T f=.ok f'):Ro f f':=by
 obtain⟨x,-,h⟩:=bnd_inv h
 cases h
 exact setI_ro _ _
theorem wordF_ro {T:List Tok} {q:ByteArray} {f f':Bk} (h:wordF T q f=.ok f'):Ro f f':=by
 obtain⟨x,-,h⟩:=bnd_inv h
 cases h
 exact setI_ro _ _
theorem openF_ro {T:List Tok} {q:ByteArray} {f f':Bk} (h:openF T q f=.ok f'):Ro f f':=by
 obtain⟨x,-,h⟩:=bnd_inv h
 cases h
 exact setI_ro _ _
theorem blkT_ro {x:InsT} {nm:ByteArray} {m:Bk→Except Err Bk} {f f':Bk} (hx:InsOk x) (hl:f.lb.length<50) (hm:∀g g',m g=.ok g'→Ro g g') (h:blkT x nm m f=.ok f'):Ro f f':=by
 intro hf
 unfold blkT at h
 split at h
 ·cases h
 ·rename_i f2 h2
  have h3:Okf {f with al:=f.al++[x],lb:=f.lb++[nm]}:=⟨(putF_ro f hx hf).1.al,by simp;omega,hf.ty,hf.nm,hf.kF,hf.kG,hf.fT,hf.tl⟩
  obtain⟨h4,e⟩:=hm _ _ h2 h3
  cases h
  have e2:f2.lb.dropLast=f.lb:=by rw[e];simp
  refine⟨⟨(putF_ro f2 (insB_ok 11) h4).1.al,?_,h4.ty,h4.nm,h4.kF,h4.kG,h4.fT,h4.tl⟩,e2⟩
  show f2.lb.dropLast.length≤50
  rw[e2]
  exact hf.lb
theorem RT_ok {T:List Tok}:∀{k m w:Nat} {f f':Bk},RT T k m w f=.ok f'→Ro f f'
 | 0,_,_,_,_,h=>by cases h
 | k+1,m,w,f,f',h=>by
  unfold RT at h
  split at h
  ·cases h
  ·split at h
   ·split at h
    ·obtain⟨x,h1,h2⟩:=bnd_inv h
     exact(RT_ok h1).trans (RT_ok h2)
    ·split at h
     ·obtain⟨x,h1,h2⟩:=bnd_inv h
      exact(RT_ok h1).trans (RT_ok h2)
     ·cases h;exact Ro.refl _
   split at h
   ·obtain⟨x,h1,h⟩:=bnd_inv h
    obtain⟨y,h2,h⟩:=bnd_inv h
    intro hf
    have hs:=(setI_ro f y.2 hf).1
    split at h
    ·obtain⟨z,h3,h⟩:=bnd_inv h
     obtain⟨f3,h4,h⟩:=bnd_inv h
     obtain⟨g1,g2,g3,g4⟩:=opnT_ok hs h3
     obtain⟨g5,g6⟩:=((blkT_ro g1 (by rw[g3];exact g4) (fun g g' hg=>RT_ok hg) h4).trans (closeF_ro h)) g2
     exact⟨g5,g6.trans g3⟩
    ·split at h
     ·obtain⟨z,h3,h⟩:=bnd_inv h
      obtain⟨f3,h4,h⟩:=bnd_inv h
      obtain⟨f4,h5,h⟩:=bnd_inv h
      obtain⟨g1,g2,g3,g4⟩:=opnT_ok hs h3
      obtain⟨g5,g6⟩:=RT_ok h4 g2
      obtain⟨g7,g8⟩:=((blkT_ro g1 (by rw[g6,g3];exact g4) (fun g g' hg=>RT_ok hg) h5).trans (closeF_ro h)) g5
      exact⟨g7,g8.trans (g6.trans g3)⟩
     ·obtain⟨z,h3,h⟩:=bnd_inv h
      obtain⟨f3,h4,h⟩:=bnd_inv h
      obtain⟨g1,g2,g3⟩:=behT_ok hs h3
      obtain⟨g5,g6⟩:=((RT_ok h4).trans ((putF_ro f3 g1).trans (closeF_ro h))) g2
      exact⟨g5,g6.trans g3⟩
   split at h
   ·obtain⟨y,h2,h⟩:=bnd_inv h
    intro hf
    have hs:=(setI_ro f y.2 hf).1
    split at h
    ·obtain⟨z,h3,h⟩:=bnd_inv h
     obtain⟨g1,g2,g3,g4⟩:=opnT_ok hs h3
     obtain⟨g5,g6⟩:=(blkT_ro g1 (by rw[g3];exact g4) (fun g g' hg=>RT_ok hg) h) g2
     exact⟨g5,g6.trans g3⟩
    ·obtain⟨z,h3,h⟩:=bnd_inv h
     obtain⟨g1,g2,g3⟩:=behT_ok hs h3
     cases h
     obtain⟨g5,g6⟩:=putF_ro z.2 g1 g2
     exact⟨g5,g6.trans g3⟩
   split at h
   ·obtain⟨f2,h2,h⟩:=bnd_inv h
    split at h
    ·obtain⟨f3,h3,h⟩:=bnd_inv h
     obtain⟨f4,h4,h⟩:=bnd_inv h
     exact((((RT_ok h2).trans (wordF_ro h3)).trans (putF_ro f3 (insB_ok 5))).trans (RT_ok h4)).trans (wordF_ro h)
    ·exact(RT_ok h2).trans (wordF_ro h)
   split at h
   ·split at h
    ·obtain⟨x,h1,h2⟩:=bnd_inv h
     exact(RT_ok h1).trans (RT_ok h2)
    ·cases h;exact Ro.refl _
   split at h
   ·split at h
    ·obtain⟨x,h1,h2⟩:=bnd_inv h
     exact(RT_ok h1).trans (RT_ok h2)
    ·cases h;exact Ro.refl _
   obtain⟨f1,h1,h⟩:=bnd_inv h
   obtain⟨f2,h2,h⟩:=bnd_inv h
   obtain⟨f3,h3,h⟩:=bnd_inv h
   have g3:=((openF_ro h1).trans (RT_ok h2)).trans (closeF_ro h3)
   split at h
   ·obtain⟨f4,h4,h⟩:=bnd_inv h
    obtain⟨f5,h5,h⟩:=bnd_inv h
    exact(((g3.trans (openF_ro h4)).trans (putF_ro f4 (insB_ok 5))).trans (RT_ok h5)).trans (closeF_ro h)
   ·cases h
    exact g3
end
section
open Go.RowKit
set_option linter.unusedSimpArgs false
set_option linter.unusedVariables false
structure Sml (s:MS):Prop where
 fu:∀x∈s.fu,x≤4294967295
 ta:∀x∈s.ta,Uok x.least∧Uok x.most
 me:∀x∈s.me,Uok x.least∧Uok x.most
 gl:∀x∈s.gl,Cok x.first
 ex:∀x∈s.ex,x.1.size≤1000∧x.2.2≤4294967295
 st:∀x∈s.st,x≤4294967295
 el:∀x∈s.el,Cok x.1∧(∀y∈x.2,y≤4294967295)∧x.2.length≤20
 co:∀x∈s.co,∀y∈x.2,InsOk y
 da:∀x∈s.da,Cok x
 fF:∀x∈s.fF,x.2.size≤1000
 lo:∀x∈s.lo,x.1<s.fu.length∧∀y∈x.2,y.1≤100000∧y.2.size≤1000
 ty:s.ty.length≤20
 kF:∀x∈s.kF,x.1≤100000
 kG:∀x∈s.kG,x.1≤100000
 fT:∀x∈s.fT,x.1≤100000
 tl:∀x∈s.ty,x.1.length≤50
theorem Sml.on {s:MS} (h:Sml s) (i:Nat) (no:List (Nat×Nat)):Sml {s with i:=i,no:=no}:=⟨h.fu,h.ta,h.me,h.gl,h.ex,h.st,h.el,h.co,h.da,h.fF,h.lo,h.ty,h.kF,h.kG,h.fT,h.tl⟩
theorem Sml.at {s:MS} (h:Sml s) (i:Nat):Sml {s with i:=i}:=h.on i s.no
theorem mem_app {α:Type} {P:α→Prop} {l:List α} {x:α} (h:∀y∈l,P y) (hx:P x):∀y∈l++[x],P y:=fun y hy=>by
 rcases List.mem_append.1 hy with hy | hy
 ·exact h y hy
 ·cases List.mem_singleton.1 hy
  exact hx
section
variable {T:List Tok}
theorem declT_sz {ns:List Nam} {n i:Nat} (hT:TW T):∀x∈(declT T ns n i).2.1,x∈ns∨(x.1=n∧x.2.size≤1000):=by
 unfold declT
 split
 ·intro x hx;exact .inl hx
 ·rename_i t ht
  split
  ·split
   ·intro x hx;exact .inl hx
   ·intro x hx
    rcases List.mem_append.1 hx with hx | hx
    ·exact .inl hx
    ·cases List.mem_singleton.1 hx
     have:=hT.small t (List.mem_of_getElem? ht)
     refine .inr ⟨rfl,?_⟩
     show(t.2.2.extract 1 t.2.2.size).size≤1000
     simp
     omega
  ·intro x hx;exact .inl hx
theorem gnT_sz {q:ByteArray} {most fr:Nat} (hT:TW T):∀{k:Nat} {ks:List Nat} {nm:List Nam} {no:List (Nat×Nat)} {i:Nat} {x:(List Nat×List Nam×List (Nat×Nat))×Nat},gnT T q most fr k ks nm no i=.ok x→∀y∈x.1.2.1,y∈nm∨y.2.size≤1000
 | 0,_,_,_,_,_,h=>by cases h
 | k+1,ks,nm,no,i,x,h=>by
  unfold gnT at h
  split at h
  ·have hdm:=declT_sz (ns:=nm) (n:=fr+ks.length) (i:=nx T (nx T i)) hT
   obtain⟨d,hd⟩:∃d,d=declT T nm (fr+ks.length) (nx T (nx T i)):=⟨_,rfl⟩
   rw[←hd] at h hdm
   split at h
   ·cases h
   ·split at h
    ·cases h
    ·intro y hy
     rcases gnT_sz hT h y hy with c | c
     ·exact(hdm y c).imp id (fun e=>e.2)
     ·exact .inr c
  ·cases h
   exact fun y hy=>.inl hy
theorem kindsT_n {i:Nat} {x:(List Nat×Nat)×(List Nat×Nat)} (h:kindsT T i=.ok x):x.1.1.length≤8:=by
 unfold kindsT seqT at h
 split at h
 ·cases h
 ·rename_i h2
  split at h
  ·cases h
  ·cases h
   exact groT_n h2 (by simp)
theorem typeI_ok {s s':MS} (hT:TW T) (hl:s.ty.length<20) (hs:Sml s) (h:typeI T s=.ok s'):Sml s':=by
 obtain⟨x,h1,h⟩:=bnd_inv h
 cases h
 unfold typeT at h1
 dsimp only at h1
 split at h1
 ·cases h1
 ·split at h1
  ·cases h1
  ·rename_i hk
   split at h1
   ·cases h1
   ·cases h1
    refine⟨hs.fu,hs.ta,hs.me,hs.gl,hs.ex,hs.st,hs.el,hs.co,hs.da,hs.fF,hs.lo,by simp;omega,hs.kF,hs.kG,fun y hy=>?_,mem_app hs.tl ?_⟩
    ·rcases declT_sz hT y hy with c | c
     ·exact hs.fT y c
     ·omega
    ·exact Nat.le_trans (kindsT_n hk) (by omega)
theorem taT_ok {s s':MS} (hs:Sml s) (h:taT T s=.ok s'):Sml s':=by
 unfold taT at h
 split at h
 ·cases h
 ·rename_i h1
  cases h
  exact⟨hs.fu,mem_app hs.ta (limitsM_ok h1),hs.me,hs.gl,hs.ex,hs.st,hs.el,hs.co,hs.da,hs.fF,hs.lo,hs.ty,hs.kF,hs.kG,hs.fT,hs.tl⟩
theorem meT_ok {s s':MS} (hs:Sml s) (h:meT T s=.ok s'):Sml s':=by
 unfold meT at h
 split at h
 ·cases h
 ·rename_i h1
  cases h
  exact⟨hs.fu,hs.ta,mem_app hs.me (limitsM_ok h1),hs.gl,hs.ex,hs.st,hs.el,hs.co,hs.da,hs.fF,hs.lo,hs.ty,hs.kF,hs.kG,hs.fT,hs.tl⟩
theorem globT_ok {s s':MS} (hs:Sml s) (h:globT T s=.ok s'):Sml s':=by
 unfold globT at h
 dsimp only at h
 split at h
 ·cases h
 ·split at h
  ·cases h
  ·rename_i h1
   cases h
   exact⟨hs.fu,hs.ta,hs.me,mem_app hs.gl (constT_ok h1),hs.ex,hs.st,hs.el,hs.co,hs.da,hs.fF,hs.lo,hs.ty,hs.kF,hs.kG,hs.fT,hs.tl⟩
theorem exportT_ok {s s':MS} (hT:TW T) (hs:Sml s) (h:exportT T s=.ok s'):Sml s':=by
 unfold exportT at h
 split at h
 ·cases h
 ·rename_i t ht
  split at h
  ·split at h
   ·cases h
   ·rename_i h1
    cases h
    have:=hT.small t (List.mem_of_getElem? ht)
    exact⟨hs.fu,hs.ta,hs.me,hs.gl,mem_app hs.ex ⟨by show t.2.2.size≤1000;omega,indexT_ok hs.kF h1⟩,hs.st,hs.el,hs.co,hs.da,hs.fF,hs.lo,hs.ty,hs.kF,hs.kG,hs.fT,hs.tl⟩
  ·cases h
theorem startT_ok {s s':MS} (hs:Sml s) (h:startT T s=.ok s'):Sml s':=by
 unfold startT at h
 split at h
 ·cases h
 ·rename_i h1
  cases h
  exact⟨hs.fu,hs.ta,hs.me,hs.gl,hs.ex,mem_app hs.st (indexT_ok hs.kF h1),hs.el,hs.co,hs.da,hs.fF,hs.lo,hs.ty,hs.kF,hs.kG,hs.fT,hs.tl⟩
theorem elemI_ok {s s':MS} (hs:Sml s) (h:elemI T s=.ok s'):Sml s':=by
 obtain⟨x,h1,h⟩:=bnd_inv h
 cases h
 unfold elemT at h1
 split at h1
 ·cases h1
 ·rename_i hc
  split at h1
  ·cases h1
  ·rename_i hl
   cases h1
   have g:=elemL_ok hs.kF hl (by simp) (by simp)
   exact⟨hs.fu,hs.ta,hs.me,hs.gl,hs.ex,hs.st,mem_app hs.el ⟨constT_ok hc,g.1,g.2⟩,hs.co,hs.da,hs.fF,hs.lo,hs.ty,hs.kF,hs.kG,hs.fT,hs.tl⟩
theorem dataT_ok {s s':MS} (hs:Sml s) (h:dataT T s=.ok s'):Sml s':=by
 unfold dataT at h
 split at h
 ·cases h
 ·rename_i h1
  cases h
  exact⟨hs.fu,hs.ta,hs.me,hs.gl,hs.ex,hs.st,hs.el,hs.co,mem_app hs.da (constT_ok h1),hs.fF,hs.lo,hs.ty,hs.kF,hs.kG,hs.fT,hs.tl⟩
theorem perhapsT_ok {q:ByteArray} {item:MS→Except Err MS} {s s':MS} (hI:∀a b,a.ty=s.ty→a.i<T.length→Sml a→item a=.ok b→Sml b) (hi:s.i<T.length) (hs:Sml s) (h:perhapsT T q item s=.ok s'):Sml s'∧s'.i<T.length:=by
 unfold perhapsT at h
 split at h
 ·split at h
  ·cases h
  ·rename_i h1
   split at h
   ·cases h
   ·rename_i h2
    obtain⟨g1,-,rfl⟩:=takeT_nx h2
    cases h
    exact⟨(hI {s with i:=nx T (nx T s.i)} _ rfl (nx_ok (nx_ok hi)) (hs.at _) h1).at _,nx_ok (List.getElem?_eq_some_iff.1 g1).1⟩
 ·cases h
  exact⟨hs,hi⟩
theorem itemsT_ok {q:ByteArray} {most:Nat} {item:MS→Except Err MS} (hI:∀a b,a.i<T.length→Sml a→item a=.ok b→Sml b):∀{k many:Nat} {s s':MS},itemsT T q most item k many s=.ok s'→s.i<T.length→Sml s→Sml s'∧s'.i<T.length
 | 0,_,_,_,h,_,_=>by cases h
 | k+1,many,s,s',h,hi,hs=>by
  unfold itemsT at h
  split at h
  ·split at h
   ·cases h
   ·split at h
    ·cases h
    ·rename_i h1
     have g:=perhapsT_ok (fun a b _=>hI a b) hi hs h1
     exact itemsT_ok hI h g.2 g.1
  ·cases h
   exact⟨hs,hi⟩
theorem perhapsT_tyI {q:ByteArray} {s s':MS} (ho:opensT T q s.i=true) (h:perhapsT T q (typeI T) s=.ok s'):s'.ty.length=s.ty.length+1:=by
 unfold perhapsT at h
 rw[if_pos ho] at h
 split at h
 ·cases h
 ·rename_i h1
  split at h
  ·cases h
  ·cases h
   have g:=typeI_ty h1
   exact g
theorem itemsT_okT (hT:TW T) {q:ByteArray}:∀{k many:Nat} {s s':MS},itemsT T q 20 (typeI T) k many s=.ok s'→s.i<T.length→s.ty.length=many→many≤20→Sml s→Sml s'∧s'.i<T.length
 | 0,_,_,_,h,_,_,_,_=>by cases h
 | k+1,many,s,s',h,hi,hy,hm,hs=>by
  unfold itemsT at h
  split at h
  ·rename_i ho
   split at h
   ·cases h
   ·rename_i hne
    split at h
    ·cases h
    ·rename_i h1
     have g:=perhapsT_ok (fun a b e _ hs hb=>typeI_ok hT (by rw[e];omega) hs hb) hi hs h1
     have g2:=perhapsT_tyI ho h1
     exact itemsT_okT hT h g.2 (by omega) (by omega) g.1
  ·cases h
   exact⟨hs,hi⟩
end
end
end Go.Proofs.YtkmofapihggjgaaGreatDoor
