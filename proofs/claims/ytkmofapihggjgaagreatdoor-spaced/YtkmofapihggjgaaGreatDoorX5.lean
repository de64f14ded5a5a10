import Derived.Test.YtkmofapihggjgaaGreatDoorX3
import Derived.Test.YtkmofapihggjgaaGreatDoorX4
namespace Go.Proofs.YtkmofapihggjgaaGreatDoor
section
open Go.RowKit
section
variable {w0 w:World} {ok:Nat→Prop}
set_option maxRecDepth 100000 in
theorem same_any {ok1 ok2 ok3 ok4:Nat→Prop} {a b c d:List Nat} {va vb vc vd:Value} (ha:isKinds ok1 a w va) (hb:isKinds ok2 b w vb) (hc:isKinds ok3 c w vc) (hd:isKinds ok4 d w vd) (hl:a.length≤50∧b.length≤50):
  Calls Tryz.prog 132 #[.agg #[va,vb],.agg #[vc,vd]] w fun e w'=>e=.returned (.bool (decide (a=c∧b=d)))∧Kept (fun _=>False) w w':=by
 obtain⟨pa,ca,rfl⟩:=Row.shape ha
 obtain⟨pb,cb,rfl⟩:=Row.shape hb
 obtain⟨pc,cc,rfl⟩:=Row.shape hc
 obtain⟨pd,cd,rfl⟩:=Row.shape hd
 have h2:Kept (fun _=>False) w ((w.alloc (.cells #[.slice pa a.length ca,.slice pb b.length cb] 47)).alloc (.cells #[.slice pc c.length cc,.slice pd d.length cd] 47)):=((Kept.refl _ _).alloc _).alloc _
 have HA:=hide (Row.kept ha h2 (fun _ _ _ c=>c))
 have HB:=hide (Row.kept hb h2 (fun _ _ _ c=>c))
 have HC:=hide (Row.kept hc h2 (fun _ _ _ c=>c))
 have HD:=hide (Row.kept hd h2 (fun _ _ _ c=>c))
 clear ha hb hc hd h2
 go_enter Tryz.func132,Tryz.ntmps132
 go_wp2_with fail
 refine(equalKinds_any HA.out HC.out hl.1).mono ?_
 rintro e w1 ⟨rfl,n1,rfl⟩
 by_cases h1:a=c
 ·rw[show decide (a=c)=true by simp[h1]]
  have HE:Hid (decide (a=c∧b=d)=decide (b=d)):=by show _=_;simp[h1]
  have HB1:=hide (Row.kept HB.out ((Kept.refl (fun _=>False) _).drewN n1) (fun _ _ _ c=>c))
  have HD1:=hide (Row.kept HD.out ((Kept.refl (fun _=>False) _).drewN n1) (fun _ _ _ c=>c))
  clear h1
  go_wp2_with fail
  refine(equalKinds_any HB1.out HD1.out hl.2).mono ?_
  rintro e w2 ⟨rfl,n2,rfl⟩
  go_wp2
  go_ret
  exact⟨by rw[HE.out];rfl,(((Kept.refl _ _).alloc _).alloc _).drewN _⟩
 ·rw[show decide (a=c)=false by simp[h1]]
  have HE:Hid (decide (a=c∧b=d)=false):=by show _=_;simp[h1]
  clear h1
  go_wp2
  go_ret
  exact⟨by rw[HE.out];rfl,(((Kept.refl _ _).alloc _).alloc _).drewN _⟩
end
end
section
open Go.RowKit
abbrev TyV:=Value×Value
def tyvC (t:TyV):List Value:=[t.1,t.2]
theorem Tryz.info47':(Tryz.prog.info? 47).map (fun i=>(i.zero,i.size,i.bytes))=some (some (.agg #[.slice none 0 0,.slice none 0 0]),2,48):=by kernel_rfl
section
variable {w0 w:World} {ab tg cap i:Nat} {T:List Tok} {z:List Value} {r l:List It} {t t2:Tok}
theorem typeIndex_told (h:Sx w0 w l) (a b:Value) (k:Nat):Calls Tryz.prog 113 #[.pointer (some ⟨ab,0,none⟩),.agg #[a,b,.bool true,.int .u32 (k:Nat)]] w (Ans w0 (.int .u32 (k:Nat)) l):=by
 have H:=hide h
 clear h
 go_enter Tryz.func113,Tryz.ntmps113
 go_wp2
 go_ret
 exact⟨rfl,H.out.alloc _⟩
def TyR (W:World) (tys:List TyV) (kks:List (List Nat×List Nat)):Prop:=tys.length=kks.length∧∀(k:Nat) (a:TyV) (b:List Nat×List Nat),tys[k]?=some a→kks[k]?=some b→isKinds (fun _=>True) b.1 W a.1∧isKinds (fun _=>True) b.2 W a.2∧b.1.length≤50∧b.2.length≤50
theorem TyR.kept {W W':World} {tys:List TyV} {kks:List (List Nat×List Nat)} (h:TyR W tys kks) (hk:Kept (fun _=>False) W W'):TyR W' tys kks:=
 ⟨h.1,fun k a b ha hb=>⟨Row.kept (h.2 k a b ha hb).1 hk (fun _ _ _ c=>c),Row.kept (h.2 k a b ha hb).2.1 hk (fun _ _ _ c=>c),(h.2 k a b ha hb).2.2⟩⟩
set_option maxRecDepth 100000 in
set_option maxHeartbeats 1600000 in
theorem typeIndex_old {mb km kt n:Nat} {mcs:List Value} {vT:Value} {tys:List TyV} {kks:List (List Nat×List Nat)} {va vb:Value} {a b:List Nat} (h:Sx w0 w (AL ab tg cap T i z r)) (hz:z[7]?=some (.pointer (some ⟨mb,0,none⟩)))
  (hm:(AL ab tg cap T i z r)[km]?=some (.b mb mcs)) (hmc:mcs[0]?=some vT) (ht:(AL ab tg cap T i z r)[kt]?=some (.r 47 2 vT tys.length (tys.flatMap tyvC))) (hty:TyR w tys kks) (hn:tys.length≤20)
  (hva:isKinds (fun _=>True) a w va) (hvb:isKinds (fun _=>True) b w vb) (hfirst:kks[n]?=some (a,b)) (hno:∀j,j<n→kks[j]?≠some (a,b)):
  Calls Tryz.prog 113 #[.pointer (some ⟨ab,0,none⟩),.agg #[va,vb,.bool false,.int .u32 0]] w (Ans w0 (.int .u32 (n:Nat)) (AL ab tg cap T i z r)):=by
 have hnl:n<kks.length:=(List.getElem?_eq_some_iff.1 hfirst).1
 obtain⟨a9,-⟩:=h.c 0 9 (v:=.pointer (some ⟨mb,0,none⟩)) rfl (by simpa using hz)
 obtain⟨b0,-⟩:=h.c km 0 hm hmc
 have l0:=h.lt 0
 have l1:=h.lt km hm
 obtain⟨pT,cT,rfl⟩:=Row.shape (h.isRow kt ht)
 have HTR:=hide (h.isRow kt ht)
 have H:=hide h
 have HTY:=hide hty
 have HVA:=hide hva
 have HVB:=hide hvb
 have HF:=hide hfirst
 have HNO:=hide hno
 have hlen:=hty.1
 clear h hty hva hvb hfirst hno hz hm hmc ht
 go_enter Tryz.func113,Tryz.ntmps113
 go_wp2_with fail
 have hkW:Kept (fun _=>False) w (w.alloc (.cells #[va,vb,.bool false,.int .u32 0] 178)):=(Kept.refl _ _).alloc _
 have hB:Blk (w.alloc (.cells #[va,vb,.bool false,.int .u32 0] 178)) w.heap.size [va,vb,.bool false,.int .u32 0]:=Blk.new' rfl
 have hzW:(w.alloc (.cells #[va,vb,.bool false,.int .u32 0] 178)).heap.size=w.heap.size+1:=by simp
 obtain⟨ub,hub⟩:∃ub,ub=w.heap.size:=⟨_,rfl⟩
 rw[←hub] at hB hzW ⊢
 clear hub
 generalize (w.alloc (.cells #[va,vb,.bool false,.int .u32 0] 178))=W at*
 go_loopw [19] (fun q wr=>∃k:Nat,k≤n∧q=.int .i64 (k:Nat)∧Kept (fun _=>False) W wr) (fun q _=>tys.length - (intOf q).toNat)
 case atStart=>exact⟨0,Nat.zero_le _,by simp,Kept.refl _ _⟩
 case round=>
  obtain⟨k,hk,rfl,hkp⟩:=hrel
  have hkl:k<tys.length:=by omega
  have hkl':(k:Int)<(tys.length:Int):=by omega
  have hwk:IntKind.u32.wrap (k:Int)=(k:Int):=IntWalk.u32_in _ ⟨by omega,by omega⟩
  have hk2:=hkW.trans hkp
  obtain⟨x,hx⟩:∃x,tys[k]?=some x:=⟨_,List.getElem?_eq_getElem hkl⟩
  obtain⟨y,hy⟩:∃y,kks[k]?=some y:=⟨_,List.getElem?_eq_getElem (by omega)⟩
  obtain⟨gT,cpT,hvT,-,hgl,-,hcell⟩:=Row.cells (Row.kept HTR.out hk2 (fun _ _ _ c=>c)) (by omega)
  cases hvT
  have c0:wr.cell? ⟨gT,k*2,none⟩=some x.1:=(hcell (k*2) (by omega)).trans (flat_get (f:=tyvC) (m:=2) (o:=0) (fun _=>rfl) hx (by omega))
  have c1:wr.cell? ⟨gT,k*2+1,none⟩=some x.2:=(hcell (k*2+1) (by omega)).trans (flat_get (f:=tyvC) (m:=2) (o:=1) (fun _=>rfl) hx (by omega))
  obtain⟨r1,r2,r3⟩:=(HTY.out.kept hk2).2 k x y hx hy
  obtain⟨x1,x2⟩:=x
  obtain⟨y1,y2⟩:=y
  simp only at c0 c1 r1 r2 r3
  have hblk:=hB.kept hkp (by omega) (fun c=>c)
  obtain⟨d0,-⟩:=hblk 0 (by simp)
  obtain⟨d1,-⟩:=hblk 1 (by simp)
  simp at d0 d1
  have r5:=Row.kept HVA.out hk2 (fun _ _ _ c=>c)
  have r6:=Row.kept HVB.out hk2 (fun _ _ _ c=>c)
  obtain⟨p1,q1,rfl⟩:=Row.shape r1
  obtain⟨p2,q2,rfl⟩:=Row.shape r2
  have hub:ub<wr.heap.size:=by have:=hkp.size;omega
  obtain⟨pva,cva,rfl⟩:=Row.shape r5
  obtain⟨pvb,cvb,rfl⟩:=Row.shape r6
  have R:=hide (And.intro r1 (And.intro r2 (And.intro r5 r6)))
  have HX:=hide hx
  have HY:=hide hy
  have HBL:=hide hblk
  clear hcell r1 r2 r5 r6 hx hy hblk
  go_wp2_with fail
  have ka:Kept (fun _=>False) wr (wr.alloc (.cells #[.slice p1 y1.length q1,.slice p2 y2.length q2] 47)):=(Kept.refl _ _).alloc _
  refine(same_any (Row.kept R.out.1 ka (fun _ _ _ c=>c)) (Row.kept R.out.2.1 ka (fun _ _ _ c=>c)) (Row.kept R.out.2.2.1 ka (fun _ _ _ c=>c)) (Row.kept R.out.2.2.2 ka (fun _ _ _ c=>c)) r3).mono ?_
  rintro e w2 ⟨rfl,hk3⟩
  have hk4:=hkp.trans (ka.trans hk3)
  by_cases hkn:k=n
  ·have HE:Hid (y1=a∧y2=b):=by
    have:=HY.out
    rw[hkn,HF.out] at this
    simp at this
    exact⟨this.1.symm,this.2.symm⟩
   rw[show decide (y1=a∧y2=b)=true by simp[HE.out]]
   have HKN:=hide hkn
   have HS:=hide (H.out.to (hkW.trans hk4))
   clear hkn hk3 ka hk4
   go_wp2
   go_ret
   exact⟨by rw[←HKN.out];rfl,HS.out⟩
  ·have HE:Hid (¬(y1=a∧y2=b)):=fun c=>by
    have h1:=HNO.out k (by omega)
    rw[HY.out,c.1,c.2] at h1
    exact h1 rfl
   rw[show decide (y1=a∧y2=b)=false by simp only[decide_eq_false_iff_not];exact HE.out]
   have hk5:k+1≤n:=by omega
   clear hkn hk3 ka
   go_wp2
   go_roundw
   case rel=>exact⟨k+1,hk5,by go_num,hk4⟩
   case measure=>simp[intOf];omega
end
end
section
open Go.RowKit
section
variable {w0 w:World} {ab tg cap i:Nat} {T:List Tok} {z:List Value} {r l:List It} {t t2:Tok}
set_option maxRecDepth 100000 in
set_option maxHeartbeats 3200000 in
theorem typeIndex_new {mb km kt:Nat} {mcs:List Value} {vT:Value} {tys:List TyV} {kks:List (List Nat×List Nat)} {va vb:Value} {a b:List Nat} (h:Sx w0 w (AL ab tg cap T i z r)) (hz:z[7]?=some (.pointer (some ⟨mb,0,none⟩)))
  (hm:(AL ab tg cap T i z r)[km]?=some (.b mb mcs)) (hmc:mcs[0]?=some vT) (ht:(AL ab tg cap T i z r)[kt]?=some (.r 47 2 vT tys.length (tys.flatMap tyvC))) (hty:TyR w tys kks) (hn:tys.length<20)
  (hva:isKinds (fun _=>True) a w va) (hvb:isKinds (fun _=>True) b w vb) (hno:(a,b)∉kks) (hmk:km≠0):
  Calls Tryz.prog 113 #[.pointer (some ⟨ab,0,none⟩),.agg #[va,vb,.bool false,.int .u32 0]] w fun e w'=>e=.returned (.int .u32 (tys.length:Nat))∧∃vT',Sx w0 w' (((AL ab tg cap T i z r).set km (.b mb (mcs.set 0 vT'))).set kt (.r 47 2 vT' (tys++[(va,vb)]).length ((tys++[(va,vb)]).flatMap tyvC))):=by
 obtain⟨i0,hi0,hz0,hz1,hz2⟩:=info_parts Tryz.info47'
 obtain⟨a9,-⟩:=h.c 0 9 (v:=.pointer (some ⟨mb,0,none⟩)) rfl (by simpa using hz)
 obtain⟨b0,-⟩:=h.c km 0 hm hmc
 have l0:=h.lt 0
 have l1:=h.lt km hm
 obtain⟨pT,cT,rfl⟩:=Row.shape (h.isRow kt ht)
 have HTR:=hide (h.isRow kt ht)
 have H:=hide h
 have HTY:=hide hty
 obtain⟨pva,cva,rfl⟩:=Row.shape hva
 obtain⟨pvb,cvb,rfl⟩:=Row.shape hvb
 have HVA:=hide hva
 have HVB:=hide hvb
 have HNO:=hide hno
 have HZ:=hide hz
 have HLEN:=hide hty.1
 obtain⟨L,hL⟩:∃L,AL ab tg cap T i z r=L:=⟨_,rfl⟩
 have hab0:L[0]?=some (.b ab (.slice (some ⟨tg,0,none⟩) T.length cap::.int .i64 (i:Nat)::z)):=by rw[←hL];rfl
 rw[hL] at hm ht H ⊢
 clear h hty hva hvb hno hz hL
 go_enter Tryz.func113,Tryz.ntmps113
 go_wp2_with fail
 have h1:Sx w0 (w.alloc (.cells #[.slice pva a.length cva,.slice pvb b.length cvb,.bool false,.int .u32 0] 178)) (L++[.b w.heap.size [.slice pva a.length cva,.slice pvb b.length cvb,.bool false,.int .u32 0]]):=H.out.new #[.slice pva a.length cva,.slice pvb b.length cvb,.bool false,.int .u32 0] 178
 have hkW:Kept (fun _=>False) w (w.alloc (.cells #[.slice pva a.length cva,.slice pvb b.length cvb,.bool false,.int .u32 0] 178)):=(Kept.refl _ _).alloc _
 obtain⟨ub,hub⟩:∃ub,ub=w.heap.size:=⟨_,rfl⟩
 rw[←hub] at h1 ⊢
 clear hub
 generalize (w.alloc (.cells #[.slice pva a.length cva,.slice pvb b.length cvb,.bool false,.int .u32 0] 178))=W at*
 have H1:=hide h1
 clear h1 H
 go_loopw [19] (fun q wr=>∃k:Nat,k≤tys.length∧q=.int .i64 (k:Nat)∧Kept (fun _=>False) W wr) (fun q _=>tys.length - (intOf q).toNat)
 case atStart=>exact⟨0,Nat.zero_le _,by simp,Kept.refl _ _⟩
 case round=>
  obtain⟨k,hk,rfl,hkp⟩:=hrel
  have hk2:=hkW.trans hkp
  have H2:=hide (H1.out.to hkp)
  obtain⟨d0,-⟩:=H2.out.cL 0
  obtain⟨d1,-⟩:=H2.out.cL 1
  have hub:=H2.out.ltL
  by_cases hkl:k<tys.length
  ·have hkl':(k:Int)<(tys.length:Int):=by omega
   obtain⟨x,hx⟩:∃x,tys[k]?=some x:=⟨_,List.getElem?_eq_getElem hkl⟩
   obtain⟨y,hy⟩:∃y,kks[k]?=some y:=⟨_,List.getElem?_eq_getElem (by have:=HLEN.out;omega)⟩
   obtain⟨gT,cpT,hvT,-,hgl,-,hcell⟩:=Row.cells (Row.kept HTR.out hk2 (fun _ _ _ c=>c)) (by omega)
   cases hvT
   have c0:wr.cell? ⟨gT,k*2,none⟩=some x.1:=(hcell (k*2) (by omega)).trans (flat_get (f:=tyvC) (m:=2) (o:=0) (fun _=>rfl) hx (by omega))
   have c1:wr.cell? ⟨gT,k*2+1,none⟩=some x.2:=(hcell (k*2+1) (by omega)).trans (flat_get (f:=tyvC) (m:=2) (o:=1) (fun _=>rfl) hx (by omega))
   obtain⟨r1,r2,r3⟩:=(HTY.out.kept hk2).2 k x y hx hy
   obtain⟨x1,x2⟩:=x
   obtain⟨y1,y2⟩:=y
   simp only at c0 c1 r1 r2 r3
   have r5:=Row.kept HVA.out hk2 (fun _ _ _ c=>c)
   have r6:=Row.kept HVB.out hk2 (fun _ _ _ c=>c)
   obtain⟨p1,q1,rfl⟩:=Row.shape r1
   obtain⟨p2,q2,rfl⟩:=Row.shape r2
   have R:=hide (And.intro r1 (And.intro r2 (And.intro r5 r6)))
   have HE:Hid (¬(y1=a∧y2=b)):=fun c=>HNO.out (by rw[←c.1,←c.2];exact List.mem_of_getElem? hy)
   clear hcell r1 r2 r5 r6 hx hy
   go_wp2_with fail
   have ka:Kept (fun _=>False) wr (wr.alloc (.cells #[.slice p1 y1.length q1,.slice p2 y2.length q2] 47)):=(Kept.refl _ _).alloc _
   refine(same_any (Row.kept R.out.1 ka (fun _ _ _ c=>c)) (Row.kept R.out.2.1 ka (fun _ _ _ c=>c)) (Row.kept R.out.2.2.1 ka (fun _ _ _ c=>c)) (Row.kept R.out.2.2.2 ka (fun _ _ _ c=>c)) r3).mono ?_
   rintro e w2 ⟨rfl,hk3⟩
   have hk4:=hkp.trans (ka.trans hk3)
   rw[show decide (y1=a∧y2=b)=false by simp only[decide_eq_false_iff_not];exact HE.out]
   clear hk3 ka
   go_wp2
   go_roundw
   case rel=>exact⟨k+1,by omega,by go_num,hk4⟩
   case measure=>simp[intOf];omega
  ·have hkl':¬(k:Int)<(tys.length:Int):=by omega
   have t20:((tys.length:Int)==20)=false:=by simp;omega
   obtain⟨e9,-⟩:=H2.out.c 0 9 (v:=.pointer (some ⟨mb,0,none⟩)) (getL hab0) (by simpa using HZ.out)
   obtain⟨e0,f0⟩:=H2.out.c km 0 (getL hm) hmc
   have m0:=H2.out.lt 0 (getL hab0)
   have m1:=H2.out.lt km (getL hm)
   clear a9 b0 l0 l1
   go_wp2_with fail
   have hS:∀V:World,Sx w0 V (L++[.b ub [.slice pva a.length cva,.slice pvb b.length cvb,.bool false,.int .u32 0]])→(fun V:World=>V.cell? ⟨ab,9,none⟩=some (.pointer (some ⟨mb,0,none⟩))∧V.cell? ⟨mb,0,none⟩=some (.slice pT tys.length cT)∧V.cell? ⟨ub,0,none⟩=some (.slice pva a.length cva)∧V.cell? ⟨ub,1,none⟩=some (.slice pvb b.length cvb)) V:=fun V hV=>⟨(hV.c 0 9 (v:=.pointer (some ⟨mb,0,none⟩)) (getL hab0) (by simpa using HZ.out)).1,(hV.c km 0 (getL hm) hmc).1,(hV.cL 0).1,(hV.cL 1).1⟩
   have hS0:=hS _ H2.out.drew
   refine regK (fun V:World=>V.cell? ⟨ab,9,none⟩=some (.pointer (some ⟨mb,0,none⟩))∧V.cell? ⟨mb,0,none⟩=some (.slice pT tys.length cT)∧V.cell? ⟨ub,0,none⟩=some (.slice pva a.length cva)∧V.cell? ⟨ub,1,none⟩=some (.slice pvb b.length cvb)) 17 ?_
   iterate 13 refine tkk hS0 (h:=?_) (hy:=by(refine Or.inl ⟨by rfl,?_⟩;intro V hV;obtain⟨u0,u1,u2,u3⟩:=hV;go_simp;try with_reducible rfl))
   have h3:=H2.out.drew.alloc (.cells #[.slice pva a.length cva,.slice pvb b.length cvb] 47)
   refine oneK (fun K hK=>?_)
   go_simp
   refine hK _ _ (.inr (hS _ h3)) ?_
   clear hK K
   have HOwn:=hide (h3.row kt (getL ht))
   refine oneK (fun K hK=>?_)
   refine step_append_lies _ (by rfl) (.tmp 55) (.tmp 58) 48 (by rfl) w0.heap.size 47 i0 (.agg #[.slice none 0 0,.slice none 0 0]) 2 48 (by kernel_rfl) hi0 hz0 hz1 hz2 rfl (by decide) (.slice pT tys.length cT) tys.length (tys.flatMap tyvC) (by rfl) HOwn.out ⟨wr.heap.size,0,none⟩ 1 1 [.slice pva a.length cva,.slice pvb b.length cvb] (by rfl) rfl (cells_at (by simp) rfl) ?c2 (by omega) ?c3 ?c4 ?c5 (wr.heap.size+1) (by simp) ?_
   case c2=>intro u hu;simp at hu;rcases hu with rfl | rfl<;>rfl
   case c3=>unfold maxLen;omega
   case c4=>omega
   case c5=>exact h3.kept.size
   intro gg cp w3 hown hgrow hat hlt3
   have h4:=h3.app kt hown hgrow (hat.imp id (fun e=>by rw[e];simp)) (getL ht)
   rw[List.set_append_left _ _ (List.getElem?_eq_some_iff.1 ht).1] at h4
   have hkk:kt≠km:=fun e=>by rw[e,hm] at ht;cases ht
   have hk0:kt≠0:=fun e=>by rw[e,hab0] at ht;cases ht
   obtain⟨L',hL'⟩:∃L',L'=L.set kt (.r 47 2 (.slice (some ⟨gg,0,none⟩) (tys.length+1) cp) (tys.length+1) (tys.flatMap tyvC++[.slice pva a.length cva,.slice pvb b.length cvb])):=⟨_,rfl⟩
   have hm':L'[km]?=some (.b mb mcs):=by rw[hL',List.getElem?_set_ne hkk];exact hm
   have ha':L'[0]?=some (.b ab (.slice (some ⟨tg,0,none⟩) T.length cap::.int .i64 (i:Nat)::z)):=by rw[hL',List.getElem?_set_ne hk0];exact hab0
   rw[←hL'] at h4
   have hS4:(fun V:World=>V.cell? ⟨ab,9,none⟩=some (.pointer (some ⟨mb,0,none⟩))∧V.cell? ⟨mb,0,none⟩=some (.slice pT tys.length cT)∧V.cell? ⟨ub,0,none⟩=some (.slice pva a.length cva)∧V.cell? ⟨ub,1,none⟩=some (.slice pvb b.length cvb)) w3:=⟨(h4.c 0 9 (v:=.pointer (some ⟨mb,0,none⟩)) (getL ha') (by simpa using HZ.out)).1,(h4.c km 0 (getL hm') hmc).1,(h4.cL 0).1,(h4.cL 1).1⟩
   refine hK _ _ (.inr hS4) ?_
   clear hK K
   simp only[Act.put,List.setIfInBounds_toArray,List.set_cons_zero,List.set_cons_succ]
   iterate 2 refine tkk hS4 (h:=?_)
   obtain⟨x0,y0⟩:=h4.c km 0 (getL hm') hmc
   have mm:=h4.lt km (getL hm')
   have h5:=h4.set km 0 (.slice (some ⟨gg,0,none⟩) (tys.length+1) cp) (getL hm')
   rw[List.set_append_left _ _ (List.getElem?_eq_some_iff.1 hm').1] at h5
   have hm5:(L'.set km (.b mb (mcs.set 0 (.slice (some ⟨gg,0,none⟩) (tys.length+1) cp))))[km]?=some (.b mb (mcs.set 0 (.slice (some ⟨gg,0,none⟩) (tys.length+1) cp))):=by
    rw[List.getElem?_set_self (List.getElem?_eq_some_iff.1 hm').1]
   have ha5:(L'.set km (.b mb (mcs.set 0 (.slice (some ⟨gg,0,none⟩) (tys.length+1) cp))))[0]?=some (.b ab (.slice (some ⟨tg,0,none⟩) T.length cap::.int .i64 (i:Nat)::z)):=by rw[List.getElem?_set_ne hmk];exact ha'
   refine lastK (fun K hK=>?_)
   go_simp
   refine hK _ _ ?_
   clear hK K
   have h6:=h5
   obtain⟨g9,-⟩:=h6.c 0 9 (v:=.pointer (some ⟨mb,0,none⟩)) (getL ha5) (by simpa using HZ.out)
   obtain⟨g0,-⟩:=h6.c km 0 (v:=.slice (some ⟨gg,0,none⟩) (tys.length+1) cp) (getL hm5) (by rw[List.getElem?_set_self (List.getElem?_eq_some_iff.1 hmc).1])
   have n0:=h6.lt 0 (getL ha5)
   have n1:=h6.lt km (getL hm5)
   have hw1:IntKind.i64.wrap ((tys.length:Int)+1 - 1)=(tys.length:Int):=by rw[IntWalk.i64_in _ ⟨by omega,by omega⟩];omega
   have hw2:IntKind.u32.wrap (tys.length:Int)=(tys.length:Int):=IntWalk.u32_in _ ⟨by omega,by omega⟩
   have hw3:IntKind.i64.wrap (tys.length:Int)=(tys.length:Int):=IntWalk.i64_in _ ⟨by omega,by omega⟩
   have h7:=h6.left
   rw[hL',List.set_comm _ _ hkk] at h7
   have H6:=hide h7
   clear h7
   generalize (w3.setCell ⟨mb,0,none⟩ (.slice (some ⟨gg,0,none⟩) (tys.length+1) cp))=W5 at*
   clear h3 h4 h5 h6 hS4 hS0 hS x0 y0 mm HOwn hown hgrow hat hlt3 H2 H1 hkp hk2 e9 e0 f0 m0 m1 d0 d1 hub
   go_wp2
   go_ret
   refine⟨rfl,(.slice (some ⟨gg,0,none⟩) (tys.length+1) cp),?_⟩
   simpa [tyvC] using H6.out
end
end
section
open Go.RowKit
theorem Tryz.info131':(Tryz.prog.info? 131).map (fun i=>(i.zero,i.size,i.bytes))=some (some (.agg #[.int .i64 0,.int .i64 0,.int .u8 0,.bool false,.slice none 0 0,.int .u32 0,.int .u32 0,.int .i64 0,.slice none 0 0,.int .i64 0]),10,104):=by kernel_rfl
section
variable {w0 w:World} {l:List It}
set_option maxRecDepth 100000 in
set_option maxHeartbeats 3200000 in
theorem fnPut_any {fb kf ka n:Nat} {fcs xs:List Value} {vA:Value} (x0 x1 x2 x3 x4 x5 x6 x7 x8 x9:Value) (h1c:∀u∈[x0,x1,x2,x3,x4,x5,x6,x7,x8,x9],u.oneCell'=true) (h:Sx w0 w l) (hf:l[kf]?=some (.b fb fcs)) (hfc:fcs[3]?=some vA) (hr:l[ka]?=some (.r 131 10 vA n xs)) (hn:n≤100000):
  Calls Tryz.prog 116 #[.pointer (some ⟨fb,0,none⟩),.agg #[x0,x1,x2,x3,x4,x5,x6,x7,x8,x9]] w fun e w'=>e=.returned (.tuple #[])∧∃vA',Sx w0 w' ((l.set kf (.b fb (fcs.set 3 vA'))).set ka (.r 131 10 vA' (n+1) (xs++[x0,x1,x2,x3,x4,x5,x6,x7,x8,x9]))):=by
 obtain⟨i0,hi0,hz0,hz1,hz2⟩:=info_parts Tryz.info131'
 have hkk:ka≠kf:=fun e=>by rw[e,hf] at hr;cases hr
 obtain⟨pA,cA,rfl⟩:=Row.shape (h.isRow ka hr)
 have H:=hide h
 have H1C:=hide h1c
 clear h h1c
 go_enter Tryz.func116,Tryz.ntmps116
 go_wp2_with fail
 have h1:Sx w0 (w.alloc (.cells #[x0,x1,x2,x3,x4,x5,x6,x7,x8,x9] 131)) (l++[.b w.heap.size [x0,x1,x2,x3,x4,x5,x6,x7,x8,x9]]):=H.out.new #[x0,x1,x2,x3,x4,x5,x6,x7,x8,x9] 131
 generalize w.heap.size=ub at*
 generalize (w.alloc (.cells #[x0,x1,x2,x3,x4,x5,x6,x7,x8,x9] 131))=W at*
 have hS:∀V:World,Sx w0 V (l++[.b ub [x0,x1,x2,x3,x4,x5,x6,x7,x8,x9]])→(fun V:World=>V.cell? ⟨fb,3,none⟩=some (.slice pA n cA)∧V.cell? ⟨ub,0,none⟩=some x0∧V.cell? ⟨ub,1,none⟩=some x1∧V.cell? ⟨ub,2,none⟩=some x2∧V.cell? ⟨ub,3,none⟩=some x3∧V.cell? ⟨ub,4,none⟩=some x4∧V.cell? ⟨ub,5,none⟩=some x5∧V.cell? ⟨ub,6,none⟩=some x6∧V.cell? ⟨ub,7,none⟩=some x7∧V.cell? ⟨ub,8,none⟩=some x8∧V.cell? ⟨ub,9,none⟩=some x9) V:=fun V hV=>⟨(hV.c kf 3 (getL hf) hfc).1,(hV.cL 0).1,(hV.cL 1).1,(hV.cL 2).1,(hV.cL 3).1,(hV.cL 4).1,(hV.cL 5).1,(hV.cL 6).1,(hV.cL 7).1,(hV.cL 8).1,(hV.cL 9).1⟩
 have hS0:=hS _ h1.drew
 refine regK (fun V:World=>V.cell? ⟨fb,3,none⟩=some (.slice pA n cA)∧V.cell? ⟨ub,0,none⟩=some x0∧V.cell? ⟨ub,1,none⟩=some x1∧V.cell? ⟨ub,2,none⟩=some x2∧V.cell? ⟨ub,3,none⟩=some x3∧V.cell? ⟨ub,4,none⟩=some x4∧V.cell? ⟨ub,5,none⟩=some x5∧V.cell? ⟨ub,6,none⟩=some x6∧V.cell? ⟨ub,7,none⟩=some x7∧V.cell? ⟨ub,8,none⟩=some x8∧V.cell? ⟨ub,9,none⟩=some x9) 10 ?_
 iterate 6 refine tkk hS0 (h:=?_) (hy:=by(refine Or.inl ⟨by rfl,?_⟩;intro V hV;obtain⟨u0,v0,v1,v2,v3,v4,v5,v6,v7,v8,v9⟩:=hV;go_simp;try with_reducible rfl))
 have h3:=h1.drew.alloc (.cells #[x0,x1,x2,x3,x4,x5,x6,x7,x8,x9] 131)
 refine oneK (fun K hK=>?_)
 go_simp
 refine hK _ _ (.inr (hS _ h3)) ?_
 clear hK K
 have HOwn:=hide (h3.row ka (getL hr))
 refine oneK (fun K hK=>?_)
 refine step_append_lies _ (by rfl) (.tmp 8) (.tmp 10) 174 (by rfl) w0.heap.size 131 i0 (.agg #[.int .i64 0,.int .i64 0,.int .u8 0,.bool false,.slice none 0 0,.int .u32 0,.int .u32 0,.int .i64 0,.slice none 0 0,.int .i64 0]) 10 104 (by kernel_rfl) hi0 hz0 hz1 hz2 rfl (by decide) (.slice pA n cA) n xs (by rfl) HOwn.out ⟨W.heap.size,0,none⟩ 1 1 [x0,x1,x2,x3,x4,x5,x6,x7,x8,x9] (by rfl) rfl (cells_at (by simp) rfl) H1C.out (by omega) ?c3 ?c4 ?c5 (W.heap.size+1) (by simp) ?_
 case c3=>unfold maxLen;omega
 case c4=>omega
 case c5=>exact h3.kept.size
 intro gg cp w3 hown hgrow hat hlt3
 have h4:=h3.app ka hown hgrow (hat.imp id (fun e=>by rw[e];simp)) (getL hr)
 rw[List.set_append_left _ _ (List.getElem?_eq_some_iff.1 hr).1] at h4
 obtain⟨L',hL'⟩:∃L',L'=l.set ka (.r 131 10 (.slice (some ⟨gg,0,none⟩) (n+1) cp) (n+1) (xs++[x0,x1,x2,x3,x4,x5,x6,x7,x8,x9])):=⟨_,rfl⟩
 have hf':L'[kf]?=some (.b fb fcs):=by rw[hL',List.getElem?_set_ne hkk];exact hf
 rw[←hL'] at h4
 have hS4:(fun V:World=>V.cell? ⟨fb,3,none⟩=some (.slice pA n cA)∧V.cell? ⟨ub,0,none⟩=some x0∧V.cell? ⟨ub,1,none⟩=some x1∧V.cell? ⟨ub,2,none⟩=some x2∧V.cell? ⟨ub,3,none⟩=some x3∧V.cell? ⟨ub,4,none⟩=some x4∧V.cell? ⟨ub,5,none⟩=some x5∧V.cell? ⟨ub,6,none⟩=some x6∧V.cell? ⟨ub,7,none⟩=some x7∧V.cell? ⟨ub,8,none⟩=some x8∧V.cell? ⟨ub,9,none⟩=some x9) w3:=⟨(h4.c kf 3 (getL hf') hfc).1,(h4.cL 0).1,(h4.cL 1).1,(h4.cL 2).1,(h4.cL 3).1,(h4.cL 4).1,(h4.cL 5).1,(h4.cL 6).1,(h4.cL 7).1,(h4.cL 8).1,(h4.cL 9).1⟩
 refine hK _ _ (.inr hS4) ?_
 clear hK K
 simp only[Act.put,List.setIfInBounds_toArray,List.set_cons_zero,List.set_cons_succ]
 iterate 2 refine tkk hS4 (h:=?_)
 obtain⟨c0,c1⟩:=h4.c kf 3 (getL hf') hfc
 have mm:=h4.lt kf (getL hf')
 have h5:=h4.set kf 3 (.slice (some ⟨gg,0,none⟩) (n+1) cp) (getL hf')
 rw[List.set_append_left _ _ (List.getElem?_eq_some_iff.1 hf').1] at h5
 refine lastK (fun K hK=>?_)
 go_simp
 refine hK _ _ ?_
 clear hK K
 have h7:=h5.left
 rw[hL',List.set_comm _ _ hkk] at h7
 have H7:=hide h7
 generalize (w3.setCell ⟨fb,3,none⟩ (.slice (some ⟨gg,0,none⟩) (n+1) cp))=W5 at*
 clear h7 h5 h4 h3 h1 hS4 hS0 hS c0 c1 mm HOwn hown hgrow hat hlt3
 go_wp2
 go_end0
 exact⟨rfl,_,H7.out⟩
end
end
section
open Go.RowKit Go.Maps
theorem words_zero (w:World):(zeroValue 5).run Tryz.prog w=.ok (.int .u8 0) w:=by kernel_rfl
section
variable {w0 w:World} {ab tg cap i:Nat} {T:List Tok} {z:List Value} {r l:List It} {t t2:Tok}
theorem inR {k:Nat} {x:It} (h:r[k]?=some x):(AL ab tg cap T i z r)[k+2]?=some x:=by simpa using h
end
end
section
open Go.RowKit
theorem twoE {P:Program} {md:Region.Mode} {ops:Array Oper} {Q:Exit→Act→World→Prop} {S:World→Prop} {x i j fuel:Nat} {listed:Array Bool} {a:Act} {w:World} (hr:Region.ready md ops listed=[i,j])
  (h1:wpOp P ops Q i (fun a' w'=>(i=x∨S w')∧wpAnyE P md ops Q S x fuel (listed.setIfInBounds i true) a' w') a w) (h2:wpOp P ops Q j (fun a' w'=>(j=x∨S w')∧wpAnyE P md ops Q S x fuel (listed.setIfInBounds j true) a' w') a w):wpAnyE P md ops Q S x (fuel+1) listed a w:=
 ⟨fun h0=>(by rw[hr] at h0;cases h0),fun k hk=>(by rw[hr] at hk;rcases List.mem_cons.1 hk with rfl | hk;exact h1;cases List.mem_singleton.1 hk;exact h2)⟩
section
variable {w0 w:World} {ab tg cap i:Nat} {T:List Tok} {z:List Value} {r l:List It} {t t2:Tok}
end
end
section
open Go.RowKit Go.Maps
section
variable {w0 w:World} {ab tg cap i:Nat} {T:List Tok} {z:List Value} {r l:List It} {t t2:Tok}
theorem setLL (r:List It) (x y p:It) {k:Nat} (h:k<r.length):(r++[x]++[y]).set k p=r.set k p++[x]++[y]:=by
 rw[List.set_append_left _ _ (by simp;omega),List.set_append_left _ _ h]
end
end
section
open Go.RowKit Go.Maps
section
variable {w0 w:World} {ab tg cap i:Nat} {T:List Tok} {z:List Value} {r l:List It} {t t2 t3 t4 t5:Tok}
set_option maxRecDepth 100000 in
theorem asClose_any (h:Sx w0 w (AL ab tg cap T i z r)) (ht:T[i]?=some t) (hl:T.length≤100000) (hc:t.1=3):Calls Tryz.prog 98 #[.pointer (some ⟨ab,0,none⟩)] w (Ans w0 (.tuple #[]) (AL ab tg cap T (nx T i) z r)):=by
 have hff:=tokF
 have te:∀u:Tok,tokV u=.agg #[.int .u8 (u.1:Nat),.int .i64 (u.2.1:Nat),.string u.2.2]:=fun _=>rfl
 have t32:((t.1:Int)==2)=false:=by rw[hc];rfl
 have H:=hide h
 have HT:=hide ht
 have HC:=hide hc
 clear h ht hc
 go_enter Tryz.func98,Tryz.ntmps98
 go_wp2_with fail
 refine(tPeek_any H.out HT.out).mono ?_
 rintro e w1 ⟨rfl,h1⟩
 rw[te]
 have H1:=hide h1
 clear h1 H
 go_wp2_with fail
 refine(tTake_any H1.out HT.out hl (by rw[HC.out];rfl)).mono ?_
 rintro e w2 ⟨rfl,h2⟩
 have H2:=hide h2
 clear h2 H1
 go_wp2
 go_end0
 exact⟨rfl,H2.out⟩
set_option maxRecDepth 100000 in
theorem asPerhaps_no (h:Sx w0 w (AL ab tg cap T i z r)) (ht:T[i]?=some t) (ht2:T[nx T i]?=some t2) (hl:T.length≤100000) (q:ByteArray) (hq:(t.1==2&&isW t2 q)=false) (f:Value):Calls Tryz.prog 90 #[.pointer (some ⟨ab,0,none⟩),.string q,f] w (Ans w0 (.tuple #[]) (AL ab tg cap T i z r)):=by
 have hnot:∀(x:Bool) (w:World),(Op.unary .not (.bool x)).run Tryz.prog w=.ok (.bool (!x)) w:=fun _ _=>rfl
 have H:=hide h
 have HT:=hide ht
 have HT2:=hide ht2
 have HQ:=hide hq
 clear h ht ht2 hq
 go_enter Tryz.func90,Tryz.ntmps90
 go_wp2_with fail
 refine(tOpens_any H.out HT.out HT2.out hl q).mono ?_
 rintro e w1 ⟨rfl,h1⟩
 rw[HQ.out]
 have H1:=hide h1
 clear h1 H
 go_wp2
 refine bodyPost_ret (v:=.tuple #[]) ?_ rfl ?_
 ·simp[results,Tryz.results90,go_sem]
 ·exact⟨rfl,H1.out⟩
set_option maxRecDepth 100000 in
set_option maxHeartbeats 800000 in
theorem asItems_none (h:Sx w0 w (AL ab tg cap T i z r)) (ht:T[i]?=some t) (ht2:T[nx T i]?=some t2) (hl:T.length≤100000) (q:ByteArray) (hq:(t.1==2&&isW t2 q)=false) (most:Int) (f:Value):Calls Tryz.prog 87 #[.pointer (some ⟨ab,0,none⟩),.string q,.int .i64 most,f] w (Ans w0 (.tuple #[]) (AL ab tg cap T i z r)):=by
 have H:=hide h
 have HT:=hide ht
 have HT2:=hide ht2
 have HQ:=hide hq
 clear h ht ht2 hq
 go_enter Tryz.func87,Tryz.ntmps87
 go_wp2_with fail
 refine wp_loop_rounds 1 ?_
 rw[rounds_succ]
 go_wp2_with fail
 refine(tOpens_any H.out HT.out HT2.out hl q).mono ?_
 rintro e w1 ⟨rfl,h1⟩
 rw[HQ.out]
 have H1:=hide h1
 clear h1 H
 go_wp2
 go_end0
 exact⟨rfl,H1.out⟩
end
end
section
open Go.RowKit Go.Maps
theorem Tryz.info38':(Tryz.prog.info? 38).map (fun i=>(i.zero,i.size,i.bytes))=some (some (.agg #[.int .i64 0,.int .i64 0]),2,16):=by kernel_rfl
section
variable {w0 w:World} {ab tg cap i:Nat} {T:List Tok} {z:List Value} {r l:List It} {t t2 t3 t4 t5:Tok}
set_option maxRecDepth 100000 in
set_option maxHeartbeats 3200000 in
theorem asNotice_any {kq n:Nat} {vQ:Value} {xs:List Value} (h:Sx w0 w (AL ab tg cap T i z r)) (hz:z[8]?=some vQ) (hq:r[kq]?=some (.r 38 2 vQ n xs)) (hn:n≤100000) (q:Int) (t:Tok):
  Calls Tryz.prog 131 #[.pointer (some ⟨ab,0,none⟩),.int .i64 q,tokV t] w (fun e w'=>e=.returned (.tuple #[])∧∃vQ',Sx w0 w' (AL ab tg cap T i (z.set 8 vQ') (r.set kq (.r 38 2 vQ' (n+1) (xs++[.int .i64 q,.int .i64 (t.2.1:Nat)]))))):=by
 obtain⟨i0,hi0,hz0,hz1,hz2⟩:=info_parts Tryz.info38'
 obtain⟨pQ,cQ,rfl⟩:=Row.shape (h.isRow _ (inR hq))
 have hzc:(Value.slice (some ⟨tg,0,none⟩) T.length cap::.int .i64 (i:Nat)::z)[10]?=some (.slice pQ n cQ):=by simpa using hz
 have H:=hide h
 clear h
 rw[show tokV t=.agg #[.int .u8 (t.1:Nat),.int .i64 (t.2.1:Nat),.string t.2.2] from rfl]
 go_enter Tryz.func131,Tryz.ntmps131
 go_wp2_with fail
 have h1:=H.out.new #[.int .u8 (t.1:Nat),.int .i64 (t.2.1:Nat),.string t.2.2] 144
 generalize w.heap.size=ub at*
 generalize (w.alloc (.cells #[.int .u8 (t.1:Nat),.int .i64 (t.2.1:Nat),.string t.2.2] 144))=W at*
 have h1':Sx w0 W (AL ab tg cap T i z r++[.b ub [.int .u8 (t.1:Nat),.int .i64 (t.2.1:Nat),.string t.2.2]]):=h1
 clear h1
 have hS:∀V:World,Sx w0 V (AL ab tg cap T i z r++[.b ub [.int .u8 (t.1:Nat),.int .i64 (t.2.1:Nat),.string t.2.2]])→(fun V:World=>V.cell? ⟨ab,10,none⟩=some (.slice pQ n cQ)∧V.cell? ⟨ub,1,none⟩=some (.int .i64 (t.2.1:Nat))) V:=fun V hV=>⟨(hV.c 0 10 (getL rfl) hzc).1,(hV.cL 1).1⟩
 have hS0:=hS _ h1'.drew
 refine regK (fun V:World=>V.cell? ⟨ab,10,none⟩=some (.slice pQ n cQ)∧V.cell? ⟨ub,1,none⟩=some (.int .i64 (t.2.1:Nat))) 13 ?_
 iterate 9 refine tkk hS0 (h:=?_) (hy:=by(refine Or.inl ⟨by rfl,?_⟩;intro V hV;obtain⟨u0,u1⟩:=hV;go_simp;try with_reducible rfl))
 have h3:=h1'.drew.alloc (.cells #[.int .i64 q,.int .i64 (t.2.1:Nat)] 38)
 refine oneK (fun K hK=>?_)
 go_simp
 refine hK _ _ (.inr (hS _ h3)) ?_
 clear hK K
 have HOwn:=hide (h3.row _ (getL (inR hq)))
 refine oneK (fun K hK=>?_)
 refine step_append_lies _ (by rfl) (.tmp 10) (.tmp 15) 108 (by rfl) w0.heap.size 38 i0 (.agg #[.int .i64 0,.int .i64 0]) 2 16 (by kernel_rfl) hi0 hz0 hz1 hz2 rfl (by decide) (.slice pQ n cQ) n xs (by rfl) HOwn.out ⟨W.heap.size,0,none⟩ 1 1 [.int .i64 q,.int .i64 (t.2.1:Nat)] (by rfl) rfl (cells_at (by simp) rfl) ?c2 (by omega) ?c3 ?c4 ?c5 (W.heap.size+1) (by simp) ?_
 case c2=>intro u hu;simp at hu;rcases hu with rfl | rfl<;>rfl
 case c3=>unfold maxLen;omega
 case c4=>omega
 case c5=>exact h3.kept.size
 intro gg cp w3 hown hgrow hat hlt3
 have h4:=h3.app (kq+2) hown hgrow (hat.imp id (fun e=>by rw[e];simp)) (getL (inR hq))
 rw[List.set_append_left _ _ (List.getElem?_eq_some_iff.1 (inR (ab:=ab) (tg:=tg) (cap:=cap) (T:=T) (i:=i) (z:=z) hq)).1] at h4
 have h4':Sx w0 w3 (AL ab tg cap T i z (r.set kq (.r 38 2 (.slice (some ⟨gg,0,none⟩) (n+1) cp) (n+1) (xs++[.int .i64 q,.int .i64 (t.2.1:Nat)])))++[.b ub [.int .u8 (t.1:Nat),.int .i64 (t.2.1:Nat),.string t.2.2]]):=h4
 have hS4:(fun V:World=>V.cell? ⟨ab,10,none⟩=some (.slice pQ n cQ)∧V.cell? ⟨ub,1,none⟩=some (.int .i64 (t.2.1:Nat))) w3:=⟨(h4'.c 0 10 (getL rfl) hzc).1,(h4'.cL 1).1⟩
 refine hK _ _ (.inr hS4) ?_
 clear hK K
 simp only[Act.put,List.setIfInBounds_toArray,List.set_cons_zero,List.set_cons_succ]
 iterate 2 refine tkk hS4 (h:=?_)
 obtain⟨c0,c1⟩:=h4'.c 0 10 (getL rfl) hzc
 have mm:=h4'.lt 0 (getL rfl)
 have h5:=h4'.left.set 0 10 (.slice (some ⟨gg,0,none⟩) (n+1) cp)
 refine lastK (fun K hK=>?_)
 go_simp
 refine hK _ _ ?_
 clear hK K
 have H5:=hide h5
 generalize (w3.setCell ⟨ab,10,none⟩ (.slice (some ⟨gg,0,none⟩) (n+1) cp))=W5 at*
 clear h5 h4 h4' h3 h1' hS4 hS0 hS c0 c1 mm HOwn hown hgrow hat hlt3
 go_wp2
 go_end0
 exact⟨rfl,_,H5.out⟩
end
end
section
open Go.RowKit
section
variable {w0 w:World} {ab tg cap i:Nat} {T:List Tok} {z:List Value} {r l:List It} {t t2:Tok}
set_option maxRecDepth 100000 in
set_option maxHeartbeats 1600000 in
theorem asExported_func {X:Type} {L1:X→List It} {k:Nat} {bb:Bool} {v:Value} (h:Sx w0 w (AL ab tg cap T i z r)) (ht:T[i]?=some t) (hl:T.length≤100000) (h5:t.1=5) (hw:t.2.2=⟨#[102,117,110,99]⟩) (hz:z[2]?=some v)
  (hx:∀r' w,Sx w0 w (AL ab tg cap T (nx T i) z r++r')→Calls Tryz.prog 123 #[.pointer (some ⟨ab,0,none⟩),v] w (fun e w'=>∃x,e=.returned (.tuple #[.agg #[.int .u32 (k:Nat),.int .i64 0],.bool bb])∧Sx w0 w' (L1 x++r'))):
  Calls Tryz.prog 122 #[.pointer (some ⟨ab,0,none⟩)] w (fun e w'=>∃x,e=.returned (.tuple #[.int .u8 0,.agg #[.int .u32 (k:Nat),.int .i64 0]])∧Sx w0 w' (L1 x)):=by
 have hzc:(Value.slice (some ⟨tg,0,none⟩) T.length cap::.int .i64 (nx T i:Nat)::z)[4]?=some v:=by simpa using hz
 have H:=hide h
 have HT:=hide ht
 have H5:=hide h5
 have HX:=hide hx
 clear h ht h5 hx
 go_enter Tryz.func122,Tryz.ntmps122
 go_wp2_with fail
 refine(tTake_any (r:=r++[.b w.heap.size [.int .u32 0,.int .i64 0]]) (H.out.new #[.int .u32 0,.int .i64 0] 66) HT.out hl (by rw[H5.out];rfl)).mono ?_
 rintro e w1 ⟨rfl,h1⟩
 rw[show tokV t=.agg #[.int .u8 (t.1:Nat),.int .i64 (t.2.1:Nat),.string t.2.2] from rfl,hw]
 generalize w.heap.size=rb at*
 have h2:=h1.alloc (.cells #[.int .u8 (t.1:Nat),.int .i64 (t.2.1:Nat),.string ⟨#[102,117,110,99]⟩] 144)
 obtain⟨a0,-⟩:=h2.c 0 4 rfl hzc
 have l0:=h2.lt 0
 rw[AL.app] at h2
 have H2:=hide h2
 clear h1 h2 H
 go_wp2_with fail
 refine(HX.out _ _ H2.out).mono ?_
 rintro e w2 ⟨x,rfl,h3⟩
 obtain⟨b0,c0⟩:=h3.cL 0
 obtain⟨b1,c1⟩:=h3.cL 1
 have lb:=h3.ltL
 have h4:=(h3.setL 0 (.int .u32 (k:Nat))).setL 1 (.int .i64 0)
 obtain⟨y0,f0⟩:=h4.cL 0
 obtain⟨y1,f1⟩:=h4.cL 1
 have lc:=h4.ltL
 clear h3 a0 l0 H2
 go_wp2_with fail
 generalize ((w2.setCell ⟨rb,0,none⟩ (.int .u32 (k:Nat))).setCell ⟨rb,1,none⟩ (.int .i64 0))=W4 at*
 have h5:=(h4.setL 0 (.int .u32 (k:Nat))).setL 1 (.int .i64 0)
 obtain⟨z0,-⟩:=h5.cL 0
 obtain⟨z1,-⟩:=h5.cL 1
 have H5':=hide h5.left
 clear h4 h5 b0 b1 c0 c1 lb
 go_region
 all_goals
  go_wp2
  refine bodyPost_ret (v:=.tuple #[.int .u8 0,.agg #[.int .u32 (k:Nat),.int .i64 0]]) ?_ rfl ?_
  ·simp[results,Tryz.results122,go_sem,z0,z1]
  ·exact⟨x,rfl,H5'.out.drew⟩
end
end
section
open Go.RowKit
theorem Tryz.info81':(Tryz.prog.info? 81).map (fun i=>(i.zero,i.size,i.bytes))=some (some (.agg #[.int .i64 0,.string ⟨#[]⟩,.int .u8 0,.int .u32 0,.int .i64 0]),5,48):=by kernel_rfl
section
variable {w0 w:World} {ab tg cap i:Nat} {T:List Tok} {z:List Value} {r l:List It} {t t2 t3:Tok}
set_option maxRecDepth 100000 in
set_option maxHeartbeats 3200000 in
theorem asExport_any {X:Type} {z':X→List Value} {r':X→List It} {j k mb km ke n:Nat} {mcs xs:List Value} {vE:Value} (h:Sx w0 w (AL ab tg cap T i z r)) (ht:T[i]?=some t) (hl:T.length≤100000) (h4:t.1=4) (hs:t.2.2.size≤20) (hex:allExp t.2.2 0=true) (ht2:T[nx T i]?=some t2) (h2:t2.1=2)
  (hx:∀q w,Sx w0 w (AL ab tg cap T (nx T (nx T i)) z r++q)→Calls Tryz.prog 122 #[.pointer (some ⟨ab,0,none⟩)] w (fun e w'=>∃x,e=.returned (.tuple #[.int .u8 0,.agg #[.int .u32 (k:Nat),.int .i64 0]])∧Sx w0 w' (AL ab tg cap T j (z' x) (r' x)++q))) (ht3:T[j]?=some t3) (h3:t3.1=3)
  (hz:∀x,(z' x)[7]?=some (.pointer (some ⟨mb,0,none⟩))) (hm:∀x,(r' x)[km]?=some (.b mb mcs)) (hmc:mcs[5]?=some vE) (he:∀x,(r' x)[ke]?=some (.r 81 5 vE n xs)) (hn:n≤1000):
  Calls Tryz.prog 94 #[.pointer (some ⟨ab,0,none⟩)] w (fun e w'=>e=.returned (.tuple #[])∧∃x vE',Sx w0 w' (AL ab tg cap T (nx T j) (z' x) (((r' x).set km (.b mb (mcs.set 5 vE'))).set ke (.r 81 5 vE' (n+1) (xs++[.int .i64 0,.string t.2.2,.int .u8 0,.int .u32 (k:Nat),.int .i64 0]))))):=by
 obtain⟨i0,hi0,hz0,hz1,hz2⟩:=info_parts Tryz.info81'
 have hnot:∀(x:Bool) (w:World),(Op.unary .not (.bool x)).run Tryz.prog w=.ok (.bool (!x)) w:=fun _ _=>rfl
 have H:=hide h
 have HT:=hide ht
 have HT2:=hide ht2
 have HT3:=hide ht3
 have H4:=hide h4
 have H2:=hide h2
 have H3:=hide h3
 have HX:=hide hx
 have HEX:=hide hex
 clear h ht ht2 ht3 h4 h2 h3 hx hex
 go_enter Tryz.func94,Tryz.ntmps94
 go_wp2_with fail
 refine(tTake_any H.out HT.out hl (by rw[H4.out];rfl)).mono ?_
 rintro e w1 ⟨rfl,h1⟩
 rw[show tokV t=.agg #[.int .u8 (t.1:Nat),.int .i64 (t.2.1:Nat),.string t.2.2] from rfl]
 obtain⟨s,hs'⟩:∃s,t.2.2=s:=⟨_,rfl⟩
 rw[hs'] at hs HEX ⊢
 have HS:=hide hs'
 clear hs'
 have H1:=hide (h1.alloc (.cells #[.int .u8 (t.1:Nat),.int .i64 (t.2.1:Nat),.string s] 144))
 clear h1 H
 go_wp2_with fail
 refine(exportName_any s _ hs).mono ?_
 rintro e w2 ⟨rfl,rfl⟩
 rw[HEX.out]
 go_wp2_with fail
 have h5:Sx w0 _ (AL ab tg cap T (nx T i) z (r++[.b _ [.int .i64 0,.string s,.int .u8 0,.int .u32 0,.int .i64 0]])):=H1.out.new #[.int .i64 0,.string s,.int .u8 0,.int .u32 0,.int .i64 0] 81
 refine(tTake_any h5 HT2.out hl (by rw[H2.out];rfl)).mono ?_
 rintro e w3 ⟨rfl,h6⟩
 simp only[World.size_alloc] at h6
 generalize w1.heap.size+1=ub at*
 rw[AL.app] at h6
 have H6:=hide h6
 clear h5 h6 H1
 go_wp2_with fail
 refine(HX.out _ _ H6.out).mono ?_
 rintro e w4 ⟨x,rfl,h7⟩
 obtain⟨a2,b2⟩:=h7.cL 2
 obtain⟨a3,b3⟩:=h7.cL 3
 obtain⟨a4,b4⟩:=h7.cL 4
 have l0:=h7.ltL
 have h8:=((h7.setL 2 (.int .u8 0)).setL 3 (.int .u32 (k:Nat))).setL 4 (.int .i64 0)
 have h8':Sx w0 _ (AL ab tg cap T j (z' x) (r' x++[.b ub [.int .i64 0,.string s,.int .u8 0,.int .u32 (k:Nat),.int .i64 0]])):=h8
 have H8:=hide h8'
 clear h7 h8 h8' H6
 go_wp2_with fail
 refine(tTake_any H8.out HT3.out hl (by rw[H3.out];rfl)).mono ?_
 rintro e w5 ⟨rfl,h9⟩
 rw[AL.app] at h9
 clear a2 a3 a4 b2 b3 b4 l0 H8
 obtain⟨pE,cE,rfl⟩:=Row.shape (h9.isRow _ (getL (inR (he x))))
 have hzc:(Value.slice (some ⟨tg,0,none⟩) T.length cap::.int .i64 (nx T j:Nat)::z' x)[9]?=some (.pointer (some ⟨mb,0,none⟩)):=by simpa using hz x
 have hmx:=hm x
 have hex:=he x
 clear hz hm he
 have H9:=hide h9
 clear h9
 go_wp2_with fail
 have hS:∀V:World,Sx w0 V (AL ab tg cap T (nx T j) (z' x) (r' x)++[.b ub [.int .i64 0,.string s,.int .u8 0,.int .u32 (k:Nat),.int .i64 0]])→(fun V:World=>V.cell? ⟨ab,9,none⟩=some (.pointer (some ⟨mb,0,none⟩))∧V.cell? ⟨mb,5,none⟩=some (.slice pE n cE)∧V.cell? ⟨ub,0,none⟩=some (.int .i64 0)∧V.cell? ⟨ub,1,none⟩=some (.string s)∧V.cell? ⟨ub,2,none⟩=some (.int .u8 0)∧V.cell? ⟨ub,3,none⟩=some (.int .u32 (k:Nat))∧V.cell? ⟨ub,4,none⟩=some (.int .i64 0)) V:=fun V hV=>⟨(hV.c 0 9 (getL rfl) hzc).1,(hV.c _ 5 (getL (inR hmx)) hmc).1,(hV.cL 0).1,(hV.cL 1).1,(hV.cL 2).1,(hV.cL 3).1,(hV.cL 4).1⟩
 have hS0:=hS _ H9.out.drew
 refine regK (fun V:World=>V.cell? ⟨ab,9,none⟩=some (.pointer (some ⟨mb,0,none⟩))∧V.cell? ⟨mb,5,none⟩=some (.slice pE n cE)∧V.cell? ⟨ub,0,none⟩=some (.int .i64 0)∧V.cell? ⟨ub,1,none⟩=some (.string s)∧V.cell? ⟨ub,2,none⟩=some (.int .u8 0)∧V.cell? ⟨ub,3,none⟩=some (.int .u32 (k:Nat))∧V.cell? ⟨ub,4,none⟩=some (.int .i64 0)) 16 ?_
 iterate 12 refine tkk hS0 (h:=?_) (hy:=by(refine Or.inl ⟨by rfl,?_⟩;intro V hV;obtain⟨u0,u1,v0,v1,v2,v3,v4⟩:=hV;go_simp;try with_reducible rfl))
 have h10:=H9.out.drew.alloc (.cells #[.int .i64 0,.string s,.int .u8 0,.int .u32 (k:Nat),.int .i64 0] 81)
 refine oneK (fun K hK=>?_)
 go_simp
 refine hK _ _ (.inr (hS _ h10)) ?_
 clear hK K
 have HOwn:=hide (h10.row _ (getL (inR hex)))
 refine oneK (fun K hK=>?_)
 refine step_append_lies _ (by rfl) (.tmp 42) (.tmp 44) 52 (by rfl) w0.heap.size 81 i0 (.agg #[.int .i64 0,.string ⟨#[]⟩,.int .u8 0,.int .u32 0,.int .i64 0]) 5 48 (by kernel_rfl) hi0 hz0 hz1 hz2 rfl (by decide) (.slice pE n cE) n xs (by rfl) HOwn.out ⟨w5.heap.size,0,none⟩ 1 1 [.int .i64 0,.string s,.int .u8 0,.int .u32 (k:Nat),.int .i64 0] (by rfl) rfl (cells_at (by simp) rfl) ?c2 (by omega) ?c3 ?c4 ?c5 (w5.heap.size+1) (by simp) ?_
 case c2=>intro u hu;simp at hu;rcases hu with rfl | rfl | rfl | rfl | rfl<;>rfl
 case c3=>unfold maxLen;omega
 case c4=>omega
 case c5=>exact h10.kept.size
 intro gg cp w6 hown hgrow hat hlt6
 have hkk:ke≠km:=fun e=>by rw[e,hmx] at hex;cases hex
 have h11:=h10.app (ke+2) hown hgrow (hat.imp id (fun e=>by rw[e];simp)) (getL (inR hex))
 rw[List.set_append_left _ _ (List.getElem?_eq_some_iff.1 (inR (ab:=ab) (tg:=tg) (cap:=cap) (T:=T) (i:=nx T j) (z:=z' x) hex)).1] at h11
 have h12:Sx w0 w6 (AL ab tg cap T (nx T j) (z' x) ((r' x).set ke (.r 81 5 (.slice (some ⟨gg,0,none⟩) (n+1) cp) (n+1) (xs++[.int .i64 0,.string s,.int .u8 0,.int .u32 (k:Nat),.int .i64 0])))++[.b ub [.int .i64 0,.string s,.int .u8 0,.int .u32 (k:Nat),.int .i64 0]]):=h11
 have hmx':((r' x).set ke (.r 81 5 (.slice (some ⟨gg,0,none⟩) (n+1) cp) (n+1) (xs++[.int .i64 0,.string s,.int .u8 0,.int .u32 (k:Nat),.int .i64 0])))[km]?=some (.b mb mcs):=by rw[List.getElem?_set_ne hkk];exact hmx
 have hS4:(fun V:World=>V.cell? ⟨ab,9,none⟩=some (.pointer (some ⟨mb,0,none⟩))∧V.cell? ⟨mb,5,none⟩=some (.slice pE n cE)∧V.cell? ⟨ub,0,none⟩=some (.int .i64 0)∧V.cell? ⟨ub,1,none⟩=some (.string s)∧V.cell? ⟨ub,2,none⟩=some (.int .u8 0)∧V.cell? ⟨ub,3,none⟩=some (.int .u32 (k:Nat))∧V.cell? ⟨ub,4,none⟩=some (.int .i64 0)) w6:=⟨(h12.c 0 9 (getL rfl) hzc).1,(h12.c _ 5 (getL (inR hmx')) hmc).1,(h12.cL 0).1,(h12.cL 1).1,(h12.cL 2).1,(h12.cL 3).1,(h12.cL 4).1⟩
 refine hK _ _ (.inr hS4) ?_
 clear hK K
 simp only[Act.put,List.setIfInBounds_toArray,List.set_cons_zero,List.set_cons_succ]
 iterate 2 refine tkk hS4 (h:=?_)
 obtain⟨c0,c1⟩:=h12.c _ 5 (getL (inR hmx')) hmc
 have mm:=h12.lt _ (getL (inR hmx'))
 have h13:=h12.left.set (km+2) 5 (.slice (some ⟨gg,0,none⟩) (n+1) cp) (inR hmx')
 have h14:Sx w0 _ (AL ab tg cap T (nx T j) (z' x) (((r' x).set ke (.r 81 5 (.slice (some ⟨gg,0,none⟩) (n+1) cp) (n+1) (xs++[.int .i64 0,.string s,.int .u8 0,.int .u32 (k:Nat),.int .i64 0]))).set km (.b mb (mcs.set 5 (.slice (some ⟨gg,0,none⟩) (n+1) cp))))):=h13
 rw[List.set_comm _ _ hkk] at h14
 refine lastK (fun K hK=>?_)
 go_simp
 refine hK _ _ ?_
 clear hK K
 have H14:=hide h14
 generalize (w6.setCell ⟨mb,5,none⟩ (.slice (some ⟨gg,0,none⟩) (n+1) cp))=W7 at*
 clear h14 h13 h12 h11 h10 hS4 hS0 hS c0 c1 mm HOwn hown hgrow hat hlt6
 go_wp2
 go_end0
 exact⟨rfl,x,_,by rw[HS.out];exact H14.out⟩
end
end
section
open Go.RowKit
section
variable {w0 w:World} {l:List It}
set_option maxRecDepth 100000 in
set_option maxHeartbeats 1600000 in
theorem wrBytes_one {wb kb kr n b:Nat} {x:Int} {vB:Value} {xs:List Value} (h:Sx w0 w l) (hb:l[kb]?=some (.b wb [vB])) (hr:l[kr]?=some (.r 5 1 vB n xs)) (hn:n≤1000000000000) (hc:w.cell? ⟨b,0,none⟩=some (.int .u8 x)):
  Calls Tryz.prog 38 #[.pointer (some ⟨wb,0,none⟩),.slice (some ⟨b,0,none⟩) 1 1] w (fun e w'=>e=.returned (.tuple #[])∧∃vB',Sx w0 w' ((l.set kb (.b wb [vB'])).set kr (.r 5 1 vB' (n+1) (xs++[.int .u8 x])))):=by
 obtain⟨i0,hi0,hz0,hz1,hz2⟩:=info_parts Tryz.info5
 have hkk:kr≠kb:=fun e=>by rw[e,hb] at hr;cases hr
 obtain⟨pB,cB,rfl⟩:=Row.shape (h.isRow kr hr)
 obtain⟨a0,b0⟩:=h.c kb 0 hb rfl
 have l0:=h.lt kb hb
 have HOwn:=hide (h.row kr hr)
 have H:=hide h
 have HC:=hide hc
 clear h hc
 go_enter Tryz.func38,Tryz.ntmps38
 go_wp2_with (at_builtin;refine wpList_append_lies _ rfl _ _ 31 rfl w0.heap.size 5 i0 (.int .u8 0) 1 1 Tryz.underlying31 hi0 hz0 hz1 hz2 rfl (by decide) _ _ _ rfl HOwn.out ⟨b,0,none⟩ 1 1 [.int .u8 x] rfl rfl ?c1 ?c2 (by omega) ?c3 ?c4 ?c5 w.heap.size rfl ?_)
 case c1=>intro j u hu;rcases j with _ | j<;>simp at hu;subst hu;exact HC.out
 case c2=>intro u hu;simp at hu;subst hu;rfl
 case c3=>unfold maxLen;omega
 case c4=>omega
 case c5=>exact H.out.kept.size
 intro gg cp w3 hown hgrow hat hlt3
 have h4:=H.out.app kr hown hgrow (hat.imp id (fun e=>by rw[e];exact Nat.le_refl _)) hr
 have hb':(l.set kr (.r 5 1 (.slice (some ⟨gg,0,none⟩) (n+1) cp) (n+1) (xs++[.int .u8 x])))[kb]?=some (.b wb [.slice pB n cB]):=by rw[List.getElem?_set_ne hkk];exact hb
 obtain⟨a1,b1⟩:=h4.c kb 0 hb' rfl
 have l1:=h4.lt kb hb'
 have h5:=h4.set kb 0 (.slice (some ⟨gg,0,none⟩) (n+1) cp) hb'
 rw[List.set_comm _ _ hkk] at h5
 have H5:=hide h5
 clear h4 h5 hown hgrow hat hlt3 a0 b0 l0 HOwn H
 go_wp2
 go_end0
 exact⟨rfl,_,H5.out⟩
end
end
end Go.Proofs.YtkmofapihggjgaaGreatDoor
