import Derived.Test.YtkmofapihggjgaaGreatDoorX23
namespace Go.Proofs.YtkmofapihggjgaaGreatDoor
section
open Go.RowKit
set_option linter.unusedSimpArgs false
set_option linter.unusedVariables false
def runC (x:Nat×Nat):List Value:=[.int .u32 (x.1:Nat),.int .u8 (x.2:Nat)]
def more1:List (Nat×Nat)→List (Nat×Nat)
 | []=>[]
 | [x]=>[(x.1+1,x.2)]
 | x::y::l=>x::more1 (y::l)
def runStep (rs:List (Nat×Nat)) (k:Nat):List (Nat×Nat):=match rs.getLast? with
 | none=>[(1,k)]
 | some p=>if p.2=k then more1 rs else rs++[(1,k)]
def runsT (ks:List Nat):List (Nat×Nat):=ks.foldl runStep []
theorem more1_app (x:Nat×Nat):∀(l:List (Nat×Nat)),more1 (l++[x])=l++[(x.1+1,x.2)]
 | []=>rfl
 | [a]=>rfl
 | a::b::l=>by
  show a::more1 ((b::l)++[x])=_
  rw[more1_app x (b::l)]
  rfl
theorem runC_len (l:List (Nat×Nat)):(l.flatMap runC).length=l.length*2:=by
 induction l with
 | nil=>rfl
 | cons a l ih=>simp[runC,ih,Nat.add_mul]
theorem runC_set (l:List (Nat×Nat)) (m k:Nat) (u:Value):((l++[(m,k)]).flatMap runC).set (l.length*2) u=l.flatMap runC++[u,.int .u8 (k:Nat)]:=by
 rw[List.flatMap_append,List.set_append_right _ _ (by rw[runC_len];omega),runC_len]
 simp[runC]
theorem infoRun:(Tryz.prog.info? 126).map (fun i=>(i.zero,i.size,i.bytes))=some (some (.agg #[.int .u32 0,.int .u8 0]),2,8):=by kernel_rfl
section
variable {w0 w w':World} {wb:Nat} {os:List Nat} {Y R:List It}
theorem WW.put {p:It} (h:WW w0 wb os Y w) (hk:Kept (fun _=>False) w w') (hp:p.at_ w0.heap.size w') (ho:∀g,p.own=some g→w.heap.size≤g):WW w0 wb os (p::Y) w':=by
 obtain⟨vB,h⟩:=h
 exact⟨vB,(h.add hk hp ho).perm ((List.perm_append_singleton _ _).trans ((List.Perm.swap _ _ _).trans (List.Perm.cons _ (List.Perm.swap _ _ _))))⟩
theorem WW.nilR (h:WW w0 wb os Y w) (E:TypeId) (sz:Nat):WW w0 wb os (.r E sz (.slice none 0 0) 0 []::Y) w:=by
 obtain⟨vB,h⟩:=h
 exact⟨vB,h.insN 2 E sz⟩
theorem WW.row0 {E:TypeId} {sz n:Nat} {v:Value} {xs:List Value} (h:WW w0 wb os (.r E sz v n xs::Y) w):w.ownsRow w0.heap.size E sz v n xs∧Row (fun g=>w0.heap.size≤g) w E sz v n xs:=by
 obtain⟨vB,h⟩:=h
 exact⟨h.row 2 rfl,h.isRow 2 rfl⟩
theorem WW.app0 {E:TypeId} {sz n n' cap gg:Nat} {v:Value} {xs ys:List Value} (h:WW w0 wb os (.r E sz v n xs::Y) w) (ho:w'.ownsRow w0.heap.size E sz (.slice (some ⟨gg,0,none⟩) n' cap) n' ys) (hg:w.grownBy w' v.ownBlock) (hat:v.ownBlock=some gg∨w.heap.size≤gg):WW w0 wb os (.r E sz (.slice (some ⟨gg,0,none⟩) n' cap) n' ys::Y) w':=by
 obtain⟨vB,h⟩:=h
 exact⟨vB,h.app 2 ho hg hat rfl⟩
theorem WW.set0 {E:TypeId} {sz n i g c:Nat} {xs:List Value} (h:WW w0 wb os (.r E sz (.slice (some ⟨g,0,none⟩) n c) n xs::Y) w) (u:Value):WW w0 wb os (.r E sz (.slice (some ⟨g,0,none⟩) n c) n (xs.set i u)::Y) (w.setCell ⟨g,i,none⟩ u):=by
 obtain⟨vB,h⟩:=h
 exact⟨vB,h.upd (k:=2) (S:=fun i=>i=g) (p2:=.r E sz (.slice (some ⟨g,0,none⟩) n c) n (xs.set i u)) rfl ((Kept.refl (fun i=>i=g) w).setCell (p:=⟨g,i,none⟩) (fun _=>rfl) u) (fun i e=>by rw[e];rfl) (((h.isRow 2 rfl).set u).toBase (fun _ c=>c)) (fun i e=>.inl e)⟩
theorem WW.base (h:WW w0 wb os Y w):w0.heap.size≤w.heap.size:=h.kept.size
theorem WW.more {l:List (Nat×Nat)} {m k g c:Nat} (h:WW w0 wb os (.r 126 2 (.slice (some ⟨g,0,none⟩) (l.length+1) c) (l.length+1) ((l++[(m,k)]).flatMap runC)::Y) w):WW w0 wb os (.r 126 2 (.slice (some ⟨g,0,none⟩) (l.length+1) c) (l.length+1) ((l++[(m+1,k)]).flatMap runC)::Y) (w.setCell ⟨g,l.length*2,none⟩ (.int .u32 ((m:Int)+1))):=by
 have h1:=h.set0 (i:=l.length*2) (.int .u32 ((m:Int)+1))
 rw[runC_set] at h1
 rw[List.flatMap_append]
 exact h1
theorem WW.lastR {l:List (Nat×Nat)} {m k:Nat} {v:Value} (h:WW w0 wb os (.r 126 2 v (l.length+1) ((l++[(m,k)]).flatMap runC)::Y) w):∃g c,v=.slice (some ⟨g,0,none⟩) (l.length+1) c∧g<w.heap.size∧w.cell? ⟨g,l.length*2,none⟩=some (.int .u32 (m:Nat))∧w.cell? ⟨g,l.length*2+1,none⟩=some (.int .u8 (k:Nat))∧w.frozen? ⟨g,l.length*2,none⟩=false:=by
 have h1:=h.row0.2
 obtain⟨g,c,rfl,-,hgl,-,hcell⟩:=Row.cells h1 (by omega)
 have e0:((l++[(m,k)]).flatMap runC)[l.length*2]?=some (.int .u32 (m:Nat)):=by
  rw[List.flatMap_append,List.getElem?_append_right (by rw[runC_len];omega),runC_len]
  simp[runC]
 have e1:((l++[(m,k)]).flatMap runC)[l.length*2+1]?=some (.int .u8 (k:Nat)):=by
  rw[List.flatMap_append,List.getElem?_append_right (by rw[runC_len];omega),runC_len]
  simp[runC]
 exact⟨g,c,rfl,hgl,(hcell _ (by omega)).trans e0,(hcell _ (by omega)).trans e1,h1.free _⟩
set_option maxRecDepth 100000 in
set_option maxHeartbeats 1600000 in
theorem wrRuns_all {ks:List Nat} {v:Value} (hr:HasR R 73 1 v ks.length (kindCells ks)) (hs:∀p∈R,p∈Y) (hm:ks.length≤1000) (h:WW w0 wb os Y w):
  Calls Tryz.prog 62 #[v] w (fun e w'=>∃u,e=.returned u∧WW w0 wb os (.r 126 2 u (runsT ks).length ((runsT ks).flatMap runC)::Y) w'):=by
 obtain⟨i0,hi0,hz0,hz1,hz2⟩:=info_parts infoRun
 obtain⟨pv,cv,rfl⟩:=Row.shape (h.row hr hs)
 have H:=hide (h.nilR 126 2)
 have HR:=hide hr
 have HS:=hide hs
 clear h hr hs
 go_enter Tryz.func62,Tryz.ntmps62
 go_wp2_with fail
 go_loopw [3,8] (fun q3 q W9=>∃(j:Nat) (rs:List (Nat×Nat)),j≤ks.length∧q=.int .i64 (j:Nat)∧rs.length≤j∧(∀p∈rs,p.1≤j)∧runsT ks=(ks.drop j).foldl runStep rs∧WW w0 wb os (.r 126 2 q3 rs.length (rs.flatMap runC)::Y) W9) (fun _ q _=>ks.length - (intOf q).toNat)
 case atStart=>exact⟨0,[],Nat.zero_le _,rfl,by simp,by simp,rfl,H.out⟩
 case round=>
  obtain⟨j,rs,hj,rfl,hl,hp,hL,hW⟩:=hrel
  clear H
  obtain⟨pq,cq,rfl⟩:=Row.shape hW.row0.2
  by_cases hlt:j<ks.length
  ·obtain⟨k,hk⟩:∃k,ks[j]?=some k:=⟨_,List.getElem?_eq_getElem hlt⟩
   obtain⟨gT,cpT,hvT,-,hgl,-,hcell⟩:=Row.cells (hW.row HR.out (fun p hp=>List.mem_cons_of_mem _ (HS.out p hp))) (by omega)
   cases hvT
   have k0:wr.cell? ⟨gT,j,none⟩=some (.int .u8 (k:Nat)):=(hcell j (by omega)).trans (by unfold kindCells;rw[List.getElem?_map,hk];rfl)
   have HL:Hid (runsT ks=(ks.drop (j+1)).foldl runStep (runStep rs k)):=by
    show _=_
    rw[hL,List.drop_eq_getElem_cons hlt,List.foldl_cons]
    have e:ks[j]=k:=by rw[List.getElem?_eq_getElem hlt] at hk;exact Option.some.inj hk
    rw[e]
   have hlt':(j:Int)<(ks.length:Int):=by omega
   have HW:=hide hW
   have HP:=hide hp
   have HLT:=hide hlt
   clear hcell hk hL hW hp hlt
   by_cases he:rs=[]
   case' neg=>
    obtain⟨l,⟨m,k'⟩,hrs⟩:∃l p,rs=l++[p]:=⟨rs.dropLast,rs.getLast he,(List.dropLast_concat_getLast he).symm⟩
    have hn:rs.length=l.length+1:=by rw[hrs];simp
    have heq0:((rs.length:Int)==0)=false:=by simp;omega
    have hx1:IntKind.i64.wrap ((rs.length:Int) - 1)=(l.length:Int):=by rw[IntWalk.i64_in _ ⟨by omega,by omega⟩];omega
    have hx2:(l.length:Int)<(rs.length:Int):=by omega
    have hW3:WW w0 wb os (.r 126 2 (.slice pq rs.length cq) (l.length+1) ((l++[(m,k')]).flatMap runC)::Y) wr:=by
     have:=HW.out
     rw[←hrs,←hn]
     exact this
    obtain⟨g,c2,e9,hgl2,a0,a1,f0⟩:=hW3.lastR
    rw[hn] at e9
    cases e9
    have HRS:=hide hrs
    have HN:=hide hn
    have HW3:=hide hW3
    clear he hrs hn hW3
    by_cases hc:k'=k
    case' pos=>
     have hkk:((k':Int)==(k:Int))=true:=by rw[hc];simp
     have hkn:((k':Int) !=(k:Int))=false:=by rw[hc];simp
     have hmb:m≤j:=HP.out (m,k') (by rw[HRS.out];simp)
     have hwm:IntKind.u32.wrap ((m:Int)+1)=(m:Int)+1:=by have:=wrap_u32 (n:=m+1) (by omega);simpa using this
     have HST:Hid (runStep rs k=l++[(m+1,k')]):=by
      show _=_
      unfold runStep
      rw[HRS.out]
      simp[hc,more1_app]
     have h8:=HW3.out
     rw[HN.out] at h8
     have H8:=hide h8.more
     clear hc h8 HW HW3
     go_wp2
     go_roundw
     case rel=>
      refine⟨j+1,l++[(m+1,k')],by omega,by go_num,?_,?_,?_,?_⟩
      ·have:=HN.out;simp;omega
      ·intro p hp
       rcases List.mem_append.1 hp with hp | hp
       ·have:=HP.out p (by rw[HRS.out];exact List.mem_append_left _ hp);omega
       ·cases List.mem_singleton.1 hp;show m+1≤j+1;omega
      ·rw[HL.out,HST.out]
      ·have e:(l++[(m+1,k')]).length=l.length+1:=by simp
       rw[e,HN.out]
       exact H8.out
     case measure=>simp[intOf];omega
    case' neg=>
     have hkk:((k':Int)==(k:Int))=false:=by simp;omega
     have hkn:((k':Int) !=(k:Int))=true:=by simp;omega
     have HC:Hid (runStep rs k=rs++[(1,k)]):=by
      show _=_
      unfold runStep
      rw[HRS.out]
      simp[hc]
     clear hc HRS HN HW3
   case' pos=>
    have heq0:((rs.length:Int)==0)=true:=by rw[he];rfl
    have HC:Hid (runStep rs k=rs++[(1,k)]):=by
     show _=_
     rw[he]
     rfl
    clear he
   all_goals
    have HOwn:=hide (HW.out.row0.1.alloc (.cells #[.int .u32 0,.int .u8 (k:Nat)] 126))
    go_wp2_with (at_builtin;refine wpList_append_lies _ rfl _ _ 127 rfl w0.heap.size 126 i0 (.agg #[.int .u32 0,.int .u8 0]) 2 8 (by kernel_rfl) hi0 hz0 hz1 hz2 rfl (by decide) _ _ _ rfl HOwn.out ⟨_,0,none⟩ 1 1 [_,_] rfl rfl (cells_at (by simp) rfl) ?c2 (by omega) ?c3 ?c4 ?c5 (wr.heap.size+1) (by simp) ?_)
    case c2=>intro u hu;simp at hu;rcases hu with rfl | rfl<;>rfl
    case c3=>unfold maxLen;omega
    case c4=>omega
    case c5=>have:=HW.out.base;simp;omega
    intro gg cp w5 hown hgrow hat hlt5
    have h6:=(HW.out.alloc (.cells #[.int .u32 0,.int .u8 (k:Nat)] 126)).app0 hown hgrow (hat.imp id (fun e=>by rw[e];simp))
    obtain⟨z,hz⟩:∃z:Nat,z=0:=⟨0,rfl⟩
    have h7:WW w0 wb os (.r 126 2 (.slice (some ⟨gg,0,none⟩) (rs.length+1) cp) (rs.length+1) ((rs++[(z,k)]).flatMap runC)::Y) w5:=by
     rw[List.flatMap_append,hz]
     exact h6
    have hwm:IntKind.u32.wrap ((z:Int)+1)=(z:Int)+1:=by have:=wrap_u32 (n:=z+1) (by omega);simpa using this
    have HC2:Hid (runStep rs k=rs++[(z+1,k)]∧z+1≤j+1):=⟨by rw[HC.out,hz],by omega⟩
    have hx3:IntKind.i64.wrap (((rs.length:Int)+1) - 1)=(rs.length:Int):=by rw[IntWalk.i64_in _ ⟨by omega,by omega⟩];omega
    have hx4:(rs.length:Int)<(rs.length:Int)+1:=by omega
    obtain⟨g',c',e9,hgl7,b0,b1,d0⟩:=h7.lastR
    cases e9
    have H8:=hide h7.more
    clear hown hgrow hat h6 h7 hz HOwn HW HC
    go_wp2
    go_roundw
    case rel=>
     refine⟨j+1,rs++[(z+1,k)],by omega,by go_num,?_,?_,?_,?_⟩
     ·simp;omega
     ·intro p hp
      rcases List.mem_append.1 hp with hp | hp
      ·have:=HP.out p hp;omega
      ·cases List.mem_singleton.1 hp;exact HC2.out.2
     ·rw[HL.out,HC2.out.1]
     ·have e:(rs++[(z+1,k)]).length=rs.length+1:=by simp
      rw[e]
      exact H8.out
    case measure=>simp[intOf];omega
  ·have HE:Hid (runsT ks=rs):=by
    show _=_
    rw[hL,List.drop_eq_nil_of_le (by omega)]
    rfl
   have HW:=hide hW
   clear hL hW hp
   go_wp2
   go_ret
   exact⟨_,rfl,by rw[HE.out];exact HW.out⟩
end
end
section
open Go.RowKit
set_option linter.unusedSimpArgs false
set_option linter.unusedVariables false
theorem infoLoc:(Tryz.prog.info? 139).map (fun i=>(i.zero,i.size,i.bytes))=some (some (.agg #[.int .i64 0,.slice none 0 0]),2,32):=by kernel_rfl
def tellsT (x:(Nat×List Nam)×Value):Bool:=decide (0<x.1.2.length)
section
variable {w0 w w':World} {wb:Nat} {os:List Nat} {Y R:List It}
set_option maxRecDepth 100000 in
set_option maxHeartbeats 1600000 in
theorem wrTelling_all {els:List ((Nat×List Nam)×Value)} {v:Value} {pf:Option Addr} {nf cf:Nat} (hsh:∀x∈els,∃p1 q1,x.2=.slice p1 x.1.2.length q1) (hr:HasR R 139 2 v els.length (els.flatMap loV)) (hs:∀p∈R,p∈Y) (hm:els.length≤1000) (h:WW w0 wb os Y w):
  Calls Tryz.prog 70 #[.agg #[.slice pf nf cf,v]] w (fun e w'=>∃u,e=.returned u∧WW w0 wb os (.r 139 2 u (els.filter tellsT).length ((els.filter tellsT).flatMap loV)::Y) w'):=by
 obtain⟨i0,hi0,hz0,hz1,hz2⟩:=info_parts infoLoc
 obtain⟨pv,cv,rfl⟩:=Row.shape (h.row hr hs)
 have H:=hide ((h.nilR 139 2).new #[.slice pf nf cf,.slice pv els.length cv] 59)
 have HR:=hide hr
 have HS:=hide hs
 have HSH:=hide hsh
 clear h hr hs hsh
 go_enter Tryz.func70,Tryz.ntmps70
 go_upto_region 1 with fail
 generalize w.alloc (.cells #[.slice pf nf cf,.slice pv els.length cv] 59)=w1 at*
 generalize w.heap.size=b at*
 obtain⟨c1,-⟩:=H.out.cl 0 1
 have l0:=H.out.lt 0
 have H1:=hide H.out.pop
 clear H
 go_wp2_with fail
 clear c1 l0
 go_loopw [3,9] (fun q3 q W9=>∃(j:Nat) (rs:List ((Nat×List Nam)×Value)),j≤els.length∧q=.int .i64 (j:Nat)∧rs.length≤j∧els.filter tellsT=rs++(els.drop j).filter tellsT∧WW w0 wb os (.r 139 2 q3 rs.length (rs.flatMap loV)::Y) W9) (fun _ q _=>els.length - (intOf q).toNat)
 case atStart=>exact⟨0,[],Nat.zero_le _,rfl,by simp,rfl,H1.out⟩
 case round=>
  obtain⟨j,rs,hj,rfl,hl,hL,hW⟩:=hrel
  clear H1
  obtain⟨pq,cq,rfl⟩:=Row.shape hW.row0.2
  by_cases hlt:j<els.length
  ·obtain⟨x,hx⟩:∃x,els[j]?=some x:=⟨_,List.getElem?_eq_getElem hlt⟩
   obtain⟨gT,cpT,hvT,-,hgl,-,hcell⟩:=Row.cells (hW.row HR.out (fun p hp=>List.mem_cons_of_mem _ (HS.out p hp))) (by omega)
   cases hvT
   obtain⟨p1,q1,s1⟩:=HSH.out x (List.mem_of_getElem? hx)
   have k0:wr.cell? ⟨gT,j*2,none⟩=some (.int .i64 (x.1.1:Nat)):=(hcell (j*2) (by omega)).trans (by have:=flat_get (f:=loV) (m:=2) (o:=0) (fun _=>rfl) hx (by omega);simpa [loV] using this)
   have k1:wr.cell? ⟨gT,j*2+1,none⟩=some (.slice p1 x.1.2.length q1):=(hcell (j*2+1) (by omega)).trans (by have:=flat_get (f:=loV) (m:=2) (o:=1) (fun _=>rfl) hx (by omega);rw[←s1];simpa [loV] using this)
   have hlt':(j:Int)<(els.length:Int):=by omega
   have HNW:=hide (hW.new #[.int .i64 (x.1.1:Nat),.slice p1 x.1.2.length q1] 139)
   have HDR:Hid (els.drop j=x::els.drop (j+1)):=by
    show _=_
    rw[List.drop_eq_getElem_cons hlt]
    have e:els[j]=x:=by rw[List.getElem?_eq_getElem hlt] at hx;exact Option.some.inj hx
    rw[e]
   by_cases hp:0<x.1.2.length
   case' neg=>
    have hd:¬(0:Int)<(x.1.2.length:Int):=by omega
    have HL:Hid (els.filter tellsT=rs++(els.drop (j+1)).filter tellsT):=by
     show _=_
     rw[hL,HDR.out,List.filter_cons_of_neg (by simp[tellsT,hp])]
    have HW:=hide HNW.out.pop
    clear hcell hx hL hW hp s1 HNW HDR
    go_wp2
    go_roundw
    case rel=>exact⟨j+1,rs,by omega,by go_num,by omega,HL.out,HW.out⟩
    case measure=>simp[intOf];omega
   case' pos=>
    have hd:(0:Int)<(x.1.2.length:Int):=by omega
    have HL:Hid (els.filter tellsT=(rs++[x])++(els.drop (j+1)).filter tellsT):=by
     show _=_
     rw[hL,HDR.out,List.filter_cons_of_pos (by simp[tellsT,hp])]
     simp
    have HX:Hid (loV x=[.int .i64 (x.1.1:Nat),.slice p1 x.1.2.length q1]):=by show _=_;unfold loV;rw[s1]
    have HW:=hide (hW.alloc (.cells #[.int .i64 (x.1.1:Nat),.slice p1 x.1.2.length q1] 139))
    have HOwn:=hide (HW.out.row0.1.alloc (.cells #[.int .i64 (x.1.1:Nat),.slice p1 x.1.2.length q1] 139))
    clear hcell hx hL hW hp s1 HDR HNW
    go_wp2_with (at_builtin;refine wpList_append_lies _ rfl _ _ 57 rfl w0.heap.size 139 i0 (.agg #[.int .i64 0,.slice none 0 0]) 2 32 (by kernel_rfl) hi0 hz0 hz1 hz2 rfl (by decide) _ _ _ rfl HOwn.out ⟨_,0,none⟩ 1 1 [_,_] rfl rfl (cells_at (by simp) rfl) ?c2 (by omega) ?c3 ?c4 ?c5 (wr.heap.size+2) (by simp) ?_)
    case c2=>intro u hu;simp at hu;rcases hu with rfl | rfl<;>rfl
    case c3=>unfold maxLen;omega
    case c4=>omega
    case c5=>have:=HW.out.base;simp at this ⊢;omega
    intro gg cp w5 hown hgrow hat hlt5
    have h6:=(HW.out.alloc (.cells #[.int .i64 (x.1.1:Nat),.slice p1 x.1.2.length q1] 139)).app0 hown hgrow (hat.imp id (fun e=>by rw[e];simp))
    have h7:WW w0 wb os (.r 139 2 (.slice (some ⟨gg,0,none⟩) (rs.length+1) cp) (rs++[x]).length ((rs++[x]).flatMap loV)::Y) w5:=by
     have e:(rs++[x]).length=rs.length+1:=by simp
     have e2:(rs++[x]).flatMap loV=rs.flatMap loV++[.int .i64 (x.1.1:Nat),.slice p1 x.1.2.length q1]:=by rw[List.flatMap_append,←HX.out];simp
     rw[e,e2]
     exact h6
    have H7:=hide h7
    clear hown hgrow hat h6 h7 HOwn HW
    go_wp2
    go_roundw
    case rel=>exact⟨j+1,rs++[x],by omega,by go_num,by simp;omega,HL.out,H7.out⟩
    case measure=>simp[intOf];omega
  ·have HE:Hid (els.filter tellsT=rs):=by
    show _=_
    rw[hL,List.drop_eq_nil_of_le (by omega)]
    simp
   have HW:=hide hW
   clear hL hW
   go_wp2
   go_ret
   exact⟨_,rfl,by rw[HE.out];exact HW.out⟩
end
end
end Go.Proofs.YtkmofapihggjgaaGreatDoor
