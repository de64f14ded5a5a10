import Derived.BigQuiet
import Derived.BigRegion
import Derived.Deep.AppendLies
import Derived.Deep.CutRange
import Derived.Deep.DrawnRows
import Derived.Deep.QuietTactic
import Derived.Deep.RegionHeld3
import Derived.Deep.RegionLaw
import Derived.RegionDies
import Derived.Test.YtkmofapihggjgaaGreatDoorX0
namespace Go.Proofs.YtkmofapihggjgaaGreatDoor
section
open Go.RowKit
section
variable {K O S:Nat→Prop} {w w':World} {bb:Nat} {mp lv sv bv:Value} {st:Bd}
end
theorem isKinds.cell {ok:Nat→Prop} {w:World} {ks:List Nat} {v:Value} (h:isKinds ok ks w v) {i:Nat} (hi:i<ks.length):∃g cap,v=.slice (some ⟨g,0,none⟩) ks.length cap∧ok g∧g<w.heap.size∧ks.length≤cap∧w.cell? ⟨g,i,none⟩=some (.int .u8 (ks.getD i 0:Nat)):=by
 have hcells:=fun g=>h.own.cells (g:=g)
 rcases h.own.2 with⟨_,hn⟩ | ⟨g,cap,cur,rfl,hb,hgg,hcap,hmax,hsz,htake⟩
 ·omega
 ·refine⟨g,cap,rfl,h.at_ g rfl,(Array.getElem?_eq_some_iff.1 hgg).1,hcap,?_⟩
  have:=hcells g rfl i (.int .u8 (ks.getD i 0:Nat)) (by simp[kindCells,hi])
  have hadd:(⟨g,0,none⟩:Addr).add i=⟨g,i,none⟩:=by unfold Addr.add;split<;>simp_all
  rwa[hadd] at this
end
section
open Go.RowKit
section
variable {α β:Type} {H H':Nat→Prop} {P:Nat→α→Prop} {Q:Nat→β→Prop}
end
abbrev Any:Nat→Prop:=fun _=>True
end
section
open Go.RowKit
theorem Row.set {ok:Nat→Prop} {w:World} {E:TypeId} {size n i g c:Nat} {xs:List Value} (h:Row ok w E size (.slice (some ⟨g,0,none⟩) n c) n xs) (u:Value):Row ok (w.setCell ⟨g,i,none⟩ u) E size (.slice (some ⟨g,0,none⟩) n c) n (xs.set i u):=by
 refine⟨⟨by simp[h.own.1],?_⟩,h.at_⟩
 rcases h.own.2 with⟨hv,_⟩ | ⟨g',cap,cur,hv,hb,hgg,hcap,hmax,hsz,htake⟩
 ·cases hv
 ·cases hv
  refine .inr ⟨g,c,cur.setIfInBounds i u,rfl,hb,?_,hcap,hmax,by simpa using hsz,?_⟩
  ·simp[World.setCell,Array.getElem?_modify,hgg]
  ·rw[←htake]
   simp[List.take_set]
theorem Row.free {ok:Nat→Prop} {w:World} {E:TypeId} {size n g c:Nat} {xs:List Value} (h:Row ok w E size (.slice (some ⟨g,0,none⟩) n c) n xs) (i:Nat):w.frozen? ⟨g,i,none⟩=false:=by
 rcases h.own.2 with⟨hv,_⟩ | ⟨g',cap,cur,hv,hb,hgg,_⟩
 ·cases hv
 ·cases hv
  simp[World.frozen?,hgg]
end
section
open Go.RowKit
section
variable {K O N ok:Nat→Prop} {w W:World} {bb:Nat} {mp lv kv:Value} {st:Bd} {ks:List Nat}
set_option maxHeartbeats 800000 in
theorem usual_any (x:Nat) (w:World):Calls Tryz.prog 165 #[.int .u8 (x:Nat)] w fun e w'=>e=.returned (.int .u32 (usualM x))∧w'=w:=by
 have hx:x=44∨x=45∨x=58∨x=41∨x=55∨(x≠44∧x≠45∧x≠58∧x≠41∧x≠55):=by omega
 rcases hx with rfl | rfl | rfl | rfl | rfl | ⟨h1,h2,h3,h4,h5⟩
 case inr.inr.inr.inr.inr=>
  have t1:((x:Int)==44)=false:=beq_eq_false_iff_ne.2 (by omega)
  have t2:((x:Int)==45)=false:=beq_eq_false_iff_ne.2 (by omega)
  have t3:((x:Int)==58)=false:=beq_eq_false_iff_ne.2 (by omega)
  have t4:((x:Int)==41)=false:=beq_eq_false_iff_ne.2 (by omega)
  have t5:((x:Int)==55)=false:=beq_eq_false_iff_ne.2 (by omega)
  have HU:Hid (usualM x=2):=by show _=_;simp[usualM,h1,h2,h3,h4,h5]
  clear h1 h2 h3 h4 h5
  go_enter Tryz.func165,Tryz.ntmps165
  go_wp2
  go_ret
  exact⟨by rw[HU.out];rfl,rfl⟩
 all_goals
  go_enter Tryz.func165,Tryz.ntmps165
  go_wp2
  go_ret
  exact⟨rfl,rfl⟩
end
end
section
open Go.RowKit
theorem drewN_twice (w:World) (a b:Nat):(w.drewN a).drewN b=w.drewN (a+b):=by simp
set_option maxHeartbeats 1600000 in
theorem equalKinds_any {ok ok':Nat→Prop} {w:World} {us vs:List Nat} {pa pb:Option Addr} {ca cb:Nat} (ha:isKinds ok us w (.slice pa us.length ca)) (hb:isKinds ok' vs w (.slice pb vs.length cb)) (hl:us.length≤50):
  Calls Tryz.prog 144 #[.slice pa us.length ca,.slice pb vs.length cb] w fun e w'=>e=.returned (.bool (decide (us=vs)))∧∃k,w'=w.drewN k:=by
 by_cases hn:us.length=vs.length
 ·have tn:((us.length:Int) !=(vs.length:Int))=false:=by simp[hn]
  have HN:=hide hn
  clear hn
  go_enter Tryz.func144,Tryz.ntmps144
  go_wp2
  go_loopw [13] (fun q wr=>∃k:Nat,k≤us.length∧q=.int .i64 k∧(∃j,wr=w.drewN j)∧∀i,i<k→us.getD i 0=vs.getD i 0) (fun q _=>us.length - (intOf q).toNat)
  case atStart=>exact⟨0,Nat.zero_le _,rfl,⟨0,rfl⟩,fun i hi=>absurd hi (Nat.not_lt_zero _)⟩
  case round=>
   obtain⟨k,hk,rfl,⟨j,rfl⟩,hall⟩:=hrel
   have HALL:=hide hall
   clear hall
   by_cases hlt:k<us.length
   ·have hlt':(k:Int)<(us.length:Int):=by omega
    have hlt2:(k:Int)<(vs.length:Int):=by have:=HN.out;omega
    obtain⟨ga,c1,hv1,-,hg1,-,A0⟩:=isKinds.cell ha hlt
    obtain⟨gb,c2,hv2,-,hg2,-,B0⟩:=isKinds.cell hb (i:=k) (by omega)
    cases hv1
    cases hv2
    by_cases heq:us.getD k 0=vs.getD k 0
    ·have te:(((us.getD k 0:Nat):Int) !=((vs.getD k 0:Nat):Int))=false:=by rw[heq,bne_self_eq_false]
     have HE:=hide heq
     have HA2:Hid (∀i,i<k+1→us.getD i 0=vs.getD i 0):=fun i hi=>by
      by_cases h:i=k
      ·subst h;exact HE.out
      ·exact HALL.out i (by omega)
     clear heq HALL HE
     generalize us.getD k 0=x at te A0
     generalize vs.getD k 0=y at te B0
     go_wp2
     go_quiet (fail)
     go_wp2
     go_roundw
     case rel=>exact⟨k+1,by omega,by go_num,⟨_,rfl⟩,HA2.out⟩
     case measure=>simp[intOf];omega
    ·have te:(((us.getD k 0:Nat):Int) !=((vs.getD k 0:Nat):Int))=true:=by rw[bne_iff_ne];omega
     have HD:Hid (decide (us=vs)=false):=decide_eq_false (fun e=>heq (by rw[e]))
     clear heq
     generalize us.getD k 0=x at*
     generalize vs.getD k 0=y at*
     go_wp2
     go_quiet (fail)
     go_wp2
     go_ret
     exact⟨by rw[HD.out];rfl,_,drewN_twice _ _ _⟩
   ·have HD:Hid (decide (us=vs)=true):=by
     refine decide_eq_true (List.ext_getElem (by exact HN.out) (fun i h1 h2=>?_))
     have:=HALL.out i (by omega)
     simpa [h1,h2] using this
    go_wp2
    go_ret
    exact⟨by rw[HD.out];rfl,_,rfl⟩
 ·have tn:((us.length:Int) !=(vs.length:Int))=true:=by rw[bne_iff_ne];omega
  have HD:Hid (decide (us=vs)=false):=decide_eq_false (fun e=>hn (by rw[e]))
  clear hn
  go_enter Tryz.func144,Tryz.ntmps144
  go_wp2
  go_ret
  exact⟨by rw[HD.out];rfl,0,rfl⟩
section
variable {K O N:Nat→Prop} {w W:World} {bb mb:Nat} {lv:Value} {st:Bd} {s:ByteArray} {m:Mdl}
end
end
end Go.Proofs.YtkmofapihggjgaaGreatDoor
