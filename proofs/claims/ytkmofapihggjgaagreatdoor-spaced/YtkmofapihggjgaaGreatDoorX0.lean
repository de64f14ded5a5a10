import Derived.BigQuiet
import Derived.Deep.AppendLies
import Derived.Deep.CutRange
import Derived.Deep.QuietTactic
import Derived.Deep.RegionHeld3
import Derived.Deep.RegionLaw
import Derived.Laws.BytesArg
import Derived.Laws.EntriesVeiled
import Derived.Laws.StandIn
import Derived.LoopIn
import Derived.OpenShut
import Derived.OrdersHeld
import Derived.OwnWalk
import Derived.RangeFuncCalls
import Derived.RangeFuncIn
import Derived.RangeFuncLeaves
import Derived.RangeFuncRecord
import Derived.RegionDies
import Derived.RegionIn
import Derived.TacticsIn
import Derived.WalkKit
import Derived.WalkLawsBesides
import Derived.WalkSpells
import Derived.Test.YtkmofapihggjgaaGreatDoorProg
namespace Go.Proofs.YtkmofapihggjgaaGreatDoor
section
open Go.RowKit
structure Kept (S:Nat→Prop) (w w':World):Prop where
 os:w'.os=w.os
 tape:w'.tape=w.tape
 output:w'.output=w.output
 size:w.heap.size≤w'.heap.size
 block:∀k,k<w.heap.size→¬S k→w'.heap[k]?=w.heap[k]?
theorem Kept.refl (S:Nat→Prop) (w:World):Kept S w w:=⟨rfl,rfl,rfl,Nat.le_refl _,fun _ _ _=>rfl⟩
theorem Kept.trans {S:Nat→Prop} {a b c:World} (h:Kept S a b) (k:Kept S b c):Kept S a c:=
 ⟨k.os.trans h.os,k.tape.trans h.tape,k.output.trans h.output,Nat.le_trans h.size k.size,
  fun i hi hs=>(k.block i (Nat.lt_of_lt_of_le hi h.size) hs).trans (h.block i hi hs)⟩
theorem Kept.mono {S S':Nat→Prop} {w w':World} (h:Kept S w w') (hs:∀k,k<w.heap.size→S k→S' k):Kept S' w w':=
 ⟨h.os,h.tape,h.output,h.size,fun k hk hn=>h.block k hk (fun x=>hn (hs k hk x))⟩
theorem Kept.drew {S:Nat→Prop} {a w:World} (h:Kept S a w):Kept S a w.drew:=⟨h.os,h.tape,h.output,h.size,h.block⟩
theorem Kept.alloc {S:Nat→Prop} {a w:World} (h:Kept S a w) (o:Obj):Kept S a (w.alloc o):=
 h.trans ⟨rfl,rfl,rfl,by simp,fun k hk _=>Below.heap_alloc _ _ _ hk⟩
theorem Kept.setCell {S:Nat→Prop} {a w:World} (h:Kept S a w) {p:Addr} (hp:p.block<a.heap.size→S p.block) (u:Value):Kept S a (w.setCell p u):=by
 refine⟨h.os,h.tape,h.output,by simpa [World.setCell] using h.size,fun k hk hs=>?_⟩
 rw[Below.heap_setCell _ _ _ _ (fun e=>hs (by subst e;exact hp hk))]
 exact h.block k hk hs
theorem Kept.cell {S:Nat→Prop} {w w':World} (h:Kept S w w') {p:Addr} (hp:p.block<w.heap.size) (hs:¬S p.block):w'.cell? p=w.cell? p:=
 World.cell?_of_block (w:=w) (h.block p.block hp hs)
theorem Kept.frozen {S:Nat→Prop} {w w':World} (h:Kept S w w') {p:Addr} (hp:p.block<w.heap.size) (hs:¬S p.block):w'.frozen? p=w.frozen? p:=
 World.frozen?_of_block (w:=w) (h.block p.block hp hs)
def only (b:Nat):Nat→Prop:=fun k=>k=b
end
section
open Go.RowKit
abbrev Err:=Nat×Nat
def bt (s:ByteArray) (i:Nat):Nat:=if h:i<s.size then s[i].toNat else 0
theorem bt_eq {s:ByteArray} {i:Nat} (h:i<s.size):bt s i=s[i].toNat:=by simp[bt,h]
def gaveUp (errno at_:Int):Ending:=.panicked [{v:=.iface 38 (.agg #[.int .i64 errno,.int .i64 at_]),recovered:=false}]
theorem Kept.drewN {S:Nat→Prop} {a w:World} (h:Kept S a w) (k:Nat):Kept S a (w.drewN k):=⟨h.os,h.tape,h.output,h.size,h.block⟩
theorem Kept.own {a w:World} {b o:Nat} (h:Kept (only b) a w) (u:Value):Kept (only b) a (w.setCell ⟨b,o,none⟩ u):=h.setCell (p:=⟨b,o,none⟩) (fun _=>show b=b from rfl) u
def tl (t:ByteArray) (k:Nat):List Nat:=(t.data.toList.drop k).map UInt8.toNat
theorem tl_cons {t:ByteArray} {k:Nat} (h:k<t.size):tl t k=t[k].toNat::tl t (k+1):=by
 unfold tl
 rw[List.drop_eq_getElem_cons (by simpa using h)]
 rfl
theorem tl_end {t:ByteArray} {k:Nat} (h:t.size≤k):tl t k=[]:=by
 unfold tl
 rw[List.drop_of_length_le (by simpa using h)]
 rfl
def isNone (_:Unit) (_:World) (v:Value):Prop:=v=.tuple #[]
end
section
open Go.RowKit
set_option maxHeartbeats 400000 in
theorem giveUp_any (errno at_:Int) (w:World):
  Calls Tryz.prog 75 #[.int .i64 errno,.int .i64 at_] w fun e w'=>e=gaveUp errno at_∧w'=w:=by
 go_enter Tryz.func75,Tryz.ntmps75
 go_wp2
 exact⟨rfl,rfl,rfl⟩
end
section
open Go.RowKit
theorem hide {p:Prop} (h:p):Hid p:=h
end
section
open Go.RowKit
def Blk (w:World) (g:Nat) (cs:List Value):Prop:=∀i,i<cs.length→w.cell? ⟨g,i,none⟩=some (cs.getD i undef)∧w.frozen? ⟨g,i,none⟩=false
theorem Blk.new (w:World) (c:Array Value) (t:TypeId):Blk (w.alloc (.cells c t)) w.heap.size c.toList:=by
 intro i hi
 have hi':i<c.size:=by simpa using hi
 refine⟨?_,by simp⟩
 rw[World.cell?_alloc_new]
 simp[List.getD,hi']
theorem Blk.kept {S:Nat→Prop} {w w1:World} {g:Nat} {cs:List Value} (h:Blk w g cs) (hk:Kept S w w1) (hg:g<w.heap.size) (hs:¬S g):Blk w1 g cs:=by
 intro i hi
 rw[hk.cell (p:=⟨g,i,none⟩) hg hs,hk.frozen (p:=⟨g,i,none⟩) hg hs]
 exact h i hi
theorem Blk.alloc {w:World} {g:Nat} {cs:List Value} (h:Blk w g cs) (hg:g<w.heap.size) (o:Obj):Blk (w.alloc o) g cs:=
 h.kept (S:=fun _=>False) ((Kept.refl _ _).alloc o) hg (fun x=>x)
theorem Blk.new' {w:World} {g:Nat} {c:Array Value} {t:TypeId} (hg:g=w.heap.size):Blk (w.alloc (.cells c t)) g c.toList:=by
 subst hg;exact Blk.new w c t
theorem Blk.lt {w:World} {g:Nat} {c:Value} {cs:List Value} (h:Blk w g (c::cs)):g<w.heap.size:=World.block_lt_of_cell? _ _ (h 0 (by simp)).1
theorem Blk.set {w:World} {g:Nat} {cs:List Value} (h:Blk w g cs) (k:Nat) (v:Value):Blk (w.setCell ⟨g,k,none⟩ v) g (cs.set k v):=by
 intro i hi
 have hi':i<cs.length:=by simpa using hi
 refine⟨?_,by simp[(h i hi').2]⟩
 by_cases e:k=i
 ·subst e
  rw[World.cell?_setCell_same _ _ _ (h k hi').1]
  simp[List.getD,hi']
 ·rw[World.cell?_setCell_other _ _ ⟨g,i,none⟩ _ (fun c=>e (congrArg Addr.off c)),(h i hi').1]
  simp[List.getD,e]
theorem Blk.set_other {w:World} {g g' o:Nat} {cs:List Value} (h:Blk w g cs) (hne:g'≠g) (v:Value):Blk (w.setCell ⟨g',o,none⟩ v) g cs:=by
 intro i hi
 rw[World.cell?_setCell_other _ _ ⟨g,i,none⟩ _ (fun c=>hne (congrArg Addr.block c))]
 exact⟨(h i hi).1,by simp[(h i hi).2]⟩
section
variable {w:World} {g:Nat} {a b c d e:Value}
theorem Blk.three (h:Blk w g [a,b,c]):(w.cell? ⟨g,0,none⟩=some a∧w.frozen? ⟨g,0,none⟩=false)∧(w.cell? ⟨g,1,none⟩=some b∧w.frozen? ⟨g,1,none⟩=false)∧(w.cell? ⟨g,2,none⟩=some c∧w.frozen? ⟨g,2,none⟩=false):=⟨h 0 (by simp),h 1 (by simp),h 2 (by simp)⟩
end
structure Cst where
 at_:Nat
 kind:Nat
 val:Int
end
section
open Go.RowKit
structure Row (ok:Nat→Prop) (w:World) (E:TypeId) (size:Nat) (v:Value) (n:Nat) (xs:List Value):Prop where
 own:w.ownsRow 0 E size v n xs
 at_:∀g,v.ownBlock=some g→ok g
theorem Row.nil (ok:Nat→Prop) (w:World) (E:TypeId) (size:Nat):Row ok w E size (.slice none 0 0) 0 []:=
 ⟨World.ownsRow_nil w 0 E size,fun g h=>by simp[Value.ownBlock] at h⟩
theorem Row.mono {ok ok':Nat→Prop} {w:World} {E:TypeId} {size:Nat} {v:Value} {n:Nat} {xs:List Value} (h:Row ok w E size v n xs) (hm:∀g,g<w.heap.size→ok g→ok' g):Row ok' w E size v n xs:=
 ⟨h.own,fun g hg=>hm g (h.own.lt g hg).2 (h.at_ g hg)⟩
theorem Row.kept {S ok:Nat→Prop} {w w':World} {E:TypeId} {size:Nat} {v:Value} {n:Nat} {xs:List Value} (h:Row ok w E size v n xs) (hk:Kept S w w') (hs:∀g,g<w.heap.size→ok g→¬S g):Row ok w' E size v n xs:=by
 refine⟨⟨h.own.1,?_⟩,h.at_⟩
 rcases h.own.2 with hn | ⟨g,cap,cur,rfl,hb,hgg,rest⟩
 ·exact .inl hn
 ·have hlt:g<w.heap.size:=(Array.getElem?_eq_some_iff.1 hgg).1
  exact .inr ⟨g,cap,cur,rfl,hb,by rw[hk.block g hlt (hs g hlt (h.at_ g rfl))];exact hgg,rest⟩
theorem Kept.of_grown {w w':World} {row:Option Nat} (h:w.grownBy w' row):Kept (fun k=>row=some k) w w':=
 ⟨h.os,h.tape,h.output,h.size,fun k hk hs=>h.block k hk (fun e=>hs e.symm)⟩
theorem Kept.fresh {S S':Nat→Prop} {a b c:World} (h:Kept S a b) (k:Kept S' b c) (hs:∀i,i<a.heap.size→S' i→S i):Kept S a c:=
 ⟨k.os.trans h.os,k.tape.trans h.tape,k.output.trans h.output,Nat.le_trans h.size k.size,
  fun i hi hn=>(k.block i (Nat.lt_of_lt_of_le hi h.size) (fun x=>hn (hs i hi x))).trans (h.block i hi hn)⟩
theorem Row.toBase {ok:Nat→Prop} {w:World} {E:TypeId} {size:Nat} {v:Value} {n:Nat} {xs:List Value} {B:Nat} (h:Row ok w E size v n xs) (hb:∀g,ok g→B≤g):w.ownsRow B E size v n xs:=by
 refine⟨h.own.1,?_⟩
 rcases h.own.2 with hn | ⟨g,cap,cur,rfl,_,rest⟩
 ·exact .inl hn
 ·exact .inr ⟨g,cap,cur,rfl,hb g (h.at_ g rfl),rest⟩
theorem Row.ofBase {ok:Nat→Prop} {w:World} {E:TypeId} {size:Nat} {v:Value} {n:Nat} {xs:List Value} {B:Nat} (h:w.ownsRow B E size v n xs) (hb:∀g,B≤g→g<w.heap.size→ok g):Row ok w E size v n xs:=by
 refine⟨⟨h.1,?_⟩,fun g hg=>hb g (h.lt g hg).1 (h.lt g hg).2⟩
 rcases h.2 with hn | ⟨g,cap,cur,rfl,_,rest⟩
 ·exact .inl hn
 ·exact .inr ⟨g,cap,cur,rfl,Nat.zero_le _,rest⟩
end
section
open Go.RowKit
structure Lim where
 at_:Nat
 least:Int
 most:Int
 has:Bool
def Lim.cells (x:Lim):List Value:=[.int .i64 (x.at_:Nat),.int .u32 x.least,.int .u32 x.most,.bool x.has]
structure Glb where
 kind:Nat
 set_:Bool
 first:Cst
def Glb.cells (x:Glb):List Value:=[.int .u8 (x.kind:Nat),.bool x.set_,.int .i64 (x.first.at_:Nat),.int .u8 (x.first.kind:Nat),.int .i64 x.first.val]
structure Exp where
 nameAt:Nat
 name:ByteArray
 of_:Nat
 idx:Int×Nat
def expB (x:Nat):Bool:=decide (32≤x)&&decide (x≤126)&&x !=34&&x !=92
def allExp (t:ByteArray) (k:Nat):Bool:=(tl t k).all expB
structure Dat where
 at_:Nat
 place:Cst
 bytes:ByteArray
structure Ty where
 ins:List Nat
 outs:List Nat
structure Elm where
 at_:Nat
 place:Cst
 funcs:List (Int×Nat)
end
section
open Go.RowKit
theorem Tryz.info73:(Tryz.prog.info? 73).map (fun i=>(i.zero,i.size,i.bytes))=some (some (.int .u8 0),1,1):=by kernel_rfl
def kindCells (ks:List Nat):List Value:=ks.map fun(k:Nat)=>.int .u8 (k:Nat)
def isKinds (ok:Nat→Prop) (ks:List Nat) (w:World) (v:Value):Prop:=Row ok w 73 1 v ks.length (kindCells ks)
end
section
open Go.RowKit
def Enters (f:FuncId):Prop:=∀(args:Array Value) (w:World),(callFunc f args).run Tryz.prog w=.ok (.enter f args) w
theorem enters_of {f:FuncId} {fn:Func} (hf:Tryz.prog.funcs[f]?=some fn) (hname:(fn.name== "runtime.NumGoroutine")=false) (hbody:fn.body.isNone=false):Enters f:=by
 intro args w
 have h1:fn.name≠ "runtime.NumGoroutine" :=by simpa using hname
 have h2:¬fn.body=none:=by intro c;rw[c] at hbody;cases hbody
 simp[callFunc,hf,h1,h2]
end
section
open Go.RowKit
def isRow {α:Type} (E:TypeId) (size:Nat) (cells:α→List Value) (ok:Nat→Prop) (xs:List α) (w:World) (v:Value):Prop:=Row ok w E size v xs.length (xs.flatMap cells)
theorem cells_at {w:World} {g:Nat} {c:Array Value} {t:TypeId} {l:List Value} (hg:g=w.heap.size) (hl:l=c.toList):∀j u,l[j]?=some u→(w.alloc (.cells c t)).cell? ((⟨g,0,none⟩:Addr).add j)=some u:=by
 intro j u hj
 subst hg hl
 have hadd:(⟨w.heap.size,0,none⟩:Addr).add j=⟨w.heap.size,j,none⟩:=by unfold Addr.add;split<;>simp_all
 rw[hadd,World.cell?_alloc_new]
 simpa using hj
end
section
open Go.RowKit
section
variable {ok:Nat→Prop} {w w':World} {E:TypeId} {size:Nat} {v:Value} {n:Nat} {xs:List Value}
theorem Row.other (h:Row ok w E size v n xs) {g o:Nat} (hg:∀k,ok k→k≠g) (u:Value):Row ok (w.setCell ⟨g,o,none⟩ u) E size v n xs:=
 h.kept (S:=only g) ((Kept.refl _ _).own u) (fun k _ hk e=>hg k hk e)
theorem Row.shape (h:Row ok w E size v n xs):∃p c,v=.slice p n c:=by
 rcases h.own.2 with⟨hv,hn⟩ | ⟨g,cap,cur,hv,_⟩
 ·exact⟨none,0,by rw[hv,hn]⟩
 ·exact⟨_,cap,hv⟩
theorem Row.alloc (h:Row ok w E size v n xs) (o:Obj):Row ok (w.alloc o) E size v n xs:=
 h.kept (S:=fun _=>False) ((Kept.refl _ _).alloc o) (fun _ _ _ x=>x)
end
end
section
open Go.RowKit
set_option maxHeartbeats 400000 in
theorem exportable_any (x:Nat) (w:World):
  Calls Tryz.prog 102 #[.int .u8 (x:Nat)] w fun e w'=>e=.returned (.bool (expB x))∧w'=w:=by
 by_cases h1:32≤x
 ·by_cases h2:x≤126
  ·have t1:decide ((32:Int)≤(x:Int))=true:=by simp;omega
   have t2:decide ((x:Int)≤(126:Int))=true:=by simp;omega
   have HH:Hid (expB x=((x:Int) !=34&&(x:Int) !=92)):=by
    show _=_
    have a1:((x:Int) !=34)=(x !=34):=by rw[Bool.eq_iff_iff];simp;omega
    have a2:((x:Int) !=92)=(x !=92):=by rw[Bool.eq_iff_iff];simp;omega
    simp[expB,h1,h2,a1,a2]
   clear h1 h2
   cases t3:((x:Int) !=34) with
   | true=>
    have HT:=hide t3
    go_enter Tryz.func102,Tryz.ntmps102
    go_wp2
    go_ret
    exact⟨by rw[HH.out,HT.out];rfl,rfl⟩
   | false=>
    have HT:=hide t3
    go_enter Tryz.func102,Tryz.ntmps102
    go_wp2
    go_ret
    exact⟨by rw[HH.out,HT.out];rfl,rfl⟩
  ·have t1:decide ((32:Int)≤(x:Int))=true:=by simp;omega
   have t2:decide ((x:Int)≤(126:Int))=false:=by simp;omega
   have HH:Hid (expB x=false):=by show _=_;simp[expB,h2]
   clear h1 h2
   go_enter Tryz.func102,Tryz.ntmps102
   go_wp2
   go_ret
   exact⟨by rw[HH.out];rfl,rfl⟩
 ·have t1:decide ((32:Int)≤(x:Int))=false:=by simp;omega
  have HH:Hid (expB x=false):=by show _=_;simp[expB,h1]
  clear h1
  go_enter Tryz.func102,Tryz.ntmps102
  go_wp2
  go_ret
  exact⟨by rw[HH.out];rfl,rfl⟩
theorem allExp_yes {t:ByteArray} {k:Nat} (h:k<t.size) (hx:expB t[k].toNat=true):allExp t k=allExp t (k+1):=by
 unfold allExp;rw[tl_cons h];simp[hx]
theorem allExp_no {t:ByteArray} {k:Nat} (h:k<t.size) (hx:expB t[k].toNat=false):allExp t k=false:=by
 unfold allExp;rw[tl_cons h];simp[hx]
theorem allExp_end {t:ByteArray} {k:Nat} (h:t.size≤k):allExp t k=true:=by
 unfold allExp;rw[tl_end h];rfl
set_option maxHeartbeats 800000 in
theorem exportName_any (t:ByteArray) (w:World) (ht:t.size≤20):Calls Tryz.prog 121 #[.string t] w fun e w'=>e=.returned (.bool (allExp t 0))∧w'=w:=by
 have hnot:∀(x:Bool) (w:World),(Op.unary .not (.bool x)).run Tryz.prog w=.ok (.bool (!x)) w:=fun _ _=>rfl
 have hle:(t.size:Int)≤20:=by omega
 go_enter Tryz.func121,Tryz.ntmps121
 go_wp2
 go_loop [3,6] (fun _ q=>∃k:Nat,k≤t.size∧q=.int .i64 k∧allExp t 0=allExp t k) (fun _ q=>t.size - (intOf q).toNat)
 case atStart=>exact⟨0,Nat.zero_le _,rfl,rfl⟩
 case round=>
  obtain⟨k,hk,rfl,ha⟩:=hrel
  have HA:=hide ha
  clear ha
  by_cases hlt:k<t.size
  ·have hlt':(k:Int)<(t.size:Int):=by omega
   cases hx:expB t[k].toNat with
   | true=>
    have HN:=hide (HA.out.trans (allExp_yes hlt hx))
    have HX:=hide hx
    clear hx
    go_wp2_with fail
    refine(exportable_any _ _).mono ?_
    rintro e w3 ⟨rfl,rfl⟩
    rw[HX.out]
    go_wp2
    go_round
    case rel=>exact⟨k+1,by omega,by go_num,HN.out⟩
    case measure=>simp[intOf];omega
   | false=>
    have HN:=hide (HA.out.trans (allExp_no hlt hx))
    have HX:=hide hx
    clear hx
    go_wp2_with fail
    refine(exportable_any _ _).mono ?_
    rintro e w3 ⟨rfl,rfl⟩
    rw[HX.out]
    go_wp2
    go_ret
    exact⟨by simp[HN.out],rfl⟩
  ·have HN:=hide (HA.out.trans (allExp_end (by omega)))
   go_wp2
   go_ret
   exact⟨by rw[HN.out];rfl,rfl⟩
end
section
open Go.RowKit
def Each {α β:Type} (P:α→β→Prop):List α→List β→Prop
 | [],[]=>True
 | x::xs,y::ys=>P x y∧Each P xs ys
 | [],_::_=>False
 | _::_,[]=>False
end
section
open Go.RowKit
theorem Tryz.info86:(Tryz.prog.info? 86).map (fun i=>(i.zero,i.size,i.bytes))=some (some (.agg #[.int .i64 0,.int .i64 0,.int .u8 0,.int .i64 0,.slice none 0 0]),5,56):=by kernel_rfl
end
section
open Go.RowKit
theorem step_call {P:Program} {ops:Array Oper} {o:Oper} {a:Act} {w:World} {K:Act→World→Prop} {Q:Exit→Act→World→Prop} {E:Prop} {f:FuncId} {args:Array Value} {R:Ending→World→Prop} (hgd:o.guard=none)
  (hex:(execOp a.eval o).run P w=.ok (.enter f args) w) (hc:Calls P f args w R) (h:∀e w',R e w'→∃v,e=.returned v∧K (a.put o.dst v) w'):
  if Region.wanted o (yielded ops a.tmps)=true then Oper.wp P o a w K Q else E:=by
 have hw:Region.wanted o (yielded ops a.tmps)=true:=by simp[Region.wanted,hgd]
 rw[if_pos hw]
 unfold Oper.wp
 rw[hex]
 refine hc.mono ?_
 intro e w' hr
 obtain⟨v,rfl,hk⟩:=h e w' hr
 exact hk
end
section
open Go.RowKit
def byteCells (os:List Nat):List Value:=os.map fun(k:Nat)=>.int .u8 (k:Nat)
end
section
open Go.RowKit
theorem Tryz.info5:(Tryz.prog.info? 5).map (fun i=>(i.zero,i.size,i.bytes))=some (some (.int .u8 0),1,1):=by kernel_rfl
def isOpen (ok:Nat→Prop) (os:List Nat) (w:World) (v:Value):Prop:=Row ok w 5 1 v os.length (byteCells os)
end
section
open Go.RowKit
def inNameB (x:Nat):Bool:=(decide (97≤x)&&decide (x≤122))||(decide (65≤x)&&decide (x≤90))||(decide (48≤x)&&decide (x≤57))||x==95||x==46
set_option maxHeartbeats 800000 in
theorem inName_any (x:Nat) (w:World):Calls Tryz.prog 105 #[.int .u8 (x:Nat)] w fun e w'=>e=.returned (.bool (inNameB x))∧w'=w:=by
 have e1:decide ((97:Int)≤(x:Int))=decide (97≤x):=decide_eq_decide.2 (by omega)
 have e2:decide ((x:Int)≤(122:Int))=decide (x≤122):=decide_eq_decide.2 (by omega)
 have e3:decide ((65:Int)≤(x:Int))=decide (65≤x):=decide_eq_decide.2 (by omega)
 have e4:decide ((x:Int)≤(90:Int))=decide (x≤90):=decide_eq_decide.2 (by omega)
 have e5:decide ((48:Int)≤(x:Int))=decide (48≤x):=decide_eq_decide.2 (by omega)
 have e6:decide ((x:Int)≤(57:Int))=decide (x≤57):=decide_eq_decide.2 (by omega)
 have e7:((x:Int)==95)=(x==95):=by rw[Bool.eq_iff_iff];simp;omega
 have e8:((x:Int)==46)=(x==46):=by rw[Bool.eq_iff_iff];simp;omega
 have HH:Hid (inNameB x=((decide ((97:Int)≤(x:Int))&&decide ((x:Int)≤(122:Int)))||(decide ((65:Int)≤(x:Int))&&decide ((x:Int)≤(90:Int)))||(decide ((48:Int)≤(x:Int))&&decide ((x:Int)≤(57:Int)))||(x:Int)==95||(x:Int)==46)):=by
  show _=_
  rw[e1,e2,e3,e4,e5,e6,e7,e8];rfl
 clear e1 e2 e3 e4 e5 e6 e7 e8
 generalize (x:Int)=z at*
 cases t1:decide ((97:Int)≤z)<;>cases t2:decide (z≤(122:Int))<;>cases t3:decide ((65:Int)≤z)<;>cases t4:decide (z≤(90:Int))<;>cases t5:decide ((48:Int)≤z)<;>cases t6:decide (z≤(57:Int))<;>cases t7:(z==95)
 all_goals first
  | (exfalso;simp at t1 t2 t3 t4 t5 t6 t7;omega)
  | skip
 all_goals
  have HV:=hide (HH.out.trans (by rw[t1,t2,t3,t4,t5,t6,t7]))
  clear HH
  go_enter Tryz.func105,Tryz.ntmps105
  go_wp2
  go_ret
  exact⟨by rw[HV.out];rfl,rfl⟩
end
section
open Go.RowKit
def hasPreB (a b:ByteArray):Bool:=decide (b.size≤a.size)&&(a.extract 0 b.size).toList==b.toList
set_option maxRecDepth 100000 in
theorem slHasPrefix_any (a b:ByteArray) (w:World):Calls Tryz.prog 125 #[.string a,.string b] w fun e w'=>e=.returned (.bool (hasPreB a b))∧w'=w:=by
 by_cases h:b.size≤a.size
 ·have t1:(b.size:Int)≤(a.size:Int):=by omega
  have t2:(0:Int)≤(b.size:Int):=by omega
  go_enter Tryz.func125,Tryz.ntmps125
  go_wp2
  go_ret
  exact⟨by simp[hasPreB,h],rfl⟩
 ·have t1:¬(b.size:Int)≤(a.size:Int):=by omega
  have t3:(a.size:Int)<(b.size:Int):=by omega
  go_enter Tryz.func125,Tryz.ntmps125
  go_wp2
  go_ret
  exact⟨by simp[hasPreB,h],rfl⟩
theorem strHasPrefix_any (a b:ByteArray) (w:World):Calls Tryz.prog 100 #[.string a,.string b] w fun e w'=>e=.returned (.bool (hasPreB a b))∧w'=w:=by
 go_enter Tryz.func100,Tryz.ntmps100
 go_wp2_with fail
 refine(slHasPrefix_any a b w).mono ?_
 rintro e w1 ⟨rfl,rfl⟩
 go_wp2
 go_ret
 exact⟨rfl,rfl⟩
def inWordB (x:Nat):Bool:=inNameB x||x==36||x==45||x==61
theorem inWord_any (x:Nat) (w:World):Calls Tryz.prog 84 #[.int .u8 (x:Nat)] w fun e w'=>e=.returned (.bool (inWordB x))∧w'=w:=by
 have e1:((x:Int)==36)=(x==36):=by rw[Bool.eq_iff_iff];simp;omega
 have e2:((x:Int)==45)=(x==45):=by rw[Bool.eq_iff_iff];simp;omega
 have e3:((x:Int)==61)=(x==61):=by rw[Bool.eq_iff_iff];simp;omega
 go_enter Tryz.func84,Tryz.ntmps84
 go_wp2_with fail
 refine(inName_any x w).mono ?_
 rintro e w1 ⟨rfl,rfl⟩
 cases h0:inNameB x with
 | true=>
  go_wp2
  go_ret
  exact⟨by simp[inWordB,h0],rfl⟩
 | false=>
  cases h1:(x==36) with
  | true=>
   rw[h1] at e1
   go_wp2
   go_ret
   exact⟨by simp[inWordB,h0,h1],rfl⟩
  | false=>
   rw[h1] at e1
   cases h2:(x==45) with
   | true=>
    rw[h2] at e2
    go_wp2
    go_ret
    exact⟨by simp[inWordB,h0,h1,h2],rfl⟩
   | false=>
    rw[h2] at e2
    go_wp2
    go_ret
    exact⟨by simp[inWordB,h0,h1,h2],rfl⟩
end
section
open Go.RowKit
section
variable {F:Fence} {n:Nat} {P:Program}
def roundPostP (P:Program) (l:Nat) (R:Ending→World→Prop):Exit→Act→World→Prop
 | .normal,_,w=>∃v w',(Instr.endRound l none).run P w=.ok v w'∧R (.returned v) w'
 | .panic chain,a,w=>a.defers=[]∧R (.panicked chain) w
 | _,_,_=>False
theorem roundIn_panics {l:Nat} {f:FuncId} {tmps:Array Value} {assign body:Code} {w:World} {R:Ending→World→Prop} (hF:F.fn f) (hfn:(∃fn,P.funcs[f]?=some fn)∨∀chain w',¬R (.panicked chain) w')
  (h:assign.wpIn (F.inRound l) n P (Exit.then (fun a₁ w₁=>∃w₂,(Instr.beginRound l).run P w₁=.ok () w₂∧body.wpIn (F.inRound l) n P (roundPostP P l R) a₁ w₂) (fun _ _ _=>False))
   {tmps:=tmps,defers:=[]} w):
  RoundIn F n P l f tmps assign body w R:=by
 refine⟨hF,fun caller rest room0=>?_⟩
 have room:(F.inRound l).room ((caller::rest).length+1+n):=room0
 have start:∀todo,(todo=[.code assign,.beginRound,.code body])→Frame.round l f tmps assign body .normal=({(default:Frame) with fn:=f,kind:=.normal,roundOf:=some l}:Frame).atR {tmps:=tmps,defers:=[]} todo:=by
  rintro _ rfl;simp[Frame.round,Frame.atR]
 rw[start _ rfl]
 generalize hfr:({(default:Frame) with fn:=f,kind:=.normal,roundOf:=some l}:Frame)=fr
 have ho:fr.roundOf=some l:=by rw[←hfr]
 have hn:fr.kind=.normal:=by rw[←hfr]
 have hf0:fr.fn=f:=by rw[←hfr]
 have hin:(F.inRound l).fn fr.fn:=by rw[hf0];exact hF
 obtain⟨e1,a1,w1,q1,way1⟩:=h fr [.beginRound,.code body] (caller::rest) ho hin room
 cases e1<;>first | exact q1.elim | skip
 obtain⟨w2,hbegin,hrest⟩:=q1
 obtain⟨e2,a2,w3,q2,way2⟩:=hrest fr [] (caller::rest) ho hin room
 have begun:=StepsIn.one (I:=Machine.fenced P (F.inRound l)) (fenced_calm (fr:=fr.atR a1 [.beginRound,.code body]) hin room rfl) (stepR_beginRound (cs:=caller::rest) (k:=[.code body]) ho hbegin)
 cases e2<;>first | exact q2.elim | skip
 ·obtain⟨v,w4,hend,hR⟩:=q2
  exact⟨.returned v,w4,hR,(StepsIn.trans way1 begun).trans (StepsIn.trans way2 (.one (fenced_calm (fr:=fr.atR a2 []) hin room rfl) (stepR_round_end ho hn hend)))⟩
 ·rename_i chain
  rcases hfn with⟨fn,hfn⟩ | hno
  case inr=>exact absurd q2.2 (hno _ _)
  obtain⟨todo,up⟩:=way2
  have out:({fr.atR a2 todo with mode:=.panicking chain}:Frame).leaving P w3 (.panicked chain):=⟨rfl,q2.1,fn,by show P.funcs[fr.fn]?=_;rw[hf0];exact hfn⟩
  exact⟨.panicked chain,w3,q2.2,(StepsIn.trans way1 begun).trans (StepsIn.trans up (.one (fenced_leaving (F:=F.inRound l) (n:=n) hin room out) (step_leave_panicked out)))⟩
end
theorem Kept.putObj {w:World} {r:Nat} {o:Obj}:Kept (only r) w (w.putObj r o):=
 ⟨rfl,rfl,rfl,by simp,fun k _ hk=>World.putObj_heap_other (fun e=>hk e)⟩
section
variable {F:Fence} {n:Nat} {P:Program}
end
end
section
open Go.RowKit
abbrev Cod:=List Nat×Nat×Nat
abbrev Nam:=Nat×ByteArray
structure Mdl where
 types:List Ty
 funcs:List (Int×Nat)
 tables:List Lim
 mems:List Lim
 globals:List Glb
 exports:List Exp
 starts:List (Int×Nat)
 elems:List Elm
 codes:List Cod
 data:List Dat
 nfuncs:List Nam
 nlocals:List (Nat×List Nam)
def namCells (x:Nam):List Value:=[.int .i64 (x.1:Nat),.string x.2]
section
variable {w:World} {g:Nat} {a b c d e a' b' c' d' e' x y:Value}
end
end
section
open Go.RowKit
theorem all_yes {t:ByteArray} {k:Nat} (h:k<t.size) (hx:inNameB t[k].toNat=true):(tl t k).all inNameB=(tl t (k+1)).all inNameB:=by
 rw[tl_cons h];simp[hx]
theorem all_no {t:ByteArray} {k:Nat} (h:k<t.size) (hx:inNameB t[k].toNat=false):(tl t k).all inNameB=false:=by
 rw[tl_cons h];simp[hx]
theorem Row.cells {ok:Nat→Prop} {w:World} {E:TypeId} {size:Nat} {v:Value} {n:Nat} {xs:List Value} (h:Row ok w E size v n xs) (hn:0<n):
  ∃g cap,v=.slice (some ⟨g,0,none⟩) n cap∧ok g∧g<w.heap.size∧n≤cap∧∀i,i<n*size→w.cell? ⟨g,i,none⟩=xs[i]?:=by
 rcases h.own.2 with⟨_,hz⟩ | ⟨g,cap,cur,rfl,_,hb,h1,h2,h3,h4⟩
 ·omega
 ·refine⟨g,cap,rfl,h.at_ g rfl,(Array.getElem?_eq_some_iff.1 hb).1,h1,fun i hi=>?_⟩
  rw[←h4,List.getElem?_take_of_lt hi,Array.getElem?_toList]
  simp[World.cell?,hb]
theorem flat_get {α:Type} {f:α→List Value} {m:Nat} (hf:∀x,(f x).length=m):∀{xs:List α} {k o:Nat} {x:α},xs[k]?=some x→o<m→(xs.flatMap f)[k*m+o]?=(f x)[o]?
 | [],k,o,x,h,_=>by simp at h
 | y::ys,0,o,x,h,ho=>by
  simp at h;subst h
  simp only[List.flatMap_cons]
  rw[List.getElem?_append_left (by rw[hf];omega)];simp
 | y::ys,k+1,o,x,h,ho=>by
  simp at h
  simp only[List.flatMap_cons]
  rw[List.getElem?_append_right (by rw[hf,Nat.add_mul];omega),hf,show(k+1)*m+o - m=k*m+o by rw[Nat.add_mul];omega]
  exact flat_get hf h ho
end
section
open Go.RowKit
def quoGo (s:ByteArray):Nat→Nat→List Nat→Option (List Nat)×Nat
 | 0,k,_=>(none,k)
 | f+1,k,acc=>if k<s.size then(if bt s k=34 then(some acc,k+1) else if expB (bt s k)=true then quoGo s f (k+1) (acc++[bt s k]) else(none,k)) else(none,k)
def quoM (s:ByteArray) (a:Nat):Option (List Nat)×Nat:=quoGo s (s.size - a) (a+1) []
abbrev Tok:=Nat×Nat×ByteArray
def tokV (t:Tok):Value:=.agg #[.int .u8 (t.1:Nat),.int .i64 (t.2.1:Nat),.string t.2.2]
def quoT (s:ByteArray) (a:Nat):Tok:=match(quoM s a).1 with
 | some acc=>(4,a,strOfNums (acc.map fun(k:Nat)=>(k:Int)))
 | none=>(0,a,⟨#[]⟩)
theorem conv_bytes {ok:Nat→Prop} {w:World} {v:Value} {os:List Nat} (h:isOpen ok os w v) (hl:0<os.length):(convert 31 9 v).run Tryz.prog w=.ok (.string (strOfNums (os.map fun(k:Nat)=>(k:Int)))) w:=by
 obtain⟨g,cap,rfl,-,-,-,hc⟩:=Row.cells h hl
 refine run_convert_bytes_arg (P:=Tryz.prog) w 31 5 Tryz.underlying31 Tryz.underlying5 g 0 os.length cap (os.map fun(k:Nat)=>(k:Int)) (by simp) (fun i hi=>?_) 9 Tryz.underlying9
 have h1:=hc i (by omega)
 simp[byteCells,hi] at h1 ⊢
 exact h1
theorem tok_laid {w w':World} {tb:Nat} {a0 a1 a2:Value} (hB:Blk w' tb [a0,a1,a2]) (hk:Kept (fun _=>False) w w') (htb:w.heap.size≤tb) (x y z:Value):
  Blk (((w'.setCell ⟨tb,0,none⟩ x).setCell ⟨tb,1,none⟩ y).setCell ⟨tb,2,none⟩ z) tb [x,y,z]∧Kept (fun _=>False) w (((w'.setCell ⟨tb,0,none⟩ x).setCell ⟨tb,1,none⟩ y).setCell ⟨tb,2,none⟩ z):=by
 refine⟨by simpa using ((hB.set 0 x).set 1 y).set 2 z,?_⟩
 have h0:∀{V:World} {o:Nat} (v:Value),Kept (fun _=>False) w V→Kept (fun _=>False) w (V.setCell ⟨tb,o,none⟩ v):=fun v h=>h.setCell (p:=⟨tb,_,none⟩) (fun c=>absurd htb (by simp at c;omega)) v
 exact h0 _ (h0 _ (h0 _ hk))
set_option maxRecDepth 100000 in
set_option maxHeartbeats 1600000 in
theorem quoted_any (s:ByteArray) (a:Nat) (ha:a<s.size) (hs:s.size≤100000) (hno:∀k,bt s k≠92) (h1:bt s (a+1)≠34) (w:World):
  Calls Tryz.prog 83 #[.string s,.int .i64 (a:Nat)] w fun e w'=>e=.returned (.tuple #[tokV (quoT s a),.int .i64 ((quoM s a).2:Nat)])∧Kept (fun _=>False) w w':=by
 obtain⟨i0,hi0,hz0,hz1,hz2⟩:=info_parts Tryz.info5
 have hw1:IntKind.i64.wrap ((a:Int)+1)=(a:Int)+1:=IntWalk.i64_in _ ⟨by omega,by omega⟩
 have HN:=hide hno
 have H1:=hide h1
 clear hno h1
 go_enter Tryz.func83,Tryz.ntmps83
 go_wp2
 have hB:Blk (w.alloc (.cells #[.int .u8 0,.int .i64 0,.string ⟨#[]⟩] 144)) w.heap.size [.int .u8 0,.int .i64 0,.string ⟨#[]⟩]:=Blk.new' rfl
 have hK:Kept (fun _=>False) w (w.alloc (.cells #[.int .u8 0,.int .i64 0,.string ⟨#[]⟩] 144)):=(Kept.refl _ _).alloc _
 have hz:(w.alloc (.cells #[.int .u8 0,.int .i64 0,.string ⟨#[]⟩] 144)).heap.size=w.heap.size+1:=by simp
 obtain⟨tb,htb⟩:∃tb,tb=w.heap.size:=⟨_,rfl⟩
 rw[←htb] at hB hz ⊢
 generalize (w.alloc (.cells #[.int .u8 0,.int .i64 0,.string ⟨#[]⟩] 144))=W at*
 have HTB:=hide htb
 clear htb
 go_loopw [6,7] (fun v q wr=>∃(k:Nat) (acc:List Nat),a+1≤k∧k≤s.size+0∧acc.length+a+1=k∧q=.int .i64 (k:Nat)∧isOpen (fun g=>tb<g) acc wr v∧Kept (fun _=>False) W wr∧quoM s a=quoGo s (s.size - k+1) k acc) (fun _ q _=>s.size - (intOf q).toNat)
 case atStart=>
  refine⟨a+1,[],Nat.le_refl _,by omega,by simp,by simp,Row.nil _ _ _ _,Kept.refl _ _,?_⟩
  unfold quoM
  rw[show s.size - a=s.size - (a+1)+1 by omega]
 case round=>
  obtain⟨k,acc,hak,hk,hl,rfl,hrow,hkp,hme⟩:=hrel
  have HE:=hide hme
  have hblk:=hB.kept hkp (by omega) (fun c=>c)
  obtain⟨⟨T0,U0⟩,⟨T1,U1⟩,⟨T2,U2⟩⟩:=hblk.three
  have hsz:=hkp.size
  clear hme
  by_cases hlt:k<s.size
  ·have hlt':(k:Int)<(s.size:Int):=by omega
   have hwk:IntKind.i64.wrap ((k:Int)+1)=(k:Int)+1:=IntWalk.i64_in _ ⟨by omega,by omega⟩
   by_cases h34:bt s k=34
   ·have t1:((s[k].toNat:Int)==34)=true:=by rw[bt_eq hlt] at h34;simp[h34]
    have hal:0<acc.length:=by
     rcases Nat.eq_zero_or_pos acc.length with c | c
     ·exact absurd h34 (by rw[show k=a+1 by omega];exact H1.out)
     ·exact c
    have hcv:=conv_bytes hrow hal
    have HQ:Hid (quoM s a=(some acc,k+1)):=by show _=_;rw[HE.out,quoGo,if_pos hlt,if_pos h34]
    clear h34
    obtain⟨hb3,hk3⟩:=tok_laid hblk (hK.trans hkp) (by rw[HTB.out];omega) (.int .u8 4) (.int .i64 (a:Nat)) (.string (strOfNums (acc.map fun(k:Nat)=>(k:Int))))
    obtain⟨⟨V0,-⟩,⟨V1,-⟩,⟨V2,-⟩⟩:=hb3.three
    have HK3:=hide hk3
    clear hk3 hb3
    go_wp2
    refine bodyPost_ret (v:=.tuple #[.agg #[.int .u8 4,.int .i64 (a:Nat),.string (strOfNums (acc.map fun(k:Nat)=>(k:Int)))],.int .i64 ((k:Nat)+1)]) ?_ rfl ?_
    ·simp[results,Tryz.results83,go_sem,V0,V1,V2]
    ·refine⟨?_,HK3.out⟩
     rw[quoT,HQ.out];rfl
   ·have t1:((s[k].toNat:Int)==34)=false:=by rw[bt_eq hlt] at h34;simp;omega
    cases hx:expB (bt s k) with
    | true=>
     have HQ:Hid (quoM s a=quoGo s (s.size - (k+1)+1) (k+1) (acc++[bt s k])):=by show _=_;rw[HE.out,quoGo,if_pos hlt,if_neg h34,if_pos hx,show s.size - k=s.size - (k+1)+1 by omega]
     have hx2:expB s[k].toNat=true:=by rw[←bt_eq hlt];exact hx
     have hown:=(Row.alloc hrow (.cells #[.int .u8 (s[k].toNat:Nat)] 5))
     have HOwn:=hide hown.own
     have HR:=hide hrow
     have hbe:=bt_eq hlt
     obtain⟨pv,cv,rfl⟩:=Row.shape hrow
     clear hown hx h34 hrow
     go_wp2_with fail
     refine(exportable_any _ _).mono ?_
     rintro e w1 ⟨rfl,rfl⟩
     rw[hx2]
     go_wp2_with (at_builtin;refine wpList_append_lies _ rfl _ _ 31 rfl 0 5 i0 (.int .u8 0) 1 1 Tryz.underlying31 hi0 hz0 hz1 hz2 rfl (by decide) _ _ _ rfl HOwn.out ⟨w1.heap.size,0,none⟩ 1 1 [_] rfl rfl (cells_at (by simp) rfl) ?c2 (by omega) ?c3 ?c4 (Nat.zero_le _) (w1.heap.size+1) (by simp) ?_)
     case c2=>intro u hu;simp at hu;subst hu;rfl
     case c3=>unfold maxLen;omega
     case c4=>omega
     intro gg cap w3 hown3 hgrow hat hlt3
     have hk3:Kept (fun _=>False) W w3:=by
      refine(hkp.alloc _).fresh (Kept.of_grown hgrow) (fun i hi c=>?_)
      exact absurd (HR.out.at_ _ c) (by omega)
     have hr3:isOpen (fun g=>tb<g) (acc++[bt s k]) w3 (.slice (some ⟨gg,0,none⟩) (acc.length+1) cap):=by
      refine⟨?_,fun g hg=>?_⟩
      ·rw[hbe];simpa [byteCells] using hown3
      ·simp[Value.ownBlock] at hg
       subst hg
       rcases hat with hh | hh
       ·exact HR.out.at_ _ hh
       ·omega
     have HR3:=hide hr3
     clear hown3 hgrow hat hr3
     go_wp2
     go_roundw
     case rel=>exact⟨k+1,acc++[bt s k],by omega,by omega,by simp;omega,by go_num,by simpa using HR3.out,hk3,HQ.out⟩
     case measure=>simp[intOf];omega
    | false=>
     have HQ:Hid (quoM s a=(none,k)):=by show _=_;rw[HE.out,quoGo,if_pos hlt,if_neg h34,if_neg (by rw[hx];decide)]
     have hx2:expB s[k].toNat=false:=by rw[←bt_eq hlt];exact hx
     have t2:((s[k].toNat:Int)==92)=false:=by have:=HN.out k;rw[bt_eq hlt] at this;simp;omega
     obtain⟨hb3,hk3⟩:=tok_laid hblk (hK.trans hkp) (by rw[HTB.out];omega) (.int .u8 0) (.int .i64 (a:Nat)) (.string ⟨#[]⟩)
     obtain⟨⟨V0,-⟩,⟨V1,-⟩,⟨V2,-⟩⟩:=hb3.three
     have HK3:=hide hk3
     clear hk3 hb3
     clear hx h34
     go_wp2_with fail
     refine(exportable_any _ _).mono ?_
     rintro e w1 ⟨rfl,rfl⟩
     rw[hx2]
     go_wp2
     refine bodyPost_ret (v:=.tuple #[.agg #[.int .u8 0,.int .i64 (a:Nat),.string ⟨#[]⟩],.int .i64 (k:Nat)]) ?_ rfl ?_
     ·simp[results,Tryz.results83,go_sem,V0,V1,V2]
     ·refine⟨?_,HK3.out⟩
      rw[quoT,HQ.out];rfl
  ·have hlt':¬(k:Int)<(s.size:Int):=by omega
   have HQ:Hid (quoM s a=(none,k)):=by show _=_;rw[HE.out,quoGo,if_neg hlt]
   obtain⟨hb3,hk3⟩:=tok_laid hblk (hK.trans hkp) (by rw[HTB.out];omega) (.int .u8 0) (.int .i64 (a:Nat)) (.string ⟨#[]⟩)
   obtain⟨⟨V0,-⟩,⟨V1,-⟩,⟨V2,-⟩⟩:=hb3.three
   have HK3:=hide hk3
   clear hk3 hb3
   go_wp2
   refine bodyPost_ret (v:=.tuple #[.agg #[.int .u8 0,.int .i64 (a:Nat),.string ⟨#[]⟩],.int .i64 (k:Nat)]) ?_ rfl ?_
   ·simp[results,Tryz.results83,go_sem,V0,V1,V2]
   ·refine⟨?_,HK3.out⟩
    rw[quoT,HQ.out];rfl
end
section
open Go.RowKit
set_option linter.unusedSimpArgs false
set_option maxRecDepth 100000 in
theorem slIndexByte_any (s:ByteArray) (c:Nat) (w:World):Calls Tryz.prog 141 #[.string s,.int .u8 (c:Nat)] w fun e w'=>e=.returned (.int .i64 (firstIdx s (c:Int).toNat.toUInt8))∧w'=w:=by
 go_enter Tryz.func141,Tryz.ntmps141
 go_wp2
 rw[run_callFunc_indexByte Tryz.func155 (by kernel_rfl) (by kernel_rfl) (by kernel_rfl) (by kernel_rfl),run_indexByte_string]
 simp only[Result.andThen]
 rw[Oper.upon_value]
 go_wp2
 go_ret
 exact⟨rfl,rfl⟩
theorem strIndexByte_any (s:ByteArray) (c:Nat) (w:World):Calls Tryz.prog 126 #[.string s,.int .u8 (c:Nat)] w fun e w'=>e=.returned (.int .i64 (firstIdx s (c:Int).toNat.toUInt8))∧w'=w:=by
 go_enter Tryz.func126,Tryz.ntmps126
 go_wp2_with fail
 refine(slIndexByte_any s c w).mono ?_
 rintro e w1 ⟨rfl,rfl⟩
 go_wp2
 go_ret
 exact⟨rfl,rfl⟩
theorem firstIdx_cases (s:ByteArray) (c:UInt8):firstIdx s c= -1∨∃n:Nat,firstIdx s c=n∧n<s.size:=by
 unfold firstIdx
 split
 ·rename_i i h
  have:=List.mem_of_find?_eq_some h
  exact .inr ⟨i,rfl,List.mem_range.1 this⟩
 ·exact .inl rfl
def lineM (s:ByteArray):Nat:=if 0≤firstIdx s 10 then(firstIdx s 10).toNat else s.size
theorem lineM_le (s:ByteArray):lineM s≤s.size:=by
 unfold lineM
 rcases firstIdx_cases s 10 with h | ⟨n,h,hn⟩
 ·rw[h];simp
 ·rw[h];simp;omega
set_option maxHeartbeats 800000 in
theorem line_any (s:ByteArray) (w:World):Calls Tryz.prog 101 #[.string s] w fun e w'=>e=.returned (.int .i64 (lineM s:Nat))∧w'=w:=by
 go_enter Tryz.func101,Tryz.ntmps101
 go_wp2_with fail
 refine(strIndexByte_any s 10 w).mono ?_
 rintro e w1 ⟨rfl,rfl⟩
 have e10:((10:Nat):Int).toNat.toUInt8=(10:UInt8):=by decide
 rw[e10]
 rcases firstIdx_cases s 10 with h | ⟨n,h,hn⟩
 ·have HL:Hid (lineM s=s.size):=by show _=_;unfold lineM;rw[h];simp
  rw[h]
  clear h e10
  go_wp2
  go_ret
  exact⟨by rw[HL.out];rfl,rfl⟩
 ·have HL:Hid (lineM s=n):=by show _=_;unfold lineM;rw[h];simp
  rw[h]
  have hn0:(0:Int)≤(n:Int):=by omega
  clear h e10
  go_wp2
  go_ret
  exact⟨by rw[HL.out];rfl,rfl⟩
end
section
open Go.RowKit
set_option linter.unusedSimpArgs false
def comB (s:ByteArray) (i:Nat):Bool:=hasPreB (s.extract i s.size) ⟨#[59,59]⟩
def skG (s:ByteArray):Nat→Nat→Nat
 | 0,i=>i
 | f+1,i=>if i<s.size∧(bt s i=32∨bt s i=10) then skG s f (i+1) else if i<s.size∧comB s i=true then skG s f (i+lineM (s.extract i s.size)) else i
def skM (s:ByteArray) (i:Nat):Nat:=skG s (s.size - i) i
theorem line_pos {s:ByteArray} {i:Nat} (h:i<s.size) (hb:bt s i≠10):0<lineM (s.extract i s.size)∧i+lineM (s.extract i s.size)≤s.size:=by
 have hsz:(s.extract i s.size).size=s.size - i:=by simp
 have hle:=lineM_le (s.extract i s.size)
 refine⟨?_,by omega⟩
 unfold lineM
 rcases firstIdx_cases (s.extract i s.size) 10 with h1 | ⟨n,h1,hn⟩
 ·rw[h1];simp;omega
 ·rw[h1]
  simp
  rcases n with _ | n
  ·exfalso
   unfold firstIdx at h1
   split at h1
   ·rename_i j hj
    have h2:=List.find?_some hj
    have h3:j=0:=by omega
    subst h3
    simp at h2
    rw[bt_eq h] at hb
    apply hb
    have h4:(s.extract i s.size)[0]! =s[i]:=by
     rw[getElem!_pos (s.extract i s.size) 0 (by omega)]
     simp[ByteArray.getElem_extract]
    rw[h4] at h2
    rw[h2]
    rfl
   ·cases h1
  ·omega
theorem skG_fuel {s:ByteArray}:∀{f g i:Nat},s.size - i≤f→s.size - i≤g→skG s f i=skG s g i
 | 0,0,i,_,_=>rfl
 | 0,g+1,i,h,_=>by
  unfold skG
  rw[if_neg (by omega),if_neg (by omega)]
 | f+1,0,i,_,h=>by
  conv=>lhs;unfold skG
  rw[if_neg (by omega),if_neg (by omega)]
  rfl
 | f+1,g+1,i,h1,h2=>by
  unfold skG
  split
  ·exact skG_fuel (by omega) (by omega)
  ·rename_i hb
   split
   ·rename_i hc
    have:=line_pos hc.1 (fun e=>hb ⟨hc.1,.inr e⟩)
    exact skG_fuel (by omega) (by omega)
   ·rfl
theorem skM_step {s:ByteArray} {k:Nat} (h:k<s.size) (hb:bt s k=32∨bt s k=10):skM s k=skM s (k+1):=by
 unfold skM
 rw[show s.size - k=s.size - (k+1)+1 by omega,skG,if_pos ⟨h,hb⟩]
theorem skM_com {s:ByteArray} {k:Nat} (h:k<s.size) (hb:¬(bt s k=32∨bt s k=10)) (hc:comB s k=true):skM s k=skM s (k+lineM (s.extract k s.size)):=by
 have:=line_pos h (fun e=>hb (.inr e))
 unfold skM
 conv=>lhs;rw[show s.size - k=s.size - (k+1)+1 by omega,skG]
 rw[if_neg (fun c=>hb c.2),if_pos ⟨h,hc⟩]
 exact skG_fuel (by omega) (by omega)
theorem skM_stop {s:ByteArray} {k:Nat} (hb:¬(k<s.size∧(bt s k=32∨bt s k=10))) (hc:¬(k<s.size∧comB s k=true)):skM s k=k:=by
 unfold skM
 cases hf:s.size - k with
 | zero=>rfl
 | succ f=>rw[skG,if_neg hb,if_neg hc]
theorem skG_le {s:ByteArray}:∀{f i:Nat},i≤s.size→i≤skG s f i∧skG s f i≤s.size
 | 0,i,h=>⟨Nat.le_refl _,h⟩
 | f+1,i,h=>by
  unfold skG
  split
  ·rename_i c
   have:=skG_le (s:=s) (f:=f) (i:=i+1) (by omega)
   omega
  ·rename_i hb
   split
   ·rename_i hc
    have h1:=line_pos hc.1 (fun e=>hb ⟨hc.1,.inr e⟩)
    have h2:=skG_le (s:=s) (f:=f) h1.2
    omega
   ·omega
theorem skM_le {s:ByteArray} {i:Nat} (h:i≤s.size):i≤skM s i∧skM s i≤s.size:=skG_le h
set_option maxRecDepth 100000 in
set_option maxHeartbeats 1600000 in
theorem skip_all (s:ByteArray) (i:Nat) (hi:i≤s.size) (hs:s.size≤100000) (w:World):Calls Tryz.prog 82 #[.string s,.int .i64 (i:Nat)] w fun e w'=>e=.returned (.int .i64 (skM s i:Nat))∧w'=w:=by
 go_enter Tryz.func82,Tryz.ntmps82
 go_wp2
 go_loop [1] (fun q=>∃k:Nat,k≤s.size∧q=.int .i64 k∧skM s i=skM s k) (fun q=>s.size - (intOf q).toNat)
 case atStart=>exact⟨i,hi,rfl,rfl⟩
 case round=>
  obtain⟨k,hk,rfl,ha⟩:=hrel
  have HA:=hide ha
  clear ha
  by_cases hlt:k<s.size
  ·have hlt':(k:Int)<(s.size:Int):=by omega
   by_cases h1:bt s k=32
   ·have HE:=hide (HA.out.trans (skM_step hlt (.inl h1)))
    have t1:((s[k].toNat:Int)==32)=true:=by rw[bt_eq hlt] at h1;simp[h1]
    clear h1
    go_wp2
    go_round
    case rel=>exact⟨k+1,by omega,by go_num,HE.out⟩
    case measure=>simp[intOf];omega
   ·have t1:((s[k].toNat:Int)==32)=false:=by rw[bt_eq hlt] at h1;simp;omega
    by_cases h2:bt s k=10
    ·have HE:=hide (HA.out.trans (skM_step hlt (.inr h2)))
     have t2:((s[k].toNat:Int)==10)=true:=by rw[bt_eq hlt] at h2;simp[h2]
     clear h1 h2
     go_wp2
     go_round
     case rel=>exact⟨k+1,by omega,by go_num,HE.out⟩
     case measure=>simp[intOf];omega
    ·have t2:((s[k].toNat:Int)==10)=false:=by rw[bt_eq hlt] at h2;simp;omega
     cases hc:comB s k with
     | false=>
      have HE:=hide (HA.out.trans (skM_stop (fun c=>c.2.elim h1 h2) (fun c=>by rw[hc] at c;cases c.2)))
      have hp:hasPreB (s.extract k s.size) ⟨#[59,59]⟩=false:=hc
      clear h1 h2 hc
      go_wp2_with fail
      refine(strHasPrefix_any _ _ _).mono ?_
      rintro e w1 ⟨rfl,rfl⟩
      rw[hp]
      go_wp2
      go_ret
      exact⟨by rw[HE.out];rfl,rfl⟩
     | true=>
      have HE:=hide (HA.out.trans (skM_com hlt (fun c=>c.elim h1 h2) hc))
      have HP:=hide (line_pos hlt h2)
      have hp:hasPreB (s.extract k s.size) ⟨#[59,59]⟩=true:=hc
      clear h1 h2 hc
      go_wp2_with fail
      refine(strHasPrefix_any _ _ _).mono ?_
      rintro e w1 ⟨rfl,rfl⟩
      rw[hp]
      go_wp2_with fail
      refine(line_any _ _).mono ?_
      rintro e w2 ⟨rfl,rfl⟩
      generalize lineM (s.extract k s.size)=L at HE HP ⊢
      have hp1:=HP.out.1
      have hp2:=HP.out.2
      have hwr:IntKind.i64.wrap ((k:Int)+(L:Int))=((k+L:Nat):Int):=by rw[IntWalk.i64_in _ ⟨by omega,by omega⟩];simp
      go_wp2
      go_round
      case rel=>exact⟨k+L,hp2,rfl,HE.out⟩
      case measure=>simp[intOf];omega
  ·have hlt':¬(k:Int)<(s.size:Int):=by omega
   have HE:=hide (HA.out.trans (skM_stop (fun c=>hlt c.1) (fun c=>hlt c.1)))
   go_wp2
   go_ret
   exact⟨by rw[HE.out];rfl,rfl⟩
end
section
open Go.RowKit
section
variable {P:Program} {ops:Array Oper} {Q:Exit→Act→World→Prop} {md:Region.Mode} {S:World→Prop} {x:Nat}
def wpAnyE (P:Program) (md:Region.Mode) (ops:Array Oper) (Q:Exit→Act→World→Prop) (S:World→Prop) (x:Nat):Nat→Array Bool→Act→World→Prop
 | 0,listed,a,w=>Region.ready md ops listed=[]∧Q .normal a w
 | fuel+1,listed,a,w=>
  (Region.ready md ops listed=[]→Q .normal a w)∧
  ∀i∈Region.ready md ops listed,wpOp P ops Q i (fun a' w'=>(i=x∨S w')∧wpAnyE P md ops Q S x fuel (listed.setIfInBounds i true) a' w') a w
theorem wpAny_of_E:∀(fuel:Nat) (listed:Array Bool) (a:Act) (w:World),wpAnyE P md ops Q S x fuel listed a w→wpAny P md ops Q fuel listed a w
 | 0,_,_,_,h=>h
 | fuel+1,_,_,_,h=>⟨h.1,fun i hi=>wpOp_mono (fun a' w' h'=>wpAny_of_E fuel _ a' w' h'.2) (h.2 i hi)⟩
def chainB (md:Region.Mode) (ops:Array Oper) (listed:Array Bool):List Nat→Bool
 | []=>true
 | [c]=>!listed.getD c true
 | c::d::rest=>!listed.getD c true&&(((ops[c]?).map (·.after.any fun e=>Region.binds md e&&e.on==d)).getD false)&&chainB md ops listed (d::rest)
theorem chain_not {listed:Array Bool} {j i:Nat} (hj:j∈Region.ready md ops listed) (hne:j≠i):∀(cs:List Nat),chainB md ops listed (cs++[i])=true→∀c∈cs++[i],j≠c
 | [],h,c,hc=>by
  simp only[List.nil_append,List.mem_singleton] at hc
  subst hc
  exact hne
 | [d],h,c,hc=>by
  simp only[List.cons_append,List.nil_append,chainB,Bool.and_eq_true] at h
  simp only[List.cons_append,List.nil_append,List.mem_cons,List.not_mem_nil,or_false] at hc
  rcases hc with rfl | rfl
  ·rintro rfl
   obtain⟨-,o,ho,hall⟩:=mem_ready.1 hj
   have h2:=h.1.2
   rw[ho] at h2
   simp only[Option.map_some,Option.getD_some] at h2
   obtain⟨e,he,hb⟩:∃e∈o.after,(Region.binds md e&&e.on==i)=true:=by
    exact Array.any_eq_true'.1 h2
   simp only[Bool.and_eq_true,beq_iff_eq] at hb
   have h3:=hall e he hb.1
   rw[hb.2] at h3
   have h4:=h.2
   simp only[Bool.not_eq_true'] at h4
   rcases Nat.lt_or_ge i listed.size with h' | h'
   ·simp[h'] at h3 h4;rw[h4] at h3;cases h3
   ·simp[Array.getElem?_eq_none h'] at h3
  ·exact hne
 | d::d2::rest,h,c,hc=>by
  have h1:chainB md ops listed ((d2::rest)++[i])=true:=by
   simp only[List.cons_append,chainB,Bool.and_eq_true] at h ⊢
   exact h.2
  rw[List.cons_append,List.mem_cons] at hc
  rcases hc with rfl | hc
  ·rintro rfl
   obtain⟨-,o,ho,hall⟩:=mem_ready.1 hj
   simp only[List.cons_append,chainB,Bool.and_eq_true] at h
   have h2:=h.1.2
   rw[ho] at h2
   simp only[Option.map_some,Option.getD_some] at h2
   obtain⟨e,he,hb⟩:∃e∈o.after,(Region.binds md e&&e.on==d2)=true:=by
    exact Array.any_eq_true'.1 h2
   simp only[Bool.and_eq_true,beq_iff_eq] at hb
   have h3:=hall e he hb.1
   rw[hb.2] at h3
   have h4:listed.getD d2 true=false:=by
    cases rest with
    | nil=>simp only[List.nil_append,chainB,Bool.and_eq_true,Bool.not_eq_true'] at h;exact h.2.1.1
    | cons r rs=>simp only[List.cons_append,chainB,Bool.and_eq_true,Bool.not_eq_true'] at h;exact h.2.1.1
   rcases Nat.lt_or_ge d2 listed.size with h' | h'
   ·simp[h'] at h3 h4;rw[h4] at h3;cases h3
   ·simp[Array.getElem?_eq_none h'] at h3
  ·exact chain_not hj hne (d2::rest) h1 c hc
theorem chain_set {listed:Array Bool} {j:Nat}:∀(cs:List Nat),(∀c∈cs,j≠c)→chainB md ops listed cs=true→chainB md ops (listed.setIfInBounds j true) cs=true
 | [],_,_=>rfl
 | [c],hn,h=>by
  simp only[chainB] at h ⊢
  rw[getD_set_ne true (hn c (by simp))]
  exact h
 | c::d::rest,hn,h=>by
  simp only[chainB,Bool.and_eq_true] at h ⊢
  refine⟨⟨?_,h.1.2⟩,chain_set (d::rest) (fun c' hc=>hn c' (by simp only[List.mem_cons] at hc ⊢;exact .inr hc)) h.2⟩
  rw[getD_set_ne true (hn c (by simp))]
  exact h.1.1
theorem wpAnyE_first {i:Nat} {oi:Oper} {v:Value} {cs:List Nat} (hi:ops[i]?=some oi) (hsel:∀(j:Nat) (o:Oper) cs b,ops[j]?=some o→o.op≠.select cs b)
  (hQ:∀c a w,Q (.panic c) (a.put oi.dst v) w→Q (.panic c) a w):
  ∀(fuel:Nat) (listed:Array Bool) (a:Act) (w:World),
   (∀j oj,ops[j]?=some oj→j≠i→listed.getD j true=false→(∀e∈oj.after,Region.binds md e=true→e.on≠i)→oi.apart ops oj=true)→
   i∈Region.ready md ops listed→chainB md ops listed (x::cs++[i])=true→YieldsIf P ops S oi v a→S w→
   wpAnyE P md ops Q S x fuel (listed.setIfInBounds i true) (a.put oi.dst v) w→wpAnyE P md ops Q S x (fuel+1) listed a w:=by
 intro fuel
 induction fuel with
 | zero=>
  intro listed a w _ hr _ hy hS H
  refine⟨fun h=>(by rw[h] at hr;cases hr),fun j hj=>?_⟩
  by_cases hji:j=i
  ·subst hji;exact hy.wpOp hi hS ⟨.inr hS,H⟩
  ·have:=ready_mono hj hji
   rw[H.1] at this
   cases this
 | succ fuel ih=>
  intro listed a w hfree hr hch hy hS H
  refine⟨fun h=>(by rw[h] at hr;cases hr),fun j hj=>?_⟩
  by_cases hji:j=i
  ·subst hji;exact hy.wpOp hi hS ⟨.inr hS,H⟩
  ·have h1:=H.2 j (ready_mono hj hji)
   have hnc:=chain_not hj hji (x::cs) hch
   have hjx:j≠x:=hnc x (by simp)
   obtain⟨hjun,oj,hoj,hall⟩:=mem_ready.1 hj
   have hnot:∀e∈oj.after,Region.binds md e=true→e.on≠i:=fun e he hb heq=>by
    have h1:=hall e he hb
    have h0:=(mem_ready.1 hr).1
    rw[heq] at h1
    rcases Nat.lt_or_ge i listed.size with h' | h'
    ·simp[h'] at h0 h1;rw[h0] at h1;cases h1
    ·simp[Array.getElem?_eq_none h'] at h1
   have h2:=wpOp_putIf hoj (hfree j oj hoj hji hjun hnot) (fun cs b=>hsel i oi cs b hi) (fun cs b=>hsel j oj cs b hoj) hQ hy h1
   have hfree':∀k ok,ops[k]?=some ok→k≠i→(listed.setIfInBounds j true).getD k true=false→
     (∀e∈ok.after,Region.binds md e=true→e.on≠i)→oi.apart ops ok=true:=fun k ok hk hki hun hno=>by
    refine hfree k ok hk hki ?_ hno
    by_cases hjk:j=k
    ·subst hjk;exact hjun
    ·rw[getD_set_ne true hjk] at hun;exact hun
   refine wpOp_mono (fun a' w' h3=>⟨h3.2.1,ih (listed.setIfInBounds j true) a' w' hfree' (ready_mono hr (Ne.symm hji)) (chain_set _ hnc hch) h3.1 (h3.2.1.resolve_left hjx) ?_⟩) h2
   rw[Array.setIfInBounds_comm _ _ hji]
   exact h3.2.2
theorem wpAnyE_take {i:Nat} {oi:Oper} {v:Value} {fuel:Nat} {listed:Array Bool} {a:Act} {w:World} (cs:List Nat) (hi:ops[i]?=some oi)
  (hs:Region.noSelect ops=true) (hf:Region.free md ops listed i=true) (hr:(Region.ready md ops listed).contains i=true) (hc:chainB md ops listed (x::cs++[i])=true)
  (hQ:∀c a w,Q (.panic c) (a.put oi.dst v) w→Q (.panic c) a w) (hy:YieldsIf P ops S oi v a) (hS:S w)
  (h:wpAnyE P md ops Q S x fuel (listed.setIfInBounds i true) (a.put oi.dst v) w):wpAnyE P md ops Q S x (fuel+1) listed a w:=
 wpAnyE_first hi (Region.noSelect_spec hs) hQ fuel listed a w (Region.free_spec hi hf) (by simpa using hr) hc hy hS h
theorem wpAnyE_takeL {l:List Oper} {i:Nat} {oi:Oper} {v:Value} {fuel:Nat} {listed:Array Bool} {a:Act} {w:World} (cs:List Nat) (hi:l[i]?=some oi)
  (hs:Region.noSelect l.toArray=true) (hf:Region.free md l.toArray listed i=true) (hr:(Region.ready md l.toArray listed).contains i=true) (hc:chainB md l.toArray listed (x::cs++[i])=true)
  (hQ:∀c a w,Q (.panic c) (a.put oi.dst v) w→Q (.panic c) a w) (hy:YieldsIf P l.toArray S oi v a) (hS:S w)
  (h:wpAnyE P md l.toArray Q S x fuel (listed.setIfInBounds i true) (a.put oi.dst v) w):wpAnyE P md l.toArray Q S x (fuel+1) listed a w:=
 wpAnyE_take cs (by simpa using hi) hs hf hr hc hQ hy hS h
theorem wpOp_stepL {l:List Oper} {i:Nat} {o:Oper} {K:Act→World→Prop} {a:Act} {w:World} (ho:l[i]?=some o)
  (h:∀K':Act→World→Prop,(∀a w,K a w→K' a w)→if Region.wanted o (yielded l.toArray a.tmps)=true then Oper.wp P o a w K' Q else K' (a.put o.dst undef) w):wpOp P l.toArray Q i K a w:=
 wpOp_step (by simpa using ho) h
theorem wpAnyE_one {i:Nat} {fuel:Nat} {listed:Array Bool} {a:Act} {w:World} (hr:Region.ready md ops listed=[i])
  (h:wpOp P ops Q i (fun a' w'=>(i=x∨S w')∧wpAnyE P md ops Q S x fuel (listed.setIfInBounds i true) a' w') a w):wpAnyE P md ops Q S x (fuel+1) listed a w:=
 ⟨fun h0=>(by rw[hr] at h0;cases h0),fun j hj=>(by rw[hr,List.mem_singleton] at hj;subst hj;exact h)⟩
theorem wpAnyE_done {listed:Array Bool} {a:Act} {w:World} (hr:Region.ready md ops listed=[]) (h:Q .normal a w):
  ∀fuel,wpAnyE P md ops Q S x fuel listed a w
 | 0=>⟨hr,h⟩
 | _+1=>⟨fun _=>h,by rw[hr];simp⟩
theorem wp_region_E {id:Nat} {a:Act} {w:World} (S:World→Prop) (x:Nat) (hm:P.follows .mixedOrders=true)
  (h:wpAnyE P .any ops Q S x ops.size (Array.replicate ops.size false) a w.drew):(Code.region id ops true).wp P Q a w:=
 wp_region_any hm (wpAny_of_E _ _ _ _ h)
end
end
section
open Go.RowKit
def lst (l:List Oper) (k:Nat):Array Bool:=(List.replicate k true++List.replicate (l.length - k) false).toArray
theorem lst_set (l:List Oper) (k:Nat) (h:k<l.length):(lst l k).setIfInBounds k true=lst l (k+1):=by
 unfold lst
 rw[List.setIfInBounds_toArray]
 congr 1
 obtain⟨n,hn⟩:∃n,l.length - k=n+1:=⟨l.length - k - 1,by omega⟩
 rw[hn,List.replicate_succ,List.set_append_right _ _ (by simp),show l.length - (k+1)=n by omega]
 simp[List.replicate_succ']
def fc (md:Region.Mode) (ops:Array Oper) (i:Nat):Nat→Nat→Option (List Nat)
 | 0,_=>none
 | f+1,c=>match ops[c]? with
  | none=>none
  | some o=>
   let ds:=(o.after.toList.filter (Region.binds md)).map (·.on)
   if ds.contains i then some [] else ds.findSome? fun d=>(fc md ops i f d).map (d:: ·)
section
variable {P:Program} {md:Region.Mode} {Q:Exit→Act→World→Prop} {S:World→Prop} {x k:Nat} {l:List Oper}
def wpAnyK (P:Program) (md:Region.Mode) (l:List Oper) (Q:Exit→Act→World→Prop) (S:World→Prop) (x fuel k:Nat) (a:Act) (w:World):Prop:=wpAnyE P md l.toArray Q S x fuel (lst l k) a w
theorem regK {id:Nat} {a:Act} {w:World} (S:World→Prop) (x:Nat) (h:wpAnyK P .any l Q S x l.length 0 a w.drew) (hm:P.follows .mixedOrders=true:=by kernel_rfl):(Code.region id l.toArray true).wp P Q a w:=by
 refine wp_region_E S x hm ?_
 unfold wpAnyK lst at h
 simpa using h
theorem tkk {oi:Oper} {v:Value} {fuel:Nat} {a a':Act} {w:World} (hS:S w)
  (hi:l[k]?=some oi:=by rfl) (hs:Region.noSelect l.toArray=true:=by kernel_rfl) (hf:Region.free md l.toArray (lst l k) k=true:=by kernel_rfl) (hr:(Region.ready md l.toArray (lst l k)).contains k=true:=by kernel_rfl) (hc:chainB md l.toArray (lst l k) (x::(fc md l.toArray k l.length x).getD []++[k])=true:=by kernel_rfl)
  (hQ:∀c a w,Q (.panic c) (a.put oi.dst v) w→Q (.panic c) a w:=by exact fun _ _ _ h=>h) (hy:YieldsIf P l.toArray S oi v a:=by(refine Or.inl ⟨by rfl,?_⟩;intro _ _;go_simp;try with_reducible rfl))
  (ha:a.put oi.dst v=a':=by(dsimp only[Act.put,List.setIfInBounds_toArray,List.set_cons_zero,List.set_cons_succ]))
  (h:wpAnyK P md l Q S x fuel (k+1) a' w):wpAnyK P md l Q S x (fuel+1) k a w:=by
 refine wpAnyE_takeL _ hi hs hf hr hc hQ hy hS ?_
 rw[lst_set _ _ (List.getElem?_eq_some_iff.1 hi).1,ha]
 exact h
theorem oneK {o:Oper} {fuel:Nat} {a:Act} {w:World} (h:∀K':Act→World→Prop,(∀a w,(k=x∨S w)→wpAnyK P md l Q S x fuel (k+1) a w→K' a w)→if Region.wanted o (yielded l.toArray a.tmps)=true then Oper.wp P o a w K' Q else K' (a.put o.dst undef) w)
  (ho:l[k]?=some o:=by rfl) (hr:Region.ready md l.toArray (lst l k)=[k]:=by kernel_rfl):wpAnyK P md l Q S x (fuel+1) k a w:=by
 refine wpAnyE_one hr (wpOp_stepL ho (fun K hK=>h K (fun a' w' h1 h2=>hK _ _ ⟨h1,?_⟩)))
 rw[lst_set _ _ (List.getElem?_eq_some_iff.1 ho).1]
 exact h2
theorem doneK {a:Act} {w:World} {fuel:Nat} (h:Q .normal a w) (hr:Region.ready md l.toArray (lst l k)=[]:=by kernel_rfl):wpAnyK P md l Q S x fuel k a w:=wpAnyE_done hr h _
theorem lastK {o:Oper} {fuel:Nat} {a:Act} {w:World} (h:∀K':Act→World→Prop,(∀a w,Q .normal a w→K' a w)→if Region.wanted o (yielded l.toArray a.tmps)=true then Oper.wp P o a w K' Q else K' (a.put o.dst undef) w)
  (ho:l[x]?=some o:=by rfl) (hr:Region.ready md l.toArray (lst l x)=[x]:=by kernel_rfl) (hd:Region.ready md l.toArray (lst l (x+1))=[]:=by kernel_rfl):wpAnyK P md l Q S x (fuel+1) x a w:=
 oneK (fun K hK=>h K (fun a w hq=>hK a w (.inl rfl) (doneK hq hd))) ho hr
end
end
section
open Go.RowKit
section
variable {P:Program} {md:Region.Mode} {Q:Exit→Act→World→Prop} {S:World→Prop} {x:Nat}
theorem tk {l:List Oper} {oi:Oper} {v:Value} {fuel:Nat} {listed:Array Bool} {a a':Act} {w:World} (i:Nat) (cs:List Nat) (hS:S w)
  (hi:l[i]?=some oi:=by rfl) (hs:Region.noSelect l.toArray=true:=by kernel_rfl) (hf:Region.free md l.toArray listed i=true:=by kernel_rfl) (hr:(Region.ready md l.toArray listed).contains i=true:=by kernel_rfl) (hc:chainB md l.toArray listed (x::cs++[i])=true:=by kernel_rfl)
  (hQ:∀c a w,Q (.panic c) (a.put oi.dst v) w→Q (.panic c) a w:=by exact fun _ _ _ h=>h) (hy:YieldsIf P l.toArray S oi v a:=by(refine Or.inl ⟨by rfl,?_⟩;intro _ _;go_simp;try with_reducible rfl))
  (ha:a.put oi.dst v=a':=by(dsimp only[Act.put,List.setIfInBounds_toArray,List.set_cons_zero,List.set_cons_succ]))
  (h:wpAnyE P md l.toArray Q S x fuel (listed.setIfInBounds i true) a' w):wpAnyE P md l.toArray Q S x (fuel+1) listed a w:=
 wpAnyE_takeL cs hi hs hf hr hc hQ hy hS (ha▸h)
end
end
section
open Go.RowKit
structure Sto (w0 w:World) (l:List (Nat×List Value)):Prop where
 kept:Kept (fun _=>False) w0 w
 blk:∀p∈l,(w0.heap.size≤p.1∧p.1<w.heap.size)∧Blk w p.1 p.2
 nd:(l.map (·.1)).Nodup
section
variable {w0 w w':World} {l:List (Nat×List Value)} {g:Nat} {cs:List Value} {p p2:Nat×List Value}
theorem Sto.start (w:World):Sto w w []:=⟨Kept.refl _ _,by simp,by simp⟩
theorem Sto.c (h:Sto w0 w l) (k j:Nat) {v:Value} (hk:l[k]?=some (g,cs):=by rfl) (hj:cs[j]?=some v:=by rfl):w.cell? ⟨g,j,none⟩=some v∧w.frozen? ⟨g,j,none⟩=false:=by
 have h1:=(h.blk _ (List.mem_of_getElem? hk)).2 j (List.getElem?_eq_some_iff.1 hj).1
 simp only[List.getD_eq_getElem?_getD,hj,Option.getD_some] at h1
 exact h1
theorem Sto.lt (h:Sto w0 w l) (k:Nat) (hk:l[k]?=some (g,cs):=by rfl):g<w.heap.size:=(h.blk _ (List.mem_of_getElem? hk)).1.2
theorem Sto.ge (h:Sto w0 w l) (k:Nat) (hk:l[k]?=some (g,cs)):w0.heap.size≤g:=(h.blk _ (List.mem_of_getElem? hk)).1.1
theorem Sto.ne {g':Nat} {cs':List Value} (h:Sto w0 w l) (a b:Nat) (ha:l[a]?=some (g,cs)) (hb:l[b]?=some (g',cs')) (hab:a≠b):¬g=g':=by
 intro e
 have h1:(l.map (·.1))[a]?=(l.map (·.1))[b]?:=by simp[ha,hb,e]
 exact hab ((List.getElem?_inj (by simpa using (List.getElem?_eq_some_iff.1 ha).1) h.nd).1 h1)
theorem Sto.to (h:Sto w0 w l) (hk:Kept (fun _=>False) w w'):Sto w0 w' l:=
 ⟨h.kept.trans hk,fun p hp=>⟨⟨(h.blk p hp).1.1,Nat.lt_of_lt_of_le (h.blk p hp).1.2 hk.size⟩,(h.blk p hp).2.kept hk (h.blk p hp).1.2 (fun c=>c)⟩,h.nd⟩
theorem Sto.alloc (h:Sto w0 w l) (o:Obj):Sto w0 (w.alloc o) l:=h.to ((Kept.refl _ _).alloc o)
theorem Sto.set (h:Sto w0 w l) (k j:Nat) (v:Value) (hk:l[k]?=some (g,cs):=by rfl):Sto w0 (w.setCell ⟨g,j,none⟩ v) (l.set k (g,cs.set j v)):=by
 obtain⟨hkl,hk'⟩:=List.getElem?_eq_some_iff.1 hk
 refine⟨h.kept.setCell (p:=⟨g,j,none⟩) (fun c=>absurd (h.ge k hk) (by simp at c;omega)) _,fun p hp=>?_,?_⟩
 ·obtain⟨n,hn⟩:=List.mem_iff_getElem?.1 hp
  rw[List.getElem?_set] at hn
  split at hn
  ·rename_i e
   subst e
   cases hn
   have h1:=h.blk _ (List.mem_of_getElem? hk)
   exact⟨by simpa using h1.1,h1.2.set j v⟩
  ·rename_i e
   have h1:=h.blk p (List.mem_of_getElem? hn)
   exact⟨by simpa using h1.1,h1.2.set_other (h.ne k n hk hn e) v⟩
 ·have e:(l.set k (g,cs.set j v)).map (·.1)=l.map (·.1):=by
   have e1:(l.map (·.1))[k]'(by simpa using hkl)=g:=by simp[hk']
   rw[List.map_set]
   simp only[←e1]
   exact List.set_getElem_self _
  rw[e]
  exact h.nd
theorem Sto.add (h:Sto w0 w l) (hk:Kept (fun _=>False) w w') (hg:w.heap.size≤g) (hl:g<w'.heap.size) (hb:Blk w' g cs):Sto w0 w' (l++[(g,cs)]):=by
 have h1:=h.to hk
 refine⟨h1.kept,fun p hp=>?_,?_⟩
 ·rcases List.mem_append.1 hp with hp | hp
  ·exact h1.blk p hp
  ·cases List.mem_singleton.1 hp
   exact⟨⟨Nat.le_trans h.kept.size hg,hl⟩,hb⟩
 ·rw[List.map_append,List.nodup_append]
  refine⟨h.nd,by simp,fun a ha b hb e=>?_⟩
  simp only[List.map_cons,List.map_nil,List.mem_singleton] at hb
  obtain⟨p,hp,rfl⟩:=List.mem_map.1 ha
  have:=(h.blk p hp).1.2
  omega
theorem Sto.new (h:Sto w0 w l) (c:Array Value) (t:TypeId):Sto w0 (w.alloc (.cells c t)) (l++[(w.heap.size,c.toList)]):=
 h.add ((Kept.refl _ _).alloc _) (Nat.le_refl _) (by simp) (Blk.new w c t)
theorem Sto.sub (h:Sto w0 w l) {l':List (Nat×List Value)} (hs:List.Sublist l' l):Sto w0 w l':=
 ⟨h.kept,fun p hp=>h.blk p (hs.mem hp),h.nd.sublist (hs.map _)⟩
variable {P:Program} {o:Oper} {a:Act} {W:World} {s x:Operand} {t E:TypeId} {z:Value} {size bytes:Nat} {news:List Value}
theorem Sto.rm (h:Sto w0 w l) (k:Nat):Sto w0 w (l.eraseIdx k):=h.sub (List.eraseIdx_sublist _ _)
end
end
section
open Go.RowKit
def wordGo (s:ByteArray):Nat→Nat→Nat
 | 0,i=>i
 | f+1,i=>if i<s.size∧inWordB (bt s i)=true then wordGo s f (i+1) else i
def wordEnd (s:ByteArray) (i:Nat):Nat:=wordGo s (s.size - i) i
theorem wordEnd_step {s:ByteArray} {k:Nat} (h:k<s.size) (hb:inWordB (bt s k)=true):wordEnd s k=wordEnd s (k+1):=by
 unfold wordEnd
 rw[show s.size - k=s.size - (k+1)+1 by omega,wordGo,if_pos ⟨h,hb⟩]
theorem wordEnd_stop {s:ByteArray} {k:Nat} (hb:¬(k<s.size∧inWordB (bt s k)=true)):wordEnd s k=k:=by
 unfold wordEnd
 cases hf:s.size - k with
 | zero=>rfl
 | succ f=>rw[wordGo,if_neg hb]
theorem wordGo_le (s:ByteArray):∀f i,i≤s.size→i≤wordGo s f i∧wordGo s f i≤s.size
 | 0,i,h=>⟨Nat.le_refl _,h⟩
 | f+1,i,h=>by
  rw[wordGo]
  split
  ·rename_i c
   have:=wordGo_le s f (i+1) c.1
   omega
  ·omega
theorem wordEnd_le {s:ByteArray} {i:Nat} (h:i≤s.size):i≤wordEnd s i∧wordEnd s i≤s.size:=wordGo_le s _ _ h
def nextM (s:ByteArray) (i:Nat):Tok×Nat:=
 let a:=skM s i
 if a=s.size then((1,a,⟨#[]⟩),a)
 else if bt s a=40 then((2,a,⟨#[]⟩),a+1)
 else if bt s a=41 then((3,a,⟨#[]⟩),a+1)
 else if bt s a=34 then(quoT s a,(quoM s a).2)
 else if inWordB (bt s a)=true then((5,a,s.extract a (wordEnd s a)),wordEnd s a)
 else((0,a,⟨#[]⟩),a)
structure TameT (s:ByteArray):Prop where
 size:s.size≤100000
 back:∀k,bt s k≠92
 quo:∀k,bt s k=34→bt s (k+1)≠34
set_option maxRecDepth 100000 in
set_option maxHeartbeats 3200000 in
theorem next_any (s:ByteArray) (i:Nat) (hi:i≤s.size) (ht:TameT s) (w:World):
  Calls Tryz.prog 72 #[.string s,.int .i64 (i:Nat)] w fun e w'=>e=.returned (.tuple #[tokV (nextM s i).1,.int .i64 ((nextM s i).2:Nat)])∧Kept (fun _=>False) w w':=by
 have hs:=ht.size
 have HT:=hide ht
 clear ht
 obtain⟨r,hr⟩:∃r,nextM s i=r:=⟨_,rfl⟩
 rw[hr]
 unfold nextM at hr
 simp only at hr
 go_enter Tryz.func72,Tryz.ntmps72
 go_wp2_with fail
 refine(skip_all s i hi hs _).mono ?_
 rintro e w1 ⟨rfl,rfl⟩
 obtain⟨ha1,ha2⟩:=skM_le hi
 generalize skM s i=a at*
 have hwa:IntKind.i64.wrap ((a:Int)+1)=(a:Int)+1:=IntWalk.i64_in _ ⟨by omega,by omega⟩
 by_cases h0:a=s.size
 ·have t0:((a:Int)==(s.size:Int))=true:=by simp[h0]
  rw[if_pos h0] at hr
  have HR:=hide hr
  clear hr h0
  go_wp2
  refine bodyPost_ret (v:=.tuple #[.agg #[.int .u8 1,.int .i64 (a:Nat),.string ⟨#[]⟩],.int .i64 (a:Nat)]) ?_ rfl ?_
  ·simp[results,Tryz.results72,go_sem]
  ·exact⟨by rw[←HR.out];rfl,((Kept.refl _ _).alloc _).alloc _⟩
 rw[if_neg h0] at hr
 have t0:((a:Int)==(s.size:Int))=false:=by simp;omega
 have hlt:a<s.size:=by omega
 have hlt':(a:Int)<(s.size:Int):=by omega
 clear h0
 have hb:=bt_eq hlt
 by_cases h1:bt s a=40
 ·have t1:((s[a].toNat:Int)==40)=true:=by rw[←hb,h1];rfl
  rw[if_pos h1] at hr
  have HR:=hide hr
  clear hr h1 hb
  go_wp2
  refine bodyPost_ret (v:=.tuple #[.agg #[.int .u8 2,.int .i64 (a:Nat),.string ⟨#[]⟩],.int .i64 ((a:Nat)+1)]) ?_ rfl ?_
  ·simp[results,Tryz.results72,go_sem]
  ·exact⟨by rw[←HR.out];rfl,((Kept.refl _ _).alloc _).alloc _⟩
 rw[if_neg h1] at hr
 have t1:((s[a].toNat:Int)==40)=false:=by rw[←hb];simp;omega
 clear h1
 by_cases h1:bt s a=41
 ·have t2:((s[a].toNat:Int)==41)=true:=by rw[←hb,h1];rfl
  rw[if_pos h1] at hr
  have HR:=hide hr
  clear hr h1 hb
  go_wp2
  refine bodyPost_ret (v:=.tuple #[.agg #[.int .u8 3,.int .i64 (a:Nat),.string ⟨#[]⟩],.int .i64 ((a:Nat)+1)]) ?_ rfl ?_
  ·simp[results,Tryz.results72,go_sem]
  ·exact⟨by rw[←HR.out];rfl,((Kept.refl _ _).alloc _).alloc _⟩
 rw[if_neg h1] at hr
 have t2:((s[a].toNat:Int)==41)=false:=by rw[←hb];simp;omega
 clear h1
 by_cases h1:bt s a=34
 ·have t3:((s[a].toNat:Int)==34)=true:=by rw[←hb,h1];rfl
  rw[if_pos h1] at hr
  have HR:=hide hr
  have HQ:=hide (HT.out.quo a h1)
  clear hr h1 hb
  go_wp2_with fail
  refine(quoted_any s a hlt hs HT.out.back HQ.out _).mono ?_
  rintro e w2 ⟨rfl,hk2⟩
  have h2:=((((Sto.start w).new #[.int .u8 0,.int .i64 0,.string ⟨#[]⟩] 144).new #[.int .u8 0,.int .i64 (a:Nat),.string ⟨#[]⟩] 144).to hk2)
  obtain⟨c0,f0⟩:=h2.c 0 0
  obtain⟨c1,f1⟩:=h2.c 0 1
  obtain⟨c2,f2⟩:=h2.c 0 2
  have hz:=h2.lt 0
  obtain⟨⟨x,y,z⟩,hq⟩:∃q,quoT s a=q:=⟨_,rfl⟩
  have h3:=((h2.set 0 0 (.int .u8 (x:Nat))).set 0 1 (.int .i64 (y:Nat))).set 0 2 (.string z)
  obtain⟨v0,-⟩:=h3.c 0 0
  obtain⟨v1,-⟩:=h3.c 0 1
  obtain⟨v2,-⟩:=h3.c 0 2
  have HK:=hide h3.kept
  rw[hq] at HR ⊢
  unfold tokV
  simp only
  clear h2 h3 hq hk2
  go_wp2
  refine bodyPost_ret (v:=.tuple #[.agg #[.int .u8 (x:Nat),.int .i64 (y:Nat),.string z],.int .i64 ((quoM s a).2:Nat)]) ?_ rfl ?_
  ·simp[results,Tryz.results72,go_sem,v0,v1,v2]
  ·exact⟨by rw[←HR.out];rfl,HK.out⟩
 rw[if_neg h1] at hr
 have t3:((s[a].toNat:Int)==34)=false:=by rw[←hb];simp;omega
 clear h1
 cases hw:inWordB (bt s a) with
 | false=>
  rw[if_neg (by rw[hw];decide)] at hr
  have HR:=hide hr
  rw[hb] at hw
  clear hr hb
  go_wp2_with fail
  refine(inWord_any _ _).mono ?_
  rintro e w2 ⟨rfl,rfl⟩
  rw[hw]
  go_wp2
  refine bodyPost_ret (v:=.tuple #[.agg #[.int .u8 0,.int .i64 (a:Nat),.string ⟨#[]⟩],.int .i64 (a:Nat)]) ?_ rfl ?_
  ·simp[results,Tryz.results72,go_sem]
  ·exact⟨by rw[←HR.out];rfl,((Kept.refl _ _).alloc _).alloc _⟩
 | true=>
  rw[if_pos hw] at hr
  have HR:=hide hr
  rw[hb] at hw
  clear hr hb
  go_wp2_with fail
  refine(inWord_any _ _).mono ?_
  rintro e w2 ⟨rfl,rfl⟩
  rw[hw]
  go_wp2
  clear hw
  go_loop [6] (fun q=>∃k:Nat,a≤k∧k≤s.size∧q=.int .i64 (k:Nat)∧wordEnd s a=wordEnd s k) (fun q=>s.size - (intOf q).toNat)
  case atStart=>exact⟨a,Nat.le_refl _,ha2,rfl,rfl⟩
  case round=>
   obtain⟨k,hak,hk,rfl,hme⟩:=hrel
   have HE:=hide hme
   have hwk:IntKind.i64.wrap ((k:Int)+1)=(k:Int)+1:=IntWalk.i64_in _ ⟨by omega,by omega⟩
   clear hme
   by_cases hkl:k<s.size
   ·have hkl':(k:Int)<(s.size:Int):=by omega
    cases hx:inWordB (bt s k) with
    | true=>
     have HE2:=hide (HE.out.trans (wordEnd_step hkl hx))
     rw[bt_eq hkl] at hx
     go_wp2_with fail
     refine(inWord_any _ _).mono ?_
     rintro e w2 ⟨rfl,rfl⟩
     rw[hx]
     go_wp2
     go_round
     case rel=>exact⟨k+1,by omega,by omega,by go_num,HE2.out⟩
     case measure=>simp[intOf];omega
    | false=>
     have HE2:=hide (HE.out.trans (wordEnd_stop (k:=k) (fun c=>by rw[hx] at c;exact absurd c.2 (by decide))))
     rw[bt_eq hkl] at hx
     go_wp2_with fail
     refine(inWord_any _ _).mono ?_
     rintro e w2 ⟨rfl,rfl⟩
     rw[hx]
     have q1:(0:Int)≤(a:Int):=by omega
     have q2:(a:Int)≤(k:Int):=by omega
     have q3:(k:Int)≤(s.size:Int):=by omega
     go_wp2_with fail
     go_region
     go_wp2
     refine bodyPost_ret (v:=.tuple #[.agg #[.int .u8 5,.int .i64 (a:Nat),.string (s.extract a k)],.int .i64 (k:Nat)]) ?_ rfl ?_
     ·simp[results,Tryz.results72,go_sem]
     ·exact⟨by rw[←HR.out,HE2.out];rfl,(((Kept.refl _ _).alloc _).alloc _).drew⟩
   ·have hkl':¬(k:Int)<(s.size:Int):=by omega
    have HE2:=hide (HE.out.trans (wordEnd_stop (k:=k) (fun c=>hkl c.1)))
    have q1:(0:Int)≤(a:Int):=by omega
    have q2:(a:Int)≤(k:Int):=by omega
    have q3:(k:Int)≤(s.size:Int):=by omega
    go_wp2_with fail
    go_region
    go_wp2
    refine bodyPost_ret (v:=.tuple #[.agg #[.int .u8 5,.int .i64 (a:Nat),.string (s.extract a k)],.int .i64 (k:Nat)]) ?_ rfl ?_
    ·simp[results,Tryz.results72,go_sem]
    ·exact⟨by rw[←HR.out,HE2.out];rfl,(((Kept.refl _ _).alloc _).alloc _).drew⟩
end
section
open Go.RowKit
structure Blo where
 word:Nat
 takes:List Nat
 gives:List Nat
 floor:Nat
 cut:Bool
structure Bd where
 stack:List Nat
 blocks:List Blo
 at_:Nat
def usualM (x:Nat):Int:=if x=44∨x=45∨x=58 then 0 else if x=41∨x=55 then 3 else 2
end
end Go.Proofs.YtkmofapihggjgaaGreatDoor
