import Derived.Test.YtkmofapihggjgaaGreatDoorX32
import Derived.Test.YtkmofapihggjgaaGreatDoorX35
namespace Go.Proofs.YtkmofapihggjgaaGreatDoor
section
open Go.RowKit
set_option linter.unusedSimpArgs false
def gapI (bs:List Int) (i:Nat):Nat:=if i<bs.length then(pickZ (bs.getD i 0)).toNat else 0
def pcA (ss:List ByteArray) (k:Nat):Pcs:=(List.range k).map fun i=>(plainM (ss.getD i ByteArray.empty),0)
def pcB (ss:List ByteArray) (bs:List Int) (k:Nat):Pcs:=(List.range k).map fun i=>(plainM (ss.getD i ByteArray.empty),gapI bs i)
theorem pcA_succ (ss:List ByteArray) (k:Nat):pcA ss (k+1)=pcA ss k++[(plainM (ss.getD k ByteArray.empty),0)]:=by
 unfold pcA;rw[List.range_succ];simp
theorem pcB_succ (ss:List ByteArray) (bs:List Int) (k:Nat):pcB ss bs (k+1)=pcB ss bs k++[(plainM (ss.getD k ByteArray.empty),gapI bs k)]:=by
 unfold pcB;rw[List.range_succ];simp
theorem pcA_len (ss:List ByteArray) (k:Nat):(pcA ss k).length=k:=by unfold pcA;simp
theorem pcB_len (ss:List ByteArray) (bs:List Int) (k:Nat):(pcB ss bs k).length=k:=by unfold pcB;simp
theorem pcA_ok (ss:List ByteArray) (k:Nat):∀x∈pcA ss k,Wd x.1:=by
 intro x hx
 unfold pcA at hx
 obtain⟨i,_,rfl⟩:=List.mem_map.1 hx
 exact plain_ok _
theorem pcB_ok (ss:List ByteArray) (bs:List Int) (k:Nat):∀x∈pcB ss bs k,Wd x.1:=by
 intro x hx
 unfold pcB at hx
 obtain⟨i,_,rfl⟩:=List.mem_map.1 hx
 exact plain_ok _
theorem pc_same (ss:List ByteArray) (bs:List Int) (k:Nat):(pcA ss k).map (·.1)=(pcB ss bs k).map (·.1):=by
 unfold pcA pcB
 simp
def plD (l:Pcs):List Nat:=(plcP 0 l).dropLast
theorem plD_app (l:Pcs) (x:ByteArray×Nat):plD (l++[x])=plD l++[(flatP l).length]:=by
 unfold plD
 rw[plcP_app]
 simp[plcP]
theorem plD_end (l:Pcs):plcP 0 l=plD l++[(flatP l).length]:=by
 have:=plcP_app l [] 0
 rw[List.append_nil] at this
 rw[this]
 simp[plcP,plD]
theorem plD_len (l:Pcs):(plD l).length=l.length:=by
 unfold plD
 simp[plcP_len]
def intC (l:List Nat):List Value:=l.map fun(k:Nat)=>Value.int .i64 (k:Int)
theorem intC_app (a b:List Nat):intC (a++b)=intC a++intC b:=by unfold intC;simp
structure TR (w wr:World) (va vb:Value) (la lb:List Nat):Prop where
 kept:Kept (fun _=>False) w wr
 ra:Row (fun g=>w.heap.size≤g) wr 3 1 va la.length (intC la)
 rb:Row (fun g=>w.heap.size≤g) wr 3 1 vb lb.length (intC lb)
 ne:∀g,va.ownBlock=some g→vb.ownBlock≠some g
section
variable {w wr w3:World} {va vb:Value} {la lb:List Nat}
theorem TR.swap (h:TR w wr va vb la lb):TR w wr vb va lb la:=⟨h.kept,h.rb,h.ra,fun g h1 h2=>h.ne g h2 h1⟩
theorem TR.to (h:TR w wr va vb la lb) (hk:Kept (fun _=>False) wr w3):TR w w3 va vb la lb:=
 ⟨h.kept.trans hk,h.ra.kept hk (fun _ _ _ c=>c),h.rb.kept hk (fun _ _ _ c=>c),h.ne⟩
theorem TR.alloc (h:TR w wr va vb la lb) (o:Obj):TR w (wr.alloc o) va vb la lb:=h.to ((Kept.refl _ _).alloc o)
theorem TR.grow (h:TR w wr va vb la lb) {g cap:Nat} {x:Nat} (ho:w3.ownsRow 0 3 1 (.slice (some ⟨g,0,none⟩) (la.length+1) cap) (la.length+1) (intC la++[.int .i64 (x:Nat)])) (hg:wr.grownBy w3 va.ownBlock) (ha:va.ownBlock=some g∨g=wr.heap.size):TR w w3 (.slice (some ⟨g,0,none⟩) (la.length+1) cap) vb (la++[x]) lb:=by
 have hs:=h.kept.size
 have hb:w.heap.size≤g:=by
  rcases ha with c | c
  ·exact h.ra.at_ g c
  ·omega
 refine⟨h.kept.fresh (Kept.of_grown hg) (fun i hi c=>absurd (h.ra.at_ i c) (by omega)),⟨?_,fun k hk=>?_⟩,?_,fun k hk c=>?_⟩
 ·have:(la++[x]).length=la.length+1:=by simp
  rw[this,intC_app]
  exact ho
 ·simp[Value.ownBlock] at hk
  omega
 ·have hrb:=h.rb
  refine⟨(Row.kept (ok:=fun k=>vb.ownBlock=some k) ⟨hrb.own,fun _ h=>h⟩ (Kept.of_grown hg) (fun k _ c1 c2=>h.ne k c2 c1)).own,hrb.at_⟩
 ·simp[Value.ownBlock] at hk
  subst hk
  rcases ha with c2 | c2
  ·exact h.ne _ c2 c
  ·have:=(h.rb.own.lt _ c).2
   omega
theorem TR.cell (h:TR w wr va vb la lb) {i:Nat} (hi:i<la.length):∃g cap,va=.slice (some ⟨g,0,none⟩) la.length cap∧wr.cell? ⟨g,i,none⟩=some (.int .i64 ((la.getD i 0:Nat):Int)):=by
 obtain⟨g,cap,hv,-,-,-,hc⟩:=Row.cells h.ra (by omega)
 refine⟨g,cap,hv,(hc i (by omega)).trans ?_⟩
 unfold intC
 rw[List.getElem?_map,List.getElem?_eq_getElem hi]
 simp[hi]
end
end
end Go.Proofs.YtkmofapihggjgaaGreatDoor
