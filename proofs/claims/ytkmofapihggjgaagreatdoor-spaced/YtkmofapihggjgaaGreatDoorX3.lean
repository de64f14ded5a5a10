import Derived.Deep.AppendLies
import Derived.Test.YtkmofapihggjgaaGreatDoorX1
import Derived.Test.YtkmofapihggjgaaGreatDoorX2
namespace Go.Proofs.YtkmofapihggjgaaGreatDoor
section
open Go.RowKit Go.Maps
abbrev It:=(Nat×List Value) ⊕ (TypeId×Nat×Value×Nat×List Value) ⊕ (Nat×Nat×DataW Unit) ⊕ (Nat×Obj)
abbrev It.b (g:Nat) (cs:List Value):It:=Sum.inl (g,cs)
abbrev It.r (E:TypeId) (sz:Nat) (v:Value) (n:Nat) (xs:List Value):It:=Sum.inr (Sum.inl (E,sz,v,n,xs))
abbrev It.m (g:Nat) (n:Nat) (D:DataW Unit):It:=Sum.inr (Sum.inr (Sum.inl (g,n,D)))
abbrev It.o (g:Nat) (o:Obj):It:=Sum.inr (Sum.inr (Sum.inr (g,o)))
def It.own:It→Option Nat
 | Sum.inl (g,_)=>some g
 | Sum.inr (Sum.inl (_,_,v,_,_))=>v.ownBlock
 | Sum.inr (Sum.inr (Sum.inl (g,_,_)))=>some g
 | Sum.inr (Sum.inr (Sum.inr (g,_)))=>some g
def It.at_ (B:Nat) (w:World):It→Prop
 | Sum.inl (g,cs)=>B≤g∧g<w.heap.size∧Blk w g cs
 | Sum.inr (Sum.inl (E,sz,v,n,xs))=>w.ownsRow B E sz v n xs
 | Sum.inr (Sum.inr (Sum.inl (g,n,D)))=>B≤g∧w.ownsMap Tryz.prog 9 (plainElem Tryz.prog 5) g n D
 | Sum.inr (Sum.inr (Sum.inr (g,o)))=>B≤g∧w.heap[g]?=some o
theorem It.at_.lt {B:Nat} {w:World}:∀{p:It} {g:Nat},p.at_ B w→p.own=some g→B≤g∧g<w.heap.size
 | Sum.inl (g,cs),g',h,e=>by cases e;exact⟨h.1,h.2.1⟩
 | Sum.inr (Sum.inl (E,sz,v,n,xs)),g',h,e=>World.ownsRow.lt h g' e
 | Sum.inr (Sum.inr (Sum.inl (g,n,D))),g',h,e=>by cases e;exact⟨h.1,World.ownsMap.lt h.2⟩
 | Sum.inr (Sum.inr (Sum.inr (g,o))),g',h,e=>by cases e;exact⟨h.1,(Array.getElem?_eq_some_iff.1 h.2).1⟩
theorem It.at_.kept {B:Nat} {S:Nat→Prop} {w w':World} (hk:Kept S w w'):∀{p:It},p.at_ B w→(∀g,p.own=some g→¬S g)→p.at_ B w'
 | Sum.inl (g,cs),h,e=>⟨h.1,Nat.lt_of_lt_of_le h.2.1 hk.size,h.2.2.kept hk h.2.1 (e g rfl)⟩
 | Sum.inr (Sum.inl (E,sz,v,n,xs)),h,e=>by
  have hl:=fun g=>It.at_.lt (p:=It.r E sz v n xs) (g:=g) h
  refine⟨h.1,h.2.imp id ?_⟩
  rintro⟨g,cap,cur,hv,h1,h2,h3⟩
  have:=hl g (by simp[It.own,hv,Value.ownBlock])
  exact⟨g,cap,cur,hv,h1,(hk.block g this.2 (e g (by simp[It.own,hv,Value.ownBlock]))).trans h2,h3⟩
 | Sum.inr (Sum.inr (Sum.inl (g,n,D))),h,e=>by
  have hl:=World.ownsMap.lt h.2
  obtain⟨h1,es,clock,h2,h3⟩:=h
  exact⟨h1,es,clock,(hk.block g hl (e g rfl)).trans h2,h3⟩
 | Sum.inr (Sum.inr (Sum.inr (g,o))),h,e=>⟨h.1,(hk.block g (Array.getElem?_eq_some_iff.1 h.2).1 (e g rfl)).trans h.2⟩
structure Sx (w0 w:World) (l:List It):Prop where
 kept:Kept (fun _=>False) w0 w
 it:∀p∈l,p.at_ w0.heap.size w
 nd:l.Pairwise (fun p q=>∀g,p.own=some g→¬q.own=some g)
section
variable {w0 w w':World} {l:List It} {g:Nat} {cs:List Value} {p p2:It}
theorem Sx.start (w:World):Sx w w []:=⟨Kept.refl _ _,by simp,List.Pairwise.nil⟩
theorem Sx.ne (h:Sx w0 w l) {a b:Nat} (ha:l[a]?=some p) (hb:l[b]?=some p2) (hab:a≠b) (hp:p.own=some g):¬p2.own=some g:=by
 obtain⟨ha1,rfl⟩:=List.getElem?_eq_some_iff.1 ha
 obtain⟨hb1,rfl⟩:=List.getElem?_eq_some_iff.1 hb
 have h1:=List.pairwise_iff_getElem.1 h.nd
 rcases Nat.lt_or_gt_of_ne hab with c | c
 ·exact h1 a b ha1 hb1 c g hp
 ·exact fun e=>h1 b a hb1 ha1 c g e hp
theorem Sx.to (h:Sx w0 w l) (hk:Kept (fun _=>False) w w'):Sx w0 w' l:=⟨h.kept.trans hk,fun p hp=>(h.it p hp).kept hk (fun _ _ c=>c),h.nd⟩
theorem Sx.alloc (h:Sx w0 w l) (o:Obj):Sx w0 (w.alloc o) l:=h.to ((Kept.refl _ _).alloc o)
theorem Sx.drew (h:Sx w0 w l):Sx w0 w.drew l:=h.to (Kept.refl _ _).drew
theorem Sx.drewN (h:Sx w0 w l) (k:Nat):Sx w0 (w.drewN k) l:=h.to ((Kept.refl _ _).drewN k)
theorem Sx.upd {S:Nat→Prop} {k:Nat} (h:Sx w0 w l) (hp:l[k]?=some p) (hk:Kept S w w') (hS:∀g,S g→p.own=some g) (h2:p2.at_ w0.heap.size w') (ho:∀g,p2.own=some g→p.own=some g∨w.heap.size≤g):Sx w0 w' (l.set k p2):=by
 have hpm:=List.mem_of_getElem? hp
 obtain⟨hkl,hk'⟩:=List.getElem?_eq_some_iff.1 hp
 have hne:∀n q,l[n]?=some q→n≠k→∀g,q.own=some g→¬p2.own=some g:=fun n q hq hn g hg e=>by
  rcases ho g e with c | c
  ·exact h.ne hp hq (fun e=>hn e.symm) c hg
  ·have:=((h.it q (List.mem_of_getElem? hq)).lt hg).2
   omega
 refine⟨h.kept.fresh hk (fun i hi c=>?_),fun q hq=>?_,?_⟩
 ·have:=((h.it p hpm).lt (hS i c)).1
  omega
 ·obtain⟨n,hn⟩:=List.mem_iff_getElem?.1 hq
  rw[List.getElem?_set] at hn
  split at hn
  ·cases hn;exact h2
  ·rename_i e
   exact(h.it q (List.mem_of_getElem? hn)).kept hk (fun g hg c=>h.ne hn hp (fun e2=>e e2.symm) hg (hS g c))
 ·rw[List.pairwise_iff_getElem]
  intro i j hi hj hij g hg
  have h1:=List.pairwise_iff_getElem.1 h.nd
  simp only[List.length_set] at hi hj
  rw[List.getElem_set] at hg ⊢
  split at hg
  ·rename_i e
   rw[if_neg (by omega)]
   exact fun c=>hne j _ (List.getElem?_eq_getElem hj) (by omega) g c hg
  ·split
   ·rename_i e1 e2
    exact hne i _ (List.getElem?_eq_getElem hi) (by omega) g hg
   ·exact h1 i j hi hj hij g hg
theorem Sx.c (h:Sx w0 w l) (k j:Nat) {v:Value} (hk:l[k]?=some (.b g cs):=by rfl) (hj:cs[j]?=some v:=by rfl):w.cell? ⟨g,j,none⟩=some v∧w.frozen? ⟨g,j,none⟩=false:=by
 have h1:=(h.it _ (List.mem_of_getElem? hk)).2.2 j (List.getElem?_eq_some_iff.1 hj).1
 simp only[List.getD_eq_getElem?_getD,hj,Option.getD_some] at h1
 exact h1
theorem Sx.lt (h:Sx w0 w l) (k:Nat) (hk:l[k]?=some (.b g cs):=by rfl):g<w.heap.size:=(h.it _ (List.mem_of_getElem? hk)).2.1
theorem Sx.set (h:Sx w0 w l) (k j:Nat) (v:Value) (hk:l[k]?=some (.b g cs):=by rfl):Sx w0 (w.setCell ⟨g,j,none⟩ v) (l.set k (.b g (cs.set j v))):=by
 have h1:=h.it _ (List.mem_of_getElem? hk)
 exact h.upd (S:=fun i=>i=g) hk ((Kept.refl (fun i=>i=g) w).setCell (p:=⟨g,j,none⟩) (fun _=>rfl) v) (fun i e=>by rw[e];rfl) ⟨h1.1,by simpa using h1.2.1,h1.2.2.set j v⟩ (fun i e=>.inl e)
theorem Sx.row (h:Sx w0 w l) (k:Nat) {E:TypeId} {sz n:Nat} {v:Value} {xs:List Value} (hk:l[k]?=some (.r E sz v n xs):=by rfl):w.ownsRow w0.heap.size E sz v n xs:=h.it _ (List.mem_of_getElem? hk)
theorem Sx.map (h:Sx w0 w l) (k:Nat) {n:Nat} {D:DataW Unit} (hk:l[k]?=some (.m g n D):=by rfl):w.ownsMap Tryz.prog 9 (plainElem Tryz.prog 5) g n D:=(h.it _ (List.mem_of_getElem? hk)).2
theorem Sx.app (h:Sx w0 w l) (k:Nat) {E:TypeId} {sz n n' cap gg:Nat} {v:Value} {xs ys:List Value} (ho:w'.ownsRow w0.heap.size E sz (.slice (some ⟨gg,0,none⟩) n' cap) n' ys) (hg:w.grownBy w' v.ownBlock) (hat:v.ownBlock=some gg∨w.heap.size≤gg) (hk:l[k]?=some (.r E sz v n xs):=by rfl):
  Sx w0 w' (l.set k (.r E sz (.slice (some ⟨gg,0,none⟩) n' cap) n' ys)):=
 h.upd (S:=fun i=>v.ownBlock=some i) hk (Kept.of_grown hg) (fun i e=>e) ho (fun i e=>by
  simp only[It.own,Value.ownBlock,Option.some.injEq] at e
  subst e
  exact hat)
theorem Sx.add (h:Sx w0 w l) (hk:Kept (fun _=>False) w w') (hp:p.at_ w0.heap.size w') (ho:∀g,p.own=some g→w.heap.size≤g):Sx w0 w' (l++[p]):=by
 have h1:=h.to hk
 refine⟨h1.kept,fun q hq=>?_,?_⟩
 ·rcases List.mem_append.1 hq with c | c
  ·exact h1.it q c
  ·cases List.mem_singleton.1 c
   exact hp
 ·rw[List.pairwise_append]
  refine⟨h.nd,by simp,fun a ha b hb g hg e=>?_⟩
  cases List.mem_singleton.1 hb
  have:=((h.it a ha).lt hg).2
  have:=ho g e
  omega
theorem Sx.new (h:Sx w0 w l) (c:Array Value) (t:TypeId):Sx w0 (w.alloc (.cells c t)) (l++[.b w.heap.size c.toList]):=
 h.add ((Kept.refl _ _).alloc _) ⟨h.kept.size,by simp,Blk.new w c t⟩ (fun g e=>by cases e;exact Nat.le_refl _)
theorem Sx.nil (h:Sx w0 w l) (E:TypeId) (sz:Nat):Sx w0 w (l++[.r E sz (.slice none 0 0) 0 []]):=
 h.add (Kept.refl _ _) (World.ownsRow_nil _ _ _ _) (fun g e=>by cases e)
theorem Sx.sub (h:Sx w0 w l) {l':List It} (hs:List.Sublist l' l):Sx w0 w l':=⟨h.kept,fun p hp=>h.it p (hs.mem hp),h.nd.sublist hs⟩
theorem Sx.left (h:Sx w0 w (l++[p])):Sx w0 w l:=h.sub (List.sublist_append_left _ _)
end
def Ans (w0:World) (v:Value) (l:List It) (e:Ending) (w':World):Prop:=e=.returned v∧Sx w0 w' l
end
section
open Go.RowKit
theorem regX {P:Program} {Q:Exit→Act→World→Prop} {ops:List Oper} {w0 w:World} {l:List It} {id:Nat} {a:Act} (_:Sx w0 w l) (x:Nat) (hh:wpAnyK P .any ops Q (fun W=>Sx w0 W l) x ops.length 0 a w.drew) (hm:P.follows .mixedOrders=true:=by kernel_rfl):(Code.region id ops.toArray true).wp P Q a w:=regK _ x hh hm
abbrev AL (ab tg cap:Nat) (T:List Tok) (i:Nat) (z:List Value) (r:List It):List It:=.b ab (.slice (some ⟨tg,0,none⟩) T.length cap::.int .i64 (i:Nat)::z)::.r 144 3 (.slice (some ⟨tg,0,none⟩) T.length cap) T.length (T.flatMap tokCells)::r
section
variable {w0 w:World} {ab tg cap i:Nat} {T:List Tok} {z:List Value} {r:List It} {t:Tok}
theorem toks_get:∀{ts:List Tok} {k:Nat} {t:Tok},ts[k]?=some t→∀o,o<3→(ts.flatMap tokCells)[k*3+o]?=(tokCells t)[o]?
 | [],k,t,h,_,_=>by simp at h
 | y::ys,0,t,h,o,ho=>by
  simp at h;subst h
  have:o=0∨o=1∨o=2:=by omega
  rcases this with rfl | rfl | rfl<;>rfl
 | y::ys,k+1,t,h,o,ho=>by
  have h1:=toks_get (ts:=ys) (k:=k) (by simpa using h) o ho
  rw[List.flatMap_cons,List.getElem?_append_right (by simp[tokCells];omega),←h1]
  congr 1
  simp[tokCells];omega
theorem AL.c0:∀W,Sx w0 W (AL ab tg cap T i z r)→W.cell? ⟨ab,0,none⟩=some (.slice (some ⟨tg,0,none⟩) T.length cap):=fun _ h=>(h.c 0 0 rfl rfl).1
theorem AL.c1:∀W,Sx w0 W (AL ab tg cap T i z r)→W.cell? ⟨ab,1,none⟩=some (.int .i64 (i:Nat)):=fun _ h=>(h.c 0 1 rfl rfl).1
theorem AL.tok (k:Nat) (ht:T[k]?=some t):∀W,Sx w0 W (AL ab tg cap T i z r)→W.cell? ⟨tg,k*3,none⟩=some (.int .u8 (t.1:Nat))∧W.cell? ⟨tg,k*3+1,none⟩=some (.int .i64 (t.2.1:Nat))∧W.cell? ⟨tg,k*3+2,none⟩=some (.string t.2.2):=fun W h=>by
 have h1:=h.row 1 (E:=144) (sz:=3)
 have hl:=(List.getElem?_eq_some_iff.1 ht).1
 exact⟨(h1.cellAt (k*3) (by omega)).trans (toks_get ht 0 (by omega)),(h1.cellAt (k*3+1) (by omega)).trans (toks_get ht 1 (by omega)),(h1.cellAt (k*3+2) (by omega)).trans (toks_get ht 2 (by omega))⟩
set_option maxRecDepth 100000 in
theorem tPeek_any (h:Sx w0 w (AL ab tg cap T i z r)) (ht:T[i]?=some t):
  Calls Tryz.prog 109 #[.pointer (some ⟨ab,0,none⟩)] w (Ans w0 (tokV t) (AL ab tg cap T i z r)):=by
 have t1:(i:Int)<(T.length:Int):=by have:i<T.length:=(List.getElem?_eq_some_iff.1 ht).1;omega
 have H:=hide h
 have q0:= @AL.c0 w0 ab tg cap i T z r
 have q1:= @AL.c1 w0 ab tg cap i T z r
 have q2:= @AL.tok w0 ab tg cap i T z r t i ht
 clear ht h
 obtain⟨c,p,s⟩:=t
 simp only at q2
 unfold tokV
 simp only
 go_enter Tryz.func109,Tryz.ntmps109
 go_wp2_with fail
 have hS:=H.out.alloc (.cells #[.int .u8 0,.int .i64 0,.string ⟨#[]⟩] 144)
 refine regX hS 10 ?_
 iterate 10 refine tkk hS.drew (h:=?_)
 refine lastK (fun K hK=>?_)
 go_simp
 refine hK _ _ ?_
 go_wp2
 refine bodyPost_ret (v:=.agg #[.int .u8 (c:Nat),.int .i64 (p:Nat),.string s]) ?_ rfl ?_
 ·simp[results,Tryz.results109,go_sem]
 ·exact⟨rfl,(H.out.alloc _).drew⟩
set_option maxRecDepth 100000 in
theorem tSecond_any (h:Sx w0 w (AL ab tg cap T i z r)) (ht:T[min (i+1) (T.length - 1)]?=some t) (hl:T.length≤100000) (hi:i<T.length):
  Calls Tryz.prog 124 #[.pointer (some ⟨ab,0,none⟩)] w (Ans w0 (tokV t) (AL ab tg cap T i z r)):=by
 obtain⟨k,hk⟩:∃k,k=min (i+1) (T.length - 1):=⟨_,rfl⟩
 have t1:(k:Int)<(T.length:Int):=by omega
 have t0:(0:Int)≤(k:Int):=by omega
 have hw1:IntKind.i64.wrap ((i:Int)+1)=(i:Int)+1:=IntWalk.i64_in _ ⟨by omega,by omega⟩
 have hw2:IntKind.i64.wrap ((T.length:Int) - 1)=(T.length:Int) - 1:=IntWalk.i64_in _ ⟨by omega,by omega⟩
 have hmin:(if(T.length:Int) - 1<(i:Int)+1 then(T.length:Int) - 1 else(i:Int)+1)=(k:Int):=by split<;>omega
 have H:=hide h
 have q0:= @AL.c0 w0 ab tg cap i T z r
 have q1:= @AL.c1 w0 ab tg cap i T z r
 have q2:= @AL.tok w0 ab tg cap i T z r t k (by rw[hk];exact ht)
 clear ht h hk
 obtain⟨c,p,s⟩:=t
 simp only at q2
 unfold tokV
 simp only
 go_enter Tryz.func124,Tryz.ntmps124
 go_wp2_with fail
 have hS:=H.out.alloc (.cells #[.int .u8 0,.int .i64 0,.string ⟨#[]⟩] 144)
 refine regX hS 18 ?_
 iterate 18 refine tkk hS.drew (h:=?_)
 refine lastK (fun K hK=>?_)
 go_simp
 refine hK _ _ ?_
 go_wp2
 refine bodyPost_ret (v:=.agg #[.int .u8 (c:Nat),.int .i64 (p:Nat),.string s]) ?_ rfl ?_
 ·simp[results,Tryz.results124,go_sem]
 ·exact⟨rfl,(H.out.alloc _).drew⟩
def isW (t:Tok) (q:ByteArray):Bool:=t.1==5&&t.2.2.toList==q.toList
theorem tis_any (t:Tok) (q:ByteArray) (w:World):Calls Tryz.prog 128 #[tokV t,.string q] w fun e w'=>e=.returned (.bool (isW t q))∧Kept (fun _=>False) w w':=by
 obtain⟨c,p,s⟩:=t
 unfold tokV isW
 simp only
 by_cases hc:c=5
 ·have t1:((c:Int)==5)=true:=by simp[hc]
  have t2:(c==5)=true:=by simp[hc]
  rw[t2]
  clear hc t2
  go_enter Tryz.func128,Tryz.ntmps128
  go_wp2
  go_ret
  exact⟨by simp,(Kept.refl _ _).alloc _⟩
 ·have t1:((c:Int)==5)=false:=by simp;omega
  have t2:(c==5)=false:=by simp[hc]
  rw[t2]
  clear hc t2
  go_enter Tryz.func128,Tryz.ntmps128
  go_wp2
  go_ret
  exact⟨by simp,(Kept.refl _ _).alloc _⟩
end
end
section
open Go.RowKit
section
variable {w0 w:World} {ab tg cap i:Nat} {T:List Tok} {z:List Value} {r:List It} {t:Tok} {l:List It} {g g2:Nat} {cs cs2:List Value}
theorem Sx.cL (h:Sx w0 w (l++[.b g cs])) (j:Nat) {v:Value} (hj:cs[j]?=some v:=by rfl):w.cell? ⟨g,j,none⟩=some v∧w.frozen? ⟨g,j,none⟩=false:=h.c l.length j (by simp) hj
theorem Sx.ltL (h:Sx w0 w (l++[.b g cs])):g<w.heap.size:=h.lt l.length (cs:=cs) (by simp)
theorem Sx.setL (h:Sx w0 w (l++[.b g cs])) (j:Nat) (v:Value):Sx w0 (w.setCell ⟨g,j,none⟩ v) (l++[.b g (cs.set j v)]):=by
 have:=h.set l.length j v (g:=g) (cs:=cs) (by simp)
 simpa using this
theorem Sx.cM (h:Sx w0 w (l++[.b g cs]++[.b g2 cs2])) (j:Nat) {v:Value} (hj:cs[j]?=some v:=by rfl):w.cell? ⟨g,j,none⟩=some v∧w.frozen? ⟨g,j,none⟩=false:=h.left.cL j hj
theorem Sx.setM (h:Sx w0 w (l++[.b g cs]++[.b g2 cs2])) (j:Nat) (v:Value):Sx w0 (w.setCell ⟨g,j,none⟩ v) (l++[.b g (cs.set j v)]++[.b g2 cs2]):=by
 have:=h.set l.length j v (g:=g) (cs:=cs) (by simp)
 simpa using this
theorem AL.put (h:Sx w0 w (AL ab tg cap T i z r)) (k:Nat):Sx w0 (w.setCell ⟨ab,1,none⟩ (.int .i64 (k:Nat))) (AL ab tg cap T k z r):=h.set 0 1 (.int .i64 (k:Nat))
theorem AL.app (p:It):AL ab tg cap T i z (r++[p])=AL ab tg cap T i z r++[p]:=rfl
def nx (T:List Tok) (i:Nat):Nat:=min (i+1) (T.length - 1)
set_option maxRecDepth 100000 in
set_option maxHeartbeats 800000 in
theorem tTake_any (h:Sx w0 w (AL ab tg cap T i z r)) (ht:T[i]?=some t) (hl:T.length≤100000) {q:Int} (hq:q=(t.1:Int)):
  Calls Tryz.prog 99 #[.pointer (some ⟨ab,0,none⟩),.int .u8 q] w (Ans w0 (tokV t) (AL ab tg cap T (nx T i) z r)):=by
 have hi:=(List.getElem?_eq_some_iff.1 ht).1
 have hw1:IntKind.i64.wrap ((i:Int)+1)=(i:Int)+1:=IntWalk.i64_in _ ⟨by omega,by omega⟩
 have hw2:IntKind.i64.wrap ((T.length:Int) - 1)=(T.length:Int) - 1:=IntWalk.i64_in _ ⟨by omega,by omega⟩
 obtain⟨k,hk⟩:∃k,k=nx T i:=⟨_,rfl⟩
 have hmin:(if(T.length:Int) - 1<(i:Int)+1 then(T.length:Int) - 1 else(i:Int)+1)=(k:Int):=by unfold nx at hk;split<;>omega
 rw[←hk]
 have HT:=hide ht
 have H:=hide h
 clear ht h hk
 subst hq
 go_enter Tryz.func99,Tryz.ntmps99
 go_wp2_with fail
 refine(tPeek_any (r:=r++[.b w.heap.size [.int .u8 0,.int .i64 0,.string ⟨#[]⟩]]) (H.out.new #[.int .u8 0,.int .i64 0,.string ⟨#[]⟩] 144) HT.out).mono ?_
 rintro e w1 ⟨rfl,h1⟩
 obtain⟨c,p,s⟩:=t
 unfold tokV
 simp only
 have tn:(((c:Nat):Int) !=((c:Nat):Int))=false:=by simp
 generalize w.heap.size=rb at*
 have h2:Sx w0 (w1.alloc (.cells #[.int .u8 (c:Nat),.int .i64 (p:Nat),.string s] 144)) (AL ab tg cap T i z (r++[.b rb [.int .u8 0,.int .i64 0,.string ⟨#[]⟩]]++[.b w1.heap.size [.int .u8 (c:Nat),.int .i64 (p:Nat),.string s]])):=h1.new #[.int .u8 (c:Nat),.int .i64 (p:Nat),.string s] 144
 obtain⟨R,hR⟩:∃R,R=r++[.b rb [.int .u8 0,.int .i64 0,.string ⟨#[]⟩]]++[.b w1.heap.size [.int .u8 (c:Nat),.int .i64 (p:Nat),.string s]]:=⟨_,rfl⟩
 rw[←hR] at h2
 have HR:=hide hR
 clear hR
 have q0:= @AL.c0 w0 ab tg cap i T z R
 have q1:= @AL.c1 w0 ab tg cap i T z R
 have hab:=h2.lt 0
 obtain⟨f0,f1⟩:=h2.c 0 1
 have H2:=hide h2
 clear h2 h1
 go_wp2_with fail
 refine regX H2.out 15 ?_
 iterate 15 refine tkk H2.out.drew (h:=?_)
 refine lastK (fun K hK=>?_)
 go_simp
 refine hK _ _ ?_
 clear f0 f1
 have h3:=(AL.put H2.out k).drew
 rw[HR.out,AL.app,AL.app] at h3
 clear q0 q1 hab H2 HR
 generalize ((w1.alloc (.cells #[.int .u8 (c:Nat),.int .i64 (p:Nat),.string s] 144)).setCell ⟨ab,1,none⟩ (.int .i64 (k:Nat))).drew=W3 at*
 generalize w1.heap.size=tb at*
 obtain⟨a0,-⟩:=h3.cL 0
 obtain⟨a1,-⟩:=h3.cL 1
 obtain⟨a2,-⟩:=h3.cL 2
 obtain⟨b0,d0⟩:=h3.cM 0
 obtain⟨b1,d1⟩:=h3.cM 1
 obtain⟨b2,d2⟩:=h3.cM 2
 have hrb:=h3.left.ltL
 have h4:=((h3.setM 0 (.int .u8 (c:Nat))).setM 1 (.int .i64 (p:Nat))).setM 2 (.string s)
 obtain⟨y0,-⟩:=h4.cM 0
 obtain⟨y1,-⟩:=h4.cM 1
 obtain⟨y2,-⟩:=h4.cM 2
 have H4:=hide h4.left.left
 clear h3 h4
 go_wp2
 refine bodyPost_ret (v:=.agg #[.int .u8 (c:Nat),.int .i64 (p:Nat),.string s]) ?_ rfl ?_
 ·simp[results,Tryz.results99,go_sem,y0,y1,y2]
 ·exact⟨rfl,H4.out⟩
end
end
section
open Go.RowKit
section
variable {w0 w:World} {ab tg cap i:Nat} {T:List Tok} {z:List Value} {r:List It} {t t2:Tok}
theorem tokF (a b c:Value) (w:World):(Instr.field 144 (.agg #[a,b,c]) 0).run Tryz.prog w=.ok a w:=by kernel_rfl
set_option maxRecDepth 100000 in
theorem tIs_any (h:Sx w0 w (AL ab tg cap T i z r)) (ht:T[i]?=some t) (q:ByteArray):
  Calls Tryz.prog 135 #[.pointer (some ⟨ab,0,none⟩),.string q] w (Ans w0 (.bool (isW t q)) (AL ab tg cap T i z r)):=by
 have H:=hide h
 have HT:=hide ht
 clear h ht
 go_enter Tryz.func135,Tryz.ntmps135
 go_wp2_with fail
 refine(tPeek_any H.out HT.out).mono ?_
 rintro e w1 ⟨rfl,h1⟩
 go_wp2_with fail
 refine(tis_any _ _ _).mono ?_
 rintro e w2 ⟨rfl,hk2⟩
 have H2:=hide (h1.to hk2)
 clear h1 hk2
 go_wp2
 go_ret
 exact⟨rfl,H2.out⟩
set_option maxRecDepth 100000 in
theorem tOpens_any (h:Sx w0 w (AL ab tg cap T i z r)) (ht:T[i]?=some t) (ht2:T[nx T i]?=some t2) (hl:T.length≤100000) (q:ByteArray):
  Calls Tryz.prog 107 #[.pointer (some ⟨ab,0,none⟩),.string q] w (Ans w0 (.bool (t.1==2&&isW t2 q)) (AL ab tg cap T i z r)):=by
 have H:=hide h
 have HT:=hide ht
 have HT2:=hide ht2
 have hi:=(List.getElem?_eq_some_iff.1 ht).1
 have hf:=tokF
 clear h ht ht2
 go_enter Tryz.func107,Tryz.ntmps107
 go_wp2_with fail
 refine(tPeek_any H.out HT.out).mono ?_
 rintro e w1 ⟨rfl,h1⟩
 obtain⟨c,p,s⟩:=t
 rw[show tokV (c,p,s)=.agg #[.int .u8 (c:Nat),.int .i64 (p:Nat),.string s] from rfl]
 simp only
 have H1:=hide h1
 clear h1
 by_cases hc:c=2
 ·have t1:((c:Int)==2)=true:=by simp[hc]
  have HB:Hid ((c==2)=true):=by show _=_;simp[hc]
  clear hc
  go_wp2_with fail
  refine(tSecond_any H1.out HT2.out hl hi).mono ?_
  rintro e w2 ⟨rfl,h2⟩
  have H2:=hide h2
  clear h2
  go_wp2_with fail
  refine(tis_any _ _ _).mono ?_
  rintro e w3 ⟨rfl,hk3⟩
  have H3:=hide (H2.out.to hk3)
  clear hk3
  go_wp2
  go_ret
  exact⟨by simp only[HB.out,Bool.true_and];rfl,H3.out⟩
 ·have t1:((c:Int)==2)=false:=by simp;omega
  have HB:Hid ((c==2)=false):=by show _=_;simp[hc]
  clear hc
  go_wp2
  go_ret
  exact⟨by simp only[HB.out,Bool.false_and];rfl,H1.out⟩
theorem AL.res {rb:Nat} {a0 a1 a2:Value} (h:Sx w0 w (AL ab tg cap T i z (r++[.b rb [a0,a1,a2]]))) (x y v:Value):
  (rb<w.heap.size∧(w.cell? ⟨rb,0,none⟩=some a0∧w.frozen? ⟨rb,0,none⟩=false)∧(w.cell? ⟨rb,1,none⟩=some a1∧w.frozen? ⟨rb,1,none⟩=false)∧(w.cell? ⟨rb,2,none⟩=some a2∧w.frozen? ⟨rb,2,none⟩=false))∧
  (((w.setCell ⟨rb,0,none⟩ x).setCell ⟨rb,1,none⟩ y).setCell ⟨rb,2,none⟩ v).cell? ⟨rb,0,none⟩=some x∧(((w.setCell ⟨rb,0,none⟩ x).setCell ⟨rb,1,none⟩ y).setCell ⟨rb,2,none⟩ v).cell? ⟨rb,1,none⟩=some y∧(((w.setCell ⟨rb,0,none⟩ x).setCell ⟨rb,1,none⟩ y).setCell ⟨rb,2,none⟩ v).cell? ⟨rb,2,none⟩=some v∧
  Sx w0 (((w.setCell ⟨rb,0,none⟩ x).setCell ⟨rb,1,none⟩ y).setCell ⟨rb,2,none⟩ v) (AL ab tg cap T i z r):=by
 rw[AL.app] at h
 have h4:=((h.setL 0 x).setL 1 y).setL 2 v
 exact⟨⟨h.ltL,h.cL 0,h.cL 1,h.cL 2⟩,(h4.cL 0).1,(h4.cL 1).1,(h4.cL 2).1,h4.left⟩
set_option maxRecDepth 100000 in
set_option maxHeartbeats 800000 in
theorem tTakeWord_any (h:Sx w0 w (AL ab tg cap T i z r)) (ht:T[i]?=some t) (hl:T.length≤100000) (q:ByteArray) (hq:isW t q=true):
  Calls Tryz.prog 106 #[.pointer (some ⟨ab,0,none⟩),.string q] w (Ans w0 (tokV t) (AL ab tg cap T (nx T i) z r)):=by
 have H:=hide h
 have HT:=hide ht
 have hnot:∀(x:Bool) (w:World),(Op.unary .not (.bool x)).run Tryz.prog w=.ok (.bool (!x)) w:=fun _ _=>rfl
 have h5:t.1=5:=by unfold isW at hq;simp at hq;exact hq.1
 clear h ht
 go_enter Tryz.func106,Tryz.ntmps106
 go_wp2_with fail
 refine(tPeek_any (r:=r++[.b w.heap.size [.int .u8 0,.int .i64 0,.string ⟨#[]⟩]]) (H.out.new #[.int .u8 0,.int .i64 0,.string ⟨#[]⟩] 144) HT.out).mono ?_
 rintro e w1 ⟨rfl,h1⟩
 obtain⟨c,p,s⟩:=t
 rw[show tokV (c,p,s)=.agg #[.int .u8 (c:Nat),.int .i64 (p:Nat),.string s] from rfl]
 have H5:Hid (c=5):=h5
 clear h5
 have H1:=hide h1
 generalize w.heap.size=rb at*
 clear h1 H
 have HQ:=hide hq
 clear hq
 go_wp2_with fail
 refine(tis_any (c,p,s) _ _).mono ?_
 rintro e w2 ⟨rfl,hk2⟩
 rw[HQ.out]
 have H2:=hide (((H1.out.alloc _).to hk2))
 clear hk2
 go_wp2_with fail
 refine(tTake_any H2.out HT.out hl (by rw[H5.out];rfl)).mono ?_
 rintro e w3 ⟨rfl,h3⟩
 rw[show tokV (c,p,s)=.agg #[.int .u8 (c:Nat),.int .i64 (p:Nat),.string s] from rfl]
 obtain⟨⟨a5,⟨b0,d0⟩,⟨b1,d1⟩,⟨b2,d2⟩⟩,y0,y1,y2,h4⟩:=AL.res h3 (.int .u8 (c:Nat)) (.int .i64 (p:Nat)) (.string s)
 have H4:=hide h4
 clear h3 h4
 go_wp2
 refine bodyPost_ret (v:=.agg #[.int .u8 (c:Nat),.int .i64 (p:Nat),.string s]) ?_ rfl ?_
 ·simp[results,Tryz.results106,go_sem,y0,y1,y2]
 ·exact⟨rfl,H4.out⟩
set_option maxRecDepth 100000 in
set_option maxHeartbeats 800000 in
theorem tTakeOpen_any (h:Sx w0 w (AL ab tg cap T i z r)) (ht:T[i]?=some t) (hc:t.1=2) (ht2:T[nx T i]?=some t2) (hl:T.length≤100000) (q:ByteArray) (hq:isW t2 q=true):
  Calls Tryz.prog 86 #[.pointer (some ⟨ab,0,none⟩),.string q] w (Ans w0 (tokV t2) (AL ab tg cap T (nx T (nx T i)) z r)):=by
 have H:=hide h
 have HT:=hide ht
 have HT2:=hide ht2
 have HC:=hide hc
 have HQ:=hide hq
 clear h ht ht2 hc hq
 go_enter Tryz.func86,Tryz.ntmps86
 go_wp2_with fail
 refine(tTake_any (r:=r++[.b w.heap.size [.int .u8 0,.int .i64 0,.string ⟨#[]⟩]]) (H.out.new #[.int .u8 0,.int .i64 0,.string ⟨#[]⟩] 144) HT.out hl (by rw[HC.out];rfl)).mono ?_
 rintro e w1 ⟨rfl,h1⟩
 have H1:=hide h1
 generalize w.heap.size=rb at*
 clear h1 H
 go_wp2_with fail
 refine(tTakeWord_any H1.out HT2.out hl _ HQ.out).mono ?_
 rintro e w3 ⟨rfl,h3⟩
 obtain⟨c,p,s⟩:=t2
 rw[show tokV (c,p,s)=.agg #[.int .u8 (c:Nat),.int .i64 (p:Nat),.string s] from rfl]
 obtain⟨⟨a5,⟨b0,d0⟩,⟨b1,d1⟩,⟨b2,d2⟩⟩,y0,y1,y2,h4⟩:=AL.res h3 (.int .u8 (c:Nat)) (.int .i64 (p:Nat)) (.string s)
 have H4:=hide h4
 clear h3 h4
 go_wp2
 refine bodyPost_ret (v:=.agg #[.int .u8 (c:Nat),.int .i64 (p:Nat),.string s]) ?_ rfl ?_
 ·simp[results,Tryz.results86,go_sem,y0,y1,y2]
 ·exact⟨rfl,H4.out⟩
end
end
section
open Go.RowKit
section
variable {w0 w:World} {ab tg cap i:Nat} {T:List Tok} {z:List Value} {r:List It} {t t2:Tok}
def cutS (a b:ByteArray):ByteArray:=if hasPreB a b=true then a.extract b.size a.size else a
theorem slCut_any (a b:ByteArray) (w:World):Calls Tryz.prog 156 #[.string a,.string b] w fun e w'=>e=.returned (.tuple #[.string (cutS a b),.bool (hasPreB a b)])∧w'=w:=by
 have hnot:∀(x:Bool) (w:World),(Op.unary .not (.bool x)).run Tryz.prog w=.ok (.bool (!x)) w:=fun _ _=>rfl
 go_enter Tryz.func156,Tryz.ntmps156
 go_wp2_with fail
 refine(slHasPrefix_any a b w).mono ?_
 rintro e w1 ⟨rfl,rfl⟩
 cases h:hasPreB a b with
 | false=>
  have HC:Hid (cutS a b=a):=by show _=_;simp[cutS,h]
  go_wp2
  go_ret2
  exact⟨by rw[HC.out,h];rfl,rfl⟩
 | true=>
  have HC:Hid (cutS a b=a.extract b.size a.size):=by show _=_;simp[cutS,h]
  have h1:(b.size:Int)≤(a.size:Int):=by unfold hasPreB at h;simp at h;omega
  have h2:(0:Int)≤(b.size:Int):=by omega
  go_wp2
  go_ret2
  exact⟨by rw[HC.out,h];rfl,rfl⟩
theorem strCut_any (a b:ByteArray) (w:World):Calls Tryz.prog 142 #[.string a,.string b] w fun e w'=>e=.returned (.tuple #[.string (cutS a b),.bool (hasPreB a b)])∧w'=w:=by
 go_enter Tryz.func142,Tryz.ntmps142
 go_wp2_with fail
 refine(slCut_any a b w).mono ?_
 rintro e w1 ⟨rfl,rfl⟩
 go_wp2
 go_ret2
 exact⟨rfl,rfl⟩
def idRest (t:Tok):ByteArray:=t.2.2.extract 1 t.2.2.size
def kindB (s:ByteArray):Nat:=if s.toList==[105,51,50] then 127 else if s.toList==[105,54,52] then 126 else 0
theorem kindStr_any (k:Nat) (s:ByteArray) (hk:k=127∧s=⟨#[105,51,50]⟩∨k=126∧s=⟨#[105,54,52]⟩) {q:Int} (hq:q=(k:Int)) (w:World):Calls Tryz.prog 153 #[.int .u8 q] w fun e w'=>e=.returned (.string s)∧w'=w:=by
 rcases hk with⟨rfl,rfl⟩ | ⟨rfl,rfl⟩
 all_goals
  subst hq
  go_enter Tryz.func153,Tryz.ntmps153
  go_wp2
  go_ret
  exact⟨rfl,rfl⟩
theorem kindOf_any (s:ByteArray) (w:World):Calls Tryz.prog 139 #[.string s] w fun e w'=>e=.returned (.int .u8 (kindB s))∧w'=w:=by
 obtain⟨k,hk⟩:∃k,kindB s=k:=⟨_,rfl⟩
 rw[hk]
 unfold kindB at hk
 have HK:=hide hk
 clear hk
 go_enter Tryz.func139,Tryz.ntmps139
 go_wp2_with fail
 refine(kindStr_any 127 _ (.inl ⟨rfl,rfl⟩) rfl _).mono ?_
 rintro e w1 ⟨rfl,rfl⟩
 cases h:(s.toList==[105,51,50]) with
 | true=>
  go_wp2
  go_ret
  exact⟨by rw[←HK.out,if_pos h];rfl,rfl⟩
 | false=>
  go_wp2_with fail
  refine(kindStr_any 126 _ (.inr ⟨rfl,rfl⟩) rfl _).mono ?_
  rintro e w1 ⟨rfl,rfl⟩
  cases h2:(s.toList==[105,54,52]) with
  | true=>
   go_wp2
   go_ret
   exact⟨by rw[←HK.out,if_neg (by rw[h];decide),if_pos h2];rfl,rfl⟩
  | false=>
   go_wp2
   go_ret
   exact⟨by rw[←HK.out,if_neg (by rw[h];decide),if_neg (by rw[h2];decide)];rfl,rfl⟩
set_option maxRecDepth 100000 in
theorem asKind_any (h:Sx w0 w (AL ab tg cap T i z r)) (ht:T[i]?=some t) (hl:T.length≤100000) (h5:t.1=5) {k:Nat} (hk:kindB t.2.2=k) (h0:k≠0):
  Calls Tryz.prog 119 #[.pointer (some ⟨ab,0,none⟩)] w (Ans w0 (.int .u8 (k:Nat)) (AL ab tg cap T (nx T i) z r)):=by
 have H:=hide h
 have HT:=hide ht
 have H5:=hide h5
 have HK:=hide hk
 have tk:((k:Int)==0)=false:=by simp;omega
 clear h ht h5 hk h0
 go_enter Tryz.func119,Tryz.ntmps119
 go_wp2_with fail
 refine(tTake_any H.out HT.out hl (by rw[H5.out];rfl)).mono ?_
 rintro e w1 ⟨rfl,h1⟩
 obtain⟨c,p,s⟩:=t
 rw[show tokV (c,p,s)=.agg #[.int .u8 (c:Nat),.int .i64 (p:Nat),.string s] from rfl]
 have H1:=hide (h1.alloc (.cells #[.int .u8 (c:Nat),.int .i64 (p:Nat),.string s] 144))
 clear h1
 go_wp2_with fail
 refine(kindOf_any s _).mono ?_
 rintro e w2 ⟨rfl,rfl⟩
 rw[show kindB s=k from HK.out]
 go_wp2
 go_ret
 exact⟨rfl,H1.out⟩
end
end
section
open Go.RowKit
def idxO:List Nam→ByteArray→Option Nat
 | [],_=>none
 | x::r,t=>if(x.2.toList==t.toList)=true then some x.1 else idxO r t
set_option maxHeartbeats 800000 in
theorem idx_any {w:World} {ok:Nat→Prop} {ns:List Nam} {v:Value} (t:ByteArray) (hr:isRow 135 2 namCells ok ns w v) (hn:ns.length≤5000):Calls Tryz.prog 130 #[v,.string t] w fun e w'=>e=.returned (.tuple #[.int .i64 (((idxO ns t).getD 0:Nat):Int),.bool (idxO ns t).isSome])∧Kept (fun _=>False) w w':=by
 obtain⟨p,c,rfl⟩:=Row.shape hr
 go_enter Tryz.func130,Tryz.ntmps130
 go_wp2
 go_loopw [10] (fun q wr=>∃k:Nat,k≤ns.length∧q=.int .i64 k∧Kept (fun _=>False) w wr∧idxO ns t=idxO (ns.drop k) t) (fun q _=>ns.length - (intOf q).toNat)
 case atStart=>exact⟨0,Nat.zero_le _,rfl,Kept.refl _ _,rfl⟩
 case round=>
  obtain⟨k,hk,rfl,hkp,ha⟩:=hrel
  have HA:=hide ha
  clear ha
  by_cases hlt:k<ns.length
  ·have hlt':(k:Int)<(ns.length:Int):=by omega
   have hrr:isRow 135 2 namCells ok ns wr (.slice p ns.length c):=Row.kept hr hkp (fun _ _ _ hc=>hc)
   obtain⟨g,cap,hv,-,hgl,hcap,hcell⟩:=Row.cells hrr (by omega)
   cases hv
   have hx:ns[k]?=some ns[k]:=List.getElem?_eq_getElem hlt
   have c0:wr.cell? ⟨g,k*2,none⟩=some (.int .i64 (ns[k].1:Nat)):=(hcell (k*2) (by omega)).trans (flat_get (m:=2) (o:=0) (fun _=>rfl) hx (by omega))
   have c1:wr.cell? ⟨g,k*2+1,none⟩=some (.string ns[k].2):=(hcell (k*2+1) (by omega)).trans (flat_get (m:=2) (o:=1) (fun _=>rfl) hx (by omega))
   have hd:idxO (ns.drop k) t=if(ns[k].2.toList==t.toList)=true then some ns[k].1 else idxO (ns.drop (k+1)) t:=by rw[List.drop_eq_getElem_cons hlt];rfl
   have HD:=hide hd
   clear hcell hrr hr hx hd
   generalize ns[k]=x at*
   cases hx:(x.2.toList==t.toList) with
   | true=>
    have HN:Hid (idxO ns t=some x.1):=HA.out.trans (HD.out.trans (by rw[if_pos hx]))
    go_wp2
    go_ret2
    exact⟨by rw[HN.out];rfl,hkp.alloc _⟩
   | false=>
    have HN:Hid (idxO ns t=idxO (ns.drop (k+1)) t):=HA.out.trans (HD.out.trans (by rw[if_neg (by rw[hx];decide)]))
    go_wp2
    go_roundw
    case rel=>exact⟨k+1,by omega,by go_num,hkp.alloc _,HN.out⟩
    case measure=>simp[intOf];omega
  ·have HN:Hid (idxO ns t=none):=HA.out.trans (by rw[List.drop_eq_nil_of_le (by omega)];rfl)
   go_wp2
   go_ret2
   exact⟨by rw[HN.out];rfl,hkp⟩
theorem Tryz.info135':(Tryz.prog.info? 135).map (fun i=>(i.zero,i.size,i.bytes))=some (some (.agg #[.int .i64 0,.string ⟨#[]⟩]),2,24):=by kernel_rfl
section
variable {w0 w:World} {ab tg cap i:Nat} {T:List Tok} {z:List Value} {r l:List It} {t t2:Tok}
theorem Sx.isRow (h:Sx w0 w l) (k:Nat) {E:TypeId} {sz n:Nat} {v:Value} {xs:List Value} (hk:l[k]?=some (.r E sz v n xs):=by rfl):Row (fun g=>w0.heap.size≤g) w E sz v n xs:=
 Row.ofBase (h.row k hk) (fun _ hg _=>hg)
end
end
section
open Go.RowKit
section
variable {w0 w:World} {ab tg cap i:Nat} {T:List Tok} {z:List Value} {r l:List It} {t t2:Tok}
theorem nx_ok {T:List Tok} {i:Nat} (h:i<T.length):nx T i<T.length:=by unfold nx;omega
theorem getL {l:List It} {p:It} {k:Nat} {x:It} (h:l[k]?=some x):(l++[p])[k]?=some x:=by
 rw[List.getElem?_append_left (List.getElem?_eq_some_iff.1 h).1];exact h
end
end
section
open Go.RowKit
def Gave (w0:World) (x:Err) (e:Ending) (w':World):Prop:=e=gaveUp x.1 x.2∧Kept (fun _=>False) w0 w'
def OutX {α:Type} (w0:World) (r:Except Err α) (V:α→Ending→World→Prop) (e:Ending) (w':World):Prop:=match r with
 | .ok x=>V x e w'
 | .error x=>Gave w0 x e w'
theorem OutX.ok_mk {α:Type} {w0:World} {r:Except Err α} {V:α→Ending→World→Prop} {e:Ending} {w':World} {x:α} (h:r=.ok x) (hv:V x e w'):OutX w0 r V e w':=by subst h;exact hv
theorem OutX.err_mk {α:Type} {w0:World} {r:Except Err α} {V:α→Ending→World→Prop} {e:Ending} {w':World} {x:Err} (h:r=.error x) (hv:Gave w0 x e w'):OutX w0 r V e w':=by subst h;exact hv
def takeT (T:List Tok) (sort:Nat) (i:Nat):Except Err (Tok×Nat):=match T[i]? with
 | some t=>if t.1=sort then .ok (t,nx T i) else .error (7,t.2.1)
 | none=>.error (0,0)
def takeW (T:List Tok) (q:ByteArray) (i:Nat):Except Err (Tok×Nat):=match T[i]? with
 | some t=>if isW t q then .ok (t,nx T i) else .error (7,t.2.1)
 | none=>.error (0,0)
def takeO (T:List Tok) (q:ByteArray) (i:Nat):Except Err (Tok×Nat):=match takeT T 2 i with
 | .ok (_,j)=>takeW T q j
 | .error e=>.error e
theorem takeT_ok {T:List Tok} {sort i:Nat} {t:Tok} (ht:T[i]?=some t) (h:t.1=sort):takeT T sort i=.ok (t,nx T i):=by simp[takeT,ht,h]
theorem takeT_err {T:List Tok} {sort i:Nat} {t:Tok} (ht:T[i]?=some t) (h:t.1≠sort):takeT T sort i=.error (7,t.2.1):=by simp[takeT,ht,h]
theorem takeW_ok {T:List Tok} {q:ByteArray} {i:Nat} {t:Tok} (ht:T[i]?=some t) (h:isW t q=true):takeW T q i=.ok (t,nx T i):=by simp[takeW,ht,h]
theorem takeW_err {T:List Tok} {q:ByteArray} {i:Nat} {t:Tok} (ht:T[i]?=some t) (h:isW t q=false):takeW T q i=.error (7,t.2.1):=by simp[takeW,ht,h]
theorem tkRefuse_any (t:Tok) (w:World):Calls Tryz.prog 108 #[tokV t] w fun e w'=>e=gaveUp 7 (t.2.1:Nat)∧Kept (fun _=>False) w w':=by
 obtain⟨c,p,s⟩:=t
 rw[show tokV (c,p,s)=.agg #[.int .u8 (c:Nat),.int .i64 (p:Nat),.string s] from rfl]
 go_enter Tryz.func108,Tryz.ntmps108
 go_wp2_with fail
 refine(giveUp_any _ _ _).mono ?_
 rintro e w' ⟨rfl,rfl⟩
 exact⟨rfl,rfl,(Kept.refl _ _).alloc _⟩
section
variable {w0 w:World} {ab tg cap i:Nat} {T:List Tok} {z:List Value} {r:List It} {t t2:Tok}
set_option maxRecDepth 100000 in
theorem tTake_bad (h:Sx w0 w (AL ab tg cap T i z r)) (ht:T[i]?=some t) {q:Nat} (hq:t.1≠q):
  Calls Tryz.prog 99 #[.pointer (some ⟨ab,0,none⟩),.int .u8 (q:Nat)] w (Gave w0 (7,t.2.1)):=by
 have HT:=hide ht
 have H:=hide h
 clear ht h
 go_enter Tryz.func99,Tryz.ntmps99
 go_wp2_with fail
 refine(tPeek_any (r:=r++[.b w.heap.size [.int .u8 0,.int .i64 0,.string ⟨#[]⟩]]) (H.out.new #[.int .u8 0,.int .i64 0,.string ⟨#[]⟩] 144) HT.out).mono ?_
 rintro e w1 ⟨rfl,h1⟩
 obtain⟨c,p,s⟩:=t
 have tn:(((c:Nat):Int) !=((q:Nat):Int))=true:=by
  have:c≠q:=hq
  simp;omega
 rw[show tokV (c,p,s)=.agg #[.int .u8 (c:Nat),.int .i64 (p:Nat),.string s] from rfl]
 simp only
 have K1:=hide h1.kept
 clear h1 hq
 go_wp2_with fail
 refine(tkRefuse_any (c,p,s) _).mono ?_
 rintro e w2 ⟨rfl,k2⟩
 exact⟨rfl,rfl,(K1.out.alloc _).trans k2⟩
theorem tTake_all (h:Sx w0 w (AL ab tg cap T i z r)) (ht:T[i]?=some t) (hl:T.length≤100000) (q:Nat):
  Calls Tryz.prog 99 #[.pointer (some ⟨ab,0,none⟩),.int .u8 (q:Nat)] w (OutX w0 (takeT T q i) fun x=>Ans w0 (tokV x.1) (AL ab tg cap T x.2 z r)):=by
 by_cases hq:t.1=q
 ·exact(tTake_any h ht hl (by rw[hq])).mono fun e w' hh=>OutX.ok_mk (takeT_ok ht hq) hh
 ·exact(tTake_bad h ht hq).mono fun e w' hh=>OutX.err_mk (takeT_err ht hq) hh
set_option maxRecDepth 100000 in
theorem tTakeWord_bad (h:Sx w0 w (AL ab tg cap T i z r)) (ht:T[i]?=some t) (q:ByteArray) (hq:isW t q=false):
  Calls Tryz.prog 106 #[.pointer (some ⟨ab,0,none⟩),.string q] w (Gave w0 (7,t.2.1)):=by
 have H:=hide h
 have HT:=hide ht
 have hnot:∀(x:Bool) (w:World),(Op.unary .not (.bool x)).run Tryz.prog w=.ok (.bool (!x)) w:=fun _ _=>rfl
 clear h ht
 go_enter Tryz.func106,Tryz.ntmps106
 go_wp2_with fail
 refine(tPeek_any (r:=r++[.b w.heap.size [.int .u8 0,.int .i64 0,.string ⟨#[]⟩]]) (H.out.new #[.int .u8 0,.int .i64 0,.string ⟨#[]⟩] 144) HT.out).mono ?_
 rintro e w1 ⟨rfl,h1⟩
 obtain⟨c,p,s⟩:=t
 rw[show tokV (c,p,s)=.agg #[.int .u8 (c:Nat),.int .i64 (p:Nat),.string s] from rfl]
 have HQ:=hide hq
 clear hq
 have H1:=hide (h1.new #[.int .u8 (c:Nat),.int .i64 (p:Nat),.string s] 144)
 clear h1
 go_wp2_with fail
 refine(tis_any (c,p,s) _ _).mono ?_
 rintro e w2 ⟨rfl,hk2⟩
 rw[HQ.out]
 have h2:=H1.out.to hk2
 obtain⟨a0,-⟩:=h2.cL 0
 obtain⟨a1,-⟩:=h2.cL 1
 obtain⟨a2,-⟩:=h2.cL 2
 have K2:=hide h2.kept
 clear H1 hk2 h2
 go_wp2_with fail
 refine(tkRefuse_any (c,p,s) _).mono ?_
 rintro e w3 ⟨rfl,k3⟩
 exact⟨rfl,rfl,K2.out.trans k3⟩
theorem tTakeWord_all (h:Sx w0 w (AL ab tg cap T i z r)) (ht:T[i]?=some t) (hl:T.length≤100000) (q:ByteArray):
  Calls Tryz.prog 106 #[.pointer (some ⟨ab,0,none⟩),.string q] w (OutX w0 (takeW T q i) fun x=>Ans w0 (tokV x.1) (AL ab tg cap T x.2 z r)):=by
 cases hq:isW t q with
 | true=>exact(tTakeWord_any h ht hl q hq).mono fun e w' hh=>OutX.ok_mk (takeW_ok ht hq) hh
 | false=>exact(tTakeWord_bad h ht q hq).mono fun e w' hh=>OutX.err_mk (takeW_err ht hq) hh
set_option maxRecDepth 100000 in
set_option maxHeartbeats 800000 in
theorem tTakeOpen_all (h:Sx w0 w (AL ab tg cap T i z r)) (ht:T[i]?=some t) (ht2:T[nx T i]?=some t2) (hl:T.length≤100000) (q:ByteArray):
  Calls Tryz.prog 86 #[.pointer (some ⟨ab,0,none⟩),.string q] w (OutX w0 (takeO T q i) fun x=>Ans w0 (tokV x.1) (AL ab tg cap T x.2 z r)):=by
 by_cases hc:t.1=2
 ·cases hq:isW t2 q with
  | true=>exact(tTakeOpen_any h ht hc ht2 hl q hq).mono fun e w' hh=>OutX.ok_mk (x:=(t2,nx T (nx T i))) (by simp[takeO,takeT_ok ht hc,takeW_ok ht2 hq]) hh
  | false=>
   refine Calls.mono (R:=Gave w0 (7,t2.2.1)) ?_ (fun e w' hh=>OutX.err_mk (by simp[takeO,takeT_ok ht hc,takeW_err ht2 hq]) hh)
   have H:=hide h
   have HT:=hide ht
   have HT2:=hide ht2
   have HC:=hide hc
   have HQ:=hide hq
   clear h ht ht2 hc hq
   go_enter Tryz.func86,Tryz.ntmps86
   go_wp2_with fail
   refine(tTake_any (r:=r++[.b w.heap.size [.int .u8 0,.int .i64 0,.string ⟨#[]⟩]]) (H.out.new #[.int .u8 0,.int .i64 0,.string ⟨#[]⟩] 144) HT.out hl (by rw[HC.out];rfl)).mono ?_
   rintro e w1 ⟨rfl,h1⟩
   have H1:=hide h1
   generalize w.heap.size=rb at*
   clear h1 H
   go_wp2_with fail
   refine(tTakeWord_bad H1.out HT2.out q HQ.out).mono ?_
   rintro e w2 ⟨rfl,k2⟩
   exact⟨rfl,rfl,k2⟩
 ·refine Calls.mono (R:=Gave w0 (7,t.2.1)) ?_ (fun e w' hh=>OutX.err_mk (by simp[takeO,takeT_err ht hc]) hh)
  have H:=hide h
  have HT:=hide ht
  have HC:=hide hc
  clear h ht ht2 hc
  go_enter Tryz.func86,Tryz.ntmps86
  go_wp2_with fail
  refine(tTake_bad (r:=r++[.b w.heap.size [.int .u8 0,.int .i64 0,.string ⟨#[]⟩]]) (H.out.new #[.int .u8 0,.int .i64 0,.string ⟨#[]⟩] 144) HT.out (q:=2) HC.out).mono ?_
  rintro e w1 ⟨rfl,k2⟩
  exact⟨rfl,rfl,k2⟩
end
end
section
open Go.RowKit
section
variable {w0 w:World} {ab tg cap i:Nat} {T:List Tok} {z:List Value} {r l:List It} {t t2:Tok}
abbrev GL (gb mb xb ab:Nat) (v:Value) (most:Nat) (ks:List Nat):List It:=[.b gb [v],.b mb [.int .i64 (most:Nat)],.b xb [.pointer (some ⟨ab,0,none⟩)],.r 73 1 v ks.length (kindCells ks)]
end
end
section
open Go.RowKit
section
variable {w0 w:World} {ab tg cap i:Nat} {T:List Tok} {z:List Value} {r l:List It} {t t2:Tok}
theorem Sx.perm (h:Sx w0 w l) {l':List It} (hp:l.Perm l'):Sx w0 w l':=
 ⟨h.kept,fun p hq=>h.it p (hp.mem_iff.2 hq),(hp.pairwise_iff (fun hab g hg e=>hab g e hg)).1 h.nd⟩
theorem GL.mk (h:Sx w0 w (AL ab tg cap T i z r)) (most:Nat) {t1 t2 t3:TypeId}:Sx w0 (((w.alloc (.cells #[.pointer (some ⟨ab,0,none⟩)] t1)).alloc (.cells #[.int .i64 (most:Nat)] t2)).alloc (.cells #[.slice none 0 0] t3)) (AL ab tg cap T i z (GL (w.heap.size+1+1) (w.heap.size+1) w.heap.size ab (.slice none 0 0) most []++r)):=by
 have h1:=(((h.new #[.pointer (some ⟨ab,0,none⟩)] t1).new #[.int .i64 (most:Nat)] t2).new #[.slice none 0 0] t3).nil 73 1
 simp only[World.size_alloc] at h1
 refine h1.perm ?_
 simp only[AL,GL,List.cons_append,List.nil_append,List.append_assoc]
 refine List.Perm.cons _ (List.Perm.cons _ ?_)
 refine(List.perm_append_comm).trans ?_
 simp only[List.cons_append,List.nil_append]
 refine(List.Perm.cons _ (List.Perm.swap _ _ _)).trans ?_
 refine(List.Perm.swap _ _ _).trans ?_
 exact List.Perm.cons _ (List.Perm.swap _ _ _)
theorem GL.drop {gb mb xb most:Nat} {ks:List Nat} {v:Value} (h:Sx w0 w (AL ab tg cap T i z (GL gb mb xb ab v most ks++r))):Sx w0 w (AL ab tg cap T i z (r++[.r 73 1 v ks.length (kindCells ks)])):=by
 refine Sx.perm (l:=.b ab (.slice (some ⟨tg,0,none⟩) T.length cap::.int .i64 (i:Nat)::z)::.r 144 3 (.slice (some ⟨tg,0,none⟩) T.length cap) T.length (T.flatMap tokCells)::.r 73 1 v ks.length (kindCells ks)::r) (h.sub ?_) ?_
 ·simp only[AL,GL,List.cons_append,List.nil_append]
  exact List.Sublist.cons_cons _ (List.Sublist.cons_cons _ (List.Sublist.cons _ (List.Sublist.cons _ (List.Sublist.cons _ (List.Sublist.refl _)))))
 ·exact List.Perm.cons _ (List.Perm.cons _ (List.perm_append_comm (l₁:=[_])))
theorem enters_groupsIn:Enters 133:=enters_of Tryz.func133 (by kernel_rfl) (by kernel_rfl)
end
end
section
open Go.RowKit
section
variable {w0 w:World} {ab:Nat} {l:List It}
theorem midB (a:List It) (x:It) (b:List It):(a++x::b)[a.length]?=some x:=by simp
theorem midB1 (a:List It) (x y:It) (b:List It):(a++x::y::b)[a.length+1]?=some y:=by simp
theorem midB2 (a:List It) (x y u:It) (b:List It):(a++x::y::u::b)[a.length+2]?=some u:=by simp
theorem midB3 (a:List It) (x y u v:It) (b:List It):(a++x::y::u::v::b)[a.length+3]?=some v:=by simp
theorem setB (a:List It) (x y:It) (b:List It):(a++x::b).set a.length y=a++y::b:=by simp
theorem setB1 (a:List It) (x y v:It) (b:List It):(a++x::y::b).set (a.length+1) v=a++x::v::b:=by
 rw[List.set_append_right _ _ (by omega)];simp
end
end
end Go.Proofs.YtkmofapihggjgaaGreatDoor
