import Derived.Test.YtkmofapihggjgaaGreatDoorX0
namespace Go.Proofs.YtkmofapihggjgaaGreatDoor
section
open Go.RowKit
def toksGo (s:ByteArray):Nat→Nat→List Tok
 | 0,_=>[]
 | f+1,i=>if(nextM s i).1.1=0∨(nextM s i).1.1=1 then[(nextM s i).1] else(nextM s i).1::toksGo s f (nextM s i).2
def toksM (s:ByteArray):List Tok:=toksGo s (s.size+1) 0
def tokCells (t:Tok):List Value:=[.int .u8 (t.1:Nat),.int .i64 (t.2.1:Nat),.string t.2.2]
theorem quoGo_le (s:ByteArray):∀f k acc,k≤s.size→k≤(quoGo s f k acc).2∧(quoGo s f k acc).2≤s.size
 | 0,k,acc,h=>⟨Nat.le_refl _,h⟩
 | f+1,k,acc,h=>by
  rw[quoGo]
  split
  ·rename_i c
   split
   ·simp only;omega
   ·split
    ·have:=quoGo_le s f (k+1) (acc++[bt s k]) (by omega)
     omega
    ·simp only;omega
  ·simp only;omega
theorem nextM_le {s:ByteArray} {i:Nat} (hi:i≤s.size):(nextM s i).2≤s.size∧(¬((nextM s i).1.1=0∨(nextM s i).1.1=1)→i<(nextM s i).2):=by
 obtain⟨h1,h2⟩:=skM_le hi
 unfold nextM
 simp only
 split
 ·exact⟨h2,fun c=>absurd (.inr rfl) c⟩
 ·rename_i h0
  have h3:skM s i<s.size:=by omega
  split
  ·simp only;exact⟨h3,fun _=>by omega⟩
  ·split
   ·simp only;exact⟨h3,fun _=>by omega⟩
   ·split
    ·have:=quoGo_le s (s.size - skM s i) (skM s i+1) [] h3
     simp only[quoM]
     exact⟨this.2,fun _=>by omega⟩
    ·split
     ·rename_i hw
      have h4:=wordEnd_step h3 hw
      have h5:=wordEnd_le (s:=s) (i:=skM s i+1) h3
      simp only
      exact⟨by omega,fun _=>by omega⟩
     ·exact⟨h2,fun c=>absurd (.inl rfl) c⟩
theorem toksGo_fuel {s:ByteArray}:∀{f g i:Nat},i≤s.size→s.size+1 - i≤f∧s.size+1 - i≤g→toksGo s f i=toksGo s g i
 | 0,g,i,hi,h=>by omega
 | f+1,0,i,hi,h=>by omega
 | f+1,g+1,i,hi,h=>by
  rw[toksGo,toksGo]
  split
  ·rfl
  ·rename_i c
   obtain⟨h1,h2⟩:=nextM_le hi
   have h3:=h2 c
   rw[toksGo_fuel (f:=f) (g:=g) h1 (by omega)]
theorem Tryz.info144:(Tryz.prog.info? 144).map (fun i=>(i.zero,i.size,i.bytes))=some (some (.agg #[.int .u8 0,.int .i64 0,.string ⟨#[]⟩]),3,32):=by kernel_rfl
theorem Sto.toS {S:Nat→Prop} {w0 w w':World} {l:List (Nat×List Value)} (h:Sto w0 w l) (hk:Kept S w w') (hs:∀p∈l,¬S p.1) (h0:∀k,k<w0.heap.size→¬S k):Sto w0 w' l:=
 ⟨h.kept.fresh hk (fun i hi c=>h0 i hi c),fun p hp=>⟨⟨(h.blk p hp).1.1,Nat.lt_of_lt_of_le (h.blk p hp).1.2 hk.size⟩,(h.blk p hp).2.kept hk (h.blk p hp).1.2 (hs p hp)⟩,h.nd⟩
set_option maxRecDepth 100000 in
set_option maxHeartbeats 3200000 in
theorem tkNew_any (s:ByteArray) (ht:TameT s) (w:World):
  Calls Tryz.prog 34 #[.string s] w fun e w'=>∃v,e=.returned (.agg #[v,.int .i64 0])∧Kept (fun _=>False) w w'∧Row (fun g=>w.heap.size≤g) w' 144 3 v (toksM s).length ((toksM s).flatMap tokCells):=by
 obtain⟨i0,hi0,hz0,hz1,hz2⟩:=info_parts Tryz.info144
 have hs:=ht.size
 have HT:=hide ht
 clear ht
 go_enter Tryz.func34,Tryz.ntmps34
 go_wp2
 have hS:Sto w ((w.alloc (.cells #[.slice none 0 0,.int .i64 0] 102)).alloc (.cells #[.slice none 0 0,.int .i64 0] 102)) [(w.heap.size,[.slice none 0 0,.int .i64 0]),(w.heap.size+1,[.slice none 0 0,.int .i64 0])]:=by
  have:=((Sto.start w).new #[.slice none 0 0,.int .i64 0] 102).new #[.slice none 0 0,.int .i64 0] 102
  simpa using this
 obtain⟨cb,hcb⟩:∃cb,cb=w.heap.size:=⟨_,rfl⟩
 obtain⟨rb,hrb⟩:∃rb,rb=cb+1:=⟨_,rfl⟩
 rw[←hcb,←hrb] at hS
 rw[←hcb,←hrb]
 generalize ((w.alloc (.cells #[.slice none 0 0,.int .i64 0] 102)).alloc (.cells #[.slice none 0 0,.int .i64 0] 102))=W at*
 have HCB:=hide hcb
 have HRB:=hide hrb
 clear hcb hrb
 go_loopw [4] (fun q wr=>∃(i:Nat) (acc:List Tok) (v:Value),i≤s.size∧acc.length≤i∧q=.int .i64 (i:Nat)∧Sto w wr [(cb,[.slice none 0 0,.int .i64 0]),(rb,[v,.int .i64 0])]∧Row (fun g=>rb<g) wr 144 3 v acc.length (acc.flatMap tokCells)∧toksM s=acc++toksGo s (s.size+1 - i) i) (fun q _=>s.size+1 - (intOf q).toNat)
 case atStart=>exact⟨0,[],_,Nat.zero_le _,Nat.zero_le _,by simp,hS,Row.nil _ _ _ _,rfl⟩
 case round=>
  obtain⟨i,acc,v,hi,hl,rfl,hS1,hrow,hme⟩:=hrel
  obtain⟨pv,cv,rfl⟩:=Row.shape hrow
  have HE:=hide hme
  have HS1:=hide hS1
  have HR:=hide hrow
  have hlr:=hS1.lt 1
  clear hS hme hS1 hrow
  go_wp2_with fail
  refine(next_any s i hi HT.out _).mono ?_
  rintro e w2 ⟨rfl,hk2⟩
  obtain⟨hj,hij⟩:=nextM_le hi
  obtain⟨⟨⟨x,y,z⟩,j⟩,hn⟩:∃q,nextM s i=q:=⟨_,rfl⟩
  have HN:=hide hn
  rw[hn] at hj hij ⊢
  unfold tokV
  simp only at hj hij ⊢
  have h2:=(HS1.out.new #[.int .u8 0,.int .i64 0,.string ⟨#[]⟩] 144).to hk2
  have h3:=((h2.set 2 0 (.int .u8 (x:Nat))).set 2 1 (.int .i64 (y:Nat))).set 2 2 (.string z)
  have k3:Kept (fun k=>k=wr.heap.size) wr (((w2.setCell ⟨wr.heap.size,0,none⟩ (.int .u8 (x:Nat))).setCell ⟨wr.heap.size,1,none⟩ (.int .i64 (y:Nat))).setCell ⟨wr.heap.size,2,none⟩ (.string z)):=by
   have k0:Kept (fun k=>k=wr.heap.size) wr w2:=((Kept.refl _ _).alloc _).trans (hk2.mono (fun _ _ c=>c.elim))
   exact((k0.setCell (p:=⟨wr.heap.size,0,none⟩) (fun _=>rfl) _).setCell (p:=⟨wr.heap.size,1,none⟩) (fun _=>rfl) _).setCell (p:=⟨wr.heap.size,2,none⟩) (fun _=>rfl) _
  have r3:=Row.kept HR.out k3 (fun g hg _ (e:g=wr.heap.size)=>by omega)
  obtain⟨a0,b0⟩:=h2.c 2 0
  obtain⟨a1,b1⟩:=h2.c 2 1
  obtain⟨a2,b2⟩:=h2.c 2 2
  have a5:=h2.lt 2
  obtain⟨d0,g0⟩:=h3.c 1 0
  obtain⟨e0,-⟩:=h3.c 2 0
  obtain⟨e1,-⟩:=h3.c 2 1
  obtain⟨e2,-⟩:=h3.c 2 2
  have hz3:=h3.lt 1
  have hz4:=h3.lt 2
  have HOwn:=hide (Row.alloc r3 (.cells #[.int .u8 (x:Nat),.int .i64 (y:Nat),.string z] 144)).own
  have H3:=hide h3
  have R3:=hide r3
  have HK:=hide k3
  clear h2 h3 r3 k3 hn hk2
  go_wp2_with (at_builtin;refine wpList_append_lies _ rfl _ _ 100 rfl 0 144 i0 (.agg #[.int .u8 0,.int .i64 0,.string ⟨#[]⟩]) 3 32 (by kernel_rfl) hi0 hz0 hz1 hz2 rfl (by decide) _ _ _ rfl HOwn.out ⟨_,0,none⟩ 1 1 [_,_,_] rfl rfl (cells_at (by simp) rfl) ?c2 (by omega) ?c3 ?c4 (Nat.zero_le _) (w2.heap.size+1) (by simp) ?_)
  case c2=>exact⟨rfl,rfl,rfl⟩
  case c3=>unfold maxLen;omega
  case c4=>omega
  intro gg cap w3 hown3 hgrow hat hlt3
  have hob:∀g,(Value.slice pv acc.length cv).ownBlock=some g→rb<g∧g<wr.heap.size:=fun g hh=>⟨R3.out.at_ _ hh,(HR.out.own.lt g hh).2⟩
  have hc0:=HCB.out
  have hr0:=HRB.out
  have h5:=(H3.out.alloc (.cells #[.int .u8 (x:Nat),.int .i64 (y:Nat),.string z] 144)).toS (Kept.of_grown hgrow) (fun p hp c=>by
   have:=hob _ c
   simp at hp
   rcases hp with rfl | rfl | rfl<;>simp at this<;>omega) (fun k hk c=>by have:=hob _ c;omega)
  have r5:Row (fun g=>rb<g) w3 144 3 (.slice (some ⟨gg,0,none⟩) (acc.length+1) cap) (acc++[(x,y,z)]).length ((acc++[(x,y,z)]).flatMap tokCells):=by
   refine⟨by simpa [tokCells] using hown3,fun g hg=>?_⟩
   simp[Value.ownBlock] at hg
   subst hg
   rcases hat with hh | hh
   ·exact(hob _ hh).1
   ·have:=HK.out.size;simp at this;omega
  have h6:=h5.set 1 0 (.slice (some ⟨gg,0,none⟩) (acc.length+1) cap)
  have r6:=Row.other r5 (g:=rb) (o:=0) (fun k hk=>by omega) (.slice (some ⟨gg,0,none⟩) (acc.length+1) cap)
  obtain⟨p0,s0⟩:=h5.c 1 0
  have hz5:=h5.lt 1
  obtain⟨q0,-⟩:=h6.c 2 0
  obtain⟨v0,-⟩:=h6.c 1 0
  obtain⟨v1,-⟩:=h6.c 1 1
  obtain⟨m0,n0⟩:=h6.c 0 0
  obtain⟨m1,n1⟩:=h6.c 0 1
  have hz6:=h6.lt 0
  have h7:=(h6.set 0 0 (.slice (some ⟨gg,0,none⟩) (acc.length+1) cap)).set 0 1 (.int .i64 0)
  obtain⟨y0,-⟩:=h7.c 0 0
  obtain⟨y1,-⟩:=h7.c 0 1
  have H6:=hide h6
  have R6:=hide r6
  have H7:=hide h7.kept
  clear hown3 hgrow hat h5 h6 r5 r6 h7 a0 a1 a2 b0 b1 b2 d0 g0 e0 e1 e2 hc0 hr0
  have hstop:x=0∨x=1→toksM s=acc++[(x,y,z)]:=fun c=>by
   rw[HE.out,show s.size+1 - i=s.size - i+1 by omega,toksGo,if_pos (by rw[HN.out];exact c),HN.out]
  have hgo:¬(x=0∨x=1)→toksM s=acc++[(x,y,z)]++toksGo s (s.size+1 - j) j:=fun c=>by
   rw[HE.out,show s.size+1 - i=s.size - i+1 by omega,toksGo,if_neg (by rw[HN.out];exact c),HN.out]
   simp only[List.append_assoc,List.cons_append,List.nil_append]
   rw[toksGo_fuel (f:=s.size - i) (g:=s.size+1 - j) hj (by have:=hij c;omega)]
  by_cases hx0:x=0
  ·have tx:((x:Int)==0)=true:=by simp[hx0]
   have HF:=hide (hstop (.inl hx0))
   clear hx0 hstop hgo hij
   go_wp2
   refine bodyPost_ret (v:=.agg #[.slice (some ⟨gg,0,none⟩) (acc.length+1) cap,.int .i64 0]) ?_ rfl ?_
   ·simp[results,Tryz.results34,go_sem,y0,y1]
   ·refine⟨_,rfl,H7.out,?_⟩
    rw[HF.out]
    have r7:=Row.other (Row.other R6.out (g:=cb) (o:=0) (fun k hk=>by have:=HRB.out;omega) (.slice (some ⟨gg,0,none⟩) (acc.length+1) cap)) (g:=cb) (o:=1) (fun k hk=>by have:=HRB.out;omega) (.int .i64 0)
    exact Row.mono r7 (fun g _ hg=>by have:=HRB.out;have:=HCB.out;omega)
  ·have tx:((x:Int)==0)=false:=by simp;omega
   by_cases hx1:x=1
   ·have ty:((x:Int)==1)=true:=by simp[hx1]
    have HF:=hide (hstop (.inr hx1))
    clear hx0 hx1 hstop hgo hij
    go_wp2
    refine bodyPost_ret (v:=.agg #[.slice (some ⟨gg,0,none⟩) (acc.length+1) cap,.int .i64 0]) ?_ rfl ?_
    ·simp[results,Tryz.results34,go_sem,y0,y1]
    ·refine⟨_,rfl,H7.out,?_⟩
     rw[HF.out]
     have r7:=Row.other (Row.other R6.out (g:=cb) (o:=0) (fun k hk=>by have:=HRB.out;omega) (.slice (some ⟨gg,0,none⟩) (acc.length+1) cap)) (g:=cb) (o:=1) (fun k hk=>by have:=HRB.out;omega) (.int .i64 0)
     exact Row.mono r7 (fun g _ hg=>by have:=HRB.out;have:=HCB.out;omega)
   ·have ty:((x:Int)==1)=false:=by simp;omega
    have HF:=hide (hgo (by omega))
    have hij2:=hij (by omega)
    clear hx0 hx1 hstop hgo hij
    go_wp2
    go_roundw
    case rel=>exact⟨j,acc++[(x,y,z)],_,hj,by simp;omega,rfl,H6.out.rm 2,by simpa using R6.out,HF.out⟩
    case measure=>simp[intOf];omega
end
end Go.Proofs.YtkmofapihggjgaaGreatDoor
