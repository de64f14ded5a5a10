import Derived.Test.YtmakegimhdchpaaGreatX28
namespace Go.Proofs.YtmakegimhdchpaaGreat
set_option maxHeartbeats 200000
open Go.RowKit Go.Proofs.Tryz
section
variable {m:RM} {c:FC} {i:fA} {Z:FS}
theorem tu{r:Nat×Nat}{many:Nat}(h:(fu r many Z).err=none):r.1<many/\fu r many Z=Z:=by
 unfold fu at h ⊢;by_cases hc:many<=r.1
 .rw[if_pos hc] at h;exact absurd h (Fh _ _)
 rw[if_neg hc];exact⟨qo,rfl⟩
theorem NP{many:Nat}:∀(l:List (Nat×Nat)) {Z:FS},(l.foldl (fun s r=>fu r many s) Z).err=none->(∀r∈l,r.1<many)/\l.foldl (fun s r=>fu r many s) Z=Z
 | [],_,_=>⟨qs,rfl⟩
 | r::l,Z,h=>by
  rw[List.foldl_cons] at h ⊢;obtain⟨U,L⟩:=NP l h;rw[L] at h ⊢;obtain⟨h3,h4⟩:=tu h;refine⟨fun q hq=>?_,h4⟩;simp at hq;rcases hq with rfl | hq
  .exact h3
  exact U q hq
structure agT(m:RM)(c:FC)(i:fA)(Z:FS):Prop where
 same:eY m c i Z=Z
 blk:i.op=2\/i.op=3\/i.op=4->i.dH=2->i.xn.toNat<m.dm.length
 br:i.op=12\/i.op=13\/i.op=14->i.xn.toNat<Z.opn.length/\∀r∈i.dF,r.1<Z.opn.length
 call:i.op=16->i.xn.toNat<m.tys.length
 ind:i.op=17->i.xn.toNat<m.dm.length
 loc:32<=i.op/\i.op<=34->i.xn.toNat<c.kinds.size
 glb:35<=i.op/\i.op<=36->i.xn.toNat<m.dB.length
theorem aeQ(h:(eY m c i Z).err=none):agT m c i Z:=by
 have f:eY m c i Z=lS m c i Z:=by
  unfold eY at h ⊢;split
  .rename_i hc;rw[if_pos hc] at h;exact absurd h (Fh _ _)
  rfl
 have U:(lS m c i Z).err=none:=by rw[<-f];exact h
 unfold lS at f U;by_cases e:i.op=2\/i.op=3\/i.op=4
 .rw[if_pos e] at f U;by_cases g:i.dH=2
  .rw[if_pos g] at f U;obtain⟨a,b⟩:=tu U;exact⟨f.trans b,fun _ _=>a,fun d=>qo,fun d=>qo,fun d=>qo,fun d=>qo,fun d=>qo⟩
  rw[if_neg g] at f;exact⟨f,fun _ d=>absurd d g,fun d=>qo,fun d=>qo,fun d=>qo,fun d=>qo,fun d=>qo⟩
 rw[if_neg e] at f U;by_cases j:i.op=12\/i.op=13\/i.op=14
 .rw[if_pos j] at f U;obtain⟨a,b⟩:=tu U;rw[b] at f U;obtain⟨p,q⟩:=NP _ U;exact⟨f.trans q,fun d=>absurd d e,fun _=>⟨a,p⟩,fun d=>qo,fun d=>qo,fun d=>qo,fun d=>qo⟩
 rw[if_neg j] at f U;by_cases k:i.op=16
 .rw[if_pos k] at f U;obtain⟨a,b⟩:=tu U;exact⟨f.trans b,fun d=>absurd d e,fun d=>absurd d j,fun _=>a,fun d=>qo,fun d=>qo,fun d=>qo⟩
 rw[if_neg k] at f U;by_cases n:i.op=32\/i.op=33\/i.op=34
 .rw[if_pos n] at f U;obtain⟨a,b⟩:=tu U;exact⟨f.trans b,fun d=>absurd d e,fun d=>absurd d j,fun d=>absurd d k,fun d=>qo,fun _=>a,fun d=>qo⟩
 rw[if_neg n] at f U;by_cases o:i.op=35\/i.op=36
 .rw[if_pos o] at f U;obtain⟨a,b⟩:=tu U;exact⟨f.trans b,fun d=>absurd d e,fun d=>absurd d j,fun d=>absurd d k,fun d=>qo,fun d=>qo,fun _=>a⟩
 rw[if_neg o] at f U;by_cases l:i.op=17
 .rw[if_pos l] at f U;obtain⟨a,b⟩:=tu U;rw[b] at f U;refine⟨f.trans ?_,fun d=>absurd d e,fun d=>absurd d j,fun d=>absurd d k,fun _=>a,fun d=>qo,fun d=>qo⟩;by_cases g:m.table.isSome=true
  .rw[if_pos g]
  rw[if_neg g] at U;exact absurd U (Fh _ _)
 rw[if_neg l] at f;exact⟨f,fun d=>absurd d e,fun d=>absurd d j,fun d=>absurd d k,fun d=>absurd d l,fun d=>qo,fun d=>qo⟩
end
structure abb(r:RM):Prop where
 ahx:r.dw.length<=1000/\r.dB.length<=1000
 what:∀e∈r.dw,e.what<=3
 elems:r.elems.length<=1000/\∀p∈r.elems,p.funcs.length<=1000
 data:r.data.length<=1000/\∀p∈r.data,p.funcs.length<=1000
 T8:∀k,(gy r.dm k).1.size<=8/\(gy r.dm k).2.size<=8
section
variable {α β:Type} {s:qS} {m:fE} {r:RM} {N:Nat}
theorem nD.mem{R:α->β->Prop}{xs:List α}{ys:List β}(h:nD R xs ys){y:β}(hy:y∈ys):∃x,x∈xs/\R x y:=by
 obtain⟨k,X,c⟩:=List.getElem_of_mem hy;obtain⟨U,L⟩ | ⟨a,b,U,L,h3⟩:=h.get k
 .rw[List.getElem?_eq_getElem X] at L;cases L
 rw[List.getElem?_eq_getElem X,c] at L;cases L;exact⟨a,List.mem_of_getElem? U,h3⟩
theorem af5(h:uN s m r)(c:mK N m):abb r:=by
 refine⟨⟨?_,?_⟩,fun e f=>?_,⟨?_,fun p hp=>?_⟩,⟨?_,fun p hp=>?_⟩,fun k=>?_⟩
 .rw[<-h.dw.1];have:=c.dw.1;omega
 .rw[<-h.dB.1];have:=c.dB.1;omega
 .obtain⟨x,hx,hr⟩:=h.dw.mem f;rw[<-hr.2.2.1];exact(c.dw.2 x hx).2.2
 .rw[<-h.elems.1];have:=c.elems.1;omega
 .obtain⟨x,hx,hr⟩:=h.elems.mem hp;rw[<-hr.2.2.1];have:=(c.elems.2 x hx).2.2.1;omega
 .rw[<-h.data.1];have:=c.data.1;omega
 .obtain⟨x,hx,hr⟩:=h.data.mem hp;rw[hr.2.2.2];exact qZ
 unfold gy;rw[List.getD_eq_getElem?_getD];obtain⟨U,L⟩ | ⟨a,b,U,L,h3⟩:=h.dm.get k
 .rw[L];exact⟨qZ,qZ⟩
 rw[L];have d:=c.dm.2 a (List.mem_of_getElem? U);show b.1.size<=8/\b.2.size<=8;rw[h3.1.size,h3.2.size];exact⟨d.1,Nat.le_trans d.2 qo⟩
theorem aaq(s:qS)(hb:(dR s).2.bad=none):abb (dR s).1:=by
 rcases a:nO s with e|q
 .exact absurd (hb.symm.trans (QC a)) qs
 exact af5 (m:=q.1) (EP a).2.1 (DI a).1
end
end Go.Proofs.YtmakegimhdchpaaGreat
