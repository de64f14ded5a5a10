import Derived.Test.YtkmofapihggjgaaGreatDoorX19
namespace Go.Proofs.YtkmofapihggjgaaGreatDoor
section
open Go.RowKit
theorem Tryz.info92':(Tryz.prog.info? 92).map (fun i=>(i.zero,i.size,i.bytes))=some (some (.agg #[.slice none 0 0,.nilFunc]),2,32):=by kernel_rfl
theorem Tryz.info139':(Tryz.prog.info? 139).map (fun i=>(i.zero,i.size,i.bytes))=some (some (.agg #[.int .i64 0,.slice none 0 0]),2,32):=by kernel_rfl
theorem useT_len {b:Bool} {T:List Tok} {f:Bk} {x:UseR×Bk} (hT:TW T) (hi:f.m.i<T.length) (h:useT b T f=.ok x) (ht:∀y∈f.m.ty,y.1.length≤50∧y.2.length≤50):x.1.a.length≤50:=by
 cases hx:x.1.told with
 | false=>have:=(useT_le hT h hi).2.2.2.2.2 hx;omega
 | true=>
  unfold useT at h
  split at h
  ·split at h
   ·cases h
   ·split at h
    ·cases h
    ·split at h
     ·cases h
     ·cases h
      dsimp only
      split
      ·have key:∀k,(tyAt f.m.ty k).1.length≤50:=fun k=>by
        unfold tyAt
        rw[List.getD_eq_getElem?_getD]
        cases hy:f.m.ty[k]? with
        | none=>simp
        | some y=>exact(ht y (List.mem_of_getElem? hy)).1
       exact key _
      ·simp
  ·split at h
   ·cases h
   ·cases h
    cases hx
theorem AG.tylen {g:Gh} {v:VS} {s:MS} {tl:List It} (h:AG g v s tl):∀y∈s.ty,y.1.length≤50∧y.2.length≤50:=by
 intro y hy
 rw[h.ty] at hy
 obtain⟨x,hx,rfl⟩:=List.mem_map.1 hy
 exact(h.tyr x hx).2.2
theorem AG.addFn {g:Gh} {v v':VS} {m:MS} {tl tl':List It} {ks:List Nat} {al:List InsT} {nm:List Nam} {n bb:Nat} {u a nv:Value} {gi:List (InsT×Value×Value)} (h:AG g v m tl) (hs:∀p∈tl,p∈tl') (h1:v'.xty=v.xty) (h2:v'.xel=v.xel) (h3:v'.xco=v.xco++coV ((ks,al),(u,bb,a,gi))) (h4:v'.xlo=v.xlo++loV ((n,nm),nv))
  (hc:CoIn tl' ((ks,al),(u,bb,a,gi))) (hn:HasR tl' 135 2 nv nm.length (nm.flatMap namCells)∧nm.length≤1000) (hco:m.co.length+1≤m.i) (hlo:m.lo.length+1≤m.i):
  AG {g with co:=g.co++[((ks,al),(u,bb,a,gi))],lo:=g.lo++[((n,nm),nv)]} v' {m with co:=m.co++[(ks,al)],lo:=m.lo++[(n,nm)]} tl':=by
 have h5:=h.mono hs
 refine {h5 with
  tyv:=h1.trans h5.tyv
  elv:=h2.trans h5.elv
  co:=by simp[h5.co]
  cov:=by rw[h3,h5.cov];simp
  cor:=fun x hx=>?_
  lo:=by simp[h5.lo]
  lov:=by rw[h4,h5.lov];simp
  lor:=fun x hx=>?_
  con:=by simp only[List.length_append,List.length_singleton];exact hco
  lon:=by simp only[List.length_append,List.length_singleton];exact hlo}
 ·rcases List.mem_append.1 hx with hx | hx
  ·exact h5.cor x hx
  ·cases List.mem_singleton.1 hx
   exact hc
 ·rcases List.mem_append.1 hx with hx | hx
  ·exact h5.lor x hx
  ·cases List.mem_singleton.1 hx
   exact hn
section
variable {w0 w:World} {ab tg cap mw mb:Nat} {T:List Tok} {v:VS} {s:MS} {tl X:List It} {g:Gh}
theorem LA.perm {tl':List It} (h:Sx w0 w (LA ab tg cap mw mb T v s tl)) (hp:tl.Perm tl'):Sx w0 w (LA ab tg cap mw mb T v s tl'):=by
 refine h.perm ?_
 show List.Perm (_::_::_::_::_::_::_::_::_::_::_::_::_::_::_::_::_::_::_::_::_::_::tl) (_::_::_::_::_::_::_::_::_::_::_::_::_::_::_::_::_::_::_::_::_::_::tl')
 iterate 22 refine List.Perm.cons _ ?_
 exact hp
set_option maxRecDepth 100000 in
set_option maxHeartbeats 12800000 in
theorem asFunction_all (h:Sx w0 w (LA ab tg cap mw mb T v s (X++tl))) (hA:AG g v s tl) (h20:s.ty.length≤20) (hL:SL 2 s) (hg:Ge w0) (hd:Gd w0) (hT:TW T) (hi:s.i<T.length):
  Calls Tryz.prog 89 #[.pointer (some ⟨ab,0,none⟩)] w (OutX w0 (fnT T s) fun s' e w'=>e=.returned (.tuple #[])∧s'.i<T.length∧∃g' v' tl',AG g' v' s' tl'∧s'.ty.length≤20∧Sx w0 w' (LA ab tg cap mw mb T v' s' (X++tl'))):=by
 obtain⟨pF,cF,hF⟩:=Row.shape (h.isRow 12 rfl)
 obtain⟨a9,-⟩:=h.c 0 9 rfl rfl
 obtain⟨m1,-⟩:=h.c 10 1 (v:=.slice pF s.fu.length cF) rfl (congrArg some hF)
 have l0:=h.lt 0 rfl
 have l1:=h.lt 10 rfl
 have H:=hide h
 have HA:=hide hA
 have HL:=hide hL
 have HG:=hide hg
 have HD:=hide hd
 have HI:Hid (s.i<T.length∧s.ty.length≤20):=⟨hi,h20⟩
 clear h hA hL hg hd hi h20 hF
 go_enter Tryz.func89,Tryz.ntmps89
 go_wp2_with fail
 refine(asDeclare_fF H.out hT.toTT HI.out.1 s.fu.length (by have:=HA.out.fF;have:=HI.out.1;have:=hT.few;omega) (by have:=HA.out.no;have:=HI.out.1;have:=hT.few;omega)).mono ?_
 rintro e w1 ⟨rfl,q1,q,h1⟩
 obtain⟨d,hd⟩:∃d,d=declT T s.fF s.fu.length s.i:=⟨_,rfl⟩
 have hdl:=declT_len (ns:=s.fF) (n:=s.fu.length) hT HI.out.1
 have hdt:=declT_lt (ns:=s.fF) (n:=s.fu.length) HI.out.1
 have hdm:=fun y=>declT_mem (T:=T) (ns:=s.fF) (n:=s.fu.length) (i:=s.i) (x:=y)
 rw[←hd] at h1 hdl hdt hdm ⊢
 have HM:Hid (fnT T s=(bnd (useT true T ⟨{s with i:=d.2.2.1,fF:=d.2.1,no:=s.no++d.2.2.2},[],[],[]⟩) fun x=>
  bnd (if x.1.told=true then .ok (x.1.ix,x.2.m) else tixT T x.2.m (x.1.a,x.1.b)) fun y=>
  bnd (gnT T ⟨#[108,111,99,97,108]⟩ 50 x.1.a.length (T.length - y.2.i) [] x.2.nm y.2.no y.2.i) fun z=>
  bnd (RT T (3*T.length+2) 0 0 {x.2 with nm:=z.1.2.1,m:={y.2 with fu:=y.2.fu++[y.1],i:=z.2,no:=z.1.2.2}}) fun f3=>
  .ok {f3.m with co:=f3.m.co++[(z.1.1,f3.al++[insB 11])],lo:=f3.m.lo++[(s.fu.length,f3.nm)]})):=by show _=_;unfold fnT;rw[←hd]
 have hag:AG g {v with fF:=q1,no:=q} {s with i:=d.2.2.1,fF:=d.2.1,no:=s.no++d.2.2.2} tl:=by
  have h2:=HA.out.on (v':={v with fF:=q1,no:=q}) ⟨rfl,rfl,rfl,rfl⟩ (j:=d.2.2.1) (no:=s.no++d.2.2.2) hdl.2.2 (by rw[List.length_append];have:=HA.out.no;omega)
  refine {h2 with fF:=by show d.2.1.length≤d.2.2.1;have:=HA.out.fF;omega,fFx:=fun x hx=>?_}
  rcases hdm x hx with c | c
  ·exact HA.out.fFx x c
  ·have:=HA.out.fu
   have:=HI.out.1
   have:=hT.few
   omega
 have hff:FF w0 ab tg cap mw mb w1.heap.size T 2 ⟨{s with i:=d.2.2.1,fF:=d.2.1,no:=s.no++d.2.2.2},[],[],[]⟩ X (w1.alloc (.cells #[.pointer (some ⟨ab,0,none⟩),.slice none 0 0,.slice none 0 0,.slice none 0 0] 176)):=by
  refine⟨hdt,g,{v with fF:=q1,no:=q},⟨.slice none 0 0,.slice none 0 0,.slice none 0 0,[]⟩,tl,⟨hag,HI.out.2,rfl,fun x hx=>by simp at hx,?_,by simp,fun x hx=>by simp at hx,by simp⟩,LF.start h1 _⟩
  have:=HL.out.fu
  show 0+2≤d.2.2.1
  omega
 have HFI:Hid (s.i≤d.2.2.1):=hdl.2.2
 have H1:=hide hff
 generalize (.bool d.1:Value)=bd at*
 obtain⟨f0,hf0⟩:∃f0:Bk,f0=⟨{s with i:=d.2.2.1,fF:=d.2.1,no:=s.no++d.2.2.2},[],[],[]⟩:=⟨_,rfl⟩
 have HF0:Hid (f0.m.fu=s.fu∧f0.m.co=s.co∧f0.m.lo=s.lo∧s.i≤f0.m.i∧f0.lb=[]):=by rw[hf0];exact⟨rfl,rfl,rfl,hdl.2.2,rfl⟩
 rw[←hf0] at HM H1
 clear hd hdl hdt hdm h1 hag hff H a9 m1 l0 l1 hf0 HFI
 go_upto_region 3 with fail
 generalize w1.alloc (.cells #[.pointer (some ⟨ab,0,none⟩),.slice none 0 0,.slice none 0 0,.slice none 0 0] 176)=w2 at*
 generalize w1.heap.size=fb at*
 go_wp2_with fail
 refine(use_F true H1.out HG.out hT).mono ?_
 intro e w3 h3
 cases hx:useT true T f0 with
 | error q=>
  rw[hx] at h3
  obtain⟨rfl,hk⟩:=h3
  exact⟨rfl,OutX.err_mk (by rw[HM.out,bnd_err hx]) ⟨rfl,hk⟩⟩
 | ok x=>
 have HM2:=hide (HM.out.trans (bnd_ok hx))
 have hle:=useT_le hT hx H1.out.1
 have hsm:=useT_sm hT H1.out.1 hx
 obtain⟨u,f1⟩:=x
 rw[hx] at h3
 obtain⟨pa,ca,pb,cb,rfl,h3⟩:=h3
 obtain⟨ua,ub,ut,ui⟩:=u
 simp only at h3 HM2 hle hsm ⊢
 have h4:=h3.new #[.slice pa ua.length ca,.slice pb ub.length cb,.bool ut,.int .u32 (ui:Nat)] 178
 have HLE:=hide hle
 have hul:ua.length≤50:=useT_len hT H1.out.1 hx (by obtain⟨_,_,_,_,_,ha,_⟩:=H1.out;exact ha.ag.tylen)
 have HSM:Hid (f1.m.fu=s.fu∧s.i≤f1.m.i):=by
  have e1:f1.m.fu=f0.m.fu:=by unfold Sm at hsm;rw[hsm]
  exact⟨e1.trans HF0.out.1,Nat.le_trans HF0.out.2.2.2.1 hle.1.1⟩
 have HSM2:Hid (Sm f0.m f1.m∧f1.lb=[]∧ua.length≤50):=⟨hsm,by rw[hle.2.2.2.2.1];exact HF0.out.2.2.2.2,hul⟩
 have H4:=hide h4
 clear h3 h4 hx H1 hle hsm hul HM
 go_upto_region 4 with fail
 generalize w3.alloc (.cells #[.slice pa ua.length ca,.slice pb ub.length cb,.bool ut,.int .u32 (ui:Nat)] 178)=w4 at*
 generalize w3.heap.size=uk at*
 obtain⟨i0,hi0,hz0,hz1,hz2⟩:=info_parts Tryz.info66'
 go_cut [] from 29 to 47 (fun W=>∃n m,(if ut=true then(.ok (ui,f1.m):Except Err (Nat×MS)) else tixT T f1.m (ua,ub))=.ok (n,m)∧Sm f1.m m∧m.i=f1.m.i∧FF w0 ab tg cap mw mb fb T 2 {f1 with m:={m with fu:=m.fu++[n]}} (.b uk [.slice pa ua.length ca,.slice pb ub.length cb,.bool ut,.int .u32 (ui:Nat)]::X) W)
 case first=>
  cases ut with
  | true=>
   have h5:FF w0 ab tg cap mw mb fb T 2 f1 (.b uk [.slice pa ua.length ca,.slice pb ub.length cb,.bool true,.int .u32 (ui:Nat)]::X) w4:=H4.out
   obtain⟨hi5,g5,v5,vf5,tl5,ha5,hS5⟩:=h5
   obtain⟨pF,cF,hF⟩:=Row.shape (hS5.isRow 12 rfl)
   have hS:∀(V:World) (v':VS) (f':Bk) (Y:List It) (k:Nat),v'.fu=v5.fu→Sx w0 V (LF ab tg cap mw mb fb T v' vf5 f' Y)→(LF ab tg cap mw mb fb T v' vf5 f' Y)[k]?=some (.b uk [.slice pa ua.length ca,.slice pb ub.length cb,.bool true,.int .u32 (ui:Nat)])→(fun V:World=>V.cell? ⟨ab,9,none⟩=some (.pointer (some ⟨mb,0,none⟩))∧V.cell? ⟨mb,1,none⟩=some (.slice pF f1.m.fu.length cF)∧V.cell? ⟨uk,0,none⟩=some (.slice pa ua.length ca)∧V.cell? ⟨uk,1,none⟩=some (.slice pb ub.length cb)∧V.cell? ⟨uk,2,none⟩=some (.bool true)∧V.cell? ⟨uk,3,none⟩=some (.int .u32 (ui:Nat))) V:=fun V v' f' Y k hv hV hk=>⟨(hV.c 0 9 rfl rfl).1,(hV.c 10 1 rfl rfl).1.trans (congrArg some (hv.trans hF)),(hV.c k 0 hk rfl).1,(hV.c k 1 hk rfl).1,(hV.c k 2 hk rfl).1,(hV.c k 3 hk rfl).1⟩
   have hS0:=hS _ _ _ _ 26 rfl hS5.drew rfl
   have hd5:=hS5.drew
   clear hS5 H4
   refine regK (fun V:World=>V.cell? ⟨ab,9,none⟩=some (.pointer (some ⟨mb,0,none⟩))∧V.cell? ⟨mb,1,none⟩=some (.slice pF f1.m.fu.length cF)∧V.cell? ⟨uk,0,none⟩=some (.slice pa ua.length ca)∧V.cell? ⟨uk,1,none⟩=some (.slice pb ub.length cb)∧V.cell? ⟨uk,2,none⟩=some (.bool true)∧V.cell? ⟨uk,3,none⟩=some (.int .u32 (ui:Nat))) 19 ?_
   iterate 13 refine tkk hS0 (h:=?_) (hy:=by(refine Or.inl ⟨by rfl,?_⟩;intro V hV;obtain⟨u0,u1,u2,u3,u4,u5⟩:=hV;go_simp;try with_reducible rfl))
   refine oneK (fun K hK=>?_)
   refine step_callX (f:=113) (args:= #[.pointer (some ⟨ab,0,none⟩),.agg #[.slice pa ua.length ca,.slice pb ub.length cb,.bool true,.int .u32 (ui:Nat)]]) (by rfl) (by go_simp) (typeIndex_told hd5 _ _ ui) ?_
   rintro e w5 ⟨rfl,h6⟩
   obtain⟨n,hn⟩:∃n,n=ui:=⟨_,rfl⟩
   have h7:∃g' v' tl',v'.fu=v5.fu∧FA g' 2 v' vf5 {f1 with m:=f1.m} tl'∧Sx w0 w5 (LF ab tg cap mw mb fb T v' vf5 {f1 with m:=f1.m} (.b uk [.slice pa ua.length ca,.slice pb ub.length cb,.bool true,.int .u32 (ui:Nat)]::X++tl')):=⟨g5,v5,tl5,rfl,ha5,h6⟩
   obtain⟨m,hm⟩:∃m,m=f1.m:=⟨_,rfl⟩
   have hmf:m.fu=f1.m.fu∧m.i=f1.m.i:=by rw[hm];exact⟨rfl,rfl⟩
   have HY:Hid ((if true=true then(.ok (ui,f1.m):Except Err (Nat×MS)) else tixT T f1.m (ua,ub))=.ok (ui,m)):=by show _=_;rw[hm];rfl
   have HSMM:Hid (Sm f1.m m):=by rw[hm];exact Sm.refl _
   rw[show({f1 with m:=f1.m}:Bk)={f1 with m:=m} by rw[hm]] at h7
   obtain⟨g6,v6,tl6,hv6,ha6,hS6⟩:=h7
   have HMF:=hide hmf
   refine .inl ⟨_,rfl,hK _ _ (.inr (hS _ _ _ _ 26 hv6 hS6 rfl)) ?_⟩
   clear hK K hS0 hd5
   simp only[Act.put,List.setIfInBounds_toArray,List.set_cons_zero,List.set_cons_succ]
   refine tkk (hS _ _ _ _ 26 hv6 hS6 rfl) (h:=?_)
   have h10:=hS6.alloc (.cells #[.int .u32 (ui:Nat),.int .i64 0] 66)
   refine oneK (fun K hK=>?_)
   go_simp
   refine hK _ _ (.inr (hS _ _ _ _ 26 hv6 h10 rfl)) ?_
   clear hK K
   have HOwn:=h10.row 12 rfl
   rw[hv6,hF] at HOwn
   rw[show({f1 with m:=m}:Bk).m.fu=f1.m.fu from hmf.1] at HOwn
   refine oneK (fun K hK=>?_)
   refine step_append_lies _ (by rfl) (.tmp 39) (.tmp 44) 49 (by rfl) w0.heap.size 66 i0 (.agg #[.int .u32 0,.int .i64 0]) 2 16 (by kernel_rfl) hi0 hz0 hz1 hz2 rfl (by decide) (.slice pF f1.m.fu.length cF) f1.m.fu.length (f1.m.fu.flatMap nuC) (by rfl) HOwn ⟨w5.heap.size,0,none⟩ 1 1 [.int .u32 (ui:Nat),.int .i64 0] (by rfl) rfl (cells_at (by simp) rfl) ?c2 (by omega) ?c3 ?c4 ?c5 (w5.heap.size+1) (by simp) ?_
   case c2=>intro u hu;simp at hu;rcases hu with rfl | rfl<;>rfl
   case c3=>have:=ha5.ag.fu;have:=hT.few;unfold maxLen;omega
   case c4=>have:=ha5.ag.fu;have:=hT.few;omega
   case c5=>exact h10.kept.size
   intro gg cp w6 hown hgrow hat hlt6
   have h11:=h10.app 12 (v:=v6.fu) hown (by rw[hv6,hF];exact hgrow) (by rw[hv6,hF];exact hat.imp id (fun e=>by rw[e];simp)) rfl
   have hS4:(fun V:World=>V.cell? ⟨ab,9,none⟩=some (.pointer (some ⟨mb,0,none⟩))∧V.cell? ⟨mb,1,none⟩=some (.slice pF f1.m.fu.length cF)∧V.cell? ⟨uk,0,none⟩=some (.slice pa ua.length ca)∧V.cell? ⟨uk,1,none⟩=some (.slice pb ub.length cb)∧V.cell? ⟨uk,2,none⟩=some (.bool true)∧V.cell? ⟨uk,3,none⟩=some (.int .u32 (ui:Nat))) w6:=⟨(h11.c 0 9 rfl rfl).1,(h11.c 10 1 rfl rfl).1.trans (congrArg some (hv6.trans hF)),(h11.c 26 0 rfl rfl).1,(h11.c 26 1 rfl rfl).1,(h11.c 26 2 rfl rfl).1,(h11.c 26 3 rfl rfl).1⟩
   refine hK _ _ (.inr hS4) ?_
   clear hK K
   simp only[Act.put,List.setIfInBounds_toArray,List.set_cons_zero,List.set_cons_succ]
   iterate 2 refine tkk hS4 (h:=?_)
   obtain⟨c0,c1⟩:=h11.c 10 1 rfl rfl
   have mm:=h11.lt 10 rfl
   have h13:Sx w0 (w6.setCell ⟨mb,1,none⟩ (.slice (some ⟨gg,0,none⟩) (f1.m.fu.length+1) cp)) (LF ab tg cap mw mb fb T {v6 with fu:=.slice (some ⟨gg,0,none⟩) (f1.m.fu.length+1) cp} vf5 {f1 with m:={m with fu:=m.fu++[ui]}} (.b uk [.slice pa ua.length ca,.slice pb ub.length cb,.bool true,.int .u32 (ui:Nat)]::X++tl6)):=by
    have h12:=h11.set 10 1 (.slice (some ⟨gg,0,none⟩) (f1.m.fu.length+1) cp) rfl
    simpa [LF,LA,AL,RA,ZA,FT,nuC,hmf.1] using h12
   have hff:FF w0 ab tg cap mw mb fb T 2 {f1 with m:={m with fu:=m.fu++[ui]}} (.b uk [.slice pa ua.length ca,.slice pb ub.length cb,.bool true,.int .u32 (ui:Nat)]::X) (w6.setCell ⟨mb,1,none⟩ (.slice (some ⟨gg,0,none⟩) (f1.m.fu.length+1) cp)):=by
    refine⟨by show m.i<T.length;rw[hmf.2];exact hi5,g6,{v6 with fu:=.slice (some ⟨gg,0,none⟩) (f1.m.fu.length+1) cp},vf5,tl6,⟨{ha6.ag with fu:=?_},ha6.ty20,ha6.al,ha6.ins,ha6.gi,ha6.nm,ha6.nmx,ha6.lb⟩,h13⟩
    show(m.fu++[ui]).length≤m.i
    rw[List.length_append,hmf.1,hmf.2,HSM.out.1]
    have g1:=HL.out.fu
    have g2:=HSM.out.2
    simp
    omega
   have HFF:=hide hff
   refine lastK (fun K hK=>?_)
   go_simp
   refine hK _ _ ?_
   clear hK K
   generalize w6.setCell ⟨mb,1,none⟩ (.slice (some ⟨gg,0,none⟩) (f1.m.fu.length+1) cp)=w7 at*
   clear h13 h11 h10 hff hS4 hS c0 c1 mm HOwn hown hgrow hat hlt6 hF hmf hS6 hv6 ha6 ha5 hi5
   go_wp2
   go_meet
   case rel=>exact⟨ui,m,HY.out,HSMM.out,HMF.out.2,HFF.out⟩
  | false=>
   obtain⟨rfl,hla,hlb⟩:=HLE.out.2.2.2.2.2 rfl
   try simp only at hla hlb
   have h5:FF w0 ab tg cap mw mb fb T 2 f1 (.r 73 1 (.slice pa ua.length ca) ua.length (kindCells ua)::.r 73 1 (.slice pb ub.length cb) ub.length (kindCells ub)::.b uk [.slice pa ua.length ca,.slice pb ub.length cb,.bool false,.int .u32 0]::X) w4:=H4.out.perm (by
    refine((List.Perm.swap _ _ _).trans (List.Perm.cons _ (List.Perm.swap _ _ _))))
   obtain⟨hi5,g5,v5,vf5,tl5,ha5,hS5⟩:=h5
   obtain⟨pF,cF,hF⟩:=Row.shape (hS5.isRow 12 rfl)
   have hS:∀(V:World) (v':VS) (f':Bk) (Y:List It) (k:Nat),v'.fu=v5.fu→Sx w0 V (LF ab tg cap mw mb fb T v' vf5 f' Y)→(LF ab tg cap mw mb fb T v' vf5 f' Y)[k]?=some (.b uk [.slice pa ua.length ca,.slice pb ub.length cb,.bool false,.int .u32 0])→(fun V:World=>V.cell? ⟨ab,9,none⟩=some (.pointer (some ⟨mb,0,none⟩))∧V.cell? ⟨mb,1,none⟩=some (.slice pF f1.m.fu.length cF)∧V.cell? ⟨uk,0,none⟩=some (.slice pa ua.length ca)∧V.cell? ⟨uk,1,none⟩=some (.slice pb ub.length cb)∧V.cell? ⟨uk,2,none⟩=some (.bool false)∧V.cell? ⟨uk,3,none⟩=some (.int .u32 0)) V:=fun V v' f' Y k hv hV hk=>⟨(hV.c 0 9 rfl rfl).1,(hV.c 10 1 rfl rfl).1.trans (congrArg some (hv.trans hF)),(hV.c k 0 hk rfl).1,(hV.c k 1 hk rfl).1,(hV.c k 2 hk rfl).1,(hV.c k 3 hk rfl).1⟩
   have hS0:=hS _ _ _ _ 28 rfl hS5.drew rfl
   have hd5:=hS5.drew
   clear hS5 H4
   refine regK (fun V:World=>V.cell? ⟨ab,9,none⟩=some (.pointer (some ⟨mb,0,none⟩))∧V.cell? ⟨mb,1,none⟩=some (.slice pF f1.m.fu.length cF)∧V.cell? ⟨uk,0,none⟩=some (.slice pa ua.length ca)∧V.cell? ⟨uk,1,none⟩=some (.slice pb ub.length cb)∧V.cell? ⟨uk,2,none⟩=some (.bool false)∧V.cell? ⟨uk,3,none⟩=some (.int .u32 0)) 19 ?_
   iterate 13 refine tkk hS0 (h:=?_) (hy:=by(refine Or.inl ⟨by rfl,?_⟩;intro V hV;obtain⟨u0,u1,u2,u3,u4,u5⟩:=hV;go_simp;try with_reducible rfl))
   refine oneK (fun K hK=>?_)
   refine step_callX (f:=113) (args:= #[.pointer (some ⟨ab,0,none⟩),.agg #[.slice pa ua.length ca,.slice pb ub.length cb,.bool false,.int .u32 0]]) (by rfl) (by go_simp;try rfl) (typeIndex_L (a:=ua) (b:=ub) ⟨by omega,by omega⟩ hi5 ha5 hd5) ?_
   intro e w5 h6
   cases hx:tixT T f1.m (ua,ub) with
   | error q=>
    rw[hx] at h6
    obtain⟨rfl,hk⟩:=h6
    exact .inr ⟨_,rfl,⟨rfl,OutX.err_mk (by rw[HM2.out,if_neg (by decide),hx];rfl) ⟨rfl,hk⟩⟩⟩
   | ok x=>
   obtain⟨n,m⟩:=x
   rw[hx] at h6
   obtain⟨rfl,h7⟩:=h6
   simp only at h7 ⊢
   have hts:=tixT_sm hx
   have hmf:m.fu=f1.m.fu∧m.i=f1.m.i:=by
    refine⟨?_,hts.2⟩
    have:=hts.1
    unfold Sm at this
    simp only at this
    rw[this]
   have HY:Hid ((if false=true then(.ok (0,f1.m):Except Err (Nat×MS)) else tixT T f1.m (ua,ub))=.ok (n,m)):=by show _=_;rw[if_neg (by decide),hx]
   have HSMM:Hid (Sm f1.m m):=hts.1
   clear hx hts
   obtain⟨g6,v6,tl6,hv6,ha6,hS6⟩:=h7
   have HMF:=hide hmf
   refine .inl ⟨_,rfl,hK _ _ (.inr (hS _ _ _ _ 26 hv6 hS6 rfl)) ?_⟩
   clear hK K hS0 hd5
   simp only[Act.put,List.setIfInBounds_toArray,List.set_cons_zero,List.set_cons_succ]
   refine tkk (hS _ _ _ _ 26 hv6 hS6 rfl) (h:=?_)
   have h10:=hS6.alloc (.cells #[.int .u32 (n:Nat),.int .i64 0] 66)
   refine oneK (fun K hK=>?_)
   go_simp
   refine hK _ _ (.inr (hS _ _ _ _ 26 hv6 h10 rfl)) ?_
   clear hK K
   have HOwn:=h10.row 12 rfl
   rw[hv6,hF] at HOwn
   rw[show({f1 with m:=m}:Bk).m.fu=f1.m.fu from hmf.1] at HOwn
   refine oneK (fun K hK=>?_)
   refine step_append_lies _ (by rfl) (.tmp 39) (.tmp 44) 49 (by rfl) w0.heap.size 66 i0 (.agg #[.int .u32 0,.int .i64 0]) 2 16 (by kernel_rfl) hi0 hz0 hz1 hz2 rfl (by decide) (.slice pF f1.m.fu.length cF) f1.m.fu.length (f1.m.fu.flatMap nuC) (by rfl) HOwn ⟨w5.heap.size,0,none⟩ 1 1 [.int .u32 (n:Nat),.int .i64 0] (by rfl) rfl (cells_at (by simp) rfl) ?c2 (by omega) ?c3 ?c4 ?c5 (w5.heap.size+1) (by simp) ?_
   case c2=>intro u hu;simp at hu;rcases hu with rfl | rfl<;>rfl
   case c3=>have:=ha5.ag.fu;have:=hT.few;unfold maxLen;omega
   case c4=>have:=ha5.ag.fu;have:=hT.few;omega
   case c5=>exact h10.kept.size
   intro gg cp w6 hown hgrow hat hlt6
   have h11:=h10.app 12 (v:=v6.fu) hown (by rw[hv6,hF];exact hgrow) (by rw[hv6,hF];exact hat.imp id (fun e=>by rw[e];simp)) rfl
   have hS4:(fun V:World=>V.cell? ⟨ab,9,none⟩=some (.pointer (some ⟨mb,0,none⟩))∧V.cell? ⟨mb,1,none⟩=some (.slice pF f1.m.fu.length cF)∧V.cell? ⟨uk,0,none⟩=some (.slice pa ua.length ca)∧V.cell? ⟨uk,1,none⟩=some (.slice pb ub.length cb)∧V.cell? ⟨uk,2,none⟩=some (.bool false)∧V.cell? ⟨uk,3,none⟩=some (.int .u32 0)) w6:=⟨(h11.c 0 9 rfl rfl).1,(h11.c 10 1 rfl rfl).1.trans (congrArg some (hv6.trans hF)),(h11.c 26 0 rfl rfl).1,(h11.c 26 1 rfl rfl).1,(h11.c 26 2 rfl rfl).1,(h11.c 26 3 rfl rfl).1⟩
   refine hK _ _ (.inr hS4) ?_
   clear hK K
   simp only[Act.put,List.setIfInBounds_toArray,List.set_cons_zero,List.set_cons_succ]
   iterate 2 refine tkk hS4 (h:=?_)
   obtain⟨c0,c1⟩:=h11.c 10 1 rfl rfl
   have mm:=h11.lt 10 rfl
   have h13:Sx w0 (w6.setCell ⟨mb,1,none⟩ (.slice (some ⟨gg,0,none⟩) (f1.m.fu.length+1) cp)) (LF ab tg cap mw mb fb T {v6 with fu:=.slice (some ⟨gg,0,none⟩) (f1.m.fu.length+1) cp} vf5 {f1 with m:={m with fu:=m.fu++[n]}} (.b uk [.slice pa ua.length ca,.slice pb ub.length cb,.bool false,.int .u32 0]::X++tl6)):=by
    have h12:=h11.set 10 1 (.slice (some ⟨gg,0,none⟩) (f1.m.fu.length+1) cp) rfl
    simpa [LF,LA,AL,RA,ZA,FT,nuC,hmf.1] using h12
   have hff:FF w0 ab tg cap mw mb fb T 2 {f1 with m:={m with fu:=m.fu++[n]}} (.b uk [.slice pa ua.length ca,.slice pb ub.length cb,.bool false,.int .u32 0]::X) (w6.setCell ⟨mb,1,none⟩ (.slice (some ⟨gg,0,none⟩) (f1.m.fu.length+1) cp)):=by
    refine⟨by show m.i<T.length;rw[hmf.2];exact hi5,g6,{v6 with fu:=.slice (some ⟨gg,0,none⟩) (f1.m.fu.length+1) cp},vf5,tl6,⟨{ha6.ag with fu:=?_},ha6.ty20,ha6.al,ha6.ins,ha6.gi,ha6.nm,ha6.nmx,ha6.lb⟩,h13⟩
    show(m.fu++[n]).length≤m.i
    rw[List.length_append,hmf.1,hmf.2,HSM.out.1]
    have g1:=HL.out.fu
    have g2:=HSM.out.2
    simp
    omega
   have HFF:=hide hff
   refine lastK (fun K hK=>?_)
   go_simp
   refine hK _ _ ?_
   clear hK K
   generalize w6.setCell ⟨mb,1,none⟩ (.slice (some ⟨gg,0,none⟩) (f1.m.fu.length+1) cp)=w7 at*
   clear h13 h11 h10 hff hS4 hS c0 c1 mm HOwn hown hgrow hat hlt6 hF hmf hS6 hv6 ha6 ha5 hi5
   go_wp2
   go_meet
   case rel=>exact⟨n,m,HY.out,HSMM.out,HMF.out.2,HFF.out⟩
 obtain⟨n,m,hy,hms,hmi,hFF⟩:=hcut
 have HM3:=hide (HM2.out.trans (bnd_ok hy))
 simp only at HM3
 obtain⟨f2,hf2⟩:∃f2:Bk,f2={f1 with m:={m with fu:=m.fu++[n]}}:=⟨_,rfl⟩
 have HF2:Hid (f2.m.co=s.co∧f2.m.lo=s.lo∧s.i≤f2.m.i∧f2.lb=[]):=by
  have e1:=hms
  have e2:=HSM2.out.1
  unfold Sm at e1 e2
  refine⟨?_,?_,?_,?_⟩
  ·rw[hf2];show m.co=_;rw[e1];show f1.m.co=_;rw[e2];exact HF0.out.2.1
  ·rw[hf2];show m.lo=_;rw[e1];show f1.m.lo=_;rw[e2];exact HF0.out.2.2.1
  ·rw[hf2];show s.i≤m.i;rw[hmi];exact HSM.out.2
  ·rw[hf2];exact HSM2.out.2.1
 have HM4:Hid (fnT T s=bnd (gnT T ⟨#[108,111,99,97,108]⟩ 50 ua.length (T.length - f2.m.i) [] f2.nm f2.m.no f2.m.i) fun z=>
  bnd (RT T (3*T.length+2) 0 0 {f2 with nm:=z.1.2.1,m:={f2.m with i:=z.2,no:=z.1.2.2}}) fun f3=>
  .ok {f3.m with co:=f3.m.co++[(z.1.1,f3.al++[insB 11])],lo:=f3.m.lo++[(s.fu.length,f3.nm)]}):=by show _=_;rw[HM3.out,hf2]
 rw[←hf2] at hFF
 have HFF:=hide hFF
 clear hy hms hmi hFF HM3 HM2 H4 hf2 HSM hi0 hz0 hz1 hz2
 go_wp2_with fail
 have hS0:(fun V:World=>V.cell? ⟨uk,0,none⟩=some (.slice pa ua.length ca)) wc.drew:=(HFF.out.cl 0 0).1
 refine regK (fun V:World=>V.cell? ⟨uk,0,none⟩=some (.slice pa ua.length ca)) 9 ?_
 iterate 8 refine tkk hS0 (h:=?_) (hy:=by(refine Or.inl ⟨by rfl,?_⟩;intro V hV;go_simp;try with_reducible rfl))
 refine oneK (fun K hK=>?_)
 refine step_callX (f:=114) (args:= #[.pointer (some ⟨ab,0,none⟩),.string ⟨#[108,111,99,97,108]⟩,.int .i64 50,.pointer (some ⟨fb,1,none⟩),.int .i64 (ua.length:Nat)]) (by rfl) (by go_simp;try rfl) (groups_F HFF.out.drew hT _ 50 (by omega) ua.length (by have:=HSM2.out.2.2;omega)) ?_
 intro e w5 h6
 cases hx:gnT T ⟨#[108,111,99,97,108]⟩ 50 ua.length (T.length - f2.m.i) [] f2.nm f2.m.no f2.m.i with
 | error q=>
  rw[hx] at h6
  obtain⟨rfl,hk⟩:=h6
  exact .inr ⟨_,rfl,⟨rfl,OutX.err_mk (by rw[HM4.out,bnd_err hx]) ⟨rfl,hk⟩⟩⟩
 | ok z=>
 have HM5:=hide (HM4.out.trans (bnd_ok hx))
 have hgl:=gnT_le hT hx HFF.out.1 (by simp)
 rw[hx] at h6
 obtain⟨u,rfl,h6⟩:=h6
 obtain⟨pk,ck,rfl⟩:=(h6.row 0).shape
 obtain⟨f3,hf3⟩:∃f3:Bk,f3={f2 with nm:=z.1.2.1,m:={f2.m with i:=z.2,no:=z.1.2.2}}:=⟨_,rfl⟩
 have HF3:Hid (f3.m.co=s.co∧f3.m.lo=s.lo∧s.i≤f3.m.i∧z.1.1.length≤50):=by
  rw[hf3]
  exact⟨HF2.out.1,HF2.out.2.1,by show s.i≤z.2;have:=HF2.out.2.2.1;omega,hgl.2.1⟩
 rw[←hf3] at HM5 h6
 refine .inl ⟨_,rfl,hK _ _ (.inr (h6.cl 1 0).1) ?_⟩
 have H6:=hide h6
 clear hK K hS0 hx hgl HM4 HFF hf3 HF2
 simp only[Act.put,List.setIfInBounds_toArray,List.set_cons_zero,List.set_cons_succ]
 refine lastK (fun K hK=>?_)
 go_simp
 refine hK _ _ ?_
 clear hK K h6
 go_wp2_with fail
 refine((fnAll hT HG.out HD.out (3*T.length+2)).2 2 _ f3 _ H6.out (by omega)).mono ?_
 intro e w6 h7
 cases hx:RT T (3*T.length+2) 0 0 f3 with
 | error q=>
  rw[hx] at h7
  obtain⟨rfl,hk⟩:=h7
  exact⟨rfl,OutX.err_mk (by rw[HM5.out,bnd_err hx]) ⟨rfl,hk⟩⟩
 | ok f4=>
 have HM6:=hide (HM5.out.trans (bnd_ok hx))
 have hsf:=(RT_sf hT hx).2
 rw[hx] at h7
 obtain⟨rfl,hl7,hi7,h7⟩:=h7
 have HF4:Hid (f4.m.co=s.co∧f4.m.lo=s.lo∧s.i≤f4.m.i):=by
  unfold Sm at hsf
  refine⟨?_,?_,by have:=HF3.out.2.2.1;omega⟩
  ·rw[hsf];exact HF3.out.1
  ·rw[hsf];exact HF3.out.2.1
 have H7:=hide h7
 clear hx hl7 hi7 h7 HM5 H6 hsf
 go_wp2_with fail
 refine(fnPutF (insB 11) rfl rfl hT H7.out).mono ?_
 rintro e w7 ⟨rfl,h8⟩
 obtain⟨hi8,g8,v8,vf8,tl8,ha8,hS8⟩:=h8
 obtain⟨pC,cC,hC⟩:=Row.shape (hS8.isRow 18 rfl)
 obtain⟨pA,cA,hvA⟩:=Row.shape (hS8.isRow 25 rfl)
 obtain⟨i0,hi0,hz0,hz1,hz2⟩:=info_parts Tryz.info92'
 have H8:=hide hS8
 have HA8:Hid (f4.m.i<T.length∧FA g8 1 v8 vf8 (putF f4 (insB 11)) tl8):=⟨hi8,ha8⟩
 clear hS8 H7 ha8 hi8
 go_wp2_with fail
 have hS:∀(V:World) (Y:List It) (r:It),Sx w0 V ((LF ab tg cap mw mb fb T v8 vf8 (putF f4 (insB 11)) Y).set 18 r)→(fun V:World=>V.cell? ⟨ab,9,none⟩=some (.pointer (some ⟨mb,0,none⟩))∧V.cell? ⟨mb,8,none⟩=some (.slice pC f4.m.co.length cC)∧V.cell? ⟨fb,3,none⟩=some (.slice pA vf8.gi.length cA)) V:=fun V Y r hV=>⟨(hV.c 0 9 rfl rfl).1,(hV.c 10 8 rfl rfl).1.trans (congrArg some hC),(hV.c 22 3 rfl rfl).1.trans (congrArg some hvA)⟩
 have hS0:=hS _ _ (.r 92 2 v8.co f4.m.co.length v8.xco) H8.out.drew
 refine regK (fun V:World=>V.cell? ⟨ab,9,none⟩=some (.pointer (some ⟨mb,0,none⟩))∧V.cell? ⟨mb,8,none⟩=some (.slice pC f4.m.co.length cC)∧V.cell? ⟨fb,3,none⟩=some (.slice pA vf8.gi.length cA)) 22 ?_
 iterate 16 refine tkk hS0 (h:=?_) (hy:=by(refine Or.inl ⟨by rfl,?_⟩;intro V hV;obtain⟨u0,u1,u2⟩:=hV;go_simp;try with_reducible rfl))
 refine oneK (fun K hK=>?_)
 refine step_callX (f:=117) (args:= #[.slice pA vf8.gi.length cA]) (by rfl) (by go_simp) (slValues_any _ _ _ _) ?_
 rintro e w8 ⟨rfl,tb,rfl⟩
 have h9:=H8.out.drew.new #[.slice pA vf8.gi.length cA] tb
 refine .inl ⟨_,rfl,hK _ _ (.inr (hS _ _ (.r 92 2 v8.co f4.m.co.length v8.xco) h9)) ?_⟩
 clear hK K hS0
 simp only[Act.put,List.setIfInBounds_toArray,List.set_cons_zero,List.set_cons_succ]
 generalize w7.drew.alloc (.cells #[.slice pA vf8.gi.length cA] tb)=w8 at*
 generalize w7.drew.heap.size=bb at*
 refine tkk (hS _ _ (.r 92 2 v8.co f4.m.co.length v8.xco) h9) (h:=?_)
 have h10:=h9.alloc (.cells #[.slice pk z.1.1.length ck,.func (.func 137) #[] #[.pointer (some ⟨bb,0,none⟩)]] 92)
 refine oneK (fun K hK=>?_)
 go_simp
 refine hK _ _ (.inr (hS _ _ (.r 92 2 v8.co f4.m.co.length v8.xco) h10)) ?_
 clear hK K
 have HOwn:=h10.row 18 rfl
 rw[hC] at HOwn
 refine oneK (fun K hK=>?_)
 refine step_append_lies _ (by rfl) (.tmp 72) (.tmp 80) 54 (by rfl) w0.heap.size 92 i0 (.agg #[.slice none 0 0,.nilFunc]) 2 32 (by kernel_rfl) hi0 hz0 hz1 hz2 rfl (by decide) (.slice pC f4.m.co.length cC) f4.m.co.length v8.xco (by rfl) HOwn ⟨w8.heap.size,0,none⟩ 1 1 [.slice pk z.1.1.length ck,.func (.func 137) #[] #[.pointer (some ⟨bb,0,none⟩)]] (by rfl) rfl (cells_at (by simp) rfl) ?c2 (by omega) ?c3 ?c4 ?c5 (w8.heap.size+1) (by simp) ?_
 case c2=>intro u hu;simp at hu;rcases hu with rfl | rfl<;>rfl
 case c3=>have:=HA8.out.2.ag.con;have:=hT.few;have:=HA8.out.1;unfold maxLen;show f4.m.co.length+1≤_;have:f4.m.co.length≤f4.m.i:=HA8.out.2.ag.con;omega
 case c4=>have:f4.m.co.length≤f4.m.i:=HA8.out.2.ag.con;have:=hT.few;have:=HA8.out.1;omega
 case c5=>exact h10.kept.size
 intro gg cp w9 hown hgrow hat hlt6
 have h11:=h10.app 18 (v:=v8.co) hown (by rw[hC];exact hgrow) (by rw[hC];exact hat.imp id (fun e=>by rw[e];simp)) rfl
 have hS4:=hS _ _ _ h11
 refine hK _ _ (.inr hS4) ?_
 clear hK K
 simp only[Act.put,List.setIfInBounds_toArray,List.set_cons_zero,List.set_cons_succ]
 iterate 2 refine tkk hS4 (h:=?_)
 obtain⟨c0,c1⟩:=h11.c 10 8 rfl rfl
 have mm:=h11.lt 10 rfl
 obtain⟨f5,hf5⟩:∃f5:Bk,f5={putF f4 (insB 11) with m:={f4.m with co:=f4.m.co++[(z.1.1,f4.al++[insB 11])]}}:=⟨_,rfl⟩
 have h13:Sx w0 (w9.setCell ⟨mb,8,none⟩ (.slice (some ⟨gg,0,none⟩) (f4.m.co.length+1) cp)) (LF ab tg cap mw mb fb T {v8 with co:=.slice (some ⟨gg,0,none⟩) (f4.m.co.length+1) cp,xco:=v8.xco++[.slice pk z.1.1.length ck,.func (.func 137) #[] #[.pointer (some ⟨bb,0,none⟩)]]} vf8 f5 (.r 73 1 (.slice pk z.1.1.length ck) z.1.1.length (kindCells z.1.1)::.b uk [.slice pa ua.length ca,.slice pb ub.length cb,.bool ut,.int .u32 (ui:Nat)]::X++tl8++[.b bb [.slice pA vf8.gi.length cA]])):=by
  have h12:=h11.set 10 8 (.slice (some ⟨gg,0,none⟩) (f4.m.co.length+1) cp) rfl
  rw[hf5]
  simpa [LF,LA,AL,RA,ZA,FT,putF] using h12
 have HF5:=hide hf5
 have H13:=hide h13
 refine lastK (fun K hK=>?_)
 go_simp
 refine hK _ _ ?_
 clear hK K
 generalize w9.setCell ⟨mb,8,none⟩ (.slice (some ⟨gg,0,none⟩) (f4.m.co.length+1) cp)=w10 at*
 clear h13 h11 h10 h9 hS4 hS c0 c1 mm HOwn hown hgrow hat hlt6 hC H8 hi0 hz0 hz1 hz2 hf5
 obtain⟨v9,hv9⟩:∃v9:VS,v9={v8 with co:=.slice (some ⟨gg,0,none⟩) (f4.m.co.length+1) cp,xco:=v8.xco++[.slice pk z.1.1.length ck,.func (.func 137) #[] #[.pointer (some ⟨bb,0,none⟩)]]}:=⟨_,rfl⟩
 have HV9:=hide hv9
 rw[←hv9] at H13
 clear hv9
 obtain⟨pL,cL,hL⟩:=Row.shape (H13.out.isRow 20 rfl)
 obtain⟨pN,cN,hvN⟩:=Row.shape (H13.out.isRow 23 rfl)
 have e5:f5.m.lo=f4.m.lo∧f5.nm=f4.nm:=by rw[HF5.out];exact⟨rfl,rfl⟩
 rw[e5.1] at hL
 rw[e5.2] at hvN
 obtain⟨i0,hi0,hz0,hz1,hz2⟩:=info_parts Tryz.info139'
 go_wp2_with fail
 have hS:∀(V:World) (Y:List It) (r:It),Sx w0 V ((LF ab tg cap mw mb fb T v9 vf8 f5 Y).set 20 r)→(fun V:World=>V.cell? ⟨ab,9,none⟩=some (.pointer (some ⟨mb,0,none⟩))∧V.cell? ⟨mb,11,none⟩=some (.slice pL f4.m.lo.length cL)∧V.cell? ⟨fb,1,none⟩=some (.slice pN f4.nm.length cN)) V:=fun V Y r hV=>⟨(hV.c 0 9 rfl rfl).1,(hV.c 10 11 rfl rfl).1.trans (congrArg some hL),(hV.c 22 1 rfl rfl).1.trans (congrArg some hvN)⟩
 have hS0:=hS _ _ (.r 139 2 v9.lo f5.m.lo.length v9.xlo) H13.out.drew
 refine regK (fun V:World=>V.cell? ⟨ab,9,none⟩=some (.pointer (some ⟨mb,0,none⟩))∧V.cell? ⟨mb,11,none⟩=some (.slice pL f4.m.lo.length cL)∧V.cell? ⟨fb,1,none⟩=some (.slice pN f4.nm.length cN)) 23 ?_
 iterate 18 refine tkk hS0 (h:=?_) (hy:=by(refine Or.inl ⟨by rfl,?_⟩;intro V hV;obtain⟨u0,u1,u2⟩:=hV;go_simp;try with_reducible rfl))
 have h10:=H13.out.drew.alloc (.cells #[.int .i64 (s.fu.length:Nat),.slice pN f4.nm.length cN] 139)
 refine oneK (fun K hK=>?_)
 go_simp
 refine hK _ _ (.inr (hS _ _ (.r 139 2 v9.lo f5.m.lo.length v9.xlo) h10)) ?_
 clear hK K
 have HOwn:=h10.row 20 rfl
 rw[hL,e5.1] at HOwn
 refine oneK (fun K hK=>?_)
 refine step_append_lies _ (by rfl) (.tmp 95) (.tmp 102) 57 (by rfl) w0.heap.size 139 i0 (.agg #[.int .i64 0,.slice none 0 0]) 2 32 (by kernel_rfl) hi0 hz0 hz1 hz2 rfl (by decide) (.slice pL f4.m.lo.length cL) f4.m.lo.length v9.xlo (by rfl) HOwn ⟨w10.heap.size,0,none⟩ 1 1 [.int .i64 (s.fu.length:Nat),.slice pN f4.nm.length cN] (by rfl) rfl (cells_at (by simp) rfl) ?c2 (by omega) ?c3 ?c4 ?c5 (w10.heap.size+1) (by simp) ?_
 case c2=>intro u hu;simp at hu;rcases hu with rfl | rfl<;>rfl
 case c3=>have:f4.m.lo.length≤f4.m.i:=HA8.out.2.ag.lon;have:=hT.few;have:=HA8.out.1;unfold maxLen;omega
 case c4=>have:f4.m.lo.length≤f4.m.i:=HA8.out.2.ag.lon;have:=hT.few;have:=HA8.out.1;omega
 case c5=>exact h10.kept.size
 intro g2 cp2 w11 hown hgrow hat hlt6
 have h11:=h10.app 20 (v:=v9.lo) hown (by rw[hL];exact hgrow) (by rw[hL];exact hat.imp id (fun e=>by rw[e];simp)) rfl
 have hS4:=hS _ _ _ h11
 refine hK _ _ (.inr hS4) ?_
 clear hK K
 simp only[Act.put,List.setIfInBounds_toArray,List.set_cons_zero,List.set_cons_succ]
 iterate 3 refine tkk hS4 (h:=?_)
 obtain⟨c0,c1⟩:=h11.c 10 11 rfl rfl
 have mm:=h11.lt 10 rfl
 obtain⟨f6,hf6⟩:∃f6:Bk,f6={f5 with m:={f5.m with lo:=f5.m.lo++[(s.fu.length,f5.nm)]}}:=⟨_,rfl⟩
 have h13:Sx w0 (w11.setCell ⟨mb,11,none⟩ (.slice (some ⟨g2,0,none⟩) (f4.m.lo.length+1) cp2)) (LF ab tg cap mw mb fb T {v9 with lo:=.slice (some ⟨g2,0,none⟩) (f4.m.lo.length+1) cp2,xlo:=v9.xlo++[.int .i64 (s.fu.length:Nat),.slice pN f4.nm.length cN]} vf8 f6 (.r 73 1 (.slice pk z.1.1.length ck) z.1.1.length (kindCells z.1.1)::.b uk [.slice pa ua.length ca,.slice pb ub.length cb,.bool ut,.int .u32 (ui:Nat)]::X++tl8++[.b bb [.slice pA vf8.gi.length cA]])):=by
  have h12:=h11.set 10 11 (.slice (some ⟨g2,0,none⟩) (f4.m.lo.length+1) cp2) rfl
  rw[hf6]
  simpa [LF,LA,AL,RA,ZA,FT,e5.1] using h12
 have H14:=hide (LF.end_ h13)
 have HF6:=hide hf6
 have HVN:Hid (vf8.n=.slice pN f4.nm.length cN∧vf8.a=.slice pA vf8.gi.length cA):=⟨hvN,hvA⟩
 refine lastK (fun K hK=>?_)
 go_simp
 refine hK _ _ ?_
 clear hK K
 generalize w11.setCell ⟨mb,11,none⟩ (.slice (some ⟨g2,0,none⟩) (f4.m.lo.length+1) cp2)=w12 at*
 clear h13 h11 h10 hS4 hS c0 c1 mm HOwn hown hgrow hat hlt6 hL H13 hi0 hz0 hz1 hz2 hf6 hvA hvN
 have HM7:Hid (fnT T s=.ok f6.m):=by
  show _=_
  rw[HM6.out,HF6.out,HF5.out]
  rfl
 go_wp2
 go_end0
 refine OutX.ok_mk HM7.out ⟨rfl,?_,?_⟩
 ·rw[HF6.out,HF5.out];exact HA8.out.1
 obtain⟨tl',htl⟩:∃tl',tl'=(It.r 135 2 vf8.n f6.nm.length (f6.nm.flatMap namCells)::It.r 131 10 vf8.a vf8.gi.length (vf8.gi.flatMap insV)::.r 73 1 (.slice pk z.1.1.length ck) z.1.1.length (kindCells z.1.1)::.b uk [.slice pa ua.length ca,.slice pb ub.length cb,.bool ut,.int .u32 (ui:Nat)]::(tl8++[.b bb [.slice pA vf8.gi.length cA]])):=⟨_,rfl⟩
 have h15:=LA.perm H14.out (tl':=X++tl') (by
  rw[htl]
  have e:(It.r 135 2 vf8.n f6.nm.length (f6.nm.flatMap namCells)::It.r 131 10 vf8.a vf8.gi.length (vf8.gi.flatMap insV)::(.r 73 1 (.slice pk z.1.1.length ck) z.1.1.length (kindCells z.1.1)::.b uk [.slice pa ua.length ca,.slice pb ub.length cb,.bool ut,.int .u32 (ui:Nat)]::X++tl8++[.b bb [.slice pA vf8.gi.length cA]]))=[It.r 135 2 vf8.n f6.nm.length (f6.nm.flatMap namCells),It.r 131 10 vf8.a vf8.gi.length (vf8.gi.flatMap insV),.r 73 1 (.slice pk z.1.1.length ck) z.1.1.length (kindCells z.1.1),.b uk [.slice pa ua.length ca,.slice pb ub.length cb,.bool ut,.int .u32 (ui:Nat)]]++(X++(tl8++[.b bb [.slice pA vf8.gi.length cA]])):=by simp
  rw[e,←List.append_assoc]
  refine(List.Perm.append_right _ List.perm_append_comm).trans ?_
  rw[List.append_assoc]
  exact List.Perm.refl _)
 have ha:=HA8.out.2
 have e6:f6.nm=f4.nm:=by rw[HF6.out,HF5.out];rfl
 have em:f6.m={f4.m with co:=f4.m.co++[(z.1.1,f4.al++[insB 11])],lo:=f4.m.lo++[(s.fu.length,f4.nm)]}:=by rw[HF6.out,HF5.out];rfl
 have hsub:∀p∈tl8,p∈tl':=fun p hp=>by rw[htl];simp[hp]
 have hfi:f4.m.i<T.length:=HA8.out.1
 have hfew:=hT.few
 have hgi:vf8.gi.length+1≤f4.m.i:=ha.gi
 have hnm:f4.nm.length≤f4.m.i:=ha.nm
 refine⟨{g8 with co:=g8.co++[((z.1.1,f4.al++[insB 11]),(.slice pk z.1.1.length ck,bb,.slice pA vf8.gi.length cA,vf8.gi))],lo:=g8.lo++[((s.fu.length,f4.nm),.slice pN f4.nm.length cN)]},_,tl',?_,by rw[em];exact ha.ty20,h15⟩
 rw[em]
 refine ha.ag.addFn hsub ?_ ?_ ?_ ?_ ?_ ⟨.inr ?_,by omega⟩ ?_ ?_
 ·rw[HV9.out]
 ·rw[HV9.out]
 ·rw[HV9.out];rfl
 ·rw[HV9.out];rfl
 ·refine⟨ha.al,.inr ?_,?_,.inr ?_,fun y hy=>(ha.ins y hy).mono hsub,by have:=HF3.out.2.2.2;show z.1.1.length≤1000;omega,by show vf8.gi.length≤1000;omega⟩
  ·rw[htl];simp
  ·rw[htl];simp
  ·rw[htl,HVN.out.2];simp
 ·rw[htl,HVN.out.1,e6];simp
 ·show f4.m.co.length+1≤f4.m.i
  rw[HF4.out.1]
  have:=HL.out.co
  have:=HF4.out.2.2
  omega
 ·show f4.m.lo.length+1≤f4.m.i
  rw[HF4.out.2.1]
  have:=HL.out.lo
  have:=HF4.out.2.2
  omega
end
end
section
open Go.RowKit
set_option linter.unusedVariables false
def AT (X:List It) (v:VS) (s:MS) (tx:List It):Prop:=∃tl,tx=X++tl∧(∃g,AG g v s tl)∧s.ty.length≤s.i
def AF (X:List It) (v:VS) (s:MS) (tx:List It):Prop:=∃tl,tx=X++tl∧(∃g,AG g v s tl)∧s.ty.length≤20
def AT' (X:List It) (v:VS) (s:MS) (tl:List It):Prop:=AT X v s tl∧SL 2 s∧s.ty.length+2≤s.i
def AF' (X:List It) (v:VS) (s:MS) (tl:List It):Prop:=AF X v s tl∧SL 2 s
theorem AG.sl {g:Gh} {v:VS} {s:MS} {tl:List It} (h:AG g v s tl) {T:List Tok} (hT:TW T) (hi:s.i+2<T.length) (hty:s.ty.length+2≤1000):SL 2 {s with i:=s.i+2}:=by
 have:=h.fu;have:=h.ta;have:=h.me;have:=h.gl;have:=h.st;have:=h.eln;have:=h.con;have:=h.da;have:=h.lon;have:=h.ex;have:=h.fT;have:=h.fF;have:=h.fG
 constructor<;>simp only<;>omega
section
variable {T:List Tok}
theorem AT.fwd {X:List It}:Fwd T (AT X):=by
 rintro v s tx j ⟨tl,rfl,⟨g,h⟩,h2⟩ hj _
 exact⟨tl,rfl,⟨g,h.on (VSame.refl v) (j:=j) (no:=s.no) hj (Nat.le_trans h.no hj)⟩,Nat.le_trans h2 hj⟩
theorem AF.fwd {X:List It}:Fwd T (AF X):=by
 rintro v s tx j ⟨tl,rfl,⟨g,h⟩,h2⟩ hj _
 exact⟨tl,rfl,⟨g,h.on (VSame.refl v) (j:=j) (no:=s.no) hj (Nat.le_trans h.no hj)⟩,h2⟩
theorem AT.gain {X:List It} (hT:TW T):Gain T (AT X) (AT' X):=by
 rintro v s tx ⟨tl,rfl,⟨g,h⟩,h2⟩ hi
 have:=hT.few
 exact⟨AT.fwd (T:=T) v s _ (s.i+2) ⟨tl,rfl,⟨g,h⟩,h2⟩ (by omega) hi,h.sl hT hi (by omega),by show s.ty.length+2≤s.i+2;omega⟩
theorem AF.gain {X:List It} (hT:TW T):Gain T (AF X) (AF' X):=by
 rintro v s tx ⟨tl,rfl,⟨g,h⟩,h2⟩ hi
 exact⟨AF.fwd (T:=T) v s _ (s.i+2) ⟨tl,rfl,⟨g,h⟩,h2⟩ (by omega) hi,h.sl hT hi (by omega)⟩
def typeI (T:List Tok) (s:MS):Except Err MS:=bnd (typeT T s) fun x=>.ok x.2
def elemI (T:List Tok) (s:MS):Except Err MS:=bnd (elemT T s) fun x=>.ok x.2
theorem closeM_nx {i j:Nat} (h:closeM T i=.ok j):j=nx T i:=by
 unfold closeM at h
 split at h
 ·cases h
 ·split at h
  ·split at h<;>cases h
  ·split at h
   ·cases h;rfl
   ·cases h
theorem typeT_le {s:MS} {x:(List Nat×List Nat)×MS} (hT:TW T) (h:typeT T s=.ok x) (hi:s.i<T.length):s.i≤x.2.i∧x.2.i<T.length∧x.1.1.length≤8∧x.1.2.length≤4∧x.2={s with i:=x.2.i,fT:=(declT T s.fT s.ty.length s.i).2.1,no:=s.no++(declT T s.fT s.ty.length s.i).2.2.2,ty:=s.ty++[x.1]}∧(declT T s.fT s.ty.length s.i).2.2.1≤x.2.i:=by
 have hdl:=declT_len (ns:=s.fT) (n:=s.ty.length) hT hi
 have hdt:=declT_lt (ns:=s.fT) (n:=s.ty.length) hi
 unfold typeT at h
 dsimp only at h
 split at h
 ·cases h
 ·rename_i y j hx
  obtain⟨g1,g2⟩:=takeO_le hT hx
  simp only at g1
  split at h
  ·cases h
  ·rename_i kk hk
   have g3:=kindsT_le hT hk (by omega)
   split at h
   ·cases h
   ·rename_i m hm
    obtain rfl:=closeM_nx hm
    have g4:=nx_le g3.2
    have g5:=nx_ok g3.2
    cases h
    unfold kindsT seqT at hk
    split at hk
    ·cases hk
    ·rename_i h1
     split at hk
     ·cases hk
     ·rename_i h2
      cases hk
      exact⟨by show s.i≤nx T _;omega,g5,groT_few h1 (by simp),groT_few h2 (by simp),rfl,by show _≤nx T _;omega⟩
theorem limitsM_le {i:Nat} {x:Lim×Nat} (h:limitsM T i=.ok x) (hi:i<T.length):i≤x.2∧x.2<T.length:=by
 unfold limitsM at h
 split at h
 ·cases h
 ·rename_i h1
  have g1:=numberM_nx h1
  have g2:=nx_le hi
  have g3:=nx_ok hi
  split at h
  ·cases h
  ·split at h
   ·split at h
    ·rename_i h2
     have g4:=numberM_nx h2
     cases h
     have g5:=nx_le (T:=T) (i:=nx T i) g3
     have g6:=nx_ok (T:=T) (i:=nx T i) g3
     simp only
     rw[g4,g1]
     exact⟨by omega,g6⟩
    ·cases h
   ·cases h
    simp only
    omega
theorem constT_le {i:Nat} {x:Cst×Nat} (h:constT T i=.ok x) (hi:i<T.length):i≤x.2:=by
 unfold constT at h
 have n1:=nx_le hi
 have o1:=nx_ok hi
 have n2:=nx_le o1
 have o2:=nx_ok o1
 have n3:=nx_le o2
 have o3:=nx_ok o2
 have n4:=nx_le o3
 split at h
 ·cases h
 ·rename_i h1
  obtain⟨-,-,rfl⟩:=takeT_nx h1
  split at h
  ·cases h
  ·rename_i h2
   obtain⟨-,-,rfl⟩:=takeT_nx h2
   split at h
   ·split at h
    ·cases h
    ·rename_i h3
     have:=signedM_nx h3
     subst this
     split at h
     ·cases h
     ·rename_i h4
      obtain⟨-,-,rfl⟩:=takeT_nx h4
      cases h
      simp only
      omega
   ·split at h
    ·split at h
     ·cases h
     ·rename_i h3
      have:=signedM_nx h3
      subst this
      split at h
      ·cases h
      ·rename_i h4
       obtain⟨-,-,rfl⟩:=takeT_nx h4
       cases h
       simp only
       omega
    ·cases h
theorem gkindT_le {i:Nat} {x:(Nat×Bool)×Nat} (h:gkindT T i=.ok x) (hi:i<T.length):i≤x.2∧x.2<T.length:=by
 have n1:=nx_le hi
 have o1:=nx_ok hi
 have n2:=nx_le o1
 have o2:=nx_ok o1
 have n3:=nx_le o2
 have o3:=nx_ok o2
 have n4:=nx_le o3
 have o4:=nx_ok o3
 unfold gkindT at h
 split at h
 ·cases h
 ·split at h
  ·split at h
   ·cases h
   ·rename_i h1
    have g1:=takeO_nx h1
    subst g1
    split at h
    ·cases h
    ·rename_i h2
     have g2:=kindT_nx h2
     subst g2
     split at h
     ·cases h
     ·rename_i h3
      obtain⟨-,-,rfl⟩:=takeT_nx h3
      cases h
      exact⟨by show i≤nx T _;omega,o4⟩
  ·split at h
   ·cases h
   ·rename_i h2
    have g2:=kindT_nx h2
    subst g2
    cases h
    exact⟨n1,o1⟩
theorem elemL_le (hT:TW T) {kF:List Nam}:∀{k j:Nat} {no:List (Nat×Nat)} {fs:List Nat} {x:List Nat×Nat×List (Nat×Nat)},elemL T kF k j no fs=.ok x→j<T.length→(j≤x.2.1∧x.2.1<T.length)∧x.2.2.length≤no.length+(x.2.1 - j)
 | 0,_,_,_,_,h,_=>by cases h
 | k+1,j,no,fs,x,h,hj=>by
  unfold elemL at h
  split at h
  ·cases h
  ·split at h
   ·split at h
    ·cases h
    ·split at h
     ·cases h
     ·rename_i h1
      have g1:=indexT_le hT h1 hj
      have g2:=elemL_le hT h g1.1.2
      simp only[List.length_append] at g1 g2 ⊢
      omega
   ·cases h
    simp only
    omega
theorem elemT_le {s:MS} {x:(Cst×List Nat)×MS} (hT:TW T) (h:elemT T s=.ok x) (hi:s.i<T.length):(s.i≤x.2.i∧x.2.i<T.length)∧x.2.no.length≤s.no.length+(x.2.i - s.i)∧x.2={s with i:=x.2.i,no:=x.2.no,el:=s.el++[x.1]}:=by
 unfold elemT at h
 split at h
 ·cases h
 ·rename_i h1
  have g1:=constT_le h1 hi
  have g2:=constT_lt hi h1
  split at h
  ·cases h
  ·rename_i h2
   have g3:=elemL_le hT h2 g2
   cases h
   simp only at g1 g3 ⊢
   exact⟨by omega,by omega,trivial⟩
theorem fnT_le {s s':MS} (hT:TW T) (hi:s.i<T.length) (h:fnT T s=.ok s'):s.i≤s'.i:=by
 unfold fnT at h
 have hdl:=declT_len (ns:=s.fF) (n:=s.fu.length) hT hi
 have hdt:=declT_lt (ns:=s.fF) (n:=s.fu.length) hi
 obtain⟨x,h1,h⟩:=bnd_inv h
 obtain⟨y,h2,h⟩:=bnd_inv h
 obtain⟨z,h3,h⟩:=bnd_inv h
 obtain⟨f3,h4,h⟩:=bnd_inv h
 cases h
 have g1:=(useT_le hT h1 hdt).1
 have g2:y.2.i=x.2.m.i:=by
  split at h2
  ·cases h2;rfl
  ·exact(tixT_sm h2).2
 have g3:=(gnT_le hT h3 (by rw[g2];exact g1.2) (by simp)).1
 have g4:=RT_le hT h4
 have g5:z.2≤f3.m.i:=g4
 have g0:(declT T s.fF s.fu.length s.i).2.2.1≤x.2.m.i:=g1.1
 show s.i≤f3.m.i
 omega
end
end
section
open Go.RowKit
theorem enters_type:Enters 88:=enters_of Tryz.func88 (by kernel_rfl) (by kernel_rfl)
theorem enters_function:Enters 89:=enters_of Tryz.func89 (by kernel_rfl) (by kernel_rfl)
theorem enters_table:Enters 91:=enters_of Tryz.func91 (by kernel_rfl) (by kernel_rfl)
theorem enters_memory:Enters 92:=enters_of Tryz.func92 (by kernel_rfl) (by kernel_rfl)
theorem enters_global:Enters 93:=enters_of Tryz.func93 (by kernel_rfl) (by kernel_rfl)
theorem enters_export:Enters 94:=enters_of Tryz.func94 (by kernel_rfl) (by kernel_rfl)
theorem enters_start:Enters 95:=enters_of Tryz.func95 (by kernel_rfl) (by kernel_rfl)
theorem enters_element:Enters 96:=enters_of Tryz.func96 (by kernel_rfl) (by kernel_rfl)
theorem enters_data:Enters 97:=enters_of Tryz.func97 (by kernel_rfl) (by kernel_rfl)
section
variable {w0 w:World} {ab tg cap mw mb:Nat} {T:List Tok} {X:List It}
theorem type_item (hT:TW T):ItemC w0 ab tg cap mw mb T (AT X) (AT' X) 88 (typeI T):=by
 refine⟨fun s s' h hi=>?_,fun s w h=>?_⟩
 ·obtain⟨x,h1,h⟩:=bnd_inv h
  cases h
  exact(typeT_le hT h1 hi).1
 obtain⟨hi,v,tx,⟨⟨tl,rfl,⟨g,ha⟩,-⟩,hL,hty⟩,hS⟩:=h
 have hfew:=hT.few
 refine(asType_all hS hT hi (by have:=hL.ty;omega) (by have:=ha.fT;omega) (by have:=ha.no;omega)).mono ?_
 intro e w' h1
 unfold typeI
 cases hx:typeT T s with
 | error q=>rw[hx] at h1;exact h1
 | ok x=>
  rw[hx] at h1
  obtain⟨rfl,v',vi,vo,e1,e2,e3,e4,h1⟩:=h1
  obtain⟨b1,b2,b3,b4,b5,b6⟩:=typeT_le hT hx hi
  have hdl:=declT_len (ns:=s.fT) (n:=s.ty.length) hT hi
  have hdm:=fun y=>declT_mem (T:=T) (ns:=s.fT) (n:=s.ty.length) (i:=s.i) (x:=y)
  refine⟨rfl,b2,v',_,⟨tl++[.r 73 1 vi x.1.1.length (kindCells x.1.1),.r 73 1 vo x.1.2.length (kindCells x.1.2)],List.append_assoc _ _ _,⟨{g with ty:=g.ty++[(x.1,(vi,vo))]},?_⟩,?_⟩,h1⟩
  ·have hm:∀p∈tl,p∈tl++[It.r 73 1 vi x.1.1.length (kindCells x.1.1),It.r 73 1 vo x.1.2.length (kindCells x.1.2)]:=fun p hp=>by simp[hp]
   have h2:=(ha.mono hm).on (VSame.refl v) (j:=x.2.i) (no:=s.no++(declT T s.fT s.ty.length s.i).2.2.2) b1 (by rw[List.length_append];have:=ha.no;omega)
   rw[b5]
   exact {h2 with
    ty:=by simp[ha.ty]
    tyv:=by rw[e1,ha.tyv];simp[tyvC]
    tyr:=fun y hy=>by
     rcases List.mem_append.1 hy with hy | hy
     ·exact h2.tyr y hy
     ·cases List.mem_singleton.1 hy
      exact⟨.inr (by simp),.inr (by simp),by show x.1.1.length≤50;omega,by show x.1.2.length≤50;omega⟩
    elv:=e2.trans ha.elv
    cov:=e3.trans ha.cov
    lov:=e4.trans ha.lov
    tyn:=by show(s.ty++[x.1]).length≤1000;rw[List.length_append];have:=hL.ty;simp;omega
    fT:=by show(declT T s.fT s.ty.length s.i).2.1.length≤x.2.i;have:=ha.fT;omega
    fTx:=fun y hy=>by
     rcases hdm y hy with c | c
     ·exact ha.fTx y c
     ·have:=hL.ty;omega}
  ·rw[b5]
   show(s.ty++[x.1]).length≤x.2.i
   rw[List.length_append]
   simp
   omega
theorem func_item (hg:Ge w0) (hd:Gd w0) (hT:TW T):ItemC w0 ab tg cap mw mb T (AF X) (AF' X) 89 (fnT T):=by
 refine⟨fun s s' h hi=>fnT_le hT hi h,fun s w h=>?_⟩
 obtain⟨hi,v,tx,⟨⟨tl,rfl,⟨g,ha⟩,h20⟩,hL⟩,hS⟩:=h
 refine(asFunction_all hS ha h20 hL hg hd hT hi).mono ?_
 intro e w' h1
 cases hx:fnT T s with
 | error q=>rw[hx] at h1;exact h1
 | ok s'=>
  rw[hx] at h1
  obtain⟨rfl,hi',g',v',tl',ha',h20',hS'⟩:=h1
  exact⟨rfl,hi',v',_,⟨tl',rfl,⟨g',ha'⟩,h20'⟩,hS'⟩
theorem table_item (hg:Ge w0) (hT:TW T):ItemC w0 ab tg cap mw mb T (AF X) (AF' X) 91 (taT T):=by
 have hle:∀s s',taT T s=.ok s'→s.i<T.length→(s.i≤s'.i∧s'.i<T.length)∧∃l,s'={s with i:=s'.i,ta:=s.ta++[l]}:=by
  intro s s' h hi
  unfold taT at h
  split at h
  ·cases h
  ·rename_i h1
   have:=limitsM_le h1 hi
   cases h
   exact⟨this,_,rfl⟩
 refine⟨fun s s' h hi=>(hle s s' h hi).1.1,fun s w h=>?_⟩
 obtain⟨hi,v,tx,⟨⟨tl,rfl,⟨g,ha⟩,h20⟩,hL⟩,hS⟩:=h
 have hfew:=hT.few
 refine(asTable_all hS hg hT.toTT hi (by have:=ha.ta;omega)).mono ?_
 intro e w' h1
 cases hx:taT T s with
 | error q=>rw[hx] at h1;exact h1
 | ok s'=>
  rw[hx] at h1
  obtain⟨rfl,v',hv,h1⟩:=h1
  obtain⟨b1,l,b2⟩:=hle s s' hx hi
  refine⟨rfl,b1.2,v',_,⟨tl,rfl,⟨g,?_⟩,by rw[b2];exact h20⟩,h1⟩
  have h2:=ha.on hv (j:=s'.i) (no:=s.no) b1.1 (by have:=ha.no;omega)
  rw[b2]
  exact {h2 with ta:=by show(s.ta++[l]).length≤s'.i;rw[List.length_append];have:=hL.ta;simp;omega}
theorem memory_item (hg:Ge w0) (hT:TW T):ItemC w0 ab tg cap mw mb T (AF X) (AF' X) 92 (meT T):=by
 have hle:∀s s',meT T s=.ok s'→s.i<T.length→(s.i≤s'.i∧s'.i<T.length)∧∃l,s'={s with i:=s'.i,me:=s.me++[l]}:=by
  intro s s' h hi
  unfold meT at h
  split at h
  ·cases h
  ·rename_i h1
   have:=limitsM_le h1 hi
   cases h
   exact⟨this,_,rfl⟩
 refine⟨fun s s' h hi=>(hle s s' h hi).1.1,fun s w h=>?_⟩
 obtain⟨hi,v,tx,⟨⟨tl,rfl,⟨g,ha⟩,h20⟩,hL⟩,hS⟩:=h
 have hfew:=hT.few
 refine(asMemory_all hS hg hT.toTT hi (by have:=ha.me;omega)).mono ?_
 intro e w' h1
 cases hx:meT T s with
 | error q=>rw[hx] at h1;exact h1
 | ok s'=>
  rw[hx] at h1
  obtain⟨rfl,v',hv,h1⟩:=h1
  obtain⟨b1,l,b2⟩:=hle s s' hx hi
  refine⟨rfl,b1.2,v',_,⟨tl,rfl,⟨g,?_⟩,by rw[b2];exact h20⟩,h1⟩
  have h2:=ha.on hv (j:=s'.i) (no:=s.no) b1.1 (by have:=ha.no;omega)
  rw[b2]
  exact {h2 with me:=by show(s.me++[l]).length≤s'.i;rw[List.length_append];have:=hL.me;simp;omega}
theorem global_item (hg:Ge w0) (hT:TW T):ItemC w0 ab tg cap mw mb T (AF X) (AF' X) 93 (globT T):=by
 have hle:∀s s',globT T s=.ok s'→s.i<T.length→((s.i≤s'.i∧s'.i<T.length)∧(declT T s.fG s.gl.length s.i).2.2.1≤s'.i)∧∃l,s'={s with i:=s'.i,fG:=(declT T s.fG s.gl.length s.i).2.1,no:=s.no++(declT T s.fG s.gl.length s.i).2.2.2,gl:=s.gl++[l]}:=by
  intro s s' h hi
  have hdl:=declT_len (ns:=s.fG) (n:=s.gl.length) hT hi
  have hdt:=declT_lt (ns:=s.fG) (n:=s.gl.length) hi
  unfold globT at h
  dsimp only at h
  split at h
  ·cases h
  ·rename_i h1
   have g1:=gkindT_le h1 hdt
   split at h
   ·cases h
   ·rename_i h2
    have g2:=constT_le h2 g1.2
    have g3:=constT_lt g1.2 h2
    cases h
    simp only at g1 g2 g3 ⊢
    exact⟨by omega,_,rfl⟩
 refine⟨fun s s' h hi=>(hle s s' h hi).1.1.1,fun s w h=>?_⟩
 obtain⟨hi,v,tx,⟨⟨tl,rfl,⟨g,ha⟩,h20⟩,hL⟩,hS⟩:=h
 have hfew:=hT.few
 refine(asGlobal_all hS hg hT.toTT hi (by have:=ha.gl;omega) (by have:=ha.fG;omega) (by have:=ha.no;omega)).mono ?_
 intro e w' h1
 cases hx:globT T s with
 | error q=>rw[hx] at h1;exact h1
 | ok s'=>
  rw[hx] at h1
  obtain⟨rfl,v',hv,h1⟩:=h1
  obtain⟨b1,l,b2⟩:=hle s s' hx hi
  have hdl:=declT_len (ns:=s.fG) (n:=s.gl.length) hT hi
  have hdm:=fun y=>declT_mem (T:=T) (ns:=s.fG) (n:=s.gl.length) (i:=s.i) (x:=y)
  refine⟨rfl,b1.1.2,v',_,⟨tl,rfl,⟨g,?_⟩,by rw[b2];exact h20⟩,h1⟩
  have h2:=ha.on hv (j:=s'.i) (no:=s.no++(declT T s.fG s.gl.length s.i).2.2.2) b1.1.1 (by rw[List.length_append];have:=ha.no;omega)
  rw[b2]
  exact {h2 with
   gl:=by show(s.gl++[l]).length≤s'.i;rw[List.length_append];have:=hL.gl;simp;omega
   fG:=by show(declT T s.fG s.gl.length s.i).2.1.length≤s'.i;have:=ha.fG;omega
   fGx:=fun y hy=>by
    rcases hdm y hy with c | c
    ·exact ha.fGx y c
    ·have:=ha.gl;omega}
theorem start_item (hg:Ge w0) (hT:TW T):ItemC w0 ab tg cap mw mb T (AF X) (AF' X) 95 (startT T):=by
 have hle:∀s s',startT T s=.ok s'→s.i<T.length→((s.i≤s'.i∧s'.i<T.length)∧s'.no.length≤s.no.length+(s'.i - s.i))∧∃l,s'={s with i:=s'.i,no:=s'.no,st:=s.st++[l]}:=by
  intro s s' h hi
  unfold startT at h
  split at h
  ·cases h
  ·rename_i h1
   have g1:=indexT_le hT h1 hi
   cases h
   simp only[List.length_append] at g1 ⊢
   exact⟨by omega,_,rfl⟩
 refine⟨fun s s' h hi=>(hle s s' h hi).1.1.1,fun s w h=>?_⟩
 obtain⟨hi,v,tx,⟨⟨tl,rfl,⟨g,ha⟩,h20⟩,hL⟩,hS⟩:=h
 have hfew:=hT.few
 refine(asStart_all hS hg hT.toTT hi ha.kF ha.kFx (by have:=ha.no;omega) (by have:=ha.st;omega)).mono ?_
 intro e w' h1
 cases hx:startT T s with
 | error q=>rw[hx] at h1;exact h1
 | ok s'=>
  rw[hx] at h1
  obtain⟨rfl,v',hv,h1⟩:=h1
  obtain⟨b1,l,b2⟩:=hle s s' hx hi
  refine⟨rfl,b1.1.2,v',_,⟨tl,rfl,⟨g,?_⟩,by rw[b2];exact h20⟩,h1⟩
  have h2:=ha.on hv (j:=s'.i) (no:=s'.no) b1.1.1 (by have:=ha.no;omega)
  rw[b2]
  exact {h2 with st:=by show(s.st++[l]).length≤s'.i;rw[List.length_append];have:=hL.st;simp;omega}
theorem export_item (hg:Ge w0) (hT:TW T):ItemC w0 ab tg cap mw mb T (AF X) (AF' X) 94 (exportT T):=by
 have hle:∀s s',exportT T s=.ok s'→s.i<T.length→((s.i≤s'.i∧s'.i<T.length)∧s'.no.length≤s.no.length+(s'.i - s.i))∧∃l,s'={s with i:=s'.i,no:=s'.no,ex:=s.ex++[l]}:=by
  intro s s' h hi
  unfold exportT at h
  split at h
  ·cases h
  ·rename_i t ht
   split at h
   ·rename_i h4
    obtain⟨-,-,t2,t3,t4,t5,-,-,⟨ht4,-⟩,-,-⟩:=hT.exF s.i t ht h4
    have hl:=(List.getElem?_eq_some_iff.1 ht4).1
    split at h
    ·cases h
    ·rename_i h1
     have g1:=indexT_le hT h1 hl
     have g2:=nx_le g1.1.2
     have g3:=nx_ok g1.1.2
     cases h
     simp only[List.length_append] at g1 g2 g3 ⊢
     exact⟨by omega,_,rfl⟩
   ·cases h
 refine⟨fun s s' h hi=>(hle s s' h hi).1.1.1,fun s w h=>?_⟩
 obtain⟨hi,v,tx,⟨⟨tl,rfl,⟨g,ha⟩,h20⟩,hL⟩,hS⟩:=h
 have hfew:=hT.few
 refine(asExport_all hS hg hT hi ha.kF ha.kFx (by have:=ha.no;omega) (by have:=ha.ex;omega)).mono ?_
 intro e w' h1
 cases hx:exportT T s with
 | error q=>rw[hx] at h1;exact h1
 | ok s'=>
  rw[hx] at h1
  obtain⟨rfl,v',hv,h1⟩:=h1
  obtain⟨b1,l,b2⟩:=hle s s' hx hi
  refine⟨rfl,b1.1.2,v',_,⟨tl,rfl,⟨g,?_⟩,by rw[b2];exact h20⟩,h1⟩
  have h2:=ha.on hv (j:=s'.i) (no:=s'.no) b1.1.1 (by have:=ha.no;omega)
  rw[b2]
  exact {h2 with ex:=by show(s.ex++[l]).length≤s'.i;rw[List.length_append];have:=hL.ex;simp;omega}
theorem data_item (hg:Ge w0) (hT:TW T) (hns:∀t∈T,t.1≠4):ItemC w0 ab tg cap mw mb T (AF X) (AF' X) 97 (dataT T):=by
 have hle:∀s s',dataT T s=.ok s'→s.i<T.length→(s.i≤s'.i∧s'.i<T.length)∧∃l,s'={s with i:=s'.i,da:=s.da++[l]}:=by
  intro s s' h hi
  unfold dataT at h
  split at h
  ·cases h
  ·rename_i h1
   have g1:=constT_le h1 hi
   have g2:=constT_lt hi h1
   cases h
   exact⟨⟨g1,g2⟩,_,rfl⟩
 refine⟨fun s s' h hi=>(hle s s' h hi).1.1,fun s w h=>?_⟩
 obtain⟨hi,v,tx,⟨⟨tl,rfl,⟨g,ha⟩,h20⟩,hL⟩,hS⟩:=h
 have hfew:=hT.few
 refine(asData_all hS hg hT.toTT hns hi (by have:=ha.da;omega)).mono ?_
 intro e w' h1
 cases hx:dataT T s with
 | error q=>rw[hx] at h1;exact h1
 | ok s'=>
  rw[hx] at h1
  obtain⟨rfl,v',hv,h1⟩:=h1
  obtain⟨b1,l,b2⟩:=hle s s' hx hi
  refine⟨rfl,b1.2,v',_,⟨tl,rfl,⟨g,?_⟩,by rw[b2];exact h20⟩,h1⟩
  have h2:=ha.on hv (j:=s'.i) (no:=s.no) b1.1 (by have:=ha.no;omega)
  rw[b2]
  exact {h2 with da:=by show(s.da++[l]).length≤s'.i;rw[List.length_append];have:=hL.da;simp;omega}
theorem elem_item (hg:Ge w0) (hT:TW T):ItemC w0 ab tg cap mw mb T (AF X) (AF' X) 96 (elemI T):=by
 refine⟨fun s s' h hi=>?_,fun s w h=>?_⟩
 ·obtain⟨x,h1,h⟩:=bnd_inv h
  cases h
  exact(elemT_le hT h1 hi).1.1
 obtain⟨hi,v,tx,⟨⟨tl,rfl,⟨g,ha⟩,h20⟩,hL⟩,hS⟩:=h
 have hfew:=hT.few
 refine(asElement_all hS hg hT hi ha.kF ha.kFx (by have:=ha.no;omega) (by have:=ha.eln;omega)).mono ?_
 intro e w' h1
 unfold elemI
 cases hx:elemT T s with
 | error q=>rw[hx] at h1;exact h1
 | ok x=>
  rw[hx] at h1
  obtain⟨rfl,v',vf,e1,e2,e3,e4,h1⟩:=h1
  obtain⟨b1,b2,b3⟩:=elemT_le hT hx hi
  refine⟨rfl,b1.2,v',_,⟨tl++[.r 66 2 vf x.1.2.length (x.1.2.flatMap nuC)],List.append_assoc _ _ _,⟨{g with el:=g.el++[(x.1,vf)]},?_⟩,by show x.2.ty.length≤20;rw[b3];exact h20⟩,h1⟩
  have hm:∀p∈tl,p∈tl++[It.r 66 2 vf x.1.2.length (x.1.2.flatMap nuC)]:=fun p hp=>by simp[hp]
  have h2:=(ha.mono hm).on (VSame.refl v) (j:=x.2.i) (no:=x.2.no) b1.1 (by have:=ha.no;omega)
  rw[b3]
  exact {h2 with
   tyv:=e1.trans ha.tyv
   el:=by simp[ha.el]
   elv:=by rw[e2,ha.elv];simp[elV]
   elr:=fun y hy=>by
    rcases List.mem_append.1 hy with hy | hy
    ·exact h2.elr y hy
    ·cases List.mem_singleton.1 hy
     exact .inr (by simp)
   cov:=e3.trans ha.cov
   lov:=e4.trans ha.lov
   eln:=by show(s.el++[x.1]).length≤x.2.i;rw[List.length_append];have:=hL.el;simp;omega}
end
end
section
open Go.RowKit
def modT (T:List Tok) (s:MS):Except Err MS:=
 bnd (takeO T ⟨#[109,111,100,117,108,101]⟩ s.i) fun x=>
 bnd (itemsT T ⟨#[116,121,112,101]⟩ 20 (typeI T) (T.length - x.2) 0 {s with i:=x.2}) fun s1=>
 bnd (itemsT T ⟨#[102,117,110,99]⟩ 20 (fnT T) (T.length - s1.i) 0 s1) fun s2=>
 bnd (perhapsT T ⟨#[116,97,98,108,101]⟩ (taT T) s2) fun s3=>
 bnd (perhapsT T ⟨#[109,101,109,111,114,121]⟩ (meT T) s3) fun s4=>
 bnd (itemsT T ⟨#[103,108,111,98,97,108]⟩ 10 (globT T) (T.length - s4.i) 0 s4) fun s5=>
 bnd (itemsT T ⟨#[101,120,112,111,114,116]⟩ 20 (exportT T) (T.length - s5.i) 0 s5) fun s6=>
 bnd (perhapsT T ⟨#[115,116,97,114,116]⟩ (startT T) s6) fun s7=>
 bnd (itemsT T ⟨#[101,108,101,109]⟩ 5 (elemI T) (T.length - s7.i) 0 s7) fun s8=>
 bnd (itemsT T ⟨#[100,97,116,97]⟩ 10 (dataT T) (T.length - s8.i) 0 s8) fun s9=>
 bnd (closeM T s9.i) fun j=>
 bnd (takeT T 1 j) fun y=>.ok {s9 with i:=y.2}
theorem typeI_ty {T:List Tok} {s s':MS} (h:typeI T s=.ok s'):s'.ty.length=s.ty.length+1:=by
 obtain⟨x,h1,h⟩:=bnd_inv h
 cases h
 unfold typeT at h1
 dsimp only at h1
 split at h1
 ·cases h1
 ·split at h1
  ·cases h1
  ·split at h1
   ·cases h1
   ·cases h1
    simp
theorem itemsT_ty {T:List Tok} {q:ByteArray} {most:Nat} {item:MS→Except Err MS} (hI:∀s s',item s=.ok s'→s'.ty.length=s.ty.length+1):∀{k many:Nat} {s s':MS},itemsT T q most item k many s=.ok s'→many≤most→s'.ty.length+many≤s.ty.length+most
 | 0,_,_,_,h,_=>by cases h
 | k+1,many,s,s',h,hm=>by
  unfold itemsT at h
  split at h
  ·rename_i hop
   split at h
   ·cases h
   ·split at h
    ·cases h
    ·rename_i s2 h2
     have g1:s2.ty.length=s.ty.length+1:=by
      unfold perhapsT at h2
      rw[if_pos hop] at h2
      split at h2
      ·cases h2
      ·rename_i s3 h3
       have:=hI _ _ h3
       split at h2
       ·cases h2
       ·cases h2
        exact this
     have:=itemsT_ty hI h (by omega)
     omega
  ·cases h
   omega
section
variable {w0 w:World} {ab tg cap mw mb:Nat} {T:List Tok} {s:MS} {X:List It}
theorem items_data (h:Fu w0 ab tg cap mw mb T (AF X) s w) (hg:Ge w0) (hT:TW T) (hD:(∀t∈T,t.1≠4)∨∀i,opensT T ⟨#[100,97,116,97]⟩ i=false):
  Calls Tryz.prog 87 #[.pointer (some ⟨ab,0,none⟩),.string ⟨#[100,97,116,97]⟩,.int .i64 10,.func (.func 97) #[.pointer (some ⟨ab,0,none⟩)] #[]] w (OutX w0 (itemsT T ⟨#[100,97,116,97]⟩ 10 (dataT T) (T.length - s.i) 0 s) fun s' e w'=>e=.returned (.tuple #[])∧Fu w0 ab tg cap mw mb T (AF X) s' w'):=by
 rcases hD with hns | hno
 ·exact asItems_all enters_data (data_item hg hT hns) AF.fwd (AF.gain hT) hT h ⟨#[100,97,116,97]⟩ 10 (by omega)
 ·obtain⟨hi,v,tl,ha,hS⟩:=h
  obtain⟨t,ht⟩:∃t,T[s.i]?=some t:=⟨_,List.getElem?_eq_getElem hi⟩
  obtain⟨t2,ht2⟩:∃t,T[nx T s.i]?=some t:=⟨_,List.getElem?_eq_getElem (nx_ok hi)⟩
  have hq:(t.1==2&&isW t2 ⟨#[100,97,116,97]⟩)=false:=by
   have:=hno s.i
   unfold opensT at this
   rw[ht,ht2] at this
   exact this
  refine(asItems_none hS ht ht2 hT.len ⟨#[100,97,116,97]⟩ hq 10 _).mono ?_
  rintro e w' ⟨rfl,h1⟩
  refine OutX.ok_mk (x:=s) ?_ ⟨rfl,hi,v,tl,ha,h1⟩
  obtain⟨k,hk⟩:∃k,T.length - s.i=k+1:=⟨T.length - s.i - 1,by omega⟩
  rw[hk]
  unfold itemsT
  rw[if_neg (by rw[hno s.i];decide)]
set_option maxRecDepth 100000 in
set_option maxHeartbeats 6400000 in
theorem asMod_all (h:Fu w0 ab tg cap mw mb T (AT X) s w) (hty:s.ty=[]) (hg:Ge w0) (hd:Gd w0) (hT:TW T) (hD:(∀t∈T,t.1≠4)∨∀i,opensT T ⟨#[100,97,116,97]⟩ i=false):
  Calls Tryz.prog 74 #[.pointer (some ⟨ab,0,none⟩)] w (OutX w0 (modT T s) fun s' e w'=>e=.returned (.tuple #[])∧Fu w0 ab tg cap mw mb T (AF X) s' w'):=by
 have hmf:∀(fn:Fn) (first cap:Array Value) (w:World),(Instr.makeFunc fn first cap).run Tryz.prog w=.ok (.func fn first cap) w:=fun _ _ _ _=>rfl
 have HG:=hide hg
 have HD:=hide hd
 have HDD:=hide hD
 have HTY:=hide hty
 have HL:Hid (modT T s=modT T s):=rfl
 obtain⟨hi,v,tl,ha,hS⟩:=h
 obtain⟨t,ht⟩:∃t,T[s.i]?=some t:=⟨_,List.getElem?_eq_getElem hi⟩
 obtain⟨t2,ht2⟩:∃t,T[nx T s.i]?=some t:=⟨_,List.getElem?_eq_getElem (nx_ok hi)⟩
 have HS:=hide hS
 have HT:=hide ht
 have HT2:=hide ht2
 have HA:=hide ha
 clear hg hd hD hty hS ht ht2 ha HL hi
 go_enter Tryz.func74,Tryz.ntmps74
 go_wp2_with fail
 refine(tTakeOpen_all HS.out HT.out HT2.out hT.len ⟨#[109,111,100,117,108,101]⟩).mono ?_
 intro e w1 h1
 cases hx:takeO T ⟨#[109,111,100,117,108,101]⟩ s.i with
 | error q=>
  rw[hx] at h1
  obtain⟨rfl,hk⟩:=h1
  exact⟨rfl,OutX.err_mk (bnd_err hx) ⟨rfl,hk⟩⟩
 | ok x=>
 have HL0:Hid (modT T s=_):=bnd_ok hx
 have hle:=takeO_le hT hx
 rw[hx] at h1
 obtain⟨rfl,h1⟩:=h1
 have H0:Hid (Fu w0 ab tg cap mw mb T (AT X) {s with i:=x.2} w1):=⟨by show x.2<T.length;omega,v,tl,AT.fwd (T:=T) v s tl x.2 HA.out (by omega) (by omega),h1⟩
 have HTY0:Hid (({s with i:=x.2}:MS).ty=[]):=HTY.out
 obtain⟨s0,hs0⟩:∃s0:MS,s0={s with i:=x.2}:=⟨_,rfl⟩
 rw[←hs0] at H0 HTY0
 have e0:x.2=s0.i:=by rw[hs0]
 rw[←hs0,e0] at HL0
 clear hx h1 HS HT HT2 HA HTY hle hs0 e0
 go_wp2_with fail
 refine(asItems_all enters_type (type_item hT) AT.fwd (AT.gain hT) hT H0.out ⟨#[116,121,112,101]⟩ 20 (by omega)).mono ?_
 intro e w2 h1
 cases hx:itemsT T ⟨#[116,121,112,101]⟩ 20 (typeI T) (T.length - s0.i) 0 s0 with
 | error q=>
  rw[hx] at h1
  obtain⟨rfl,hk⟩:=h1
  exact⟨rfl,OutX.err_mk (HL0.out.trans (bnd_err hx)) ⟨rfl,hk⟩⟩
 | ok s1=>
 have HL1:Hid (modT T s=_):=HL0.out.trans (bnd_ok hx)
 rw[hx] at h1
 obtain⟨rfl,h1⟩:=h1
 have hty:=itemsT_ty (T:=T) (fun s s'=>typeI_ty) hx (by omega)
 rw[HTY0.out] at hty
 have H1:Hid (Fu w0 ab tg cap mw mb T (AF X) s1 w2):=by
  obtain⟨hi,v,tx,⟨tl,rfl,ha,-⟩,hS⟩:=h1
  exact⟨hi,v,_,⟨tl,rfl,ha,by simpa using hty⟩,hS⟩
 clear hx h1 hty H0 HL0 HTY0
 go_wp2_with fail
 refine(asItems_all enters_function (func_item HG.out HD.out hT) AF.fwd (AF.gain hT) hT H1.out ⟨#[102,117,110,99]⟩ 20 (by omega)).mono ?_
 intro e w3 h2
 cases hx:itemsT T ⟨#[102,117,110,99]⟩ 20 (fnT T) (T.length - s1.i) 0 s1 with
 | error q=>
  rw[hx] at h2
  obtain⟨rfl,hk⟩:=h2
  exact⟨rfl,OutX.err_mk (HL1.out.trans (bnd_err hx)) ⟨rfl,hk⟩⟩
 | ok s2=>
 have HL2:Hid (modT T s=_):=HL1.out.trans (bnd_ok hx)
 rw[hx] at h2
 obtain⟨rfl,h2⟩:=h2
 have H2:=hide h2
 clear hx h2 H1 HL1
 go_wp2_with fail
 refine(asPerhaps_all enters_table (table_item HG.out hT) AF.fwd (AF.gain hT) hT H2.out ⟨#[116,97,98,108,101]⟩).mono ?_
 intro e w4 h3
 cases hx:perhapsT T ⟨#[116,97,98,108,101]⟩ (taT T) s2 with
 | error q=>
  rw[hx] at h3
  obtain⟨rfl,hk⟩:=h3
  exact⟨rfl,OutX.err_mk (HL2.out.trans (bnd_err hx)) ⟨rfl,hk⟩⟩
 | ok s3=>
 have HL3:Hid (modT T s=_):=HL2.out.trans (bnd_ok hx)
 rw[hx] at h3
 obtain⟨rfl,h3⟩:=h3
 have H3:=hide h3
 clear hx h3 H2 HL2
 go_wp2_with fail
 refine(asPerhaps_all enters_memory (memory_item HG.out hT) AF.fwd (AF.gain hT) hT H3.out ⟨#[109,101,109,111,114,121]⟩).mono ?_
 intro e w5 h4
 cases hx:perhapsT T ⟨#[109,101,109,111,114,121]⟩ (meT T) s3 with
 | error q=>
  rw[hx] at h4
  obtain⟨rfl,hk⟩:=h4
  exact⟨rfl,OutX.err_mk (HL3.out.trans (bnd_err hx)) ⟨rfl,hk⟩⟩
 | ok s4=>
 have HL4:Hid (modT T s=_):=HL3.out.trans (bnd_ok hx)
 rw[hx] at h4
 obtain⟨rfl,h4⟩:=h4
 have H4:=hide h4
 clear hx h4 H3 HL3
 go_wp2_with fail
 refine(asItems_all enters_global (global_item HG.out hT) AF.fwd (AF.gain hT) hT H4.out ⟨#[103,108,111,98,97,108]⟩ 10 (by omega)).mono ?_
 intro e w6 h5
 cases hx:itemsT T ⟨#[103,108,111,98,97,108]⟩ 10 (globT T) (T.length - s4.i) 0 s4 with
 | error q=>
  rw[hx] at h5
  obtain⟨rfl,hk⟩:=h5
  exact⟨rfl,OutX.err_mk (HL4.out.trans (bnd_err hx)) ⟨rfl,hk⟩⟩
 | ok s5=>
 have HL5:Hid (modT T s=_):=HL4.out.trans (bnd_ok hx)
 rw[hx] at h5
 obtain⟨rfl,h5⟩:=h5
 have H5:=hide h5
 clear hx h5 H4 HL4
 go_wp2_with fail
 refine(asItems_all enters_export (export_item HG.out hT) AF.fwd (AF.gain hT) hT H5.out ⟨#[101,120,112,111,114,116]⟩ 20 (by omega)).mono ?_
 intro e w7 h6
 cases hx:itemsT T ⟨#[101,120,112,111,114,116]⟩ 20 (exportT T) (T.length - s5.i) 0 s5 with
 | error q=>
  rw[hx] at h6
  obtain⟨rfl,hk⟩:=h6
  exact⟨rfl,OutX.err_mk (HL5.out.trans (bnd_err hx)) ⟨rfl,hk⟩⟩
 | ok s6=>
 have HL6:Hid (modT T s=_):=HL5.out.trans (bnd_ok hx)
 rw[hx] at h6
 obtain⟨rfl,h6⟩:=h6
 have H6:=hide h6
 clear hx h6 H5 HL5
 go_wp2_with fail
 refine(asPerhaps_all enters_start (start_item HG.out hT) AF.fwd (AF.gain hT) hT H6.out ⟨#[115,116,97,114,116]⟩).mono ?_
 intro e w8 h7
 cases hx:perhapsT T ⟨#[115,116,97,114,116]⟩ (startT T) s6 with
 | error q=>
  rw[hx] at h7
  obtain⟨rfl,hk⟩:=h7
  exact⟨rfl,OutX.err_mk (HL6.out.trans (bnd_err hx)) ⟨rfl,hk⟩⟩
 | ok s7=>
 have HL7:Hid (modT T s=_):=HL6.out.trans (bnd_ok hx)
 rw[hx] at h7
 obtain⟨rfl,h7⟩:=h7
 have H7:=hide h7
 clear hx h7 H6 HL6
 go_wp2_with fail
 refine(asItems_all enters_element (elem_item HG.out hT) AF.fwd (AF.gain hT) hT H7.out ⟨#[101,108,101,109]⟩ 5 (by omega)).mono ?_
 intro e w9 h8
 cases hx:itemsT T ⟨#[101,108,101,109]⟩ 5 (elemI T) (T.length - s7.i) 0 s7 with
 | error q=>
  rw[hx] at h8
  obtain⟨rfl,hk⟩:=h8
  exact⟨rfl,OutX.err_mk (HL7.out.trans (bnd_err hx)) ⟨rfl,hk⟩⟩
 | ok s8=>
 have HL8:Hid (modT T s=_):=HL7.out.trans (bnd_ok hx)
 rw[hx] at h8
 obtain⟨rfl,h8⟩:=h8
 have H8:=hide h8
 clear hx h8 H7 HL7
 go_wp2_with fail
 refine(items_data H8.out HG.out hT HDD.out).mono ?_
 intro e w10 h9
 cases hx:itemsT T ⟨#[100,97,116,97]⟩ 10 (dataT T) (T.length - s8.i) 0 s8 with
 | error q=>
  rw[hx] at h9
  obtain⟨rfl,hk⟩:=h9
  exact⟨rfl,OutX.err_mk (HL8.out.trans (bnd_err hx)) ⟨rfl,hk⟩⟩
 | ok s9=>
 have HL9:Hid (modT T s=_):=HL8.out.trans (bnd_ok hx)
 rw[hx] at h9
 obtain⟨rfl,h9⟩:=h9
 have H9:=hide h9
 clear hx h9 H8 HL8
 obtain⟨hi,v,tl,ha,hS⟩:=H9.out
 have HS:=hide hS
 have HI:Hid (s9.i<T.length∧AF X v s9 tl):=⟨hi,ha⟩
 clear hi ha hS H9
 go_wp2_with fail
 refine(asClose_all HS.out hT.len HI.out.1).mono ?_
 intro e w11 h10
 cases hx:closeM T s9.i with
 | error q=>
  rw[hx] at h10
  obtain⟨rfl,hk⟩:=h10
  exact⟨rfl,OutX.err_mk (HL9.out.trans (bnd_err hx)) ⟨rfl,hk⟩⟩
 | ok j=>
 have HL10:Hid (modT T s=_):=HL9.out.trans (bnd_ok hx)
 have hj:=closeM_nx hx
 rw[hx] at h10
 obtain⟨rfl,h10⟩:=h10
 have HJ:Hid (s9.i≤j∧j<T.length):=by rw[hj];exact⟨nx_le HI.out.1,nx_ok HI.out.1⟩
 obtain⟨t3,ht3⟩:∃t,T[j]?=some t:=⟨_,List.getElem?_eq_getElem HJ.out.2⟩
 have HT3:=hide ht3
 have H10:=hide h10
 clear hx h10 HS HL9 hj ht3
 go_wp2_with fail
 refine(tTake_all H10.out HT3.out hT.len 1).mono ?_
 intro e w12 h11
 cases hx:takeT T 1 j with
 | error q=>
  rw[hx] at h11
  obtain⟨rfl,hk⟩:=h11
  exact⟨rfl,OutX.err_mk (HL10.out.trans (bnd_err hx)) ⟨rfl,hk⟩⟩
 | ok y=>
 have HL11:Hid (modT T s=_):=HL10.out.trans (bnd_ok hx)
 obtain⟨-,-,hy⟩:=takeT_nx hx
 rw[hx] at h11
 obtain⟨rfl,h11⟩:=h11
 have H11:Hid (Fu w0 ab tg cap mw mb T (AF X) {s9 with i:=y.2} w12):=by
  have g1:=nx_le HJ.out.2
  have g2:=nx_ok HJ.out.2
  have g3:=HJ.out
  exact⟨by show y.2<T.length;omega,v,tl,AF.fwd (T:=T) v s9 tl y.2 HI.out.2 (by omega) (by omega),h11⟩
 clear hx h11 H10 HL10 hy
 go_wp2
 go_end0
 exact OutX.ok_mk HL11.out ⟨rfl,H11.out⟩
end
end
end Go.Proofs.YtkmofapihggjgaaGreatDoor
