import Derived.Deep.CutBlock
import Derived.Deep.CutRange
import Derived.Outline
import Derived.Test.YtkmofapihggjgaaGreatDoorX10
namespace Go.Proofs.YtkmofapihggjgaaGreatDoor
section
open Go.RowKit
def kinF (b:Bool) (T:List Tok) (f:Bk):Except Err ((List Nat×List Nat)×Bk):=
 if b=true then(match seqT (gnT T ⟨#[112,97,114,97,109]⟩ 8 0 (T.length - f.m.i) [] f.nm f.m.no f.m.i) (fun x=>groT T ⟨#[114,101,115,117,108,116]⟩ 4 (T.length - x.2) [] x.2) with
  | .error e=>.error e
  | .ok x=>.ok ((x.1.1.1,x.2.1),{f with nm:=x.1.1.2.1,m:={f.m with i:=x.2.2,no:=x.1.1.2.2}}))
 else(match kindsT T f.m.i with
  | .error e=>.error e
  | .ok x=>.ok ((x.1.1,x.2.1),{f with m:={f.m with i:=x.2.2}}))
def namP (b:Bool) (fb:Nat):Value:=if b=true then .pointer (some ⟨fb,1,none⟩) else .pointer none
theorem groT_few {T:List Tok} {q:ByteArray} {most:Nat}:∀{k:Nat} {ks ks':List Nat} {i j:Nat},groT T q most k ks i=.ok (ks',j)→ks.length≤most→ks'.length≤most
 | 0,_,_,_,_,h,_=>by cases h
 | k+1,ks,ks',i,j,h,hk=>by
  unfold groT at h
  split at h
  ·split at h
   ·cases h
   ·rename_i hx
    split at h
    ·cases h
    ·exact groT_few h (gwT_nx hx hk)
  ·cases h
   exact hk
theorem declT_mem {T:List Tok} {ns:List Nam} {n i:Nat} {x:Nam} (h:x∈(declT T ns n i).2.1):x∈ns∨x.1=n:=by
 unfold declT at h
 split at h
 ·exact .inl h
 ·split at h
  ·split at h
   ·exact .inl h
   ·rcases List.mem_append.1 h with h | h
    ·exact .inl h
    ·cases List.mem_singleton.1 h;exact .inr rfl
  ·exact .inl h
theorem gnT_le {T:List Tok} {q:ByteArray} {most fr:Nat} (hT:TW T):∀{k:Nat} {ks:List Nat} {nm:List Nam} {no:List (Nat×Nat)} {i:Nat} {x:(List Nat×List Nam×List (Nat×Nat))×Nat},gnT T q most fr k ks nm no i=.ok x→i<T.length→ks.length≤most→
  (i≤x.2∧x.2<T.length)∧x.1.1.length≤most∧x.1.2.1.length≤nm.length+(x.2 - i)∧x.1.2.2.length≤no.length+(x.2 - i)∧∀y∈x.1.2.1,y∈nm∨y.1≤fr+most
 | 0,_,_,_,_,_,h,_,_=>by cases h
 | k+1,ks,nm,no,i,x,h,hi,hk=>by
  unfold gnT at h
  split at h
  ·rename_i ho
   have hi3:=nx_ok (nx_ok hi)
   have g3:=nx_le hi
   have g4:=nx_le (nx_ok hi)
   have hdl:=declT_len (ns:=nm) (n:=fr+ks.length) hT hi3
   have hdt:=declT_lt (ns:=nm) (n:=fr+ks.length) hi3
   have hdm:=fun y=>declT_mem (T:=T) (ns:=nm) (n:=fr+ks.length) (i:=nx T (nx T i)) (x:=y)
   obtain⟨d,hd⟩:∃d,d=declT T nm (fr+ks.length) (nx T (nx T i)):=⟨_,rfl⟩
   rw[←hd] at h hdl hdt hdm
   split at h
   ·cases h
   ·rename_i ks' j hx
    have g1:(d.2.2.1≤j∧j<T.length)∧ks'.length≤most:=by
     split at hx
     ·obtain⟨e1,e2⟩:=gkT_nx hx hk
      have:=nx_le hdt
      have:=nx_ok hdt
      exact⟨by omega,e2⟩
     ·exact⟨gwT_le hx hdt,gwT_nx hx hk⟩
    split at h
    ·cases h
    ·rename_i h2
     obtain⟨-,-,rfl⟩:=takeT_nx h2
     have g5:=nx_le g1.1.2
     have g6:=gnT_le hT h (nx_ok g1.1.2) g1.2
     have g7:(no++d.2.2.2).length=no.length+d.2.2.2.length:=by simp
     refine⟨by omega,g6.2.1,by omega,by omega,fun y hy=>?_⟩
     rcases g6.2.2.2.2 y hy with c | c
     ·rcases hdm y c with c | c
      ·exact .inl c
      ·exact .inr (by omega)
     ·exact .inr c
  ·cases h
   exact⟨⟨Nat.le_refl _,hi⟩,hk,by simp,by simp,fun y hy=>.inl hy⟩
theorem kinF_le {b:Bool} {T:List Tok} {f:Bk} {x:(List Nat×List Nat)×Bk} (hT:TW T) (h:kinF b T f=.ok x) (hi:f.m.i<T.length):
  (f.m.i≤x.2.m.i∧x.2.m.i<T.length)∧(x.1.1.length≤8∧x.1.2.length≤4)∧x.2.nm.length≤f.nm.length+(x.2.m.i - f.m.i)∧x.2.m.no.length≤f.m.no.length+(x.2.m.i - f.m.i)∧(∀y∈x.2.nm,y∈f.nm∨y.1≤8)∧
  x.2={f with nm:=x.2.nm,m:={f.m with i:=x.2.m.i,no:=x.2.m.no}}:=by
 unfold kinF at h
 split at h
 ·split at h
  ·cases h
  ·rename_i y hy
   cases h
   unfold seqT at hy
   split at hy
   ·cases hy
   ·rename_i h1
    split at hy
    ·cases hy
    ·rename_i h2
     cases hy
     have g1:=gnT_le hT h1 hi (by simp)
     have g2:=groT_le hT h2 g1.1.2
     have g3:=groT_few h2 (by simp)
     simp only
     exact⟨by omega,⟨g1.2.1,g3⟩,by omega,by omega,fun y hy=>by simpa using g1.2.2.2.2 y hy,trivial⟩
 ·split at h
  ·cases h
  ·rename_i y hy
   cases h
   have g1:=kindsT_le hT hy hi
   unfold kindsT seqT at hy
   split at hy
   ·cases hy
   ·rename_i h1
    split at hy
    ·cases hy
    ·rename_i h2
     cases hy
     have g3:=groT_few h1 (by simp)
     have g4:=groT_few h2 (by simp)
     simp only at g1 ⊢
     exact⟨g1,⟨g3,g4⟩,by omega,by omega,fun y hy=>.inl hy,trivial⟩
section
variable {w0 w:World} {ab tg cap mw mb fb:Nat} {T:List Tok} {v:VS} {vf:VF} {f:Bk} {tl X:List It}
theorem kinds_F (b:Bool) (h:Sx w0 w (LF ab tg cap mw mb fb T v vf f tl)) (hT:TW T) (hi:f.m.i<T.length) (hn:f.nm.length≤f.m.i) (hno:f.m.no.length≤f.m.i):
  Calls Tryz.prog 111 #[.pointer (some ⟨ab,0,none⟩),namP b fb] w (OutX w0 (kinF b T f) fun x e w'=>∃va vb q q1,e=.returned (.agg #[va,vb])∧Sx w0 w' (LF ab tg cap mw mb fb T {v with no:=q} {vf with n:=q1} x.2 (tl++[.r 73 1 va x.1.1.length (kindCells x.1.1),.r 73 1 vb x.1.2.length (kindCells x.1.2)]))):=by
 cases b with
 | false=>
  refine(kinds_nil h hT hi).mono ?_
  intro e w' h1
  unfold kinF
  rw[if_neg (by decide)]
  cases hx:kindsT T f.m.i with
  | error q=>rw[hx] at h1;exact h1
  | ok x=>
   rw[hx] at h1
   obtain⟨va,vb,rfl,h1⟩:=h1
   exact⟨va,vb,v.no,vf.n,rfl,h1⟩
 | true=>
  refine(asKinds_all (X:=(List Nat×List Nam×List (Nat×Nat))×Nat) (Y:=Value×Value) (Z:=List Nat×Nat) (m1:=gnT T ⟨#[112,97,114,97,109]⟩ 8 0 (T.length - f.m.i) [] f.nm f.m.no f.m.i) (m2:=fun x=>groT T ⟨#[114,101,115,117,108,116]⟩ 4 (T.length - x.2) [] x.2) (ks1:=fun x=>x.1.1) (ks2:=fun z=>z.1) (L0:=LF ab tg cap mw mb fb T v vf f tl) (L1:=fun x y=>LF ab tg cap mw mb fb T {v with no:=y.1} {vf with n:=y.2} {f with nm:=x.1.2.1,m:={f.m with i:=x.2,no:=x.1.2.2}} tl) (L2:=fun x z y=>LF ab tg cap mw mb fb T {v with no:=y.1} {vf with n:=y.2} {f with nm:=x.1.2.1,m:={f.m with i:=z.2,no:=x.1.2.2}} tl) ?_ ?_ h).mono ?_
  ·intro r' w h
   refine(groups_fn (tl:=tl++r') h hT hi _ 8 (by omega) 0 (by omega) hn hno).mono ?_
   intro e w' hh
   cases hx:gnT T ⟨#[112,97,114,97,109]⟩ 8 0 (T.length - f.m.i) [] f.nm f.m.no f.m.i with
   | error q=>rw[hx] at hh;exact hh
   | ok x=>
    rw[hx] at hh
    obtain⟨u,q1,q,rfl,h1⟩:=hh
    exact⟨u,(q,q1),rfl,h1⟩
  ·intro x y r' w hx h
   have hj:=(gnT_le hT hx hi (by simp)).1.2
   refine(groups_nil (i:=x.2) (r:=RA mw mb {v with no:=y.1} {f.m with i:=x.2,no:=x.1.2.2} (FT ab fb {vf with n:=y.2} {f with nm:=x.1.2.1,m:={f.m with i:=x.2,no:=x.1.2.2}} (tl++r'))) h hT hj _ 4 (by omega) 0).mono ?_
   intro e w' hh
   cases hx:groT T ⟨#[114,101,115,117,108,116]⟩ 4 (T.length - x.2) [] x.2 with
   | error q=>rw[hx] at hh;exact hh
   | ok z=>
    rw[hx] at hh
    obtain⟨u,rfl,h1⟩:=hh
    exact⟨u,rfl,h1⟩
  ·intro e w' hh
   unfold kinF
   rw[if_pos rfl]
   cases hx:seqT (gnT T ⟨#[112,97,114,97,109]⟩ 8 0 (T.length - f.m.i) [] f.nm f.m.no f.m.i) (fun x=>groT T ⟨#[114,101,115,117,108,116]⟩ 4 (T.length - x.2) [] x.2) with
   | error q=>rw[hx] at hh;exact hh
   | ok x=>
    rw[hx] at hh
    obtain⟨va,vb,y,rfl,h1⟩:=hh
    exact⟨va,vb,y.1,y.2,rfl,h1⟩
end
end
section
open Go.RowKit
structure UseR where
 a:List Nat
 b:List Nat
 told:Bool
 ix:Nat
def tyAt (ty:List (List Nat×List Nat)) (k:Nat):List Nat×List Nat:=ty.getD k ([],[])
def tokAt (T:List Tok) (i:Nat):Nat:=(T[i]?.getD (0,0,⟨#[]⟩)).2.1
def useT (b:Bool) (T:List Tok) (f:Bk):Except Err (UseR×Bk):=
 if opensT T ⟨#[116,121,112,101]⟩ f.m.i=true then(match indexT T f.m.fT (nx T (nx T f.m.i)) with
  | .error e=>.error e
  | .ok (x,j,ns)=>match takeT T 3 j with
   | .error e=>.error e
   | .ok (_,j2)=>match kinF b T {f with m:={f.m with i:=j2,no:=f.m.no++ns}} with
    | .error e=>.error e
    | .ok (kk,f2)=>.ok (⟨(if x.2=true then tyAt f.m.ty x.1 else([],[])).1,(if x.2=true then tyAt f.m.ty x.1 else([],[])).2,true,x.1⟩,
     if x.2=true∧(opensT T ⟨#[112,97,114,97,109]⟩ j2||opensT T ⟨#[114,101,115,117,108,116]⟩ j2)=true∧¬(x.1<f.m.ty.length∧kk=tyAt f.m.ty x.1) then {f2 with m:={f2.m with no:=f2.m.no++[(8,tokAt T (nx T f.m.i))]}} else f2))
 else(match kinF b T f with
  | .error e=>.error e
  | .ok (kk,f2)=>.ok (⟨kk.1,kk.2,false,0⟩,f2))
theorem indexT_lt {T:List Tok} {ns:List Nam} {i:Nat} {x:(Nat×Bool)×Nat×List (Nat×Nat)} (h:indexT T ns i=.ok x) (hk:∀y∈ns,y.1≤100000):x.1.1≤4294967295:=by
 unfold indexT at h
 split at h
 ·cases h
 ·split at h
  ·split at h
   ·rename_i hx
    cases h
    obtain⟨p,hp,rfl⟩:=idxO_mem hx
    have:=hk p hp
    show p.1≤_
    omega
   ·cases h
    simp
  ·split at h
   ·rename_i hn
    cases h
    unfold numberM at hn
    split at hn
    ·split at hn
     ·rename_i hu
      cases hn
      exact uT_lt hu
     ·cases hn
    ·cases hn
   ·cases h
section
variable {w0 w:World} {ab tg cap mw mb fb:Nat} {T:List Tok} {v:VS} {vf:VF} {f:Bk} {tl X Y:List It} {g:Gh}
theorem Sx.rowM {l:List It} {E:TypeId} {sz n:Nat} {v:Value} {xs:List Value} (h:Sx w0 w l) (hm:It.r E sz v n xs∈l):Row (fun g=>w0.heap.size≤g) w E sz v n xs:=by
 obtain⟨k,hk⟩:=List.mem_iff_getElem?.1 hm
 exact h.isRow k hk
set_option maxRecDepth 100000 in
set_option maxHeartbeats 6400000 in
theorem use_told (b:Bool) (h:Sx w0 w (LF ab tg cap mw mb fb T v vf f Y)) (hg:Ge w0) (hT:TW T) (hi:f.m.i<T.length) (hA:AG g v f.m tl) (hY:∀p∈tl,p∈Y) (hn:f.nm.length≤f.m.i) (hq:opensT T ⟨#[116,121,112,101]⟩ f.m.i=true):
  Calls Tryz.prog 112 #[.pointer (some ⟨ab,0,none⟩),namP b fb] w (OutX w0 (useT b T f) fun x e w'=>x.1.told=true∧(∃pa ca pb cb,e=.returned (.agg #[.slice pa x.1.a.length ca,.slice pb x.1.b.length cb,.bool true,.int .u32 (x.1.ix:Nat)]))∧∃q q1,Sx w0 w' (LF ab tg cap mw mb fb T {v with no:=q} {vf with n:=q1} x.2 Y)):=by
 have hnot:∀(x:Bool) (w:World),(Op.unary .not (.bool x)).run Tryz.prog w=.ok (.bool (!x)) w:=fun _ _=>rfl
 have hi2:=nx_ok hi
 have hi3:=nx_ok hi2
 obtain⟨t,ht⟩:∃t,T[f.m.i]?=some t:=⟨_,List.getElem?_eq_getElem hi⟩
 obtain⟨t2,ht2⟩:∃t,T[nx T f.m.i]?=some t:=⟨_,List.getElem?_eq_getElem hi2⟩
 have hQ:Hid (opensT T ⟨#[116,121,112,101]⟩ f.m.i=true):=hq
 have ho:(t.1==2&&isW t2 ⟨#[116,121,112,101]⟩)=true:=by unfold opensT at hq;rw[ht,ht2] at hq;exact hq
 have HO:=hide ho
 have HC:Hid (t.1=2):=by show _=_;simp at ho;exact ho.1
 have HW:Hid (isW t2 ⟨#[116,121,112,101]⟩=true):=by show _=_;simp at ho;exact ho.2
 have H:=hide (LF.push (X:=[]) (h.new #[.slice none 0 0,.slice none 0 0,.bool false,.int .u32 0] 178))
 have HT:=hide ht
 have HT2:=hide ht2
 have HG:=hide hg
 have HA:=hide hA
 have HB:Hid ((f.m.i<T.length∧f.nm.length≤f.m.i)∧nx T (nx T f.m.i)<T.length∧∀p∈tl,p∈Y):=⟨⟨hi,hn⟩,hi3,hY⟩
 clear h ht ht2 hq ho hg hA hi hn hi2 hi3 hY
 go_enter Tryz.func112,Tryz.ntmps112
 go_wp2_with fail
 refine(tOpens_any H.out HT.out HT2.out hT.len _).mono ?_
 rintro e w1 ⟨rfl,h1⟩
 rw[HO.out]
 have H1:=hide h1
 clear h1 H
 generalize w.heap.size=rb at*
 go_wp2_with fail
 refine(tTakeOpen_any H1.out HT.out HC.out HT2.out hT.len _ HW.out).mono ?_
 rintro e w2 ⟨rfl,h2⟩
 obtain⟨c,p,s⟩:=t2
 rw[show tokV (c,p,s)=.agg #[.int .u8 (c:Nat),.int .i64 (p:Nat),.string s] from rfl]
 have h2':Sx w0 w2 (LF ab tg cap mw mb fb T v vf {f with m:={f.m with i:=nx T (nx T f.m.i)}} (.b rb [.slice none 0 0,.slice none 0 0,.bool false,.int .u32 0]::Y)):=h2
 have h3:=LF.push (X:=[]) (h2'.new #[.int .u8 (c:Nat),.int .i64 (p:Nat),.string s] 144)
 obtain⟨a6,-⟩:=h3.c 0 6 (v:=v.fT) rfl rfl
 have l0:=h3.lt 0 rfl
 have H3:=hide h3
 clear h2 h2' h3 H1
 go_wp2_with fail
 refine(asIndex_all (kr:=5) (v:=v) (s:={f.m with i:=nx T (nx T f.m.i)}) (tl:=FT ab fb vf f (.b w2.heap.size [.int .u8 (c:Nat),.int .i64 (p:Nat),.string s]::.b rb [.slice none 0 0,.slice none 0 0,.bool false,.int .u32 0]::Y)) H3.out HG.out hT.toTT HB.out.2.1 rfl (by have:=HA.out.fT;have:=hT.few;have:=HB.out.1.1;show f.m.fT.length≤1000;omega) HA.out.fTx (by have:=HA.out.no;have:=hT.few;have:=HB.out.1.1;show f.m.no.length≤100000;omega)).mono ?_
 intro e w3 h4
 change OutX w0 (indexT T f.m.fT (nx T (nx T f.m.i))) _ e w3 at h4
 have HU:Hid (useT b T f=(match indexT T f.m.fT (nx T (nx T f.m.i)) with
  | .error e=>.error e
  | .ok (x,j,ns)=>match takeT T 3 j with
   | .error e=>.error e
   | .ok (_,j2)=>match kinF b T {f with m:={f.m with i:=j2,no:=f.m.no++ns}} with
    | .error e=>.error e
    | .ok (kk,f2)=>.ok (⟨(if x.2=true then tyAt f.m.ty x.1 else([],[])).1,(if x.2=true then tyAt f.m.ty x.1 else([],[])).2,true,x.1⟩,
     if x.2=true∧(opensT T ⟨#[112,97,114,97,109]⟩ j2||opensT T ⟨#[114,101,115,117,108,116]⟩ j2)=true∧¬(x.1<f.m.ty.length∧kk=tyAt f.m.ty x.1) then {f2 with m:={f2.m with no:=f2.m.no++[(8,p)]}} else f2))):=by
  show _=_
  unfold useT tokAt
  rw[if_pos hQ.out,HT2.out]
  rfl
 cases hx:indexT T f.m.fT (nx T (nx T f.m.i)) with
 | error q=>
  rw[hx] at h4
  obtain⟨rfl,hk⟩:=h4
  exact⟨rfl,OutX.err_mk (by rw[HU.out,hx]) ⟨rfl,hk⟩⟩
 | ok x=>
 have hxl:=indexT_lt hx HA.out.fTx
 obtain⟨hxn,hxs⟩:=indexT_nx hx
 have HU2:=hide (HU.out.trans (by rw[hx]))
 obtain⟨⟨k,nb⟩,j,ns⟩:=x
 rw[hx] at h4
 obtain⟨rfl,q,h4⟩:=h4
 simp only at h4 HU2 hxl hxn hxs ⊢
 subst hxn
 have hj3:=nx_ok HB.out.2.1
 obtain⟨t3,ht3⟩:∃t,T[nx T (nx T (nx T f.m.i))]?=some t:=⟨_,List.getElem?_eq_getElem hj3⟩
 have HT3:=hide ht3
 have h5:Sx w0 w3 (LF ab tg cap mw mb fb T {v with no:=q} vf {f with m:={f.m with i:=nx T (nx T (nx T f.m.i)),no:=f.m.no++ns}} (.b w2.heap.size [.int .u8 (c:Nat),.int .i64 (p:Nat),.string s]::.b rb [.slice none 0 0,.slice none 0 0,.bool false,.int .u32 0]::Y)):=h4
 have h6:=LF.push (X:=[]) (h5.new #[.int .u32 (k:Nat),.int .i64 0] 66)
 have H6:=hide h6
 have HX:Hid (k≤4294967295∧ns.length≤1∧nx T (nx T (nx T f.m.i))<T.length):=⟨hxl,hxs,hj3⟩
 generalize w2.heap.size=wb at*
 clear h4 h5 h6 hx hxl hxs hj3 ht3 H3 HU a6 l0
 go_wp2_with fail
 refine(tTake_all H6.out HT3.out hT.len 3).mono ?_
 intro e w4 h7
 cases hx:takeT T 3 (nx T (nx T (nx T f.m.i))) with
 | error q=>
  rw[hx] at h7
  obtain⟨rfl,hk⟩:=h7
  exact⟨rfl,OutX.err_mk (by rw[HU2.out,hx]) ⟨rfl,hk⟩⟩
 | ok x=>
 have HU3:=hide (HU2.out.trans (by rw[hx]))
 obtain⟨t4,j2⟩:=x
 obtain⟨htk1,htk2,hj2⟩:=takeT_nx hx
 have hg1:=hT.nx htk1 (by omega)
 have hg2:=hT.last _ _ htk1 (by omega)
 rw[hx] at h7
 obtain⟨rfl,h7⟩:=h7
 simp only at h7 HU3 ⊢
 have h8:Sx w0 w4 (LF ab tg cap mw mb fb T {v with no:=q} vf {f with m:={f.m with i:=j2,no:=f.m.no++ns}} (.b w3.heap.size [.int .u32 (k:Nat),.int .i64 0]::.b wb [.int .u8 (c:Nat),.int .i64 (p:Nat),.string s]::.b rb [.slice none 0 0,.slice none 0 0,.bool false,.int .u32 0]::Y)):=h7
 have HJ:Hid (f.m.i+2≤j2∧j2<T.length):=by
  have g1:=nx_le HB.out.2.1
  have g2:=nx_le HB.out.1.1
  have g3:=nx_le (nx_ok HB.out.1.1)
  have g4:=(opensT_nx hT hQ.out).1
  exact⟨by omega,by omega⟩
 generalize w3.heap.size=nbk at*
 obtain⟨n0,-⟩:=h8.c 26 0 rfl rfl
 have ln:=h8.lt 26 rfl
 obtain⟨pE,cE,hE⟩:=Row.shape (h8.isRow 11 rfl)
 have h9:=LF.push (X:=[]) (h8.new #[.slice none 0 0,.slice none 0 0,.bool true,.int .u32 (k:Nat)] 178)
 obtain⟨u3,-⟩:=h9.c 26 3 rfl rfl
 obtain⟨m9,-⟩:=h9.c 0 9 rfl rfl
 obtain⟨m0,-⟩:=h9.c 10 0 (v:=.slice pE f.m.ty.length cE) rfl (congrArg some hE)
 have lu:=h9.lt 26 rfl
 have la:=h9.lt 0 rfl
 have lm:=h9.lt 10 rfl
 have hkw:IntKind.i64.wrap (k:Int)=(k:Int):=IntWalk.i64_in _ ⟨by omega,by have:=HX.out.1;omega⟩
 have hh9:=fun n=>h9.drewN n
 have HH9:=hide hh9
 clear h7 h8 h9 hh9 hx htk1 htk2 hj2 hg1 hg2 H6 HU2 HT3
 go_wp2_with fail
 go_quiet (fail)
 have h10:=HH9.out nq
 clear HH9 n0 ln u3 m9 m0 lu la lm
 generalize (w4.alloc (.cells #[.slice none 0 0,.slice none 0 0,.bool true,.int .u32 (k:Nat)] 178)).drewN nq=w5 at*
 generalize w4.heap.size=ub at*
 obtain⟨U,hU⟩:∃U,U=(if nb=true then tyAt f.m.ty k else([],[])):=⟨_,rfl⟩
 have HUD:=hide hU
 have H10:=hide h10
 obtain⟨th,hth⟩:∃th,th=decide (k<f.m.ty.length):=⟨_,rfl⟩
 rw[←hth]
 have HTH:=hide hth
 clear hU h10 hE hth
 go_upto_region 8 with fail
 go_cut [57] from 54 to 57 (fun x W=>x=.bool (nb&&th)∧w5=W)
 case first=>
  cases nb
  ·go_wp2
   go_meet
   case rel=>exact⟨rfl,rfl⟩
  ·go_wp2
   go_meet
   case rel=>exact⟨rfl,rfl⟩
 obtain⟨rfl,rfl⟩:=hcut
 go_upto_if 57 with fail
 go_cut [] from 57 to 69 (fun W=>∃pa ca pb cb,HasR tl 73 1 (.slice pa U.1.length ca) U.1.length (kindCells U.1)∧HasR tl 73 1 (.slice pb U.2.length cb) U.2.length (kindCells U.2)∧Sx w0 W (LF ab tg cap mw mb fb T {v with no:=q} vf {f with m:={f.m with i:=j2,no:=f.m.no++ns}} (.b ub [.slice pa U.1.length ca,.slice pb U.2.length cb,.bool true,.int .u32 (k:Nat)]::.b nbk [.int .u32 (k:Nat),.int .i64 0]::.b wb [.int .u8 (c:Nat),.int .i64 (p:Nat),.string s]::.b rb [.slice none 0 0,.slice none 0 0,.bool false,.int .u32 0]::Y)))
 case first=>
  cases hnt:nb&&th with
  | true=>
   have hth:k<f.m.ty.length:=by have:=HTH.out;simp at hnt;rw[hnt.2] at this;simpa using this.symm
   have hnb:nb=true:=by simp at hnt;exact hnt.1
   have hth':(k:Int)<(f.m.ty.length:Int):=by omega
   have hgl:k<g.ty.length:=by have:=HA.out.ty;rw[this] at hth;simpa using hth
   obtain⟨y,hy⟩:∃y,g.ty[k]?=some y:=⟨_,List.getElem?_eq_getElem hgl⟩
   have hUy:U=y.1:=by
    rw[HUD.out,if_pos hnb]
    unfold tyAt
    rw[HA.out.ty,List.getD_eq_getElem?_getD,List.getElem?_map,hy]
    rfl
   obtain⟨r1,r2,-⟩:=HA.out.tyr y (List.mem_of_getElem? hy)
   obtain⟨gT,cpT,hvT,-,hgT,-,hcell⟩:=Row.cells (H10.out.isRow 11 rfl) (show 0<f.m.ty.length by omega)
   have hfg:∀o,o<2→v.xty[k*2+o]?=(tyvC y.2)[o]?:=fun o ho=>by
    rw[HA.out.tyv,←List.flatMap_map (f:=fun x:(List Nat×List Nat)×TyV=>x.2) (g:=tyvC)]
    exact flat_get (f:=tyvC) (m:=2) (o:=o) (fun _=>rfl) (by rw[List.getElem?_map,hy];rfl) ho
   have e0:w5.cell? ⟨gT,k*2,none⟩=some y.2.1:=(hcell (k*2) (by show k*2<f.m.ty.length*2;omega)).trans (hfg 0 (by omega))
   have e1:w5.cell? ⟨gT,k*2+1,none⟩=some y.2.2:=(hcell (k*2+1) (by show k*2+1<f.m.ty.length*2;omega)).trans (hfg 1 (by omega))
   obtain⟨p1,q1,hp1⟩:=Row.shape (r1.row H10.out (fun p hp=>by simp[HB.out.2.2 p hp]))
   obtain⟨p2,q2,hp2⟩:=Row.shape (r2.row H10.out (fun p hp=>by simp[HB.out.2.2 p hp]))
   rw[hp1] at e0 r1
   rw[hp2] at e1 r2
   subst hUy
   obtain⟨u3,-⟩:=H10.out.c 26 3 rfl rfl
   obtain⟨m9,-⟩:=H10.out.c 0 9 rfl rfl
   obtain⟨m0,-⟩:=H10.out.c 10 0 (v:=.slice (some ⟨gT,0,none⟩) f.m.ty.length cpT) rfl (congrArg some hvT)
   clear hcell hfg hp1 hp2 hy hgl HUD hnt hnb hth
   go_wp2_with fail
   have hS0:(fun V:World=>V.cell? ⟨ab,9,none⟩=some (.pointer (some ⟨mb,0,none⟩))∧V.cell? ⟨mb,0,none⟩=some (.slice (some ⟨gT,0,none⟩) f.m.ty.length cpT)∧V.cell? ⟨ub,3,none⟩=some (.int .u32 (k:Nat))∧V.cell? ⟨gT,k*2,none⟩=some (.slice p1 y.1.1.length q1)∧V.cell? ⟨gT,k*2+1,none⟩=some (.slice p2 y.1.2.length q2)) w5.drew:=⟨m9,m0,u3,e0,e1⟩
   refine regK (fun V:World=>V.cell? ⟨ab,9,none⟩=some (.pointer (some ⟨mb,0,none⟩))∧V.cell? ⟨mb,0,none⟩=some (.slice (some ⟨gT,0,none⟩) f.m.ty.length cpT)∧V.cell? ⟨ub,3,none⟩=some (.int .u32 (k:Nat))∧V.cell? ⟨gT,k*2,none⟩=some (.slice p1 y.1.1.length q1)∧V.cell? ⟨gT,k*2+1,none⟩=some (.slice p2 y.1.2.length q2)) 12 ?_
   iterate 12 refine tkk hS0 (h:=?_) (hy:=by(refine Or.inl ⟨by rfl,?_⟩;intro V hV;obtain⟨u0,u1,u2,u3,u4⟩:=hV;go_simp;try with_reducible rfl))
   obtain⟨c0,d0⟩:=H10.out.c 26 0 rfl rfl
   obtain⟨c1,d1⟩:=H10.out.c 26 1 rfl rfl
   have lub:=H10.out.lt 26 rfl
   have h11:=((H10.out.set 26 0 (.slice p1 y.1.1.length q1) rfl).set 26 1 (.slice p2 y.1.2.length q2) rfl).drew
   have H11:Hid (Sx w0 _ (LF ab tg cap mw mb fb T {v with no:=q} vf {f with m:={f.m with i:=j2,no:=f.m.no++ns}} (.b ub [.slice p1 y.1.1.length q1,.slice p2 y.1.2.length q2,.bool true,.int .u32 (k:Nat)]::.b nbk [.int .u32 (k:Nat),.int .i64 0]::.b wb [.int .u8 (c:Nat),.int .i64 (p:Nat),.string s]::.b rb [.slice none 0 0,.slice none 0 0,.bool false,.int .u32 0]::Y))):=h11
   clear h11
   refine lastK (fun K hK=>?_)
   go_simp
   refine hK _ _ ?_
   clear hK K
   go_wp2
   go_meet
   case rel=>exact⟨_,_,_,_,r1,r2,H11.out⟩
  | false=>
   have hU2:Hid (U=([],[])):=by
    show _=_
    rw[HUD.out]
    split
    ·rename_i e
     rw[e,HTH.out] at hnt
     simp at hnt
     unfold tyAt
     rw[List.getD_eq_getElem?_getD,List.getElem?_eq_none hnt]
     rfl
    ·rfl
   clear hnt
   go_wp2
   go_meet
   case rel=>rw[hU2.out];exact⟨none,0,none,0,.inl ⟨rfl,rfl,rfl⟩,.inl ⟨rfl,rfl,rfl⟩,H10.out⟩
 obtain⟨pa,ca,pb,cb,hra,hrb,hS⟩:=hcut
 have HRA:Hid (HasR tl 73 1 (.slice pa U.1.length ca) U.1.length (kindCells U.1)∧HasR tl 73 1 (.slice pb U.2.length cb) U.2.length (kindCells U.2)):=⟨hra,hrb⟩
 have HS:=hide hS
 clear hra hrb hS H10
 obtain⟨t5,ht5⟩:∃t,T[j2]?=some t:=⟨_,List.getElem?_eq_getElem HJ.out.2⟩
 obtain⟨t6,ht6⟩:∃t,T[nx T j2]?=some t:=⟨_,List.getElem?_eq_getElem (nx_ok HJ.out.2)⟩
 have HT5:=hide ht5
 have HT6:=hide ht6
 obtain⟨ag,hag⟩:∃ag,ag=(opensT T ⟨#[112,97,114,97,109]⟩ j2||opensT T ⟨#[114,101,115,117,108,116]⟩ j2):=⟨_,rfl⟩
 have HAG:=hide hag
 clear ht5 ht6 hag
 go_upto_region 10 with fail
 go_cut [10] from 70 to 79 (fun x W=>x=.bool ag∧Sx w0 W (LF ab tg cap mw mb fb T {v with no:=q} vf {f with m:={f.m with i:=j2,no:=f.m.no++ns}} (.b ub [.slice pa U.1.length ca,.slice pb U.2.length cb,.bool true,.int .u32 (k:Nat)]::.b nbk [.int .u32 (k:Nat),.int .i64 0]::.b wb [.int .u8 (c:Nat),.int .i64 (p:Nat),.string s]::.b rb [.slice none 0 0,.slice none 0 0,.bool false,.int .u32 0]::Y)))
 case first=>
  have e1:opensT T ⟨#[112,97,114,97,109]⟩ j2=(t5.1==2&&isW t6 ⟨#[112,97,114,97,109]⟩):=by unfold opensT;rw[HT5.out,HT6.out]
  have e2:opensT T ⟨#[114,101,115,117,108,116]⟩ j2=(t5.1==2&&isW t6 ⟨#[114,101,115,117,108,116]⟩):=by unfold opensT;rw[HT5.out,HT6.out]
  have HE:Hid (ag=((t5.1==2&&isW t6 ⟨#[112,97,114,97,109]⟩)||(t5.1==2&&isW t6 ⟨#[114,101,115,117,108,116]⟩))):=by show _=_;rw[HAG.out,e1,e2]
  clear e1 e2
  go_wp2_with fail
  refine(tOpens_any HS.out HT5.out HT6.out hT.len ⟨#[112,97,114,97,109]⟩).mono ?_
  rintro e w6 ⟨rfl,h11⟩
  cases hb1:(t5.1==2&&isW t6 ⟨#[112,97,114,97,109]⟩) with
  | true=>
   have H11:=hide h11
   have HE2:Hid (ag=true):=by show _=_;rw[HE.out,hb1];rfl
   clear h11 hb1 HS
   go_wp2
   go_meet
   case rel=>exact⟨by rw[HE2.out],H11.out⟩
  | false=>
   have H11:=hide h11
   have HE2:Hid (ag=(t5.1==2&&isW t6 ⟨#[114,101,115,117,108,116]⟩)):=by show _=_;rw[HE.out,hb1];rfl
   clear h11 hb1 HS
   go_wp2_with fail
   refine(tOpens_any H11.out HT5.out HT6.out hT.len ⟨#[114,101,115,117,108,116]⟩).mono ?_
   rintro e w7 ⟨rfl,h12⟩
   rw[←HE2.out]
   have H12:=hide h12
   clear h12 H11
   go_wp2
   go_meet
   case rel=>exact⟨rfl,H12.out⟩
 obtain⟨rfl,hS⟩:=hcut
 have HS2:=hide hS
 clear hS HS
 go_wp2_with fail
 refine(kinds_F b HS2.out hT HJ.out.2 (by show f.nm.length≤j2;have:=HB.out.1.2;have:=HJ.out.1;omega) (by show(f.m.no++ns).length≤j2;rw[List.length_append];have:=HA.out.no;have:=HX.out.2.1;have:=HJ.out.1;omega)).mono ?_
 intro e w8 h13
 cases hx:kinF b T {f with m:={f.m with i:=j2,no:=f.m.no++ns}} with
 | error q=>
  rw[hx] at h13
  obtain⟨rfl,hk⟩:=h13
  exact⟨rfl,OutX.err_mk (by rw[HU3.out,hx]) ⟨rfl,hk⟩⟩
 | ok x=>
 have HU4:=hide (HU3.out.trans (by rw[hx]))
 have HK:=hide (kinF_le hT hx HJ.out.2)
 obtain⟨kk,f2⟩:=x
 rw[hx] at h13
 obtain⟨va,vb,q2,qn,rfl,h13⟩:=h13
 simp only at h13 HU4 HK
 rw[←HAG.out,←HUD.out] at HU4
 obtain⟨pva,cva,hva⟩:=Row.shape (h13.rowM (E:=73) (sz:=1) (v:=va) (n:=kk.1.length) (xs:=kindCells kk.1) (by simp))
 obtain⟨pvb,cvb,hvb⟩:=Row.shape (h13.rowM (E:=73) (sz:=1) (v:=vb) (n:=kk.2.length) (xs:=kindCells kk.2) (by simp))
 subst hva hvb
 have h14:=LF.push (X:=[]) (h13.new #[.slice pva kk.1.length cva,.slice pvb kk.2.length cvb] 47)
 have H14:=hide h14
 clear h13 h14 hx HU3 HS2
 go_upto_region 12 with fail
 generalize w8.alloc (.cells #[.slice pva kk.1.length cva,.slice pvb kk.2.length cvb] 47)=w9 at*
 generalize w8.heap.size=kb at*
 obtain⟨sm,hsm⟩:∃sm,sm=decide (kk.1=U.1∧kk.2=U.2):=⟨_,rfl⟩
 have HSM:=hide hsm
 clear hsm
 go_cut [96] from 83 to 96 (fun x W=>x=.bool (nb&&ag&&!(th&&sm))∧Sx w0 W (LF ab tg cap mw mb fb T {v with no:=q2} {vf with n:=qn} f2 (.b kb [.slice pva kk.1.length cva,.slice pvb kk.2.length cvb]::.b ub [.slice pa U.1.length ca,.slice pb U.2.length cb,.bool true,.int .u32 (k:Nat)]::.b nbk [.int .u32 (k:Nat),.int .i64 0]::.b wb [.int .u8 (c:Nat),.int .i64 (p:Nat),.string s]::.b rb [.slice none 0 0,.slice none 0 0,.bool false,.int .u32 0]::Y++[.r 73 1 (.slice pva kk.1.length cva) kk.1.length (kindCells kk.1),.r 73 1 (.slice pvb kk.2.length cvb) kk.2.length (kindCells kk.2)])))
 case first=>
  obtain⟨k0,-⟩:=H14.out.c 26 0 rfl rfl
  obtain⟨k1,-⟩:=H14.out.c 26 1 rfl rfl
  obtain⟨u0,-⟩:=H14.out.c 27 0 rfl rfl
  obtain⟨u1,-⟩:=H14.out.c 27 1 rfl rfl
  have lk:=H14.out.lt 26 rfl
  have lu:=H14.out.lt 27 rfl
  cases nb
  ·go_wp2
   go_meet
   case rel=>exact⟨rfl,H14.out⟩
  ·cases ag
   ·go_wp2
    go_meet
    case rel=>exact⟨rfl,H14.out⟩
   ·cases th
    ·go_wp2
     go_meet
     case rel=>exact⟨rfl,H14.out⟩
    ·go_wp2_with fail
     refine(same_any (a:=kk.1) (b:=kk.2) (c:=U.1) (d:=U.2) (H14.out.rowM (by simp)) (H14.out.rowM (by simp)) (HRA.out.1.row H14.out (fun p hp=>by simp[HB.out.2.2 p hp])) (HRA.out.2.row H14.out (fun p hp=>by simp[HB.out.2.2 p hp])) ⟨by have:=HK.out.2.1.1;omega,by have:=HK.out.2.1.2;omega⟩).mono ?_
     rintro e w10 ⟨rfl,hk3⟩
     rw[←HSM.out]
     have H15:=hide (H14.out.to hk3)
     clear hk3 k0 k1 u0 u1 lk lu
     go_wp2
     go_meet
     case rel=>exact⟨rfl,H15.out⟩
 obtain⟨rfl,hS⟩:=hcut
 have HS3:=hide hS
 clear hS H14
 obtain⟨fN,hfN⟩:∃fN,fN=(if(nb&&ag&&!(th&&sm))=true then {f2 with m:={f2.m with no:=f2.m.no++[(8,p)]}} else f2):=⟨_,rfl⟩
 have HFN:=hide hfN
 clear hfN
 go_upto_if 96 with fail
 go_cut [] from 96 to 99 (fun W=>∃q3,Sx w0 W (LF ab tg cap mw mb fb T {v with no:=q3} {vf with n:=qn} fN (.b kb [.slice pva kk.1.length cva,.slice pvb kk.2.length cvb]::.b ub [.slice pa U.1.length ca,.slice pb U.2.length cb,.bool true,.int .u32 (k:Nat)]::.b nbk [.int .u32 (k:Nat),.int .i64 0]::.b wb [.int .u8 (c:Nat),.int .i64 (p:Nat),.string s]::.b rb [.slice none 0 0,.slice none 0 0,.bool false,.int .u32 0]::Y++[.r 73 1 (.slice pva kk.1.length cva) kk.1.length (kindCells kk.1),.r 73 1 (.slice pvb kk.2.length cvb) kk.2.length (kindCells kk.2)])))
 case first=>
  cases hnn:(nb&&ag&&!(th&&sm)) with
  | false=>
   have HF2:Hid (fN=f2):=by show _=_;rw[HFN.out,hnn];rfl
   clear hnn
   go_wp2
   go_meet
   case rel=>rw[HF2.out];exact⟨q2,HS3.out⟩
  | true=>
   have HF2:Hid (fN={f2 with m:={f2.m with no:=f2.m.no++[(8,p)]}}):=by show _=_;rw[HFN.out,hnn];rfl
   obtain⟨z0,-⟩:=HS3.out.c 29 0 rfl rfl
   obtain⟨z1,-⟩:=HS3.out.c 29 1 rfl rfl
   obtain⟨z2,-⟩:=HS3.out.c 29 2 rfl rfl
   have lz:=HS3.out.lt 29 rfl
   clear hnn
   go_wp2_with fail
   refine(asNotice_any (kq:=1) (n:=f2.m.no.length) HS3.out rfl rfl (by have:=HK.out.2.2.2.1;rw[List.length_append] at this;have:=HA.out.no;have:=HX.out.2.1;have:=HJ.out.1;have:=HK.out.1;have:=hT.few;omega) 8 (c,p,s)).mono ?_
   rintro e w11 ⟨rfl,q3,h16⟩
   have h17:=LA.no_eq (ab:=ab) (tg:=tg) (cap:=cap) (mw:=mw) (mb:=mb) (T:=T) (v:={v with no:=q2}) (s:=f2.m) (tl:=FT ab fb {vf with n:=qn} f2 (.b kb [.slice pva kk.1.length cva,.slice pvb kk.2.length cvb]::.b ub [.slice pa U.1.length ca,.slice pb U.2.length cb,.bool true,.int .u32 (k:Nat)]::.b nbk [.int .u32 (k:Nat),.int .i64 0]::.b wb [.int .u8 (c:Nat),.int .i64 (p:Nat),.string s]::.b rb [.slice none 0 0,.slice none 0 0,.bool false,.int .u32 0]::Y++[.r 73 1 (.slice pva kk.1.length cva) kk.1.length (kindCells kk.1),.r 73 1 (.slice pvb kk.2.length cvb) kk.2.length (kindCells kk.2)])) (j:=f2.m.i) (q:=q3) (e:=8) (p:=p) rfl
   have H16:=hide ((congrArg (Sx w0 w11) h17).mp h16)
   clear h16 h17 z0 z1 z2 lz HS3
   go_wp2
   go_meet
   case rel=>rw[HF2.out];exact⟨q3,H16.out⟩
 obtain⟨q3,hS⟩:=hcut
 have HM:Hid (useT b T f=.ok (⟨U.1,U.2,true,k⟩,fN)):=by
  show _=_
  rw[HU4.out,HFN.out]
  congr 2
  have e1:(nb=true∧ag=true∧¬(k<f.m.ty.length∧kk=tyAt f.m.ty k))↔((nb&&ag&&!(th&&sm))=true):=by
   rw[HTH.out,HSM.out]
   cases nb
   ·simp
   ·rw[HUD.out,if_pos rfl]
    cases ag
    ·simp
    ·by_cases h1:k<f.m.ty.length
     ·by_cases h2:kk.1=(tyAt f.m.ty k).1<;>simp[h1,h2,Prod.ext_iff]
     ·simp[h1]
  simp only[e1]
 obtain⟨b0,-⟩:=hS.c 27 0 rfl rfl
 obtain⟨b1,-⟩:=hS.c 27 1 rfl rfl
 obtain⟨b2,-⟩:=hS.c 27 2 rfl rfl
 obtain⟨b3,-⟩:=hS.c 27 3 rfl rfl
 have lb:=hS.lt 27 rfl
 obtain⟨r0,s0⟩:=hS.c 30 0 rfl rfl
 obtain⟨r1,s1⟩:=hS.c 30 1 rfl rfl
 obtain⟨r2,s2⟩:=hS.c 30 2 rfl rfl
 obtain⟨r3,s3⟩:=hS.c 30 3 rfl rfl
 have lr:=hS.lt 30 rfl
 have h18:=(((hS.set 30 0 (.slice pa U.1.length ca) rfl).set 30 1 (.slice pb U.2.length cb) rfl).set 30 2 (.bool true) rfl).set 30 3 (.int .u32 (k:Nat)) rfl
 have h19:Sx w0 _ (LF ab tg cap mw mb fb T {v with no:=q3} {vf with n:=qn} fN (.b kb [.slice pva kk.1.length cva,.slice pvb kk.2.length cvb]::.b ub [.slice pa U.1.length ca,.slice pb U.2.length cb,.bool true,.int .u32 (k:Nat)]::.b nbk [.int .u32 (k:Nat),.int .i64 0]::.b wb [.int .u8 (c:Nat),.int .i64 (p:Nat),.string s]::.b rb [.slice pa U.1.length ca,.slice pb U.2.length cb,.bool true,.int .u32 (k:Nat)]::Y++[.r 73 1 (.slice pva kk.1.length cva) kk.1.length (kindCells kk.1),.r 73 1 (.slice pvb kk.2.length cvb) kk.2.length (kindCells kk.2)])):=h18
 obtain⟨y0,-⟩:=h19.c 30 0 rfl rfl
 obtain⟨y1,-⟩:=h19.c 30 1 rfl rfl
 obtain⟨y2,-⟩:=h19.c 30 2 rfl rfl
 obtain⟨y3,-⟩:=h19.c 30 3 rfl rfl
 have h20:=LF.pop (X:=[]) (LF.pop (X:=[]) (LF.pop (X:=[]) (LF.pop (X:=[]) (LF.pop (X:=[]) h19))))
 have h21:Sx w0 _ (LF ab tg cap mw mb fb T {v with no:=q3} {vf with n:=qn} fN Y):=h20.sub (List.sublist_append_left _ _)
 have H21:=hide h21
 clear hS h18 h19 h20 h21
 go_wp2
 refine bodyPost_ret (v:=.agg #[.slice pa U.1.length ca,.slice pb U.2.length cb,.bool true,.int .u32 (k:Nat)]) ?_ rfl ?_
 ·simp[results,Tryz.results112,go_sem,y0,y1,y2,y3]
 ·exact OutX.ok_mk HM.out ⟨rfl,⟨pa,ca,pb,cb,rfl⟩,q3,qn,H21.out⟩
end
end
section
open Go.RowKit
theorem useT_le {b:Bool} {T:List Tok} {f:Bk} {x:UseR×Bk} (hT:TW T) (h:useT b T f=.ok x) (hi:f.m.i<T.length):
  (f.m.i≤x.2.m.i∧x.2.m.i<T.length)∧x.2.nm.length≤f.nm.length+(x.2.m.i - f.m.i)∧x.2.m.no.length≤f.m.no.length+(x.2.m.i - f.m.i)∧(∀y∈x.2.nm,y∈f.nm∨y.1≤8)∧
  x.2={f with nm:=x.2.nm,m:={f.m with i:=x.2.m.i,no:=x.2.m.no}}∧(x.1.told=false→x.1.ix=0∧x.1.a.length≤8∧x.1.b.length≤4):=by
 unfold useT at h
 split at h
 ·rename_i ho
  obtain⟨e1,l1⟩:=opensT_nx hT ho
  split at h
  ·cases h
  ·rename_i xx j ns hx
   obtain⟨g1,g2⟩:=indexT_nx hx
   simp only at g1 g2
   split at h
   ·cases h
   ·rename_i t j2 htk
    obtain⟨g3,g4,g5⟩:=takeT_nx htk
    have g6:=hT.nx g3 (by omega)
    have g7:=hT.last _ _ g3 (by omega)
    have g8:=nx_le (T:=T) (i:=nx T f.m.i) (by omega)
    have g9:=nx_le (nx_ok (nx_ok hi))
    split at h
    ·cases h
    ·rename_i kk f2 hk
     have g10:=kinF_le hT hk (by show j2<T.length;omega)
     simp only[List.length_append] at g10
     cases h
     obtain⟨⟨a1,a2⟩,a3,a4,a5,a6,a7⟩:=g10
     by_cases hC:xx.2=true∧(opensT T ⟨#[112,97,114,97,109]⟩ j2||opensT T ⟨#[114,101,115,117,108,116]⟩ j2)=true∧¬(xx.1<f.m.ty.length∧kk=tyAt f.m.ty xx.1)
     ·simp only[if_pos hC,List.length_append,List.length_singleton]
      refine⟨⟨by omega,a2⟩,by omega,by omega,a6,?_,fun c=>by cases c⟩
      rw[a7]
     ·simp only[if_neg hC]
      refine⟨⟨by omega,a2⟩,by omega,by omega,a6,?_,fun c=>by cases c⟩
      rw[a7]
 ·split at h
  ·cases h
  ·rename_i kk f2 hk
   have g10:=kinF_le hT hk hi
   cases h
   obtain⟨a1,a3,a4,a5,a6,a7⟩:=g10
   exact⟨a1,a4,a5,a6,a7,fun _=>⟨rfl,a3⟩⟩
def useX (u:UseR) (va vb:Value) (X:List It):List It:=if u.told=true then X else .r 73 1 va u.a.length (kindCells u.a)::.r 73 1 vb u.b.length (kindCells u.b)::X
section
variable {w0 w:World} {ab tg cap mw mb fb:Nat} {T:List Tok} {c:Nat} {f:Bk} {X:List It}
theorem FA.use {g:Gh} {v v':VS} {vf:VF} {tl:List It} {f':Bk} {q1:Value} (h:FA g c v vf f tl) (hv:VSame v v') (hi:f.m.i≤f'.m.i) (hnm:f'.nm.length≤f.nm.length+(f'.m.i - f.m.i)) (hno:f'.m.no.length≤f.m.no.length+(f'.m.i - f.m.i)) (hx:∀y∈f'.nm,y∈f.nm∨y.1≤8) (he:f'={f with nm:=f'.nm,m:={f.m with i:=f'.m.i,no:=f'.m.no}}):FA g c v' {vf with n:=q1} f' tl:=by
 have h1:=h.on hv (j:=f'.m.i) (no:=f'.m.no) hi (by have:=h.ag.no;omega)
 have hn:=h.nm
 rw[he]
 exact⟨h1.ag,h1.ty20,h1.al,h1.ins,h1.gi,by show f'.nm.length≤f'.m.i;omega,fun y hy=>by rcases hx y hy with c | c;exact h.nmx y c;omega,h1.lb⟩
theorem use_F (b:Bool) (h:FF w0 ab tg cap mw mb fb T c f X w) (hg:Ge w0) (hT:TW T):
  Calls Tryz.prog 112 #[.pointer (some ⟨ab,0,none⟩),namP b fb] w (OutX w0 (useT b T f) fun x e w'=>∃pa ca pb cb,e=.returned (.agg #[.slice pa x.1.a.length ca,.slice pb x.1.b.length cb,.bool x.1.told,.int .u32 (x.1.ix:Nat)])∧FF w0 ab tg cap mw mb fb T c x.2 (useX x.1 (.slice pa x.1.a.length ca) (.slice pb x.1.b.length cb) X) w'):=by
 obtain⟨hi,g,v,vf,tl,ha,hS⟩:=h
 cases ho:opensT T ⟨#[116,121,112,101]⟩ f.m.i with
 | true=>
  refine(use_told b hS hg hT hi ha.ag (fun p hp=>by simp[hp]) ha.nm ho).mono ?_
  intro e w' h1
  cases hx:useT b T f with
  | error q=>rw[hx] at h1;exact h1
  | ok x=>
   rw[hx] at h1
   obtain⟨ht,⟨pa,ca,pb,cb,rfl⟩,q,q1,h1⟩:=h1
   obtain⟨⟨a1,a2⟩,a3,a4,a5,a6,-⟩:=useT_le hT hx hi
   refine⟨pa,ca,pb,cb,by rw[ht],?_⟩
   unfold useX
   rw[if_pos ht]
   exact⟨a2,g,{v with no:=q},{vf with n:=q1},tl,ha.use ⟨rfl,rfl,rfl,rfl⟩ a1 a3 a4 a5 a6,h1⟩
 | false=>
  have hi2:=nx_ok hi
  obtain⟨t,ht⟩:∃t,T[f.m.i]?=some t:=⟨_,List.getElem?_eq_getElem hi⟩
  obtain⟨t2,ht2⟩:∃t,T[nx T f.m.i]?=some t:=⟨_,List.getElem?_eq_getElem hi2⟩
  have hq:(t.1==2&&isW t2 ⟨#[116,121,112,101]⟩)=false:=by unfold opensT at ho;rw[ht,ht2] at ho;exact ho
  have hU:useT b T f=(match kinF b T f with | .error e=>.error e | .ok (kk,f2)=>.ok (⟨kk.1,kk.2,false,0⟩,f2)):=by unfold useT;rw[if_neg (by rw[ho];decide)];all_goals rfl
  refine(asUse_plainX (X:=Value×Value) (M:=(List Nat×List Nat)×Bk) (m:=kinF b T f) (L2:=fun x y=>LF ab tg cap mw mb fb T {v with no:=y.1} {vf with n:=y.2} x.2 (X++tl)) (ks1:=fun x=>x.1.1) (ks2:=fun x=>x.1.2) hS ht ht2 hT.len hq ?_).mono ?_
  ·intro r' w h
   refine(kinds_F b (tl:=X++tl++r') h hT hi ha.nm ha.ag.no).mono ?_
   intro e w' hh
   cases hx:kinF b T f with
   | error q=>rw[hx] at hh;exact hh
   | ok x=>
    rw[hx] at hh
    obtain⟨va,vb,q,q1,rfl,h1⟩:=hh
    exact⟨va,vb,(q,q1),rfl,h1⟩
  ·intro e w' hh
   cases hx:kinF b T f with
   | error q=>
    rw[hx] at hh hU
    rw[hU]
    exact hh
   | ok x=>
    rw[hx] at hh hU
    obtain⟨va,vb,y,rfl,h1⟩:=hh
    obtain⟨pa,ca,rfl⟩:=Row.shape (h1.rowM (E:=73) (sz:=1) (v:=va) (n:=x.1.1.length) (xs:=kindCells x.1.1) (by simp))
    obtain⟨pb,cb,rfl⟩:=Row.shape (h1.rowM (E:=73) (sz:=1) (v:=vb) (n:=x.1.2.length) (xs:=kindCells x.1.2) (by simp))
    obtain⟨⟨a1,a2⟩,a0,a3,a4,a5,a6⟩:=kinF_le hT hx hi
    obtain⟨kk,f2⟩:=x
    rw[hU]
    refine⟨pa,ca,pb,cb,rfl,?_⟩
    refine⟨a2,g,{v with no:=y.1},{vf with n:=y.2},tl,ha.use ⟨rfl,rfl,rfl,rfl⟩ a1 a3 a4 a5 a6,?_⟩
    have h2:=h1.sub (l':=LF ab tg cap mw mb fb T {v with no:=y.1} {vf with n:=y.2} f2 (X++tl)++[.r 73 1 (.slice pa kk.1.length ca) kk.1.length (kindCells kk.1)]++[.r 73 1 (.slice pb kk.2.length cb) kk.2.length (kindCells kk.2)]) (by rw[List.append_assoc];exact List.Sublist.refl _)
    have h3:=LF.push (X:=X) (tl:=tl++[.r 73 1 (.slice pa kk.1.length ca) kk.1.length (kindCells kk.1)]) (by rw[←List.append_assoc];exact h2)
    have h4:Sx w0 w' (LF ab tg cap mw mb fb T {v with no:=y.1} {vf with n:=y.2} f2 (.r 73 1 (.slice pb kk.2.length cb) kk.2.length (kindCells kk.2)::X++tl)++[.r 73 1 (.slice pa kk.1.length ca) kk.1.length (kindCells kk.1)]):=by
     have e:(It.r 73 1 (.slice pb kk.2.length cb) kk.2.length (kindCells kk.2)::X++(tl++[It.r 73 1 (.slice pa kk.1.length ca) kk.1.length (kindCells kk.1)]))=(It.r 73 1 (.slice pb kk.2.length cb) kk.2.length (kindCells kk.2)::X++tl)++[It.r 73 1 (.slice pa kk.1.length ca) kk.1.length (kindCells kk.1)]:=by simp
     rw[e] at h3
     exact h3
    exact LF.push (X:=.r 73 1 (.slice pb kk.2.length cb) kk.2.length (kindCells kk.2)::X) h4
end
end
section
open Go.RowKit
theorem and255 (x:Int):0≤bits BinOp.and IntKind.u32 x 255∧bits BinOp.and IntKind.u32 x 255<256:=by
 have h:bits BinOp.and IntKind.u32 x 255=IntKind.u32.wrap (((BitVec.ofInt 32 x&&&BitVec.ofInt 32 255).toNat:Nat):Int):=rfl
 have h2:(BitVec.ofInt 32 x&&&BitVec.ofInt 32 255).toNat≤255:=by rw[BitVec.toNat_and];exact Nat.and_le_right
 rw[h,wrap_u32 (by omega)]
 omega
def popS:ByteArray:=⟨#[0,1,1,2,1,2,2,3,1,2,2,3,2,3,3,4,1,2,2,3,2,3,3,4,2,3,3,4,3,4,4,5,1,2,2,3,2,3,3,4,2,3,3,4,3,4,4,5,2,3,3,4,3,4,4,5,3,4,4,5,4,5,5,6,1,2,2,3,2,3,3,4,2,3,3,4,3,4,4,5,2,3,3,4,3,4,4,5,3,4,4,5,4,5,5,6,2,3,3,4,3,4,4,5,3,4,4,5,4,5,5,6,3,4,4,5,4,5,5,6,4,5,5,6,5,6,6,7,1,2,2,3,2,3,3,4,2,3,3,4,3,4,4,5,2,3,3,4,3,4,4,5,3,4,4,5,4,5,5,6,2,3,3,4,3,4,4,5,3,4,4,5,4,5,5,6,3,4,4,5,4,5,5,6,4,5,5,6,5,6,6,7,2,3,3,4,3,4,4,5,3,4,4,5,4,5,5,6,3,4,4,5,4,5,5,6,4,5,5,6,5,6,6,7,3,4,4,5,4,5,5,6,4,5,5,6,5,6,6,7,4,5,5,6,5,6,6,7,5,6,6,7,6,7,7,8]⟩
def popAt (k:Nat):Int:=if h:k<popS.size then((popS[k]).toNat:Int) else 0
theorem pop_size:popS.size=256:=by decide+kernel
theorem popAt_lt {k:Nat} (h:k<256):popAt k=((popS[k]'(by rw[pop_size];exact h)).toNat:Int):=dif_pos _
def onesN (n:Nat):Int:=(popAt (n / 16777216)+popAt (bits BinOp.and IntKind.u32 ((n:Int) / 65536) 255).toNat+popAt (bits BinOp.and IntKind.u32 ((n:Int) / 256) 255).toNat+popAt (bits BinOp.and IntKind.u32 (n:Int) 255).toNat)%256
set_option maxRecDepth 100000 in
theorem ones_any (n:Nat) (hn:n≤4294967295) (w:World):Calls Tryz.prog 164 #[.int .u32 (n:Nat)] w fun e w'=>e=.returned (.int .i64 (onesN n))∧Kept (fun _=>False) w w':=by
 have h1:0≤(n:Int) / 16777216:=by omega
 have h2:(n:Int) / 16777216<256:=by omega
 obtain⟨h3,h4⟩:=and255 ((n:Int) / 65536)
 obtain⟨h5,h6⟩:=and255 ((n:Int) / 256)
 obtain⟨h7,h8⟩:=and255 (n:Int)
 have HV:Hid (onesN n=(((popS[n / 16777216]'(by rw[pop_size];omega)).toNat:Int)+((popS[(bits BinOp.and IntKind.u32 ((n:Int) / 65536) 255).toNat]'(by rw[pop_size];omega)).toNat:Int)+((popS[(bits BinOp.and IntKind.u32 ((n:Int) / 256) 255).toNat]'(by rw[pop_size];omega)).toNat:Int)+((popS[(bits BinOp.and IntKind.u32 (n:Int) 255).toNat]'(by rw[pop_size];omega)).toNat:Int))%256):=by
  show _=_
  unfold onesN
  rw[popAt_lt (show n / 16777216<256 by omega),popAt_lt (show(bits BinOp.and IntKind.u32 ((n:Int) / 65536) 255).toNat<256 by omega),popAt_lt (show(bits BinOp.and IntKind.u32 ((n:Int) / 256) 255).toNat<256 by omega),popAt_lt (show(bits BinOp.and IntKind.u32 (n:Int) 255).toNat<256 by omega)]
 go_enter Tryz.func164,Tryz.ntmps164
 go_wp2_with fail
 go_quiet (fail)
 go_wp2
 go_ret
 refine⟨?_,(Kept.refl _ _).drewN _⟩
 rw[HV.out]
 rfl
end
section
open Go.RowKit
def u8sOf:DataW Unit→List Nat
 | .agg l=>l.map fun | .lit (.int _ n)=>n.toNat | _=>0
 | _=>[]
def tz32L:List Nat:=u8sOf Rows.laid_math_bits_deBruijn32tab
structure Gd (w:World):Prop where
 t:∀j,j<32→w.cell? ⟨4,j,none⟩=some (.int .u8 ((tz32L.getD j 0:Nat):Int))
 size:5≤w.heap.size
theorem Gd.kept {w w':World} (h:Gd w) (hk:Kept (fun _=>False) w w'):Gd w':=by
 have:=h.size
 exact⟨fun j hj=>(hk.cell (p:=⟨4,j,none⟩) (by show 4<_;omega) (fun c=>c)).trans (h.t j hj),Nat.le_trans h.size hk.size⟩
def tzI (n:Nat):Nat:=(bits BinOp.and IntKind.u32 (n:Int) (-(n:Int)%4294967296)*125613361%4294967296 / 134217728).toNat
def tzN (n:Nat):Nat:=tz32L.getD (tzI n) 0
theorem tzN_lt (n:Nat):tzN n<256:=by
 have h:∀j,j<32→tz32L.getD j 0<256:=by decide+kernel
 exact h _ (by unfold tzI;omega)
set_option maxRecDepth 100000 in
theorem tz_any (n:Nat) (h0:0<n) (hn:n≤4294967295) {w:World} (hd:Gd w):Calls Tryz.prog 166 #[.int .u32 (n:Nat)] w fun e w'=>e=.returned (.int .i64 (tzN n:Nat))∧w'=w:=by
 have t0:((n:Int)==0)=false:=by simp;omega
 have hc:w.cell? ⟨4,(bits BinOp.and IntKind.u32 (n:Int) (-(n:Int)%4294967296)*125613361%4294967296 / 134217728).toNat,none⟩=some (.int .u8 ((tzN n:Nat):Int)):=hd.t _ (by omega)
 have hl:=tzN_lt n
 have hs:4<w.heap.size:=by have:=hd.size;omega
 clear hd
 generalize tzN n=k at*
 go_enter Tryz.func166,Tryz.ntmps166
 go_wp2
 go_ret
 exact⟨rfl,rfl⟩
section
variable {w0 w:World} {ab tg cap i:Nat} {T:List Tok} {z:List Value} {r l:List It} {t t2:Tok}
def alignT (T:List Tok) (word i:Nat):Except Err (Int×Nat):=match T[i]? with
 | none=>.error (0,0)
 | some t=>match setM t (⟨#[97,108,105,103,110]⟩++⟨#[61]⟩) with
  | none=>.ok (usualM word,i)
  | some n=>if onesN n=1 then .ok ((tzN n:Nat),nx T i) else .ok (usualM word,i)
theorem setM_lt {t:Tok} {a:ByteArray} {n:Nat} (h:setM t a=some n):n≤4294967295:=by
 unfold setM at h
 split at h
 ·unfold numT at h
  split at h
  ·cases h
  ·exact numB_lt h
 ·cases h
theorem ones_zero:onesN 0≠1:=by decide+kernel
set_option maxRecDepth 100000 in
set_option maxHeartbeats 1600000 in
theorem fnAlign_all {fb kf word:Nat} {fcs:List Value} (h:Sx w0 w (AL ab tg cap T i z r)) (hg:Ge w0) (hd:Gd w0) (hT:TT T) (hi:i<T.length) (hf:r[kf]?=some (.b fb fcs)) (hfc:fcs[0]?=some (.pointer (some ⟨ab,0,none⟩))):
  Calls Tryz.prog 160 #[.pointer (some ⟨fb,0,none⟩),.int .u8 (word:Nat)] w (OutX w0 (alignT T word i) fun x=>Ans w0 (.int .u32 x.1) (AL ab tg cap T x.2 z r)):=by
 have hnot:∀(x:Bool) (w:World),(Op.unary .not (.bool x)).run Tryz.prog w=.ok (.bool (!x)) w:=fun _ _=>rfl
 obtain⟨t,ht⟩:∃t,T[i]?=some t:=⟨_,List.getElem?_eq_getElem hi⟩
 have hs:=hT.small t (List.mem_of_getElem? ht)
 have hl:=hT.len
 obtain⟨a0,-⟩:=h.c _ 0 (inR hf) hfc
 have l0:=h.lt _ (inR hf)
 have H:=hide h
 have HT:=hide ht
 have HG:=hide hg
 have HD:=hide hd
 clear h ht hg hd
 go_enter Tryz.func160,Tryz.ntmps160
 go_wp2_with fail
 refine(tPeek_any H.out HT.out).mono ?_
 rintro e w1 ⟨rfl,h1⟩
 have H1:=hide h1
 clear h1 H a0 l0
 go_wp2_with fail
 refine(settingF_any t ⟨#[97,108,105,103,110]⟩ (by decide) hs (HG.out.kept H1.out.kept)).mono ?_
 rintro e w2 ⟨n,rfl,hn,hk2⟩
 have h2:=H1.out.to hk2
 obtain⟨b0,-⟩:=h2.c _ 0 (inR hf) hfc
 have m0:=h2.lt _ (inR hf)
 cases hm:setM t (⟨#[97,108,105,103,110]⟩++⟨#[61]⟩) with
 | none=>
  have HM:Hid (alignT T word i=.ok (usualM word,i)):=by show _=_;unfold alignT;rw[HT.out];simp only[hm]
  have H2:=hide h2
  clear hn hk2 hm h2 H1
  go_wp2_with fail
  refine(usual_any word _).mono ?_
  rintro e w3 ⟨rfl,rfl⟩
  go_wp2
  go_ret
  exact OutX.ok_mk HM.out ⟨rfl,H2.out⟩
 | some k=>
  have hkl:=setM_lt hm
  have hnk:n=(k:Int):=(hn k hm).trans (wrap_u32 hkl)
  subst hnk
  have h5:Hid (t.1=5):=by
   show _=_
   unfold setM at hm
   split at hm
   ·rename_i hh;exact hh.2
   ·cases hm
  have HM0:Hid (alignT T word i=if onesN k=1 then .ok ((tzN k:Nat),nx T i) else .ok (usualM word,i)):=by show _=_;unfold alignT;rw[HT.out];simp only[hm]
  have H2:=hide h2
  have HK:=hide hkl
  clear hn hk2 hm h2 H1 hkl
  go_wp2_with fail
  refine(ones_any k HK.out _).mono ?_
  rintro e w3 ⟨rfl,hk3⟩
  have h3:=H2.out.to hk3
  obtain⟨c0,-⟩:=h3.c _ 0 (inR hf) hfc
  have n0:=h3.lt _ (inR hf)
  have H3:=hide h3
  clear h3 hk3 H2 b0 m0
  by_cases h1:onesN k=1
  ·have HM:Hid (alignT T word i=.ok ((tzN k:Nat),nx T i)):=by show _=_;rw[HM0.out,if_pos h1]
   have HK0:Hid (0<k):=by
    show 0<k
    rcases Nat.eq_zero_or_pos k with e | e
    ·subst e;exact absurd h1 ones_zero
    ·exact e
   have t1:(onesN k !=1)=false:=by simp[h1]
   clear h1 HM0
   go_wp2_with fail
   refine(tTake_any H3.out HT.out hl (by rw[h5.out];rfl)).mono ?_
   rintro e w4 ⟨rfl,h4⟩
   have H4:=hide h4
   clear h4 H3
   go_wp2_with fail
   refine(tz_any k HK0.out HK.out (HD.out.kept H4.out.kept)).mono ?_
   rintro e w5 ⟨rfl,rfl⟩
   have hw:IntKind.u32.wrap ((tzN k:Nat):Int)=((tzN k:Nat):Int):=wrap_u32 (by have:=tzN_lt k;omega)
   go_wp2
   go_ret
   exact OutX.ok_mk HM.out ⟨rfl,H4.out⟩
  ·have HM:Hid (alignT T word i=.ok (usualM word,i)):=by show _=_;rw[HM0.out,if_neg h1]
   have t1:(onesN k !=1)=true:=by simp[h1]
   clear h1 HM0
   go_wp2_with fail
   refine(usual_any word _).mono ?_
   rintro e w4 ⟨rfl,rfl⟩
   go_wp2
   go_ret
   exact OutX.ok_mk HM.out ⟨rfl,H3.out⟩
end
end
section
open Go.RowKit
def insB (word:Nat):InsT:=⟨word,false,[],0,0,[],0⟩
def btT (T:List Tok) (lb:List ByteArray):Nat→List Nat→List (Nat×Nat)→Nat→Except Err (List Nat×List (Nat×Nat)×Nat)
 | 0,_,_,_=>.error (0,0)
 | k+1,ls,no,i=>match T[nx T i]? with
  | none=>.error (0,0)
  | some t2=>if ls.length<20∧labelB t2=true then(match labT T lb i with
    | .error e=>.error e
    | .ok (n,j,ns)=>btT T lb k (ls++[n]) (no++ns) j)
   else .ok (ls,no,i)
def behT (T:List Tok) (f:Bk) (word:Nat):Except Err (InsT×Bk):=
 if word=14 then(match btT T f.lb (T.length - f.m.i) [] f.m.no f.m.i with
  | .error e=>.error e
  | .ok (ls,no,j)=>match labT T f.lb j with
   | .error e=>.error e
   | .ok (n,j2,ns)=>.ok ({insB word with num:=n,labels:=ls},{f with m:={f.m with i:=j2,no:=no++ns}}))
 else if word=12∨word=13 then(match labT T f.lb f.m.i with
  | .error e=>.error e
  | .ok (n,j,ns)=>.ok ({insB word with num:=n},{f with m:={f.m with i:=j,no:=f.m.no++ns}}))
 else if word=16 then(match indexT T f.m.kF f.m.i with
  | .error e=>.error e
  | .ok (x,j,ns)=>.ok ({insB word with num:=x.1},{f with m:={f.m with i:=j,no:=f.m.no++ns}}))
 else if word=32∨word=33∨word=34 then(match indexT T f.nm f.m.i with
  | .error e=>.error e
  | .ok (x,j,ns)=>.ok ({insB word with num:=x.1},{f with m:={f.m with i:=j,no:=f.m.no++ns}}))
 else if word=35∨word=36 then(match indexT T f.m.kG f.m.i with
  | .error e=>.error e
  | .ok (x,j,ns)=>.ok ({insB word with num:=x.1},{f with m:={f.m with i:=j,no:=f.m.no++ns}}))
 else if word=17 then(match useT false T f with
  | .error e=>.error e
  | .ok (u,f2)=>if u.told=true then .ok ({insB word with num:=u.ix},f2) else(match tixT T f2.m (u.a,u.b) with
   | .error e=>.error e
   | .ok (n,m)=>.ok ({insB word with num:=n},{f2 with m:=m})))
 else if word=40∨word=41∨word=44∨word=45∨word=54∨word=55∨word=58 then(match offsetT T f.m.i with
  | .error e=>.error e
  | .ok (n,j)=>match alignT T word j with
   | .error e=>.error e
   | .ok (a,j2)=>.ok ({insB word with num:=n,align:=a},{f with m:={f.m with i:=j2}}))
 else if word=65 then(match signedM 32 T f.m.i with
  | .error e=>.error e
  | .ok (n,j)=>.ok ({insB word with value:=n},{f with m:={f.m with i:=j}}))
 else if word=66 then(match signedM 64 T f.m.i with
  | .error e=>.error e
  | .ok (n,j)=>.ok ({insB word with value:=n},{f with m:={f.m with i:=j}}))
 else .ok (insB word,f)
section
variable {T:List Tok} {f:Bk} {word:Nat}
theorem behT_bt0 (h:word=14):behT T f word=(match btT T f.lb (T.length - f.m.i) [] f.m.no f.m.i with
  | .error e=>.error e
  | .ok (ls,no,j)=>match labT T f.lb j with
   | .error e=>.error e
   | .ok (n,j2,ns)=>.ok ({insB word with num:=n,labels:=ls},{f with m:={f.m with i:=j2,no:=no++ns}})):=by unfold behT;rw[if_pos (by omega)];try rfl
theorem behT_lab0 (h:word=12∨word=13):behT T f word=(match labT T f.lb f.m.i with
  | .error e=>.error e
  | .ok (n,j,ns)=>.ok ({insB word with num:=n},{f with m:={f.m with i:=j,no:=f.m.no++ns}})):=by unfold behT;rw[if_neg (by omega),if_pos (by omega)];try rfl
theorem behT_call0 (h:word=16):behT T f word=(match indexT T f.m.kF f.m.i with
  | .error e=>.error e
  | .ok (x,j,ns)=>.ok ({insB word with num:=x.1},{f with m:={f.m with i:=j,no:=f.m.no++ns}})):=by unfold behT;rw[if_neg (by omega),if_neg (by omega),if_pos (by omega)];try rfl
theorem behT_loc0 (h:word=32∨word=33∨word=34):behT T f word=(match indexT T f.nm f.m.i with
  | .error e=>.error e
  | .ok (x,j,ns)=>.ok ({insB word with num:=x.1},{f with m:={f.m with i:=j,no:=f.m.no++ns}})):=by unfold behT;rw[if_neg (by omega),if_neg (by omega),if_neg (by omega),if_pos (by omega)];try rfl
theorem behT_glob0 (h:word=35∨word=36):behT T f word=(match indexT T f.m.kG f.m.i with
  | .error e=>.error e
  | .ok (x,j,ns)=>.ok ({insB word with num:=x.1},{f with m:={f.m with i:=j,no:=f.m.no++ns}})):=by unfold behT;rw[if_neg (by omega),if_neg (by omega),if_neg (by omega),if_neg (by omega),if_pos (by omega)];try rfl
theorem behT_ind0 (h:word=17):behT T f word=(match useT false T f with
  | .error e=>.error e
  | .ok (u,f2)=>if u.told=true then .ok ({insB word with num:=u.ix},f2) else(match tixT T f2.m (u.a,u.b) with
   | .error e=>.error e
   | .ok (n,m)=>.ok ({insB word with num:=n},{f2 with m:=m}))):=by unfold behT;rw[if_neg (by omega),if_neg (by omega),if_neg (by omega),if_neg (by omega),if_neg (by omega),if_pos (by omega)];try rfl
theorem behT_mem0 (h:word=40∨word=41∨word=44∨word=45∨word=54∨word=55∨word=58):behT T f word=(match offsetT T f.m.i with
  | .error e=>.error e
  | .ok (n,j)=>match alignT T word j with
   | .error e=>.error e
   | .ok (a,j2)=>.ok ({insB word with num:=n,align:=a},{f with m:={f.m with i:=j2}})):=by unfold behT;rw[if_neg (by omega),if_neg (by omega),if_neg (by omega),if_neg (by omega),if_neg (by omega),if_neg (by omega),if_pos (by omega)];try rfl
theorem behT_s320 (h:word=65):behT T f word=(match signedM 32 T f.m.i with
  | .error e=>.error e
  | .ok (n,j)=>.ok ({insB word with value:=n},{f with m:={f.m with i:=j}})):=by unfold behT;rw[if_neg (by omega),if_neg (by omega),if_neg (by omega),if_neg (by omega),if_neg (by omega),if_neg (by omega),if_neg (by omega),if_pos (by omega)];try rfl
theorem behT_s640 (h:word=66):behT T f word=(match signedM 64 T f.m.i with
  | .error e=>.error e
  | .ok (n,j)=>.ok ({insB word with value:=n},{f with m:={f.m with i:=j}})):=by unfold behT;rw[if_neg (by omega),if_neg (by omega),if_neg (by omega),if_neg (by omega),if_neg (by omega),if_neg (by omega),if_neg (by omega),if_neg (by omega),if_pos (by omega)];try rfl
theorem behT_def (h:word≠14∧word≠12∧word≠13∧word≠16∧word≠32∧word≠33∧word≠34∧word≠35∧word≠36∧word≠17∧word≠40∧word≠41∧word≠44∧word≠45∧word≠54∧word≠55∧word≠58∧word≠65∧word≠66):behT T f word=.ok (insB word,f):=by unfold behT;rw[if_neg (by omega),if_neg (by omega),if_neg (by omega),if_neg (by omega),if_neg (by omega),if_neg (by omega),if_neg (by omega),if_neg (by omega),if_neg (by omega)]
end
theorem indexT_le {T:List Tok} {ns:List Nam} {i:Nat} {x:(Nat×Bool)×Nat×List (Nat×Nat)} (hT:TW T) (h:indexT T ns i=.ok x) (hi:i<T.length):(i≤x.2.1∧x.2.1<T.length)∧x.2.2.length≤x.2.1 - i:=by
 have h1:=(indexT_nx h).1
 have h2:=nx_le hi
 have h3:=nx_ok hi
 refine⟨by omega,?_⟩
 unfold indexT at h
 split at h
 ·cases h
 ·rename_i t ht
  split at h
  ·rename_i hid
   have h5:t.1=5:=by unfold idA at hid;simp at hid;exact hid.1.2
   have h6:=hT.nx ht (by omega)
   split at h<;>cases h<;>simp<;>omega
  ·split at h
   ·cases h
    simp
   ·cases h
theorem offsetT_le {T:List Tok} {i j:Nat} {n:Int} (hi:i<T.length) (h:offsetT T i=.ok (n,j)):i≤j∧j<T.length:=by
 unfold offsetT at h
 split at h
 ·cases h
 ·split at h<;>cases h
  ·exact⟨Nat.le_refl _,hi⟩
  ·exact⟨nx_le hi,nx_ok hi⟩
theorem alignT_le {T:List Tok} {i j word:Nat} {n:Int} (hi:i<T.length) (h:alignT T word i=.ok (n,j)):i≤j∧j<T.length:=by
 unfold alignT at h
 split at h
 ·cases h
 ·split at h
  ·cases h
   exact⟨Nat.le_refl _,hi⟩
  ·split at h<;>cases h
   ·exact⟨nx_le hi,nx_ok hi⟩
   ·exact⟨Nat.le_refl _,hi⟩
def BehV (w0:World) (ab tg cap mw mb fb:Nat) (T:List Tok) (c:Nat) (X:List It) (x:InsT×Bk) (e:Ending) (w':World):Prop:=∃lv,lv.oneCell'=true∧x.1.gives=[]∧e=.returned (.agg (insV (x.1,.slice none 0 0,lv)).toArray)∧FF w0 ab tg cap mw mb fb T c x.2 (.r 66 2 lv x.1.labels.length (x.1.labels.flatMap nuC)::X) w'
section
variable {w0 w:World} {ab tg cap mw mb fb:Nat} {T:List Tok} {c:Nat} {f:Bk} {X:List It} {word:Nat}
theorem FF.fb0 (h:FF w0 ab tg cap mw mb fb T c f X w):w.cell? ⟨fb,0,none⟩=some (.pointer (some ⟨ab,0,none⟩))∧fb<w.heap.size:=by
 obtain⟨hi,g,v,vf,tl,ha,hS⟩:=h
 exact⟨(hS.c 22 0 rfl rfl).1,hS.lt 22 rfl⟩
theorem FF.drew (h:FF w0 ab tg cap mw mb fb T c f X w):FF w0 ab tg cap mw mb fb T c f X w.drew:=h.to (Kept.refl _ _).drew
theorem FF.c0 {g j:Nat} {cs:List Value} {v:Value} (h:FF w0 ab tg cap mw mb fb T c f (.b g cs::X) w) (hj:cs[j]?=some v:=by rfl):(w.cell? ⟨g,j,none⟩=some v∧w.frozen? ⟨g,j,none⟩=false)∧g<w.heap.size:=by
 obtain⟨hi,gg,v',vf,tl,ha,hS⟩:=h
 exact⟨hS.c 26 j rfl hj,hS.lt 26 rfl⟩
theorem FF.set0 {g:Nat} {cs:List Value} (h:FF w0 ab tg cap mw mb fb T c f (.b g cs::X) w) (j:Nat) (v:Value):FF w0 ab tg cap mw mb fb T c f (.b g (cs.set j v)::X) (w.setCell ⟨g,j,none⟩ v):=by
 obtain⟨hi,gg,v',vf,tl,ha,hS⟩:=h
 exact⟨hi,gg,v',vf,tl,ha,hS.set 26 j v rfl⟩
end
end
section
open Go.RowKit
set_option linter.unusedVariables false
section
variable {w0 w:World} {ab tg cap mw mb fb:Nat} {T:List Tok} {c:Nat} {f:Bk} {X:List It} {word:Nat}
set_option maxRecDepth 100000 in
set_option maxHeartbeats 12800000 in
theorem behind_lab (h:FF w0 ab tg cap mw mb fb T c f X w) (hg:Ge w0) (hd:Gd w0) (hT:TW T) (hw:word=12∨word=13):
  Calls Tryz.prog 149 #[.pointer (some ⟨fb,0,none⟩),.int .u8 (word:Nat)] w (OutX w0 (behT T f word) (BehV w0 ab tg cap mw mb fb T c X)):=by
 have H:=hide (((h.nilR 66 2).new #[.int .i64 0,.int .i64 0,.int .u8 0,.bool false,.slice none 0 0,.int .u32 0,.int .u32 0,.int .i64 0,.slice none 0 0,.int .i64 0] 131).new #[.int .i64 0,.int .i64 0,.int .u8 (word:Nat),.bool false,.slice none 0 0,.int .u32 0,.int .u32 0,.int .i64 0,.slice none 0 0,.int .i64 0] 131)
 have HG:=hide hg
 have HD:=hide hd
 have HWD:=hide hw
 clear h hg hd hw
 go_enter Tryz.func149,Tryz.ntmps149
 go_upto_block 0 with fail
 simp only[World.size_alloc] at H
 generalize ((w.alloc (.cells #[.int .i64 0,.int .i64 0,.int .u8 0,.bool false,.slice none 0 0,.int .u32 0,.int .u32 0,.int .i64 0,.slice none 0 0,.int .i64 0] 131)).alloc (.cells #[.int .i64 0,.int .i64 0,.int .u8 (word:Nat),.bool false,.slice none 0 0,.int .u32 0,.int .u32 0,.int .i64 0,.slice none 0 0,.int .i64 0] 131))=W at*
 generalize w.heap.size=rb at*
 obtain⟨ib,hib⟩:∃ib,ib=rb+1:=⟨_,rfl⟩
 rw[←hib] at H ⊢
 clear hib
 go_cut [] from 9 to 139 (fun V=>∃x lv,lv.oneCell'=true∧x.1.gives=[]∧behT T f word=.ok x∧FF w0 ab tg cap mw mb fb T c x.2 (.b ib (insV (x.1,.slice none 0 0,lv))::.b rb [.int .i64 0,.int .i64 0,.int .u8 0,.bool false,.slice none 0 0,.int .u32 0,.int .u32 0,.int .i64 0,.slice none 0 0,.int .i64 0]::.r 66 2 lv x.1.labels.length (x.1.labels.flatMap nuC)::X) V)
 case first=>
  rcases HWD.out with hw | hw
  case' inl=>
   have e14:((word:Int)==14)=false:=by have:=(hide hw).out;simp;omega
   have e12:((word:Int)==12)=true:=by have:=(hide hw).out;simp;omega
  case' inr=>
   have e14:((word:Int)==14)=false:=by have:=(hide hw).out;simp;omega
   have e12:((word:Int)==12)=false:=by have:=(hide hw).out;simp;omega
   have e13:((word:Int)==13)=true:=by have:=(hide hw).out;simp;omega
  all_goals
   clear hw
   obtain⟨hi,g,v,vf,tl,ha,hS⟩:=H.out
   have HI:Hid (f.m.i<T.length∧FA g c v vf f tl):=⟨hi,ha⟩
   have HS:=hide hS
   clear hi ha hS H
   go_wp2_with fail
   refine(fnLabel_all HS.out HG.out hT.toTT HI.out.1 (by have:=HI.out.2.lb;omega) (by have:=HI.out.2.ag.no;have:=HI.out.1;have:=hT.few;omega)).mono ?_
   intro e w1 h1
   cases hx:labT T f.lb f.m.i with
   | error q=>
    rw[hx] at h1
    obtain⟨rfl,hk⟩:=h1
    exact⟨rfl,OutX.err_mk (by rw[behT_lab0 HWD.out,hx]) ⟨rfl,hk⟩⟩
   | ok x=>
   obtain⟨n,j,ns⟩:=x
   obtain⟨hj,hjl,hns⟩:=labT_nx hT hx
   rw[hx] at h1
   obtain⟨rfl,q,h1⟩:=h1
   simp only at h1 hj hns ⊢
   obtain⟨c6,d6⟩:=h1.c 26 6 rfl rfl
   obtain⟨c7,d7⟩:=h1.c 26 7 rfl rfl
   have li:=h1.lt 26 rfl
   have h2:=(h1.set 26 6 (.int .u32 (n:Nat)) rfl).set 26 7 (.int .i64 0) rfl
   have H2:=hide h2
   have HM:Hid (behT T f word=.ok ({insB word with num:=n},{f with m:={f.m with i:=j,no:=f.m.no++ns}})):=by show _=_;rw[behT_lab0 HWD.out,hx]
   have HJ:Hid (j=f.m.i+1∧f.m.i+1<T.length∧ns.length≤1):=⟨hj,hjl,hns⟩
   clear h1 h2 hx hj hjl hns HS
   go_wp2
   go_meet
   case rel=>
    refine⟨_,.slice none 0 0,rfl,rfl,HM.out,by show j<T.length;have:=HJ.out;omega,g,{v with no:=q},vf,tl,HI.out.2.on (v':={v with no:=q}) ⟨rfl,rfl,rfl,rfl⟩ (by have:=HJ.out;omega) (by rw[List.length_append];have:=HJ.out;have:=HI.out.2.ag.no;omega),H2.out⟩
 obtain⟨x,lv,hlv,hgi,hx,hF⟩:=hcut
 have HM:=hide hx
 have HLV:Hid (lv.oneCell'=true∧x.1.gives=[]):=⟨hlv,hgi⟩
 clear hx hgi
 obtain⟨hi,g,v,vf,tl,ha,hS⟩:=hF
 have hS':Sx w0 wc (LF ab tg cap mw mb fb T v vf x.2 (.b ib [.int .i64 0,.int .i64 0,.int .u8 (x.1.word:Nat),.bool x.1.typed,.slice none 0 0,.int .u32 x.1.align,.int .u32 x.1.num,.int .i64 0,lv,.int .i64 x.1.value]::.b rb [.int .i64 0,.int .i64 0,.int .u8 0,.bool false,.slice none 0 0,.int .u32 0,.int .u32 0,.int .i64 0,.slice none 0 0,.int .i64 0]::.r 66 2 lv x.1.labels.length (x.1.labels.flatMap nuC)::X++tl)):=hS
 obtain⟨pl,cl,rfl⟩:=Row.shape (hS'.isRow 28 rfl)
 obtain⟨b0,-⟩:=hS'.c 26 0 rfl rfl
 obtain⟨b1,-⟩:=hS'.c 26 1 rfl rfl
 obtain⟨b2,-⟩:=hS'.c 26 2 rfl rfl
 obtain⟨b3,-⟩:=hS'.c 26 3 rfl rfl
 obtain⟨b4,-⟩:=hS'.c 26 4 rfl rfl
 obtain⟨b5,-⟩:=hS'.c 26 5 rfl rfl
 obtain⟨b6,-⟩:=hS'.c 26 6 rfl rfl
 obtain⟨b7,-⟩:=hS'.c 26 7 rfl rfl
 obtain⟨b8,-⟩:=hS'.c 26 8 rfl rfl
 obtain⟨b9,-⟩:=hS'.c 26 9 rfl rfl
 obtain⟨r0,s0⟩:=hS'.c 27 0 rfl rfl
 obtain⟨r1,s1⟩:=hS'.c 27 1 rfl rfl
 obtain⟨r2,s2⟩:=hS'.c 27 2 rfl rfl
 obtain⟨r3,s3⟩:=hS'.c 27 3 rfl rfl
 obtain⟨r4,s4⟩:=hS'.c 27 4 rfl rfl
 obtain⟨r5,s5⟩:=hS'.c 27 5 rfl rfl
 obtain⟨r6,s6⟩:=hS'.c 27 6 rfl rfl
 obtain⟨r7,s7⟩:=hS'.c 27 7 rfl rfl
 obtain⟨r8,s8⟩:=hS'.c 27 8 rfl rfl
 obtain⟨r9,s9⟩:=hS'.c 27 9 rfl rfl
 have lb:=hS'.lt 26 rfl
 have lr:=hS'.lt 27 rfl
 have h19:Sx w0 _ (LF ab tg cap mw mb fb T v vf x.2 (.b ib [.int .i64 0,.int .i64 0,.int .u8 (x.1.word:Nat),.bool x.1.typed,.slice none 0 0,.int .u32 x.1.align,.int .u32 x.1.num,.int .i64 0,.slice pl x.1.labels.length cl,.int .i64 x.1.value]::.b rb [.int .i64 0,.int .i64 0,.int .u8 (x.1.word:Nat),.bool x.1.typed,.slice none 0 0,.int .u32 x.1.align,.int .u32 x.1.num,.int .i64 0,.slice pl x.1.labels.length cl,.int .i64 x.1.value]::.r 66 2 (.slice pl x.1.labels.length cl) x.1.labels.length (x.1.labels.flatMap nuC)::X++tl)):=((((((((((hS'.set 27 0 (.int .i64 0) rfl).set 27 1 (.int .i64 0) rfl).set 27 2 (.int .u8 (x.1.word:Nat)) rfl).set 27 3 (.bool x.1.typed) rfl).set 27 4 (.slice none 0 0) rfl).set 27 5 (.int .u32 x.1.align) rfl).set 27 6 (.int .u32 x.1.num) rfl).set 27 7 (.int .i64 0) rfl).set 27 8 (.slice pl x.1.labels.length cl) rfl).set 27 9 (.int .i64 x.1.value) rfl)
 obtain⟨y0,-⟩:=h19.c 27 0 rfl rfl
 obtain⟨y1,-⟩:=h19.c 27 1 rfl rfl
 obtain⟨y2,-⟩:=h19.c 27 2 rfl rfl
 obtain⟨y3,-⟩:=h19.c 27 3 rfl rfl
 obtain⟨y4,-⟩:=h19.c 27 4 rfl rfl
 obtain⟨y5,-⟩:=h19.c 27 5 rfl rfl
 obtain⟨y6,-⟩:=h19.c 27 6 rfl rfl
 obtain⟨y7,-⟩:=h19.c 27 7 rfl rfl
 obtain⟨y8,-⟩:=h19.c 27 8 rfl rfl
 obtain⟨y9,-⟩:=h19.c 27 9 rfl rfl
 have h20:=LF.pop (X:=.r 66 2 (.slice pl x.1.labels.length cl) x.1.labels.length (x.1.labels.flatMap nuC)::X) (LF.pop (X:=.b rb [.int .i64 0,.int .i64 0,.int .u8 (x.1.word:Nat),.bool x.1.typed,.slice none 0 0,.int .u32 x.1.align,.int .u32 x.1.num,.int .i64 0,.slice pl x.1.labels.length cl,.int .i64 x.1.value]::.r 66 2 (.slice pl x.1.labels.length cl) x.1.labels.length (x.1.labels.flatMap nuC)::X) h19)
 have H20:=hide h20
 have HF:Hid (x.2.m.i<T.length∧FA g c v vf x.2 tl):=⟨hi,ha⟩
 clear hS hS' h19 h20 hi ha
 go_wp2
 refine bodyPost_ret (v:=.agg #[.int .i64 0,.int .i64 0,.int .u8 (x.1.word:Nat),.bool x.1.typed,.slice none 0 0,.int .u32 x.1.align,.int .u32 x.1.num,.int .i64 0,.slice pl x.1.labels.length cl,.int .i64 x.1.value]) ?_ rfl ?_
 ·simp[results,Tryz.results149,go_sem,y0,y1,y2,y3,y4,y5,y6,y7,y8,y9]
 ·exact OutX.ok_mk HM.out ⟨_,rfl,HLV.out.2,rfl,HF.out.1,g,v,vf,tl,HF.out.2,H20.out⟩
set_option maxRecDepth 100000 in
set_option maxHeartbeats 12800000 in
theorem behind_def (h:FF w0 ab tg cap mw mb fb T c f X w) (hg:Ge w0) (hd:Gd w0) (hT:TW T) (hw:word≠14∧word≠12∧word≠13∧word≠16∧word≠32∧word≠33∧word≠34∧word≠35∧word≠36∧word≠17∧word≠40∧word≠41∧word≠44∧word≠45∧word≠54∧word≠55∧word≠58∧word≠65∧word≠66):
  Calls Tryz.prog 149 #[.pointer (some ⟨fb,0,none⟩),.int .u8 (word:Nat)] w (OutX w0 (behT T f word) (BehV w0 ab tg cap mw mb fb T c X)):=by
 have H:=hide (((h.nilR 66 2).new #[.int .i64 0,.int .i64 0,.int .u8 0,.bool false,.slice none 0 0,.int .u32 0,.int .u32 0,.int .i64 0,.slice none 0 0,.int .i64 0] 131).new #[.int .i64 0,.int .i64 0,.int .u8 (word:Nat),.bool false,.slice none 0 0,.int .u32 0,.int .u32 0,.int .i64 0,.slice none 0 0,.int .i64 0] 131)
 have HG:=hide hg
 have HD:=hide hd
 have HWD:=hide hw
 clear h hg hd hw
 go_enter Tryz.func149,Tryz.ntmps149
 go_upto_block 0 with fail
 simp only[World.size_alloc] at H
 generalize ((w.alloc (.cells #[.int .i64 0,.int .i64 0,.int .u8 0,.bool false,.slice none 0 0,.int .u32 0,.int .u32 0,.int .i64 0,.slice none 0 0,.int .i64 0] 131)).alloc (.cells #[.int .i64 0,.int .i64 0,.int .u8 (word:Nat),.bool false,.slice none 0 0,.int .u32 0,.int .u32 0,.int .i64 0,.slice none 0 0,.int .i64 0] 131))=W at*
 generalize w.heap.size=rb at*
 obtain⟨ib,hib⟩:∃ib,ib=rb+1:=⟨_,rfl⟩
 rw[←hib] at H ⊢
 clear hib
 go_cut [] from 9 to 139 (fun V=>∃x lv,lv.oneCell'=true∧x.1.gives=[]∧behT T f word=.ok x∧FF w0 ab tg cap mw mb fb T c x.2 (.b ib (insV (x.1,.slice none 0 0,lv))::.b rb [.int .i64 0,.int .i64 0,.int .u8 0,.bool false,.slice none 0 0,.int .u32 0,.int .u32 0,.int .i64 0,.slice none 0 0,.int .i64 0]::.r 66 2 lv x.1.labels.length (x.1.labels.flatMap nuC)::X) V)
 case first=>
  have e14:((word:Int)==14)=false:=by have:=HWD.out;simp;omega
  have e12:((word:Int)==12)=false:=by have:=HWD.out;simp;omega
  have e13:((word:Int)==13)=false:=by have:=HWD.out;simp;omega
  have e16:((word:Int)==16)=false:=by have:=HWD.out;simp;omega
  have e32:((word:Int)==32)=false:=by have:=HWD.out;simp;omega
  have e33:((word:Int)==33)=false:=by have:=HWD.out;simp;omega
  have e34:((word:Int)==34)=false:=by have:=HWD.out;simp;omega
  have e35:((word:Int)==35)=false:=by have:=HWD.out;simp;omega
  have e36:((word:Int)==36)=false:=by have:=HWD.out;simp;omega
  have e17:((word:Int)==17)=false:=by have:=HWD.out;simp;omega
  have e40:((word:Int)==40)=false:=by have:=HWD.out;simp;omega
  have e41:((word:Int)==41)=false:=by have:=HWD.out;simp;omega
  have e44:((word:Int)==44)=false:=by have:=HWD.out;simp;omega
  have e45:((word:Int)==45)=false:=by have:=HWD.out;simp;omega
  have e54:((word:Int)==54)=false:=by have:=HWD.out;simp;omega
  have e55:((word:Int)==55)=false:=by have:=HWD.out;simp;omega
  have e58:((word:Int)==58)=false:=by have:=HWD.out;simp;omega
  have e65:((word:Int)==65)=false:=by have:=HWD.out;simp;omega
  have e66:((word:Int)==66)=false:=by have:=HWD.out;simp;omega
  go_wp2
  go_meet
  case rel=>exact⟨(insB word,f),.slice none 0 0,rfl,rfl,behT_def HWD.out,H.out⟩
 obtain⟨x,lv,hlv,hgi,hx,hF⟩:=hcut
 have HM:=hide hx
 have HLV:Hid (lv.oneCell'=true∧x.1.gives=[]):=⟨hlv,hgi⟩
 clear hx hgi
 obtain⟨hi,g,v,vf,tl,ha,hS⟩:=hF
 have hS':Sx w0 wc (LF ab tg cap mw mb fb T v vf x.2 (.b ib [.int .i64 0,.int .i64 0,.int .u8 (x.1.word:Nat),.bool x.1.typed,.slice none 0 0,.int .u32 x.1.align,.int .u32 x.1.num,.int .i64 0,lv,.int .i64 x.1.value]::.b rb [.int .i64 0,.int .i64 0,.int .u8 0,.bool false,.slice none 0 0,.int .u32 0,.int .u32 0,.int .i64 0,.slice none 0 0,.int .i64 0]::.r 66 2 lv x.1.labels.length (x.1.labels.flatMap nuC)::X++tl)):=hS
 obtain⟨pl,cl,rfl⟩:=Row.shape (hS'.isRow 28 rfl)
 obtain⟨b0,-⟩:=hS'.c 26 0 rfl rfl
 obtain⟨b1,-⟩:=hS'.c 26 1 rfl rfl
 obtain⟨b2,-⟩:=hS'.c 26 2 rfl rfl
 obtain⟨b3,-⟩:=hS'.c 26 3 rfl rfl
 obtain⟨b4,-⟩:=hS'.c 26 4 rfl rfl
 obtain⟨b5,-⟩:=hS'.c 26 5 rfl rfl
 obtain⟨b6,-⟩:=hS'.c 26 6 rfl rfl
 obtain⟨b7,-⟩:=hS'.c 26 7 rfl rfl
 obtain⟨b8,-⟩:=hS'.c 26 8 rfl rfl
 obtain⟨b9,-⟩:=hS'.c 26 9 rfl rfl
 obtain⟨r0,s0⟩:=hS'.c 27 0 rfl rfl
 obtain⟨r1,s1⟩:=hS'.c 27 1 rfl rfl
 obtain⟨r2,s2⟩:=hS'.c 27 2 rfl rfl
 obtain⟨r3,s3⟩:=hS'.c 27 3 rfl rfl
 obtain⟨r4,s4⟩:=hS'.c 27 4 rfl rfl
 obtain⟨r5,s5⟩:=hS'.c 27 5 rfl rfl
 obtain⟨r6,s6⟩:=hS'.c 27 6 rfl rfl
 obtain⟨r7,s7⟩:=hS'.c 27 7 rfl rfl
 obtain⟨r8,s8⟩:=hS'.c 27 8 rfl rfl
 obtain⟨r9,s9⟩:=hS'.c 27 9 rfl rfl
 have lb:=hS'.lt 26 rfl
 have lr:=hS'.lt 27 rfl
 have h19:Sx w0 _ (LF ab tg cap mw mb fb T v vf x.2 (.b ib [.int .i64 0,.int .i64 0,.int .u8 (x.1.word:Nat),.bool x.1.typed,.slice none 0 0,.int .u32 x.1.align,.int .u32 x.1.num,.int .i64 0,.slice pl x.1.labels.length cl,.int .i64 x.1.value]::.b rb [.int .i64 0,.int .i64 0,.int .u8 (x.1.word:Nat),.bool x.1.typed,.slice none 0 0,.int .u32 x.1.align,.int .u32 x.1.num,.int .i64 0,.slice pl x.1.labels.length cl,.int .i64 x.1.value]::.r 66 2 (.slice pl x.1.labels.length cl) x.1.labels.length (x.1.labels.flatMap nuC)::X++tl)):=((((((((((hS'.set 27 0 (.int .i64 0) rfl).set 27 1 (.int .i64 0) rfl).set 27 2 (.int .u8 (x.1.word:Nat)) rfl).set 27 3 (.bool x.1.typed) rfl).set 27 4 (.slice none 0 0) rfl).set 27 5 (.int .u32 x.1.align) rfl).set 27 6 (.int .u32 x.1.num) rfl).set 27 7 (.int .i64 0) rfl).set 27 8 (.slice pl x.1.labels.length cl) rfl).set 27 9 (.int .i64 x.1.value) rfl)
 obtain⟨y0,-⟩:=h19.c 27 0 rfl rfl
 obtain⟨y1,-⟩:=h19.c 27 1 rfl rfl
 obtain⟨y2,-⟩:=h19.c 27 2 rfl rfl
 obtain⟨y3,-⟩:=h19.c 27 3 rfl rfl
 obtain⟨y4,-⟩:=h19.c 27 4 rfl rfl
 obtain⟨y5,-⟩:=h19.c 27 5 rfl rfl
 obtain⟨y6,-⟩:=h19.c 27 6 rfl rfl
 obtain⟨y7,-⟩:=h19.c 27 7 rfl rfl
 obtain⟨y8,-⟩:=h19.c 27 8 rfl rfl
 obtain⟨y9,-⟩:=h19.c 27 9 rfl rfl
 have h20:=LF.pop (X:=.r 66 2 (.slice pl x.1.labels.length cl) x.1.labels.length (x.1.labels.flatMap nuC)::X) (LF.pop (X:=.b rb [.int .i64 0,.int .i64 0,.int .u8 (x.1.word:Nat),.bool x.1.typed,.slice none 0 0,.int .u32 x.1.align,.int .u32 x.1.num,.int .i64 0,.slice pl x.1.labels.length cl,.int .i64 x.1.value]::.r 66 2 (.slice pl x.1.labels.length cl) x.1.labels.length (x.1.labels.flatMap nuC)::X) h19)
 have H20:=hide h20
 have HF:Hid (x.2.m.i<T.length∧FA g c v vf x.2 tl):=⟨hi,ha⟩
 clear hS hS' h19 h20 hi ha
 go_wp2
 refine bodyPost_ret (v:=.agg #[.int .i64 0,.int .i64 0,.int .u8 (x.1.word:Nat),.bool x.1.typed,.slice none 0 0,.int .u32 x.1.align,.int .u32 x.1.num,.int .i64 0,.slice pl x.1.labels.length cl,.int .i64 x.1.value]) ?_ rfl ?_
 ·simp[results,Tryz.results149,go_sem,y0,y1,y2,y3,y4,y5,y6,y7,y8,y9]
 ·exact OutX.ok_mk HM.out ⟨_,rfl,HLV.out.2,rfl,HF.out.1,g,v,vf,tl,HF.out.2,H20.out⟩
end
end
end Go.Proofs.YtkmofapihggjgaaGreatDoor
