import Derived.Test.YtkmofapihggjgaaGreatDoorX12
import Derived.Test.YtkmofapihggjgaaGreatDoorX13
import Derived.Test.YtkmofapihggjgaaGreatDoorX14
import Derived.Test.YtkmofapihggjgaaGreatDoorX15
import Derived.Test.YtkmofapihggjgaaGreatDoorX16
import Derived.Test.YtkmofapihggjgaaGreatDoorX17
namespace Go.Proofs.YtkmofapihggjgaaGreatDoor
section
open Go.RowKit
section
variable {w0 w:World} {ab tg cap mw mb fb:Nat} {T:List Tok} {c:Nat} {f:Bk} {X:List It}
theorem fnBehind_all (word:Nat) (h:FF w0 ab tg cap mw mb fb T c f X w) (hg:Ge w0) (hd:Gd w0) (hT:TW T):
  Calls Tryz.prog 149 #[.pointer (some ⟨fb,0,none⟩),.int .u8 (word:Nat)] w (OutX w0 (behT T f word) (BehV w0 ab tg cap mw mb fb T c X)):=by
 have hc:word=14∨(word=12∨word=13)∨word=16∨(word=32∨word=33∨word=34)∨(word=35∨word=36)∨word=17∨(word=40∨word=41∨word=44∨word=45∨word=54∨word=55∨word=58)∨word=65∨word=66∨(word≠14∧word≠12∧word≠13∧word≠16∧word≠32∧word≠33∧word≠34∧word≠35∧word≠36∧word≠17∧word≠40∧word≠41∧word≠44∧word≠45∧word≠54∧word≠55∧word≠58∧word≠65∧word≠66):=by omega
 rcases hc with hw | hw | hw | hw | hw | hw | hw | hw | hw | hw
 ·exact behind_bt h hg hd hT hw
 ·exact behind_lab h hg hd hT hw
 ·exact behind_call h hg hd hT hw
 ·exact behind_loc h hg hd hT hw
 ·exact behind_glob h hg hd hT hw
 ·exact behind_ind h hg hd hT hw
 ·exact behind_mem h hg hd hT hw
 ·exact behind_s32 h hg hd hT hw
 ·exact behind_s64 h hg hd hT hw
 ·exact behind_def h hg hd hT hw
theorem btT_le {lb:List ByteArray} (hT:TW T):∀{k:Nat} {ls:List Nat} {no:List (Nat×Nat)} {i:Nat} {x:List Nat×List (Nat×Nat)×Nat},btT T lb k ls no i=.ok x→i≤x.2.2
 | 0,_,_,_,_,h=>by cases h
 | k+1,ls,no,i,x,h=>by
  unfold btT at h
  split at h
  ·cases h
  ·split at h
   ·split at h
    ·cases h
    ·rename_i hx
     have h1:=(labT_nx hT hx).1
     have h2:=btT_le hT h
     simp only at h1
     omega
   ·cases h
    exact Nat.le_refl _
theorem behT_le {word:Nat} {x:InsT×Bk} (hT:TW T) (hi:f.m.i<T.length) (h:behT T f word=.ok x):f.m.i≤x.2.m.i∧x.2.lb=f.lb∧x.2.nm=f.nm∧x.2.al=f.al:=by
 unfold behT at h
 split at h
 ·split at h
  ·cases h
  ·rename_i h1
   have g1:=btT_le hT h1
   split at h
   ·cases h
   ·rename_i h2
    have g2:=(labT_nx hT h2).1
    cases h
    simp only at g1 g2 ⊢
    exact⟨by omega,trivial,trivial,trivial⟩
 split at h
 ·split at h
  ·cases h
  ·rename_i h2
   have g2:=(labT_nx hT h2).1
   cases h
   simp only at g2 ⊢
   exact⟨by omega,trivial,trivial,trivial⟩
 iterate 3
  split at h
  ·split at h
   ·cases h
   ·rename_i h2
    have g2:=(indexT_le hT h2 hi).1.1
    cases h
    exact⟨g2,rfl,rfl,rfl⟩
 split at h
 ·split at h
  ·cases h
  ·rename_i u f2 h2
   obtain⟨a1,a2,a3,a4,a5,a6⟩:=useT_le hT h2 hi
   simp only at a1 a5
   have e1:f2.lb=f.lb:=by rw[a5]
   have e3:f2.al=f.al:=by rw[a5]
   have e2:f2.nm=f.nm:=by
    unfold useT at h2
    split at h2
    ·split at h2
     ·cases h2
     ·split at h2
      ·cases h2
      ·split at h2
       ·cases h2
       ·rename_i hk
        unfold kinF at hk
        rw[if_neg (by decide)] at hk
        split at hk
        ·cases hk
        ·cases hk
         cases h2
         split<;>rfl
    ·split at h2
     ·cases h2
     ·rename_i hk
      unfold kinF at hk
      rw[if_neg (by decide)] at hk
      split at hk
      ·cases hk
      ·cases hk
       cases h2
       rfl
   split at h
   ·cases h
    exact⟨a1.1,e1,e2,e3⟩
   ·split at h
    ·cases h
    ·rename_i n m h3
     cases h
     have:m.i=f2.m.i:=by
      unfold tixT at h3
      split at h3
      ·cases h3;rfl
      ·split at h3
       ·cases h3
       ·cases h3;rfl
     exact⟨by show f.m.i≤m.i;omega,e1,e2,e3⟩
 split at h
 ·split at h
  ·cases h
  ·rename_i h1
   have g1:=offsetT_le hi h1
   split at h
   ·cases h
   ·rename_i h2
    have g2:=alignT_le g1.2 h2
    cases h
    exact⟨Nat.le_trans g1.1 g2.1,rfl,rfl,rfl⟩
 iterate 2
  split at h
  ·split at h
   ·cases h
   ·rename_i h2
    have g2:=signedM_nx h2
    cases h
    refine⟨?_,rfl,rfl,rfl⟩
    show f.m.i≤_
    rw[g2]
    exact nx_le hi
 cases h
 exact⟨Nat.le_refl _,rfl,rfl,rfl⟩
theorem LF.at {v:VS} {vf:VF} {tl:List It} {k:Nat} {p:It} (h:X[k]?=some p):(LF ab tg cap mw mb fb T v vf f (X++tl))[k+26]?=some p:=by
 show(_::_::_::_::_::_::_::_::_::_::_::_::_::_::_::_::_::_::_::_::_::_::_::_::_::_::(X++tl):List It)[k+26]?=some p
 simp only[List.getElem?_cons_succ]
 rw[List.getElem?_append_left (List.getElem?_eq_some_iff.1 h).1]
 exact h
theorem FF.cl {g:Nat} {cs:List Value} {v:Value} (h:FF w0 ab tg cap mw mb fb T c f X w) (k:Nat) (j:Nat) (hk:X[k]?=some (.b g cs):=by rfl) (hj:cs[j]?=some v:=by rfl):w.cell? ⟨g,j,none⟩=some v∧w.frozen? ⟨g,j,none⟩=false:=by
 obtain⟨hi,gg,v',vf,tl,ha,hS⟩:=h
 exact hS.c (k+26) j (LF.at hk) hj
theorem FF.lt {g:Nat} {cs:List Value} (h:FF w0 ab tg cap mw mb fb T c f X w) (k:Nat) (hk:X[k]?=some (.b g cs):=by rfl):g<w.heap.size:=by
 obtain⟨hi,gg,v',vf,tl,ha,hS⟩:=h
 exact hS.lt (k+26) (LF.at hk)
theorem FF.set {g:Nat} {cs:List Value} (h:FF w0 ab tg cap mw mb fb T c f X w) (k j:Nat) (v:Value) (hk:X[k]?=some (.b g cs):=by rfl):FF w0 ab tg cap mw mb fb T c f (X.set k (.b g (cs.set j v))) (w.setCell ⟨g,j,none⟩ v):=by
 obtain⟨hi,gg,v',vf,tl,ha,hS⟩:=h
 refine⟨hi,gg,v',vf,tl,ha,?_⟩
 have h1:=hS.set (k+26) j v (LF.at hk)
 rw[←List.set_append_left _ _ (List.getElem?_eq_some_iff.1 hk).1]
 exact h1
theorem FF.drop (h:FF w0 ab tg cap mw mb fb T c f X w) (k:Nat):FF w0 ab tg cap mw mb fb T c f (X.eraseIdx k) w:=by
 obtain⟨hi,gg,v',vf,tl,ha,hS⟩:=h
 refine⟨hi,gg,v',vf,tl,ha,hS.sub ?_⟩
 show List.Sublist (_::_::_::_::_::_::_::_::_::_::_::_::_::_::_::_::_::_::_::_::_::_::_::_::_::_::(X.eraseIdx k++tl)) (_::_::_::_::_::_::_::_::_::_::_::_::_::_::_::_::_::_::_::_::_::_::_::_::_::_::(X++tl))
 iterate 26 refine List.Sublist.cons_cons _ ?_
 exact List.Sublist.append (List.eraseIdx_sublist _ _) (List.Sublist.refl _)
theorem FF.row {E:TypeId} {sz n:Nat} {v:Value} {xs:List Value} (h:FF w0 ab tg cap mw mb fb T c f X w) (k:Nat) (hk:X[k]?=some (.r E sz v n xs):=by rfl):Row (fun g=>w0.heap.size≤g) w E sz v n xs:=by
 obtain⟨hi,gg,v',vf,tl,ha,hS⟩:=h
 exact hS.isRow (k+26) (LF.at hk)
end
end
section
open Go.RowKit
def bnT (T:List Tok) (i:Nat):ByteArray×Nat:=match T[i]? with
 | some t=>if idA t=true then(idRest t,nx T i) else(⟨#[]⟩,i)
 | none=>(⟨#[]⟩,i)
def opnT (T:List Tok) (p:Nat) (f:Bk) (word:Nat):Except Err ((InsT×ByteArray)×Bk):=
 if f.lb.length=50 then .error (7,p) else match useT false T {f with m:={f.m with i:=(bnT T f.m.i).2}} with
  | .error e=>.error e
  | .ok (u,f2)=>if u.told=false∧u.a.length=0∧u.b.length≤1 then .ok (({insB word with gives:=u.b},(bnT T f.m.i).1),f2)
   else if u.told=true then .ok (({insB word with typed:=true,num:=u.ix},(bnT T f.m.i).1),f2)
   else match tixT T f2.m (u.a,u.b) with
    | .error e=>.error e
    | .ok (n,m)=>.ok (({insB word with typed:=true,num:=n},(bnT T f.m.i).1),{f2 with m:=m})
theorem bnT_le {T:List Tok} {i:Nat} (hi:i<T.length):i≤(bnT T i).2∧(bnT T i).2<T.length:=by
 unfold bnT
 split
 ·split
  ·exact⟨nx_le hi,nx_ok hi⟩
  ·exact⟨Nat.le_refl _,hi⟩
 ·exact⟨Nat.le_refl _,hi⟩
def OpnV (w0:World) (ab tg cap mw mb fb:Nat) (T:List Tok) (c:Nat) (X:List It) (x:(InsT×ByteArray)×Bk) (e:Ending) (w':World):Prop:=∃gv,gv.oneCell'=true∧x.1.1.labels=[]∧e=.returned (.agg (insV (x.1.1,gv,.slice none 0 0)++[Value.string x.1.2]).toArray)∧FF w0 ab tg cap mw mb fb T c x.2 (.r 73 1 gv x.1.1.gives.length (kindCells x.1.1.gives)::X) w'
section
variable {w0 w:World} {ab tg cap mw mb fb:Nat} {T:List Tok} {c:Nat} {f:Bk} {X:List It}
theorem FF.perm {X':List It} (h:FF w0 ab tg cap mw mb fb T c f X w) (hp:X.Perm X'):FF w0 ab tg cap mw mb fb T c f X' w:=by
 obtain⟨hi,g,v,vf,tl,ha,hS⟩:=h
 refine⟨hi,g,v,vf,tl,ha,hS.perm ?_⟩
 show List.Perm (_::_::_::_::_::_::_::_::_::_::_::_::_::_::_::_::_::_::_::_::_::_::_::_::_::_::(X++tl)) (_::_::_::_::_::_::_::_::_::_::_::_::_::_::_::_::_::_::_::_::_::_::_::_::_::_::(X'++tl))
 iterate 26 refine List.Perm.cons _ ?_
 exact hp.append_right tl
theorem tPeek_F {t:Tok} (h:FF w0 ab tg cap mw mb fb T c f X w) (ht:T[f.m.i]?=some t):Calls Tryz.prog 109 #[.pointer (some ⟨ab,0,none⟩)] w (fun e w'=>e=.returned (tokV t)∧FF w0 ab tg cap mw mb fb T c f X w'):=by
 obtain⟨hi,g,v,vf,tl,ha,hS⟩:=h
 refine(tPeek_any hS ht).mono ?_
 rintro e w' ⟨rfl,h1⟩
 exact⟨rfl,hi,g,v,vf,tl,ha,h1⟩
theorem tTake_F (h:FF w0 ab tg cap mw mb fb T c f X w) (hT:TW T) (q:Nat) (hq:q≠1):Calls Tryz.prog 99 #[.pointer (some ⟨ab,0,none⟩),.int .u8 (q:Nat)] w (OutX w0 (takeT T q f.m.i) fun x e w'=>e=.returned (tokV x.1)∧x.2=f.m.i+1∧FF w0 ab tg cap mw mb fb T (c+1) {f with m:={f.m with i:=x.2}} X w'):=by
 obtain⟨hi,g,v,vf,tl,ha,hS⟩:=h
 obtain⟨t,ht⟩:∃t,T[f.m.i]?=some t:=⟨_,List.getElem?_eq_getElem hi⟩
 refine(tTake_all hS ht hT.len q).mono ?_
 intro e w' h1
 cases hx:takeT T q f.m.i with
 | error e=>rw[hx] at h1;exact h1
 | ok x=>
  rw[hx] at h1
  obtain⟨rfl,h1⟩:=h1
  obtain⟨g1,g2,g3⟩:=takeT_nx hx
  have g4:=hT.nx g1 (by omega)
  have g5:=hT.last _ _ g1 (by omega)
  exact⟨rfl,by omega,by show x.2<T.length;omega,g,v,vf,tl,ha.step (by omega),h1⟩
set_option maxRecDepth 100000 in
set_option maxHeartbeats 12800000 in
theorem fnOpening_all (t0:Tok) (word:Nat) (h:FF w0 ab tg cap mw mb fb T c f X w) (hg:Ge w0) (hT:TW T):
  Calls Tryz.prog 146 #[.pointer (some ⟨fb,0,none⟩),tokV t0,.int .u8 (word:Nat)] w (OutX w0 (opnT T t0.2.1 f word) (OpnV w0 ab tg cap mw mb fb T c X)):=by
 have hnot:∀(x:Bool) (w:World),(Op.unary .not (.bool x)).run Tryz.prog w=.ok (.bool (!x)) w:=fun _ _=>rfl
 obtain⟨tc,tp,ts⟩:=t0
 rw[show tokV (tc,tp,ts)=.agg #[.int .u8 (tc:Nat),.int .i64 (tp:Nat),.string ts] from rfl]
 have hF:=((h.new #[.int .u8 (tc:Nat),.int .i64 (tp:Nat),.string ts] 144).new #[.int .i64 0,.int .i64 0,.int .u8 0,.bool false,.slice none 0 0,.int .u32 0,.int .u32 0,.int .i64 0,.slice none 0 0,.int .i64 0,.string ⟨#[]⟩] 206)
 have hlb:=h.2
 obtain⟨g0,v0,vf0,tl0,ha0,hS0⟩:=hlb
 obtain⟨pl,cl,hvl⟩:=Row.shape (hS0.isRow 24 rfl)
 obtain⟨a0,-⟩:=hS0.c 22 0 rfl rfl
 obtain⟨a2,-⟩:=hS0.c 22 2 (v:=.slice pl f.lb.length cl) rfl (congrArg some hvl)
 have l0:=hS0.lt 22 rfl
 have HG:=hide hg
 have H:=hide hF
 have HLB:=hide ha0.lb
 clear h hg hF ha0 hS0 hvl
 by_cases h50:f.lb.length=50
 ·have t50:((f.lb.length:Int)==50)=true:=by rw[h50];rfl
  have HM:Hid (opnT T tp f word=.error (7,tp)):=by show _=_;unfold opnT;rw[if_pos h50]
  have K:=hide H.out.kept
  clear h50 H
  go_enter Tryz.func146,Tryz.ntmps146
  go_wp2_with fail
  refine(tkRefuse_any (tc,tp,ts) _).mono ?_
  rintro e w1 ⟨rfl,k1⟩
  exact⟨rfl,OutX.err_mk HM.out ⟨rfl,K.out.trans k1⟩⟩
 ·have t50:((f.lb.length:Int)==50)=false:=by simp;omega
  have H50:=hide h50
  clear h50
  have H3:=hide (H.out.new #[.int .i64 0,.int .i64 0,.int .u8 (word:Nat),.bool false,.slice none 0 0,.int .u32 0,.int .u32 0,.int .i64 0,.slice none 0 0,.int .i64 0,.string ⟨#[]⟩] 206)
  clear H
  go_enter Tryz.func146,Tryz.ntmps146
  go_upto_region 4 with fail
  simp only[World.size_alloc] at H3
  generalize ((w.alloc (.cells #[.int .u8 (tc:Nat),.int .i64 (tp:Nat),.string ts] 144)).alloc (.cells #[.int .i64 0,.int .i64 0,.int .u8 0,.bool false,.slice none 0 0,.int .u32 0,.int .u32 0,.int .i64 0,.slice none 0 0,.int .i64 0,.string ⟨#[]⟩] 206)).alloc (.cells #[.int .i64 0,.int .i64 0,.int .u8 (word:Nat),.bool false,.slice none 0 0,.int .u32 0,.int .u32 0,.int .i64 0,.slice none 0 0,.int .i64 0,.string ⟨#[]⟩] 206)=w1 at*
  generalize w.heap.size=tb at*
  obtain⟨rb,hrb⟩:∃rb,rb=tb+1:=⟨_,rfl⟩
  obtain⟨bb,hbb⟩:∃bb,bb=rb+1:=⟨_,rfl⟩
  rw[←hrb,←hbb] at H3 ⊢
  clear hrb hbb a0 a2 l0
  obtain⟨t,ht⟩:∃t,T[f.m.i]?=some t:=⟨_,List.getElem?_eq_getElem H3.out.1⟩
  have HT:=hide ht
  have HZ:=hide (hT.small t (List.mem_of_getElem? ht))
  obtain⟨a0,l0⟩:=H3.out.fb0
  clear ht
  go_wp2_with fail
  refine(tPeek_F H3.out HT.out).mono ?_
  rintro e w2 ⟨rfl,h2⟩
  have H2:=hide h2
  clear h2 H3 a0 l0
  go_wp2_with fail
  refine(tID_all t HZ.out _).mono ?_
  rintro e w3 ⟨nmx,rfl,hnmx,hk3⟩
  have H3:=hide (H2.out.to hk3)
  have HNX:=hide hnmx
  clear hk3 hnmx H2
  go_upto_if 33 with fail
  obtain⟨nm,i1,hbn⟩:∃nm i1,bnT T f.m.i=(nm,i1):=⟨_,_,rfl⟩
  have HBN:=hide hbn
  have HBL:=hide (bnT_le H3.out.1)
  obtain⟨bi,hbi⟩:∃bi,bi=idA t:=⟨_,rfl⟩
  rw[←hbi] at HNX ⊢
  have HBI:=hide hbi
  clear hbn hbi
  go_cut [] from 34 to 42 (fun W=>FF w0 ab tg cap mw mb fb T c {f with m:={f.m with i:=i1}} (.b bb [.int .i64 0,.int .i64 0,.int .u8 (word:Nat),.bool false,.slice none 0 0,.int .u32 0,.int .u32 0,.int .i64 0,.slice none 0 0,.int .i64 0,.string nm]::.b rb [.int .i64 0,.int .i64 0,.int .u8 0,.bool false,.slice none 0 0,.int .u32 0,.int .u32 0,.int .i64 0,.slice none 0 0,.int .i64 0,.string ⟨#[]⟩]::.b tb [.int .u8 (tc:Nat),.int .i64 (tp:Nat),.string ts]::X) W)
  case first=>
   cases bi with
   | true=>
    have hnm:nm=nmx∧i1=nx T f.m.i:=by
     have h1:=HBN.out
     unfold bnT at h1
     rw[HT.out] at h1
     simp only[←HBI.out,if_true] at h1
     exact⟨by rw[HNX.out rfl];exact(congrArg Prod.fst h1).symm,(congrArg Prod.snd h1).symm⟩
    obtain⟨rfl,rfl⟩:=hnm
    have h5:Hid (t.1=5):=by show _=_;have h1:=HBI.out;unfold idA at h1;simp at h1;exact h1.1.2
    obtain⟨c10,d10⟩:=H3.out.cl 0 10
    have lb:=H3.out.lt 0
    obtain⟨a0,l0⟩:=H3.out.fb0
    have h4:=H3.out.set 0 10 (.string nm)
    obtain⟨a1,l1⟩:=h4.fb0
    have H4:=hide h4
    clear h4 H3
    go_wp2_with fail
    refine(tTake_F H4.out hT 5 (by decide)).mono ?_
    intro e w4 h5'
    rw[takeT_ok HT.out h5.out] at h5'
    obtain⟨rfl,-,h5'⟩:=h5'
    have H5:=hide (h5'.less (c':=c) (by omega))
    clear h5' H4 c10 d10 lb a0 l0 a1 l1
    go_wp2
    go_meet
    case rel=>exact H5.out
   | false=>
    have hnm:nm=⟨#[]⟩∧i1=f.m.i:=by
     have h1:=HBN.out
     unfold bnT at h1
     rw[HT.out] at h1
     simp only[←HBI.out,Bool.false_eq_true,if_false] at h1
     exact⟨(congrArg Prod.fst h1).symm,(congrArg Prod.snd h1).symm⟩
    obtain⟨rfl,rfl⟩:=hnm
    go_wp2
    go_meet
    case rel=>exact H3.out
  have H4:=hide hcut
  clear hcut H3
  obtain⟨a0,l0⟩:=H4.out.fb0
  go_wp2_with fail
  refine(use_F false H4.out HG.out hT).mono ?_
  intro e w4 h5
  have HO:Hid (opnT T tp f word=(match useT false T {f with m:={f.m with i:=i1}} with
   | .error e=>.error e
   | .ok (u,f2)=>if u.told=false∧u.a.length=0∧u.b.length≤1 then .ok (({insB word with gives:=u.b},nm),f2)
    else if u.told=true then .ok (({insB word with typed:=true,num:=u.ix},nm),f2)
    else match tixT T f2.m (u.a,u.b) with
     | .error e=>.error e
     | .ok (n,m)=>.ok (({insB word with typed:=true,num:=n},nm),{f2 with m:=m}))):=by
   show _=_
   unfold opnT
   rw[if_neg H50.out,HBN.out]
  cases hx:useT false T {f with m:={f.m with i:=i1}} with
  | error q=>
   rw[hx] at h5
   obtain⟨rfl,hk⟩:=h5
   exact⟨rfl,OutX.err_mk (by rw[HO.out,hx]) ⟨rfl,hk⟩⟩
  | ok x=>
  have hle:=(useT_le hT hx H4.out.1).2.2.2.2.2
  have HO2:=hide (HO.out.trans (by rw[hx]))
  obtain⟨u,f2⟩:=x
  rw[hx] at h5
  obtain⟨pa,ca,pb,cb,rfl,h5⟩:=h5
  obtain⟨ua,ub,ut,ui⟩:=u
  simp only at h5 HO2 hle ⊢
  have h6:=h5.new #[.slice pa ua.length ca,.slice pb ub.length cb,.bool ut,.int .u32 (ui:Nat)] 178
  have HLE:=hide hle
  have H6:=hide h6
  clear h5 h6 hx H4 HO a0 l0 hle
  go_upto_region 9 with fail
  generalize w4.alloc (.cells #[.slice pa ua.length ca,.slice pb ub.length cb,.bool ut,.int .u32 (ui:Nat)] 178)=w5 at*
  generalize w4.heap.size=ubk at*
  obtain⟨cd,hcd⟩:∃cd,cd=decide (ut=false∧ua.length=0∧ub.length≤1):=⟨_,rfl⟩
  have HCD:=hide hcd
  clear hcd
  obtain⟨u0,-⟩:=H6.out.cl 0 0
  obtain⟨u1,-⟩:=H6.out.cl 0 1
  obtain⟨u2,-⟩:=H6.out.cl 0 2
  obtain⟨u3,-⟩:=H6.out.cl 0 3
  have lu:=H6.out.lt 0
  go_cut [64] from 48 to 64 (fun x W=>x=.bool cd∧w5=W)
  case first=>
   cases ut with
   | true=>
    have HE:Hid (cd=false):=by show _=_;rw[HCD.out];rfl
    go_wp2
    go_meet
    case rel=>exact⟨by rw[HE.out],rfl⟩
   | false=>
    by_cases ha:ua.length=0
    ·have ta:((ua.length:Int)==0)=true:=by rw[ha];rfl
     have HA:=hide ha
     clear ha
     by_cases hb:ub.length≤1
     ·have tb2:(ub.length:Int)≤1:=by omega
      have HE:Hid (cd=true):=by show _=_;rw[HCD.out];simp[HA.out,hb]
      clear hb
      go_wp2
      go_meet
      case rel=>exact⟨by rw[HE.out],rfl⟩
     ·have tb2:¬(ub.length:Int)≤1:=by omega
      have HE:Hid (cd=false):=by show _=_;rw[HCD.out];simp[hb]
      clear hb
      go_wp2
      go_meet
      case rel=>exact⟨by rw[HE.out],rfl⟩
    ·have ta:((ua.length:Int)==0)=false:=by rw[beq_eq_false_iff_ne];omega
     have HE:Hid (cd=false):=by show _=_;rw[HCD.out];simp[ha]
     clear ha
     go_wp2
     go_meet
     case rel=>exact⟨by rw[HE.out],rfl⟩
  obtain⟨rfl,rfl⟩:=hcut
  cases cd with
  | true=>
   have hcd:=HCD.out
   simp only[eq_comm (a:=true),decide_eq_true_eq] at hcd
   obtain⟨rfl,hua,hub⟩:=hcd
   obtain rfl:ua=[]:=List.length_eq_zero_iff.1 hua
   have HM:Hid (opnT T tp f word=.ok (({insB word with gives:=ub},nm),f2)):=by show _=_;rw[HO2.out,if_pos ⟨rfl,rfl,hub⟩]
   have h7:FF w0 ab tg cap mw mb fb T c f2 (.b ubk [.slice pa 0 ca,.slice pb ub.length cb,.bool false,.int .u32 (ui:Nat)]::.r 73 1 (.slice pa 0 ca) 0 (kindCells [])::.r 73 1 (.slice pb ub.length cb) ub.length (kindCells ub)::.b bb [.int .i64 0,.int .i64 0,.int .u8 (word:Nat),.bool false,.slice none 0 0,.int .u32 0,.int .u32 0,.int .i64 0,.slice none 0 0,.int .i64 0,.string nm]::.b rb [.int .i64 0,.int .i64 0,.int .u8 0,.bool false,.slice none 0 0,.int .u32 0,.int .u32 0,.int .i64 0,.slice none 0 0,.int .i64 0,.string ⟨#[]⟩]::.b tb [.int .u8 (tc:Nat),.int .i64 (tp:Nat),.string ts]::X) w5:=H6.out
   obtain⟨c4,d4⟩:=h7.cl 3 4
   have lb4:=h7.lt 3
   have h8:=h7.set 3 4 (.slice pb ub.length cb)
   have h8':FF w0 ab tg cap mw mb fb T c f2 (.b ubk [.slice pa 0 ca,.slice pb ub.length cb,.bool false,.int .u32 (ui:Nat)]::.r 73 1 (.slice pa 0 ca) 0 (kindCells [])::.r 73 1 (.slice pb ub.length cb) ub.length (kindCells ub)::.b bb [.int .i64 0,.int .i64 0,.int .u8 (word:Nat),.bool false,.slice pb ub.length cb,.int .u32 0,.int .u32 0,.int .i64 0,.slice none 0 0,.int .i64 0,.string nm]::.b rb [.int .i64 0,.int .i64 0,.int .u8 0,.bool false,.slice none 0 0,.int .u32 0,.int .u32 0,.int .i64 0,.slice none 0 0,.int .i64 0,.string ⟨#[]⟩]::.b tb [.int .u8 (tc:Nat),.int .i64 (tp:Nat),.string ts]::X) _:=h8
   obtain⟨b0,-⟩:=h8'.cl 3 0
   obtain⟨b1,-⟩:=h8'.cl 3 1
   obtain⟨b2,-⟩:=h8'.cl 3 2
   obtain⟨b3,-⟩:=h8'.cl 3 3
   obtain⟨b4,-⟩:=h8'.cl 3 4
   obtain⟨b5,-⟩:=h8'.cl 3 5
   obtain⟨b6,-⟩:=h8'.cl 3 6
   obtain⟨b7,-⟩:=h8'.cl 3 7
   obtain⟨b8,-⟩:=h8'.cl 3 8
   obtain⟨b9,-⟩:=h8'.cl 3 9
   obtain⟨b10,-⟩:=h8'.cl 3 10
   obtain⟨r0,s0⟩:=h8'.cl 4 0
   obtain⟨r1,s1⟩:=h8'.cl 4 1
   obtain⟨r2,s2⟩:=h8'.cl 4 2
   obtain⟨r3,s3⟩:=h8'.cl 4 3
   obtain⟨r4,s4⟩:=h8'.cl 4 4
   obtain⟨r5,s5⟩:=h8'.cl 4 5
   obtain⟨r6,s6⟩:=h8'.cl 4 6
   obtain⟨r7,s7⟩:=h8'.cl 4 7
   obtain⟨r8,s8⟩:=h8'.cl 4 8
   obtain⟨r9,s9⟩:=h8'.cl 4 9
   obtain⟨r10,s10⟩:=h8'.cl 4 10
   have lbk:=h8'.lt 3
   have lrk:=h8'.lt 4
   have h9:=(((((((((((h8'.set 4 0 (.int .i64 0)).set 4 1 (.int .i64 0)).set 4 2 (.int .u8 (word:Nat))).set 4 3 (.bool false)).set 4 4 (.slice pb ub.length cb)).set 4 5 (.int .u32 0)).set 4 6 (.int .u32 0)).set 4 7 (.int .i64 0)).set 4 8 (.slice none 0 0)).set 4 9 (.int .i64 0)).set 4 10 (.string nm))
   obtain⟨y0,-⟩:=h9.cl (v:=.int .i64 0) 4 0
   obtain⟨y1,-⟩:=h9.cl (v:=.int .i64 0) 4 1
   obtain⟨y2,-⟩:=h9.cl (v:=.int .u8 (word:Nat)) 4 2
   obtain⟨y3,-⟩:=h9.cl (v:=.bool false) 4 3
   obtain⟨y4,-⟩:=h9.cl (v:=.slice pb ub.length cb) 4 4
   obtain⟨y5,-⟩:=h9.cl (v:=.int .u32 0) 4 5
   obtain⟨y6,-⟩:=h9.cl (v:=.int .u32 0) 4 6
   obtain⟨y7,-⟩:=h9.cl (v:=.int .i64 0) 4 7
   obtain⟨y8,-⟩:=h9.cl (v:=.slice none 0 0) 4 8
   obtain⟨y9,-⟩:=h9.cl (v:=.int .i64 0) 4 9
   obtain⟨y10,-⟩:=h9.cl (v:=.string nm) 4 10
   have H10:=hide ((((h9.drop 5).drop 4).drop 3).pop.pop)
   clear h9 h7 h8 h8' H6
   go_wp2
   refine bodyPost_ret (v:=.agg #[.int .i64 0,.int .i64 0,.int .u8 (word:Nat),.bool false,.slice pb ub.length cb,.int .u32 0,.int .u32 0,.int .i64 0,.slice none 0 0,.int .i64 0,.string nm]) ?_ rfl ?_
   ·simp[results,Tryz.results146,go_sem,y0,y1,y2,y3,y4,y5,y6,y7,y8,y9,y10]
   ·exact OutX.ok_mk HM.out ⟨.slice pb ub.length cb,rfl,rfl,rfl,H10.out⟩
  | false=>
   have hcd:=HCD.out
   simp only[eq_comm (a:=false),decide_eq_false_iff_not] at hcd
   cases ut with
   | true=>
    have h7:FF w0 ab tg cap mw mb fb T c f2 (.b ubk [.slice pa ua.length ca,.slice pb ub.length cb,.bool true,.int .u32 (ui:Nat)]::.b bb [.int .i64 0,.int .i64 0,.int .u8 (word:Nat),.bool false,.slice none 0 0,.int .u32 0,.int .u32 0,.int .i64 0,.slice none 0 0,.int .i64 0,.string nm]::.b rb [.int .i64 0,.int .i64 0,.int .u8 0,.bool false,.slice none 0 0,.int .u32 0,.int .u32 0,.int .i64 0,.slice none 0 0,.int .i64 0,.string ⟨#[]⟩]::.b tb [.int .u8 (tc:Nat),.int .i64 (tp:Nat),.string ts]::X) w5:=H6.out
    obtain⟨c3,d3⟩:=h7.cl 1 3
    have lb3:=h7.lt 1
    have h8a:=h7.set 1 3 (.bool true)
    have h8:FF w0 ab tg cap mw mb fb T c f2 (.b ubk [.slice pa ua.length ca,.slice pb ub.length cb,.bool true,.int .u32 (ui:Nat)]::.b bb [.int .i64 0,.int .i64 0,.int .u8 (word:Nat),.bool true,.slice none 0 0,.int .u32 0,.int .u32 0,.int .i64 0,.slice none 0 0,.int .i64 0,.string nm]::.b rb [.int .i64 0,.int .i64 0,.int .u8 0,.bool false,.slice none 0 0,.int .u32 0,.int .u32 0,.int .i64 0,.slice none 0 0,.int .i64 0,.string ⟨#[]⟩]::.b tb [.int .u8 (tc:Nat),.int .i64 (tp:Nat),.string ts]::X) _:=h8a
    have H8:=hide h8
    clear h7 h8 h8a H6 u0 u1 u2 u3 lu
    go_upto_region 13 with fail
    generalize w5.setCell ⟨bb,3,none⟩ (.bool true)=w6 at*
    clear c3 d3 lb3
    have h8:=H8.out
    have hS:∀(V:World) (f':Bk) (X':List It),FF w0 ab tg cap mw mb fb T c f' (X') V→X'[0]?=some (.b ubk [.slice pa ua.length ca,.slice pb ub.length cb,.bool true,.int .u32 (ui:Nat)])→(fun V:World=>V.cell? ⟨fb,0,none⟩=some (.pointer (some ⟨ab,0,none⟩))∧V.cell? ⟨ubk,0,none⟩=some (.slice pa ua.length ca)∧V.cell? ⟨ubk,1,none⟩=some (.slice pb ub.length cb)∧V.cell? ⟨ubk,2,none⟩=some (.bool true)∧V.cell? ⟨ubk,3,none⟩=some (.int .u32 (ui:Nat))) V:=fun V f' X' hV hX=>⟨hV.fb0.1,(hV.cl 0 0 hX).1,(hV.cl 0 1 hX).1,(hV.cl 0 2 hX).1,(hV.cl 0 3 hX).1⟩
    have hS2:∀(V:World) (f':Bk) (X':List It),FF w0 ab tg cap mw mb fb T c f' X' V→X'[0]?=some (.b ubk [.slice pa ua.length ca,.slice pb ub.length cb,.bool true,.int .u32 (ui:Nat)])→(fun V:World=>V.cell? ⟨fb,0,none⟩=some (.pointer (some ⟨ab,0,none⟩))∧V.cell? ⟨ubk,0,none⟩=some (.slice pa ua.length ca)∧V.cell? ⟨ubk,1,none⟩=some (.slice pb ub.length cb)∧V.cell? ⟨ubk,2,none⟩=some (.bool true)∧V.cell? ⟨ubk,3,none⟩=some (.int .u32 (ui:Nat))) V:=fun V f' X' hV hX=>⟨hV.fb0.1,(hV.cl 0 0 hX).1,(hV.cl 0 1 hX).1,(hV.cl 0 2 hX).1,(hV.cl 0 3 hX).1⟩
    have hS0:=hS _ _ _ h8.drew rfl
    have h8d:=h8.drew
    clear h8 H8
    refine regK (fun V:World=>V.cell? ⟨fb,0,none⟩=some (.pointer (some ⟨ab,0,none⟩))∧V.cell? ⟨ubk,0,none⟩=some (.slice pa ua.length ca)∧V.cell? ⟨ubk,1,none⟩=some (.slice pb ub.length cb)∧V.cell? ⟨ubk,2,none⟩=some (.bool true)∧V.cell? ⟨ubk,3,none⟩=some (.int .u32 (ui:Nat))) 9 ?_
    iterate 5 refine tkk hS0 (h:=?_) (hy:=by(refine Or.inl ⟨by rfl,?_⟩;intro V hV;obtain⟨u0,u1,u2,u3,u4⟩:=hV;go_simp;try with_reducible rfl))
    refine oneK (fun K hK=>?_)
    refine step_callX (f:=113) (args:= #[.pointer (some ⟨ab,0,none⟩),.agg #[.slice pa ua.length ca,.slice pb ub.length cb,.bool true,.int .u32 (ui:Nat)]]) (by rfl) (by go_simp) (typeIndex_toldF h8d _ _ ui) ?_
    rintro e w7 ⟨rfl,h9⟩
    have HM:Hid (opnT T tp f word=.ok (({insB word with typed:=true,num:=ui},nm),f2)):=by show _=_;rw[HO2.out,if_neg hcd,if_pos rfl]
    obtain⟨f3,hf3⟩:∃f3,f3=f2:=⟨_,rfl⟩
    rw[←hf3] at h9 HM
    refine .inl ⟨_,rfl,hK _ _ (.inr (hS2 _ _ _ h9 rfl)) ?_⟩
    clear hK K hS0 h8d hf3
    simp only[Act.put,List.setIfInBounds_toArray,List.set_cons_zero,List.set_cons_succ]
    iterate 3 refine tkk (hS2 _ _ _ h9 rfl) (h:=?_)
    obtain⟨c6,d6⟩:=h9.cl 1 6
    have lb6:=h9.lt 1
    have h11a:=h9.set 1 6 (.int .u32 (ui:Nat))
    have h11:FF w0 ab tg cap mw mb fb T c f3 (.b ubk [.slice pa ua.length ca,.slice pb ub.length cb,.bool true,.int .u32 (ui:Nat)]::.b bb [.int .i64 0,.int .i64 0,.int .u8 (word:Nat),.bool true,.slice none 0 0,.int .u32 0,.int .u32 (ui:Nat),.int .i64 0,.slice none 0 0,.int .i64 0,.string nm]::.b rb [.int .i64 0,.int .i64 0,.int .u8 0,.bool false,.slice none 0 0,.int .u32 0,.int .u32 0,.int .i64 0,.slice none 0 0,.int .i64 0,.string ⟨#[]⟩]::.b tb [.int .u8 (tc:Nat),.int .i64 (tp:Nat),.string ts]::X) _:=h11a
    have H11:=hide h11
    clear h9 h11 h11a hS hS2
    refine lastK (fun K hK=>?_)
    go_simp
    refine hK _ _ ?_
    clear hK K
    generalize w7.setCell ⟨bb,6,none⟩ (.int .u32 (ui:Nat))=w8 at*
    clear c6 d6 lb6
    have h12:=H11.out
    clear H11
    obtain⟨b0,-⟩:=h12.cl 1 0
    obtain⟨b1,-⟩:=h12.cl 1 1
    obtain⟨b2,-⟩:=h12.cl 1 2
    obtain⟨b3,-⟩:=h12.cl 1 3
    obtain⟨b4,-⟩:=h12.cl 1 4
    obtain⟨b5,-⟩:=h12.cl 1 5
    obtain⟨b6,-⟩:=h12.cl 1 6
    obtain⟨b7,-⟩:=h12.cl 1 7
    obtain⟨b8,-⟩:=h12.cl 1 8
    obtain⟨b9,-⟩:=h12.cl 1 9
    obtain⟨b10,-⟩:=h12.cl 1 10
    obtain⟨r0,s0⟩:=h12.cl 2 0
    obtain⟨r1,s1⟩:=h12.cl 2 1
    obtain⟨r2,s2⟩:=h12.cl 2 2
    obtain⟨r3,s3⟩:=h12.cl 2 3
    obtain⟨r4,s4⟩:=h12.cl 2 4
    obtain⟨r5,s5⟩:=h12.cl 2 5
    obtain⟨r6,s6⟩:=h12.cl 2 6
    obtain⟨r7,s7⟩:=h12.cl 2 7
    obtain⟨r8,s8⟩:=h12.cl 2 8
    obtain⟨r9,s9⟩:=h12.cl 2 9
    obtain⟨r10,s10⟩:=h12.cl 2 10
    have lbk:=h12.lt 1
    have lrk:=h12.lt 2
    have h9:=(((((((((((h12.set 2 0 (.int .i64 0)).set 2 1 (.int .i64 0)).set 2 2 (.int .u8 (word:Nat))).set 2 3 (.bool true)).set 2 4 (.slice none 0 0)).set 2 5 (.int .u32 0)).set 2 6 (.int .u32 (ui:Nat))).set 2 7 (.int .i64 0)).set 2 8 (.slice none 0 0)).set 2 9 (.int .i64 0)).set 2 10 (.string nm))
    obtain⟨y0,-⟩:=h9.cl (v:=.int .i64 0) 2 0
    obtain⟨y1,-⟩:=h9.cl (v:=.int .i64 0) 2 1
    obtain⟨y2,-⟩:=h9.cl (v:=.int .u8 (word:Nat)) 2 2
    obtain⟨y3,-⟩:=h9.cl (v:=.bool true) 2 3
    obtain⟨y4,-⟩:=h9.cl (v:=.slice none 0 0) 2 4
    obtain⟨y5,-⟩:=h9.cl (v:=.int .u32 0) 2 5
    obtain⟨y6,-⟩:=h9.cl (v:=.int .u32 (ui:Nat)) 2 6
    obtain⟨y7,-⟩:=h9.cl (v:=.int .i64 0) 2 7
    obtain⟨y8,-⟩:=h9.cl (v:=.slice none 0 0) 2 8
    obtain⟨y9,-⟩:=h9.cl (v:=.int .i64 0) 2 9
    obtain⟨y10,-⟩:=h9.cl (v:=.string nm) 2 10
    have H10:=hide (((((h9.drop 3).drop 2).drop 1).drop 0).nilR 73 1)
    clear h9 h12
    go_wp2
    refine bodyPost_ret (v:=.agg #[.int .i64 0,.int .i64 0,.int .u8 (word:Nat),.bool true,.slice none 0 0,.int .u32 0,.int .u32 (ui:Nat),.int .i64 0,.slice none 0 0,.int .i64 0,.string nm]) ?_ rfl ?_
    ·simp[results,Tryz.results146,go_sem,y0,y1,y2,y3,y4,y5,y6,y7,y8,y9,y10]
    ·exact OutX.ok_mk HM.out ⟨.slice none 0 0,rfl,rfl,rfl,H10.out⟩
   | false=>
    obtain⟨rfl,hla,hlb⟩:=HLE.out rfl
    try simp only at hla hlb
    have h7:FF w0 ab tg cap mw mb fb T c f2 (.b ubk [.slice pa ua.length ca,.slice pb ub.length cb,.bool false,.int .u32 0]::.r 73 1 (.slice pa ua.length ca) ua.length (kindCells ua)::.r 73 1 (.slice pb ub.length cb) ub.length (kindCells ub)::.b bb [.int .i64 0,.int .i64 0,.int .u8 (word:Nat),.bool false,.slice none 0 0,.int .u32 0,.int .u32 0,.int .i64 0,.slice none 0 0,.int .i64 0,.string nm]::.b rb [.int .i64 0,.int .i64 0,.int .u8 0,.bool false,.slice none 0 0,.int .u32 0,.int .u32 0,.int .i64 0,.slice none 0 0,.int .i64 0,.string ⟨#[]⟩]::.b tb [.int .u8 (tc:Nat),.int .i64 (tp:Nat),.string ts]::X) w5:=H6.out
    obtain⟨c3,d3⟩:=h7.cl 3 3
    have lb3:=h7.lt 3
    have h8a:=h7.set 3 3 (.bool true)
    have h8:FF w0 ab tg cap mw mb fb T c f2 (.b ubk [.slice pa ua.length ca,.slice pb ub.length cb,.bool false,.int .u32 0]::.r 73 1 (.slice pa ua.length ca) ua.length (kindCells ua)::.r 73 1 (.slice pb ub.length cb) ub.length (kindCells ub)::.b bb [.int .i64 0,.int .i64 0,.int .u8 (word:Nat),.bool true,.slice none 0 0,.int .u32 0,.int .u32 0,.int .i64 0,.slice none 0 0,.int .i64 0,.string nm]::.b rb [.int .i64 0,.int .i64 0,.int .u8 0,.bool false,.slice none 0 0,.int .u32 0,.int .u32 0,.int .i64 0,.slice none 0 0,.int .i64 0,.string ⟨#[]⟩]::.b tb [.int .u8 (tc:Nat),.int .i64 (tp:Nat),.string ts]::X) _:=h8a
    have H8:=hide h8
    clear h7 h8 h8a H6 u0 u1 u2 u3 lu
    go_upto_region 13 with fail
    generalize w5.setCell ⟨bb,3,none⟩ (.bool true)=w6 at*
    clear c3 d3 lb3
    have h8:FF w0 ab tg cap mw mb fb T c f2 (.r 73 1 (.slice pa ua.length ca) ua.length (kindCells ua)::.r 73 1 (.slice pb ub.length cb) ub.length (kindCells ub)::.b ubk [.slice pa ua.length ca,.slice pb ub.length cb,.bool false,.int .u32 0]::.b bb [.int .i64 0,.int .i64 0,.int .u8 (word:Nat),.bool true,.slice none 0 0,.int .u32 0,.int .u32 0,.int .i64 0,.slice none 0 0,.int .i64 0,.string nm]::.b rb [.int .i64 0,.int .i64 0,.int .u8 0,.bool false,.slice none 0 0,.int .u32 0,.int .u32 0,.int .i64 0,.slice none 0 0,.int .i64 0,.string ⟨#[]⟩]::.b tb [.int .u8 (tc:Nat),.int .i64 (tp:Nat),.string ts]::X) w6:=H8.out.perm (by
     refine((List.Perm.swap _ _ _).trans (List.Perm.cons _ (List.Perm.swap _ _ _))))
    have hS:∀(V:World) (f':Bk) (X':List It),FF w0 ab tg cap mw mb fb T c f' (X') V→X'[2]?=some (.b ubk [.slice pa ua.length ca,.slice pb ub.length cb,.bool false,.int .u32 0])→(fun V:World=>V.cell? ⟨fb,0,none⟩=some (.pointer (some ⟨ab,0,none⟩))∧V.cell? ⟨ubk,0,none⟩=some (.slice pa ua.length ca)∧V.cell? ⟨ubk,1,none⟩=some (.slice pb ub.length cb)∧V.cell? ⟨ubk,2,none⟩=some (.bool false)∧V.cell? ⟨ubk,3,none⟩=some (.int .u32 0)) V:=fun V f' X' hV hX=>⟨hV.fb0.1,(hV.cl 2 0 hX).1,(hV.cl 2 1 hX).1,(hV.cl 2 2 hX).1,(hV.cl 2 3 hX).1⟩
    have hS2:∀(V:World) (f':Bk) (X':List It),FF w0 ab tg cap mw mb fb T c f' X' V→X'[0]?=some (.b ubk [.slice pa ua.length ca,.slice pb ub.length cb,.bool false,.int .u32 0])→(fun V:World=>V.cell? ⟨fb,0,none⟩=some (.pointer (some ⟨ab,0,none⟩))∧V.cell? ⟨ubk,0,none⟩=some (.slice pa ua.length ca)∧V.cell? ⟨ubk,1,none⟩=some (.slice pb ub.length cb)∧V.cell? ⟨ubk,2,none⟩=some (.bool false)∧V.cell? ⟨ubk,3,none⟩=some (.int .u32 0)) V:=fun V f' X' hV hX=>⟨hV.fb0.1,(hV.cl 0 0 hX).1,(hV.cl 0 1 hX).1,(hV.cl 0 2 hX).1,(hV.cl 0 3 hX).1⟩
    have hS0:=hS _ _ _ h8.drew rfl
    have h8d:=h8.drew
    clear h8 H8
    refine regK (fun V:World=>V.cell? ⟨fb,0,none⟩=some (.pointer (some ⟨ab,0,none⟩))∧V.cell? ⟨ubk,0,none⟩=some (.slice pa ua.length ca)∧V.cell? ⟨ubk,1,none⟩=some (.slice pb ub.length cb)∧V.cell? ⟨ubk,2,none⟩=some (.bool false)∧V.cell? ⟨ubk,3,none⟩=some (.int .u32 0)) 9 ?_
    iterate 5 refine tkk hS0 (h:=?_) (hy:=by(refine Or.inl ⟨by rfl,?_⟩;intro V hV;obtain⟨u0,u1,u2,u3,u4⟩:=hV;go_simp;try with_reducible rfl))
    refine oneK (fun K hK=>?_)
    refine step_callX (f:=113) (args:= #[.pointer (some ⟨ab,0,none⟩),.agg #[.slice pa ua.length ca,.slice pb ub.length cb,.bool false,.int .u32 0]]) (by rfl) (by go_simp;try rfl) (typeIndex_F (a:=ua) (b:=ub) ⟨by omega,by omega⟩ hT.len rfl rfl h8d) ?_
    intro e w7 h9
    cases hx:tixT T f2.m (ua,ub) with
    | error q=>
     rw[hx] at h9
     obtain⟨rfl,hk⟩:=h9
     exact .inr ⟨_,rfl,⟨rfl,OutX.err_mk (by rw[HO2.out,if_neg hcd,if_neg (by decide),hx]) ⟨rfl,hk⟩⟩⟩
    | ok x=>
    obtain⟨n,m⟩:=x
    rw[hx] at h9
    obtain⟨rfl,h9⟩:=h9
    simp only at h9 ⊢
    have HM:Hid (opnT T tp f word=.ok (({insB word with typed:=true,num:=n},nm),{f2 with m:=m})):=by show _=_;rw[HO2.out,if_neg hcd,if_neg (by decide),hx]
    obtain⟨f3,hf3⟩:∃f3,f3=({f2 with m:=m}:Bk):=⟨_,rfl⟩
    rw[←hf3] at h9 HM
    clear hx
    refine .inl ⟨_,rfl,hK _ _ (.inr (hS2 _ _ _ h9 rfl)) ?_⟩
    clear hK K hS0 h8d hf3
    simp only[Act.put,List.setIfInBounds_toArray,List.set_cons_zero,List.set_cons_succ]
    iterate 3 refine tkk (hS2 _ _ _ h9 rfl) (h:=?_)
    obtain⟨c6,d6⟩:=h9.cl 1 6
    have lb6:=h9.lt 1
    have h11a:=h9.set 1 6 (.int .u32 (n:Nat))
    have h11:FF w0 ab tg cap mw mb fb T c f3 (.b ubk [.slice pa ua.length ca,.slice pb ub.length cb,.bool false,.int .u32 0]::.b bb [.int .i64 0,.int .i64 0,.int .u8 (word:Nat),.bool true,.slice none 0 0,.int .u32 0,.int .u32 (n:Nat),.int .i64 0,.slice none 0 0,.int .i64 0,.string nm]::.b rb [.int .i64 0,.int .i64 0,.int .u8 0,.bool false,.slice none 0 0,.int .u32 0,.int .u32 0,.int .i64 0,.slice none 0 0,.int .i64 0,.string ⟨#[]⟩]::.b tb [.int .u8 (tc:Nat),.int .i64 (tp:Nat),.string ts]::X) _:=h11a
    have H11:=hide h11
    clear h9 h11 h11a hS hS2
    refine lastK (fun K hK=>?_)
    go_simp
    refine hK _ _ ?_
    clear hK K
    generalize w7.setCell ⟨bb,6,none⟩ (.int .u32 (n:Nat))=w8 at*
    clear c6 d6 lb6
    have h12:=H11.out
    clear H11
    obtain⟨b0,-⟩:=h12.cl 1 0
    obtain⟨b1,-⟩:=h12.cl 1 1
    obtain⟨b2,-⟩:=h12.cl 1 2
    obtain⟨b3,-⟩:=h12.cl 1 3
    obtain⟨b4,-⟩:=h12.cl 1 4
    obtain⟨b5,-⟩:=h12.cl 1 5
    obtain⟨b6,-⟩:=h12.cl 1 6
    obtain⟨b7,-⟩:=h12.cl 1 7
    obtain⟨b8,-⟩:=h12.cl 1 8
    obtain⟨b9,-⟩:=h12.cl 1 9
    obtain⟨b10,-⟩:=h12.cl 1 10
    obtain⟨r0,s0⟩:=h12.cl 2 0
    obtain⟨r1,s1⟩:=h12.cl 2 1
    obtain⟨r2,s2⟩:=h12.cl 2 2
    obtain⟨r3,s3⟩:=h12.cl 2 3
    obtain⟨r4,s4⟩:=h12.cl 2 4
    obtain⟨r5,s5⟩:=h12.cl 2 5
    obtain⟨r6,s6⟩:=h12.cl 2 6
    obtain⟨r7,s7⟩:=h12.cl 2 7
    obtain⟨r8,s8⟩:=h12.cl 2 8
    obtain⟨r9,s9⟩:=h12.cl 2 9
    obtain⟨r10,s10⟩:=h12.cl 2 10
    have lbk:=h12.lt 1
    have lrk:=h12.lt 2
    have h9:=(((((((((((h12.set 2 0 (.int .i64 0)).set 2 1 (.int .i64 0)).set 2 2 (.int .u8 (word:Nat))).set 2 3 (.bool true)).set 2 4 (.slice none 0 0)).set 2 5 (.int .u32 0)).set 2 6 (.int .u32 (n:Nat))).set 2 7 (.int .i64 0)).set 2 8 (.slice none 0 0)).set 2 9 (.int .i64 0)).set 2 10 (.string nm))
    obtain⟨y0,-⟩:=h9.cl (v:=.int .i64 0) 2 0
    obtain⟨y1,-⟩:=h9.cl (v:=.int .i64 0) 2 1
    obtain⟨y2,-⟩:=h9.cl (v:=.int .u8 (word:Nat)) 2 2
    obtain⟨y3,-⟩:=h9.cl (v:=.bool true) 2 3
    obtain⟨y4,-⟩:=h9.cl (v:=.slice none 0 0) 2 4
    obtain⟨y5,-⟩:=h9.cl (v:=.int .u32 0) 2 5
    obtain⟨y6,-⟩:=h9.cl (v:=.int .u32 (n:Nat)) 2 6
    obtain⟨y7,-⟩:=h9.cl (v:=.int .i64 0) 2 7
    obtain⟨y8,-⟩:=h9.cl (v:=.slice none 0 0) 2 8
    obtain⟨y9,-⟩:=h9.cl (v:=.int .i64 0) 2 9
    obtain⟨y10,-⟩:=h9.cl (v:=.string nm) 2 10
    have H10:=hide (((((h9.drop 3).drop 2).drop 1).drop 0).nilR 73 1)
    clear h9 h12
    go_wp2
    refine bodyPost_ret (v:=.agg #[.int .i64 0,.int .i64 0,.int .u8 (word:Nat),.bool true,.slice none 0 0,.int .u32 0,.int .u32 (n:Nat),.int .i64 0,.slice none 0 0,.int .i64 0,.string nm]) ?_ rfl ?_
    ·simp[results,Tryz.results146,go_sem,y0,y1,y2,y3,y4,y5,y6,y7,y8,y9,y10]
    ·exact OutX.ok_mk HM.out ⟨.slice none 0 0,rfl,rfl,rfl,H10.out⟩
end
end
section
open Go.RowKit
theorem Tryz.info9':(Tryz.prog.info? 9).map (fun i=>(i.zero,i.size,i.bytes))=some (some (.string ⟨#[]⟩),1,16):=by kernel_rfl
def blkT (x:InsT) (nm:ByteArray) (m:Bk→Except Err Bk) (f:Bk):Except Err Bk:=match m {f with al:=f.al++[x],lb:=f.lb++[nm]} with
 | .error e=>.error e
 | .ok f'=>.ok {f' with lb:=f'.lb.dropLast,al:=f'.al++[insB 11]}
theorem ownsRow_shrink {w:World} {B g n cap:Nat} {E:TypeId} {xs:List Value} {z:Value} (h:w.ownsRow B E 1 (.slice (some ⟨g,0,none⟩) (n+1) cap) (n+1) (xs++[z])):w.ownsRow B E 1 (.slice (some ⟨g,0,none⟩) n cap) n xs:=by
 obtain⟨h1,h2⟩:=h
 simp at h1
 refine⟨by omega,?_⟩
 rcases h2 with⟨h3,_⟩ | ⟨g',cap',cur,h3,h4,h5,h6,h7,h8,h9⟩
 ·cases h3
 ·cases h3
  refine .inr ⟨g,cap,cur,rfl,h4,h5,by omega,h7,h8,?_⟩
  have:=congrArg (List.take n) h9
  rw[List.take_take] at this
  simp only[Nat.mul_one] at this ⊢
  rw[show min n (n+1)=n by omega] at this
  rw[this,List.take_append_of_le_length (by omega),List.take_of_length_le (by omega)]
section
variable {w0 w:World} {ab tg cap mw mb fb:Nat} {T:List Tok} {a b:Nat} {f:Bk} {X:List It}
set_option maxRecDepth 100000 in
set_option maxHeartbeats 6400000 in
theorem fnBlock_c {F:Nat} {m:Bk→Except Err Bk} {x:InsT} {nm:ByteArray} {gv:Value} {q1 q2:Nat} (hF:Enters F) (hgv:gv.oneCell'=true) (hxl:x.labels=[]) (hT:TW T) (hlb:f.lb.length<50)
  (hm:∀tb cs f' w',FF w0 ab tg cap mw mb fb T a f' (.b tb cs::X) w'→f'.m.i=f.m.i→Calls Tryz.prog F #[.pointer (some ⟨q1,0,none⟩),.pointer (some ⟨q2,0,none⟩)] w' (OutX w0 (m f') fun f2 e w2=>e=.returned (.tuple #[])∧f2.lb=f'.lb∧f'.m.i≤f2.m.i∧FF w0 ab tg cap mw mb fb T (b+1) f2 (.b tb cs::X) w2))
  (h:FF w0 ab tg cap mw mb fb T (a+1) f (.r 73 1 gv x.gives.length (kindCells x.gives)::X) w):
  Calls Tryz.prog 147 #[.pointer (some ⟨fb,0,none⟩),.agg (insV (x,gv,.slice none 0 0)++[Value.string nm]).toArray,.func (.func F) #[] #[.pointer (some ⟨q1,0,none⟩),.pointer (some ⟨q2,0,none⟩)]] w (OutX w0 (blkT x nm m f) fun f2 e w2=>e=.returned (.tuple #[])∧f2.lb=f.lb∧f.m.i≤f2.m.i∧FF w0 ab tg cap mw mb fb T b f2 X w2):=by
 have hcl:∀(args:Array Value) (w:World),(callFunc F args).run Tryz.prog w=.ok (.enter F args) w:=hF
 rw[show(insV (x,gv,.slice none 0 0)++[Value.string nm]).toArray= #[.int .i64 0,.int .i64 0,.int .u8 (x.word:Nat),.bool x.typed,gv,.int .u32 x.align,.int .u32 x.num,.int .i64 0,.slice none 0 0,.int .i64 x.value,.string nm] from rfl]
 obtain⟨i0,hi0,hz0,hz1,hz2⟩:=info_parts Tryz.info9'
 have hg1:=(h.row 0).shape
 obtain⟨pg,cg,rfl⟩:=hg1
 have h1:=h.new #[.int .i64 0,.int .i64 0,.int .u8 (x.word:Nat),.bool x.typed,.slice pg x.gives.length cg,.int .u32 x.align,.int .u32 x.num,.int .i64 0,.slice none 0 0,.int .i64 x.value,.string nm] 206
 obtain⟨xw,xt,xg,xa,xn,xl,xv⟩:=x
 simp only at hxl
 subst hxl
 have h2:FF w0 ab tg cap mw mb fb T (a+1) f (.r 73 1 (.slice pg xg.length cg) xg.length (kindCells xg)::.r 66 2 (.slice none 0 0) 0 []::.b w.heap.size [.int .i64 0,.int .i64 0,.int .u8 (xw:Nat),.bool xt,.slice pg xg.length cg,.int .u32 xa,.int .u32 xn,.int .i64 0,.slice none 0 0,.int .i64 xv,.string nm]::X) _:=(h1.nilR 66 2).perm ((List.Perm.cons _ (List.Perm.swap _ _ _)).trans (List.Perm.swap _ _ _))
 have H2:=hide h2
 have HM:=hide hm
 clear h h1 h2 hm hF
 go_enter Tryz.func147,Tryz.ntmps147
 go_wp2_with fail
 refine(fnPut_FF (x:=⟨xw,xt,xg,xa,xn,[],xv⟩) rfl rfl hT.few H2.out).mono ?_
 rintro e w1 ⟨rfl,h3⟩
 generalize w.heap.size=tb at*
 obtain⟨f1,hf1⟩:∃f1:Bk,f1={f with al:=f.al++[⟨xw,xt,xg,xa,xn,[],xv⟩]}:=⟨_,rfl⟩
 have HLB1:Hid (f1.lb=f.lb):=by show _=_;rw[hf1]
 have HFI:Hid (f1.m.i=f.m.i):=by show _=_;rw[hf1]
 rw[←hf1] at h3
 have HF1:=hide hf1
 clear H2 hf1
 obtain⟨hi,g,v,vf,tl,ha,hS⟩:=h3
 have HA:Hid (f1.m.i<T.length∧FA g a v vf f1 tl):=⟨hi,ha⟩
 obtain⟨pl,cl,hvl⟩:=Row.shape (hS.isRow 24 rfl)
 have hS':∀(V:World) (r:It),Sx w0 V ((LF ab tg cap mw mb fb T v vf f1 (.b tb [.int .i64 0,.int .i64 0,.int .u8 (xw:Nat),.bool xt,.slice pg xg.length cg,.int .u32 xa,.int .u32 xn,.int .i64 0,.slice none 0 0,.int .i64 xv,.string nm]::X++tl)).set 24 r)→(fun V:World=>V.cell? ⟨fb,2,none⟩=some (.slice pl f1.lb.length cl)∧V.cell? ⟨tb,10,none⟩=some (.string nm)) V:=fun V r hV=>⟨(hV.c 22 2 rfl rfl).1.trans (congrArg some hvl),(hV.c 26 10 rfl rfl).1⟩
 have hS0:=hS' _ (.r 9 1 vf.l f1.lb.length (f1.lb.map .string)) hS.drew
 clear hi ha
 go_wp2_with fail
 refine regK (fun V:World=>V.cell? ⟨fb,2,none⟩=some (.slice pl f1.lb.length cl)∧V.cell? ⟨tb,10,none⟩=some (.string nm)) 11 ?_
 iterate 7 refine tkk hS0 (h:=?_) (hy:=by(refine Or.inl ⟨by rfl,?_⟩;intro V hV;obtain⟨u0,u1⟩:=hV;go_simp;try with_reducible rfl))
 have h10:=hS.drew.alloc (.cells #[.string nm] 9)
 refine oneK (fun K hK=>?_)
 go_simp
 refine hK _ _ (.inr (hS' _ (.r 9 1 vf.l f1.lb.length (f1.lb.map .string)) h10)) ?_
 clear hK K
 have HOwn:=h10.row 24 rfl
 rw[hvl] at HOwn
 refine oneK (fun K hK=>?_)
 refine step_append_lies _ (by rfl) (.tmp 14) (.tmp 17) 22 (by rfl) w0.heap.size 9 i0 (.string ⟨#[]⟩) 1 16 (by kernel_rfl) hi0 hz0 hz1 hz2 rfl (by decide) (.slice pl f1.lb.length cl) f1.lb.length (f1.lb.map .string) (by rfl) HOwn ⟨w1.heap.size,0,none⟩ 1 1 [.string nm] (by rfl) rfl (cells_at (by simp) rfl) ?c2 (by omega) ?c3 ?c4 ?c5 (w1.heap.size+1) (by simp) ?_
 case c2=>intro u hu;simp at hu;subst hu;rfl
 case c3=>unfold maxLen;rw[HLB1.out];omega
 case c4=>rw[HLB1.out];omega
 case c5=>exact h10.kept.size
 intro gg cp w2 hown hgrow hat hlt2
 have h11:=h10.app 24 (v:=vf.l) hown (by rw[hvl];exact hgrow) (by rw[hvl];exact hat.imp id (fun e=>by rw[e];simp)) rfl
 have hS4:=hS' _ _ h11
 refine hK _ _ (.inr hS4) ?_
 clear hK K
 simp only[Act.put,List.setIfInBounds_toArray,List.set_cons_zero,List.set_cons_succ]
 iterate 2 refine tkk hS4 (h:=?_)
 obtain⟨c0,c1⟩:=h11.c 22 2 rfl rfl
 have mm:=h11.lt 22 rfl
 have h12:Sx w0 (w2.setCell ⟨fb,2,none⟩ (.slice (some ⟨gg,0,none⟩) (f1.lb.length+1) cp)) (LF ab tg cap mw mb fb T v {vf with l:=.slice (some ⟨gg,0,none⟩) (f1.lb.length+1) cp} {f1 with lb:=f1.lb++[nm]} (.b tb [.int .i64 0,.int .i64 0,.int .u8 (xw:Nat),.bool xt,.slice pg xg.length cg,.int .u32 xa,.int .u32 xn,.int .i64 0,.slice none 0 0,.int .i64 xv,.string nm]::X++tl)):=by
  have h12a:=h11.set 22 2 (.slice (some ⟨gg,0,none⟩) (f1.lb.length+1) cp) rfl
  simpa [LF,LA,AL,RA,ZA,FT] using h12a
 refine lastK (fun K hK=>?_)
 go_simp
 refine hK _ _ ?_
 clear hK K
 have H12:=hide h12
 generalize w2.setCell ⟨fb,2,none⟩ (.slice (some ⟨gg,0,none⟩) (f1.lb.length+1) cp)=w3 at*
 clear h12 h11 h10 hS4 hS' hS0 c0 c1 mm HOwn hown hgrow hat hlt2 hvl hS
 have HFF:Hid (FF w0 ab tg cap mw mb fb T a {f1 with lb:=f1.lb++[nm]} (.b tb [.int .i64 0,.int .i64 0,.int .u8 (xw:Nat),.bool xt,.slice pg xg.length cg,.int .u32 xa,.int .u32 xn,.int .i64 0,.slice none 0 0,.int .i64 xv,.string nm]::X) w3):=⟨HA.out.1,g,v,{vf with l:=.slice (some ⟨gg,0,none⟩) (f1.lb.length+1) cp},tl,⟨HA.out.2.ag,HA.out.2.ty20,HA.out.2.al,HA.out.2.ins,HA.out.2.gi,HA.out.2.nm,HA.out.2.nmx,by rw[List.length_append,HLB1.out];simp;omega⟩,H12.out⟩
 clear H12 HA
 go_wp2_with fail
 refine(HM.out tb _ _ _ HFF.out HFI.out).mono ?_
 intro e w4 h5
 have HB:Hid (blkT ⟨xw,xt,xg,xa,xn,[],xv⟩ nm m f=(match m {f1 with lb:=f1.lb++[nm]} with
  | .error e=>.error e
  | .ok f'=>.ok {f' with lb:=f'.lb.dropLast,al:=f'.al++[insB 11]})):=by show _=_;rw[HF1.out];rfl
 cases hx:m {f1 with lb:=f1.lb++[nm]} with
 | error q=>
  rw[hx] at h5
  obtain⟨rfl,hk⟩:=h5
  exact⟨rfl,OutX.err_mk (by rw[HB.out,hx]) ⟨rfl,hk⟩⟩
 | ok f2=>
 have HB2:=hide (HB.out.trans (by rw[hx]))
 rw[hx] at h5
 obtain⟨rfl,hl2,hi2,h5⟩:=h5
 have HI2:Hid (f.m.i≤f2.m.i):=by show f.m.i≤f2.m.i;rw[←HFI.out];exact hi2
 clear hi2
 simp only at hl2 HB2
 rw[HLB1.out] at hl2
 have HL2:=hide hl2
 clear hx HB HFF HM hl2
 obtain⟨hi,g,v,vf,tl,ha,hS⟩:=h5
 have hll:f2.lb.length=f.lb.length+1:=by rw[HL2.out];simp
 have HA:Hid (f2.m.i<T.length∧FA g (b+1) v vf f2 tl):=⟨hi,ha⟩
 obtain⟨gl,cl,hvl,-,hgl,hcap,-⟩:=Row.cells (hS.isRow 24 rfl) (by omega)
 rw[hll] at hvl hcap
 obtain⟨a2,b2⟩:=hS.c 22 2 (v:=.slice (some ⟨gl,0,none⟩) (f.lb.length+1) cl) rfl (congrArg some hvl)
 have la:=hS.lt 22 rfl
 have HS:=hide hS
 clear hi ha hS
 go_wp2_with fail
 have hS0:(fun V:World=>V.cell? ⟨fb,2,none⟩=some (.slice (some ⟨gl,0,none⟩) (f.lb.length+1) cl)) w4.drew:=a2
 have hw1:IntKind.i64.wrap (f.lb.length:Int)=(f.lb.length:Int):=IntWalk.i64_in _ ⟨by omega,by omega⟩
 have hc1:(f.lb.length:Int)≤(cl:Int):=by omega
 refine regK (fun V:World=>V.cell? ⟨fb,2,none⟩=some (.slice (some ⟨gl,0,none⟩) (f.lb.length+1) cl)) 14 ?_
 iterate 14 refine tkk hS0 (h:=?_) (hy:=by(refine Or.inl ⟨by rfl,?_⟩;intro V hV;go_simp;try with_reducible rfl))
 have h20:=HS.out.drew
 have hrow:w4.drew.ownsRow w0.heap.size 9 1 (.slice (some ⟨gl,0,none⟩) (f.lb.length+1) cl) (f.lb.length+1) (f.lb.map .string++[Value.string nm]):=by
  have h21:=h20.row 24 rfl
  rw[hvl,hll,HL2.out,List.map_append] at h21
  exact h21
 have h22:=h20.upd (S:=fun _=>False) (k:=24) (p2:=.r 9 1 (.slice (some ⟨gl,0,none⟩) f.lb.length cl) f.lb.length (f.lb.map .string)) rfl (Kept.refl _ _) (fun _ c=>c.elim) (ownsRow_shrink hrow) (fun g e=>.inl (by rw[←e];show Value.ownBlock vf.l=_;rw[hvl];rfl))
 have h23:=h22.set 22 2 (.slice (some ⟨gl,0,none⟩) f.lb.length cl) rfl
 have h24:Sx w0 _ (LF ab tg cap mw mb fb T v {vf with l:=.slice (some ⟨gl,0,none⟩) f.lb.length cl} {f2 with lb:=f.lb} (.b tb [.int .i64 0,.int .i64 0,.int .u8 (xw:Nat),.bool xt,.slice pg xg.length cg,.int .u32 xa,.int .u32 xn,.int .i64 0,.slice none 0 0,.int .i64 xv,.string nm]::X++tl)):=h23
 have H24:=hide h24
 have HLB:=hide hlb
 clear h20 hrow h22 h23 h24 HS
 refine lastK (fun K hK=>?_)
 go_simp
 refine hK _ _ ?_
 clear hK K
 have HFF:Hid (FF w0 ab tg cap mw mb fb T (b+1) {f2 with lb:=f.lb} (.b tb [.int .i64 0,.int .i64 0,.int .u8 (xw:Nat),.bool xt,.slice pg xg.length cg,.int .u32 xa,.int .u32 xn,.int .i64 0,.slice none 0 0,.int .i64 xv,.string nm]::X) _):=⟨HA.out.1,g,v,{vf with l:=.slice (some ⟨gl,0,none⟩) f.lb.length cl},tl,⟨HA.out.2.ag,HA.out.2.ty20,HA.out.2.al,HA.out.2.ins,HA.out.2.gi,HA.out.2.nm,HA.out.2.nmx,by show f.lb.length≤50;have:=HLB.out;omega⟩,H24.out⟩
 clear H24 HA
 have H25:=hide ((HFF.out.pop.nilR 66 2).nilR 73 1)
 clear HFF a2 b2 la hS0 hvl
 go_wp2_with fail
 refine(fnPut_FF (x:=insB 11) rfl rfl hT.few H25.out).mono ?_
 rintro e w6 ⟨rfl,h26⟩
 have H26:=hide h26
 have HR:Hid (blkT ⟨xw,xt,xg,xa,xn,[],xv⟩ nm m f=.ok {f2 with lb:=f.lb,al:=f2.al++[insB 11]}):=by
  show _=_
  rw[HB2.out,HL2.out]
  simp
 clear h26 H25
 go_wp2
 go_end0
 exact OutX.ok_mk HR.out ⟨rfl,rfl,HI2.out,H26.out⟩
set_option maxRecDepth 100000 in
set_option maxHeartbeats 6400000 in
theorem fnBlock_m {F:Nat} {m:Bk→Except Err Bk} {x:InsT} {nm:ByteArray} {gv:Value} (hF:Enters F) (hgv:gv.oneCell'=true) (hxl:x.labels=[]) (hT:TW T) (hlb:f.lb.length<50)
  (hm:∀tb cs f' w',FF w0 ab tg cap mw mb fb T a f' (.b tb cs::X) w'→f'.m.i=f.m.i→Calls Tryz.prog F #[.pointer (some ⟨fb,0,none⟩)] w' (OutX w0 (m f') fun f2 e w2=>e=.returned (.tuple #[])∧f2.lb=f'.lb∧f'.m.i≤f2.m.i∧FF w0 ab tg cap mw mb fb T (b+1) f2 (.b tb cs::X) w2))
  (h:FF w0 ab tg cap mw mb fb T (a+1) f (.r 73 1 gv x.gives.length (kindCells x.gives)::X) w):
  Calls Tryz.prog 147 #[.pointer (some ⟨fb,0,none⟩),.agg (insV (x,gv,.slice none 0 0)++[Value.string nm]).toArray,.func (.func F) #[.pointer (some ⟨fb,0,none⟩)] #[]] w (OutX w0 (blkT x nm m f) fun f2 e w2=>e=.returned (.tuple #[])∧f2.lb=f.lb∧f.m.i≤f2.m.i∧FF w0 ab tg cap mw mb fb T b f2 X w2):=by
 have hcl:∀(args:Array Value) (w:World),(callFunc F args).run Tryz.prog w=.ok (.enter F args) w:=hF
 rw[show(insV (x,gv,.slice none 0 0)++[Value.string nm]).toArray= #[.int .i64 0,.int .i64 0,.int .u8 (x.word:Nat),.bool x.typed,gv,.int .u32 x.align,.int .u32 x.num,.int .i64 0,.slice none 0 0,.int .i64 x.value,.string nm] from rfl]
 obtain⟨i0,hi0,hz0,hz1,hz2⟩:=info_parts Tryz.info9'
 have hg1:=(h.row 0).shape
 obtain⟨pg,cg,rfl⟩:=hg1
 have h1:=h.new #[.int .i64 0,.int .i64 0,.int .u8 (x.word:Nat),.bool x.typed,.slice pg x.gives.length cg,.int .u32 x.align,.int .u32 x.num,.int .i64 0,.slice none 0 0,.int .i64 x.value,.string nm] 206
 obtain⟨xw,xt,xg,xa,xn,xl,xv⟩:=x
 simp only at hxl
 subst hxl
 have h2:FF w0 ab tg cap mw mb fb T (a+1) f (.r 73 1 (.slice pg xg.length cg) xg.length (kindCells xg)::.r 66 2 (.slice none 0 0) 0 []::.b w.heap.size [.int .i64 0,.int .i64 0,.int .u8 (xw:Nat),.bool xt,.slice pg xg.length cg,.int .u32 xa,.int .u32 xn,.int .i64 0,.slice none 0 0,.int .i64 xv,.string nm]::X) _:=(h1.nilR 66 2).perm ((List.Perm.cons _ (List.Perm.swap _ _ _)).trans (List.Perm.swap _ _ _))
 have H2:=hide h2
 have HM:=hide hm
 clear h h1 h2 hm hF
 go_enter Tryz.func147,Tryz.ntmps147
 go_wp2_with fail
 refine(fnPut_FF (x:=⟨xw,xt,xg,xa,xn,[],xv⟩) rfl rfl hT.few H2.out).mono ?_
 rintro e w1 ⟨rfl,h3⟩
 generalize w.heap.size=tb at*
 obtain⟨f1,hf1⟩:∃f1:Bk,f1={f with al:=f.al++[⟨xw,xt,xg,xa,xn,[],xv⟩]}:=⟨_,rfl⟩
 have HLB1:Hid (f1.lb=f.lb):=by show _=_;rw[hf1]
 have HFI:Hid (f1.m.i=f.m.i):=by show _=_;rw[hf1]
 rw[←hf1] at h3
 have HF1:=hide hf1
 clear H2 hf1
 obtain⟨hi,g,v,vf,tl,ha,hS⟩:=h3
 have HA:Hid (f1.m.i<T.length∧FA g a v vf f1 tl):=⟨hi,ha⟩
 obtain⟨pl,cl,hvl⟩:=Row.shape (hS.isRow 24 rfl)
 have hS':∀(V:World) (r:It),Sx w0 V ((LF ab tg cap mw mb fb T v vf f1 (.b tb [.int .i64 0,.int .i64 0,.int .u8 (xw:Nat),.bool xt,.slice pg xg.length cg,.int .u32 xa,.int .u32 xn,.int .i64 0,.slice none 0 0,.int .i64 xv,.string nm]::X++tl)).set 24 r)→(fun V:World=>V.cell? ⟨fb,2,none⟩=some (.slice pl f1.lb.length cl)∧V.cell? ⟨tb,10,none⟩=some (.string nm)) V:=fun V r hV=>⟨(hV.c 22 2 rfl rfl).1.trans (congrArg some hvl),(hV.c 26 10 rfl rfl).1⟩
 have hS0:=hS' _ (.r 9 1 vf.l f1.lb.length (f1.lb.map .string)) hS.drew
 clear hi ha
 go_wp2_with fail
 refine regK (fun V:World=>V.cell? ⟨fb,2,none⟩=some (.slice pl f1.lb.length cl)∧V.cell? ⟨tb,10,none⟩=some (.string nm)) 11 ?_
 iterate 7 refine tkk hS0 (h:=?_) (hy:=by(refine Or.inl ⟨by rfl,?_⟩;intro V hV;obtain⟨u0,u1⟩:=hV;go_simp;try with_reducible rfl))
 have h10:=hS.drew.alloc (.cells #[.string nm] 9)
 refine oneK (fun K hK=>?_)
 go_simp
 refine hK _ _ (.inr (hS' _ (.r 9 1 vf.l f1.lb.length (f1.lb.map .string)) h10)) ?_
 clear hK K
 have HOwn:=h10.row 24 rfl
 rw[hvl] at HOwn
 refine oneK (fun K hK=>?_)
 refine step_append_lies _ (by rfl) (.tmp 14) (.tmp 17) 22 (by rfl) w0.heap.size 9 i0 (.string ⟨#[]⟩) 1 16 (by kernel_rfl) hi0 hz0 hz1 hz2 rfl (by decide) (.slice pl f1.lb.length cl) f1.lb.length (f1.lb.map .string) (by rfl) HOwn ⟨w1.heap.size,0,none⟩ 1 1 [.string nm] (by rfl) rfl (cells_at (by simp) rfl) ?c2 (by omega) ?c3 ?c4 ?c5 (w1.heap.size+1) (by simp) ?_
 case c2=>intro u hu;simp at hu;subst hu;rfl
 case c3=>unfold maxLen;rw[HLB1.out];omega
 case c4=>rw[HLB1.out];omega
 case c5=>exact h10.kept.size
 intro gg cp w2 hown hgrow hat hlt2
 have h11:=h10.app 24 (v:=vf.l) hown (by rw[hvl];exact hgrow) (by rw[hvl];exact hat.imp id (fun e=>by rw[e];simp)) rfl
 have hS4:=hS' _ _ h11
 refine hK _ _ (.inr hS4) ?_
 clear hK K
 simp only[Act.put,List.setIfInBounds_toArray,List.set_cons_zero,List.set_cons_succ]
 iterate 2 refine tkk hS4 (h:=?_)
 obtain⟨c0,c1⟩:=h11.c 22 2 rfl rfl
 have mm:=h11.lt 22 rfl
 have h12:Sx w0 (w2.setCell ⟨fb,2,none⟩ (.slice (some ⟨gg,0,none⟩) (f1.lb.length+1) cp)) (LF ab tg cap mw mb fb T v {vf with l:=.slice (some ⟨gg,0,none⟩) (f1.lb.length+1) cp} {f1 with lb:=f1.lb++[nm]} (.b tb [.int .i64 0,.int .i64 0,.int .u8 (xw:Nat),.bool xt,.slice pg xg.length cg,.int .u32 xa,.int .u32 xn,.int .i64 0,.slice none 0 0,.int .i64 xv,.string nm]::X++tl)):=by
  have h12a:=h11.set 22 2 (.slice (some ⟨gg,0,none⟩) (f1.lb.length+1) cp) rfl
  simpa [LF,LA,AL,RA,ZA,FT] using h12a
 refine lastK (fun K hK=>?_)
 go_simp
 refine hK _ _ ?_
 clear hK K
 have H12:=hide h12
 generalize w2.setCell ⟨fb,2,none⟩ (.slice (some ⟨gg,0,none⟩) (f1.lb.length+1) cp)=w3 at*
 clear h12 h11 h10 hS4 hS' hS0 c0 c1 mm HOwn hown hgrow hat hlt2 hvl hS
 have HFF:Hid (FF w0 ab tg cap mw mb fb T a {f1 with lb:=f1.lb++[nm]} (.b tb [.int .i64 0,.int .i64 0,.int .u8 (xw:Nat),.bool xt,.slice pg xg.length cg,.int .u32 xa,.int .u32 xn,.int .i64 0,.slice none 0 0,.int .i64 xv,.string nm]::X) w3):=⟨HA.out.1,g,v,{vf with l:=.slice (some ⟨gg,0,none⟩) (f1.lb.length+1) cp},tl,⟨HA.out.2.ag,HA.out.2.ty20,HA.out.2.al,HA.out.2.ins,HA.out.2.gi,HA.out.2.nm,HA.out.2.nmx,by rw[List.length_append,HLB1.out];simp;omega⟩,H12.out⟩
 clear H12 HA
 go_wp2_with fail
 refine(HM.out tb _ _ _ HFF.out HFI.out).mono ?_
 intro e w4 h5
 have HB:Hid (blkT ⟨xw,xt,xg,xa,xn,[],xv⟩ nm m f=(match m {f1 with lb:=f1.lb++[nm]} with
  | .error e=>.error e
  | .ok f'=>.ok {f' with lb:=f'.lb.dropLast,al:=f'.al++[insB 11]})):=by show _=_;rw[HF1.out];rfl
 cases hx:m {f1 with lb:=f1.lb++[nm]} with
 | error q=>
  rw[hx] at h5
  obtain⟨rfl,hk⟩:=h5
  exact⟨rfl,OutX.err_mk (by rw[HB.out,hx]) ⟨rfl,hk⟩⟩
 | ok f2=>
 have HB2:=hide (HB.out.trans (by rw[hx]))
 rw[hx] at h5
 obtain⟨rfl,hl2,hi2,h5⟩:=h5
 have HI2:Hid (f.m.i≤f2.m.i):=by show f.m.i≤f2.m.i;rw[←HFI.out];exact hi2
 clear hi2
 simp only at hl2 HB2
 rw[HLB1.out] at hl2
 have HL2:=hide hl2
 clear hx HB HFF HM hl2
 obtain⟨hi,g,v,vf,tl,ha,hS⟩:=h5
 have hll:f2.lb.length=f.lb.length+1:=by rw[HL2.out];simp
 have HA:Hid (f2.m.i<T.length∧FA g (b+1) v vf f2 tl):=⟨hi,ha⟩
 obtain⟨gl,cl,hvl,-,hgl,hcap,-⟩:=Row.cells (hS.isRow 24 rfl) (by omega)
 rw[hll] at hvl hcap
 obtain⟨a2,b2⟩:=hS.c 22 2 (v:=.slice (some ⟨gl,0,none⟩) (f.lb.length+1) cl) rfl (congrArg some hvl)
 have la:=hS.lt 22 rfl
 have HS:=hide hS
 clear hi ha hS
 go_wp2_with fail
 have hS0:(fun V:World=>V.cell? ⟨fb,2,none⟩=some (.slice (some ⟨gl,0,none⟩) (f.lb.length+1) cl)) w4.drew:=a2
 have hw1:IntKind.i64.wrap (f.lb.length:Int)=(f.lb.length:Int):=IntWalk.i64_in _ ⟨by omega,by omega⟩
 have hc1:(f.lb.length:Int)≤(cl:Int):=by omega
 refine regK (fun V:World=>V.cell? ⟨fb,2,none⟩=some (.slice (some ⟨gl,0,none⟩) (f.lb.length+1) cl)) 14 ?_
 iterate 14 refine tkk hS0 (h:=?_) (hy:=by(refine Or.inl ⟨by rfl,?_⟩;intro V hV;go_simp;try with_reducible rfl))
 have h20:=HS.out.drew
 have hrow:w4.drew.ownsRow w0.heap.size 9 1 (.slice (some ⟨gl,0,none⟩) (f.lb.length+1) cl) (f.lb.length+1) (f.lb.map .string++[Value.string nm]):=by
  have h21:=h20.row 24 rfl
  rw[hvl,hll,HL2.out,List.map_append] at h21
  exact h21
 have h22:=h20.upd (S:=fun _=>False) (k:=24) (p2:=.r 9 1 (.slice (some ⟨gl,0,none⟩) f.lb.length cl) f.lb.length (f.lb.map .string)) rfl (Kept.refl _ _) (fun _ c=>c.elim) (ownsRow_shrink hrow) (fun g e=>.inl (by rw[←e];show Value.ownBlock vf.l=_;rw[hvl];rfl))
 have h23:=h22.set 22 2 (.slice (some ⟨gl,0,none⟩) f.lb.length cl) rfl
 have h24:Sx w0 _ (LF ab tg cap mw mb fb T v {vf with l:=.slice (some ⟨gl,0,none⟩) f.lb.length cl} {f2 with lb:=f.lb} (.b tb [.int .i64 0,.int .i64 0,.int .u8 (xw:Nat),.bool xt,.slice pg xg.length cg,.int .u32 xa,.int .u32 xn,.int .i64 0,.slice none 0 0,.int .i64 xv,.string nm]::X++tl)):=h23
 have H24:=hide h24
 have HLB:=hide hlb
 clear h20 hrow h22 h23 h24 HS
 refine lastK (fun K hK=>?_)
 go_simp
 refine hK _ _ ?_
 clear hK K
 have HFF:Hid (FF w0 ab tg cap mw mb fb T (b+1) {f2 with lb:=f.lb} (.b tb [.int .i64 0,.int .i64 0,.int .u8 (xw:Nat),.bool xt,.slice pg xg.length cg,.int .u32 xa,.int .u32 xn,.int .i64 0,.slice none 0 0,.int .i64 xv,.string nm]::X) _):=⟨HA.out.1,g,v,{vf with l:=.slice (some ⟨gl,0,none⟩) f.lb.length cl},tl,⟨HA.out.2.ag,HA.out.2.ty20,HA.out.2.al,HA.out.2.ins,HA.out.2.gi,HA.out.2.nm,HA.out.2.nmx,by show f.lb.length≤50;have:=HLB.out;omega⟩,H24.out⟩
 clear H24 HA
 have H25:=hide ((HFF.out.pop.nilR 66 2).nilR 73 1)
 clear HFF a2 b2 la hS0 hvl
 go_wp2_with fail
 refine(fnPut_FF (x:=insB 11) rfl rfl hT.few H25.out).mono ?_
 rintro e w6 ⟨rfl,h26⟩
 have H26:=hide h26
 have HR:Hid (blkT ⟨xw,xt,xg,xa,xn,[],xv⟩ nm m f=.ok {f2 with lb:=f.lb,al:=f2.al++[insB 11]}):=by
  show _=_
  rw[HB2.out,HL2.out]
  simp
 clear h26 H25
 go_wp2
 go_end0
 exact OutX.ok_mk HR.out ⟨rfl,rfl,HI2.out,H26.out⟩
end
end
section
open Go.RowKit
abbrev elseB:ByteArray:=⟨#[101,108,115,101]⟩
abbrev endB:ByteArray:=⟨#[101,110,100]⟩
abbrev thenB:ByteArray:=⟨#[116,104,101,110]⟩
def setI (f:Bk) (j:Nat):Bk:={f with m:={f.m with i:=j}}
def putF (f:Bk) (x:InsT):Bk:={f with al:=f.al++[x]}
def bnd {α β:Type} (m:Except Err α) (k:α→Except Err β):Except Err β:=match m with
 | .error e=>.error e
 | .ok x=>k x
theorem bnd_ok {α β:Type} {m:Except Err α} {k:α→Except Err β} {x:α} (h:m=.ok x):bnd m k=k x:=by rw[h];rfl
theorem bnd_err {α β:Type} {m:Except Err α} {k:α→Except Err β} {x:Err} (h:m=.error x):bnd m k=.error x:=by rw[h];rfl
def closeF (T:List Tok) (f:Bk):Except Err Bk:=bnd (takeT T 3 f.m.i) fun x=>.ok (setI f x.2)
def wordF (T:List Tok) (q:ByteArray) (f:Bk):Except Err Bk:=bnd (takeW T q f.m.i) fun x=>.ok (setI f x.2)
def openF (T:List Tok) (q:ByteArray) (f:Bk):Except Err Bk:=bnd (takeO T q f.m.i) fun x=>.ok (setI f x.2)
def RT (T:List Tok):Nat→Nat→Nat→Bk→Except Err Bk
 | 0,_,_,_=>.error (0,0)
 | k+1,m,w,f=>match T[f.m.i]? with
  | none=>.error (0,0)
  | some t=>
   if m=0 then(if t.1=2 then bnd (RT T k 1 0 f) (RT T k 0 0) else if t.1=5∧isW t elseB=false∧isW t endB=false then bnd (RT T k 2 0 f) (RT T k 0 0) else .ok f)
   else if m=1 then bnd (takeT T 2 f.m.i) fun x=>bnd (wordT T x.2) fun y=>
    if y.1=2∨y.1=3 then bnd (opnT T x.1.2.1 (setI f y.2) y.1) fun z=>bnd (blkT z.1.1 z.1.2 (RT T k 0 0) z.2) (closeF T)
    else if y.1=4 then bnd (opnT T x.1.2.1 (setI f y.2) y.1) fun z=>bnd (RT T k 5 0 z.2) fun f3=>bnd (blkT z.1.1 z.1.2 (RT T k 6 0) f3) (closeF T)
    else bnd (behT T (setI f y.2) y.1) fun z=>bnd (RT T k 4 0 z.2) fun f3=>closeF T (putF f3 z.1)
   else if m=2 then bnd (wordT T f.m.i) fun y=>
    if y.1=2∨y.1=3∨y.1=4 then bnd (opnT T t.2.1 (setI f y.2) y.1) fun z=>blkT z.1.1 z.1.2 (RT T k 3 y.1) z.2
    else bnd (behT T (setI f y.2) y.1) fun z=>.ok (putF z.2 z.1)
   else if m=3 then bnd (RT T k 0 0 f) fun f2=>
    if w=4∧isW (T[f2.m.i]?.getD (0,0,⟨#[]⟩)) elseB=true then bnd (wordF T elseB f2) fun f3=>bnd (RT T k 0 0 (putF f3 (insB 5))) (wordF T endB)
    else wordF T endB f2
   else if m=4 then(if t.1=2 then bnd (RT T k 1 0 f) (RT T k 4 0) else .ok f)
   else if m=5 then(if t.1=2∧opensT T thenB f.m.i=false then bnd (RT T k 1 0 f) (RT T k 5 0) else .ok f)
   else bnd (openF T thenB f) fun f1=>bnd (RT T k 0 0 f1) fun f2=>bnd (closeF T f2) fun f3=>
    if(T[f3.m.i]?.getD (0,0,⟨#[]⟩)).1=2 then bnd (openF T elseB f3) fun f4=>bnd (RT T k 0 0 (putF f4 (insB 5))) (closeF T)
    else .ok f3
section
variable {w0 w:World} {ab tg cap mw mb fb:Nat} {T:List Tok} {c:Nat} {f:Bk} {X:List It}
theorem tIs_F {t:Tok} (h:FF w0 ab tg cap mw mb fb T c f X w) (ht:T[f.m.i]?=some t) (q:ByteArray):Calls Tryz.prog 135 #[.pointer (some ⟨ab,0,none⟩),.string q] w (fun e w'=>e=.returned (.bool (isW t q))∧FF w0 ab tg cap mw mb fb T c f X w'):=by
 obtain⟨hi,g,v,vf,tl,ha,hS⟩:=h
 refine(tIs_any hS ht q).mono ?_
 rintro e w' ⟨rfl,h1⟩
 exact⟨rfl,hi,g,v,vf,tl,ha,h1⟩
theorem tOpens_F (h:FF w0 ab tg cap mw mb fb T c f X w) (hT:TW T) (q:ByteArray):Calls Tryz.prog 107 #[.pointer (some ⟨ab,0,none⟩),.string q] w (fun e w'=>e=.returned (.bool (opensT T q f.m.i))∧FF w0 ab tg cap mw mb fb T c f X w'):=by
 obtain⟨hi,g,v,vf,tl,ha,hS⟩:=h
 obtain⟨t,ht⟩:∃t,T[f.m.i]?=some t:=⟨_,List.getElem?_eq_getElem hi⟩
 obtain⟨t2,ht2⟩:∃t,T[nx T f.m.i]?=some t:=⟨_,List.getElem?_eq_getElem (nx_ok hi)⟩
 refine(tOpens_any hS ht ht2 hT.len q).mono ?_
 rintro e w' ⟨rfl,h1⟩
 refine⟨?_,hi,g,v,vf,tl,ha,h1⟩
 unfold opensT
 rw[ht,ht2]
def OnF (w0:World) (ab tg cap mw mb fb:Nat) (T:List Tok) (c d:Nat) (f:Bk) (X:List It) (j:Nat) (w':World):Prop:=f.m.i+d≤j∧FF w0 ab tg cap mw mb fb T (c+d) (setI f j) X w'
theorem tTakeF {q:Nat} (hq:q≠1) (h:FF w0 ab tg cap mw mb fb T c f X w) (hT:TW T):Calls Tryz.prog 99 #[.pointer (some ⟨ab,0,none⟩),.int .u8 (q:Nat)] w (OutX w0 (takeT T q f.m.i) fun x e w'=>e=.returned (tokV x.1)∧OnF w0 ab tg cap mw mb fb T c 1 f X x.2 w'):=by
 refine(tTake_F h hT q hq).mono ?_
 intro e w' h1
 cases hx:takeT T q f.m.i with
 | error e=>rw[hx] at h1;exact h1
 | ok x=>
  rw[hx] at h1
  obtain⟨rfl,h2,h3⟩:=h1
  exact⟨rfl,by omega,h3⟩
theorem takeW_nx {q:ByteArray} {i:Nat} {x:Tok×Nat} (hT:TW T) (h:takeW T q i=.ok x):x.2=i+1∧i+1<T.length:=by
 unfold takeW at h
 split at h
 ·rename_i t ht
  split at h
  ·rename_i hw
   cases h
   have h5:t.1=5:=by unfold isW at hw;simp at hw;exact hw.1
   exact⟨hT.nx ht (by omega),hT.last i t ht (by omega)⟩
  ·cases h
 ·cases h
theorem tTakeWordF (q:ByteArray) (h:FF w0 ab tg cap mw mb fb T c f X w) (hT:TW T):Calls Tryz.prog 106 #[.pointer (some ⟨ab,0,none⟩),.string q] w (OutX w0 (takeW T q f.m.i) fun x e w'=>e=.returned (tokV x.1)∧OnF w0 ab tg cap mw mb fb T c 1 f X x.2 w'):=by
 obtain⟨hi,g,v,vf,tl,ha,hS⟩:=h
 obtain⟨t,ht⟩:∃t,T[f.m.i]?=some t:=⟨_,List.getElem?_eq_getElem hi⟩
 refine(tTakeWord_all hS ht hT.len q).mono ?_
 intro e w' h1
 cases hx:takeW T q f.m.i with
 | error e=>rw[hx] at h1;exact h1
 | ok x=>
  rw[hx] at h1
  obtain⟨rfl,h1⟩:=h1
  obtain⟨g1,g2⟩:=takeW_nx hT hx
  exact⟨rfl,by omega,by show x.2<T.length;omega,g,v,vf,tl,ha.step (by omega),h1⟩
theorem takeO_le {q:ByteArray} {i:Nat} {x:Tok×Nat} (hT:TW T) (h:takeO T q i=.ok x):x.2=i+2∧i+2<T.length:=by
 unfold takeO at h
 split at h
 ·rename_i t j hx
  obtain⟨g1,g2,g3⟩:=takeT_nx hx
  have g4:=hT.nx g1 (by omega)
  obtain⟨g5,g6⟩:=takeW_nx hT h
  exact⟨by omega,by omega⟩
 ·cases h
theorem tTakeOpenF (q:ByteArray) (h:FF w0 ab tg cap mw mb fb T c f X w) (hT:TW T):Calls Tryz.prog 86 #[.pointer (some ⟨ab,0,none⟩),.string q] w (OutX w0 (takeO T q f.m.i) fun x e w'=>e=.returned (tokV x.1)∧OnF w0 ab tg cap mw mb fb T c 2 f X x.2 w'):=by
 obtain⟨hi,g,v,vf,tl,ha,hS⟩:=h
 obtain⟨t,ht⟩:∃t,T[f.m.i]?=some t:=⟨_,List.getElem?_eq_getElem hi⟩
 obtain⟨t2,ht2⟩:∃t,T[nx T f.m.i]?=some t:=⟨_,List.getElem?_eq_getElem (nx_ok hi)⟩
 refine(tTakeOpen_all hS ht ht2 hT.len q).mono ?_
 intro e w' h1
 cases hx:takeO T q f.m.i with
 | error e=>rw[hx] at h1;exact h1
 | ok x=>
  rw[hx] at h1
  obtain⟨rfl,h1⟩:=h1
  obtain⟨g1,g2⟩:=takeO_le hT hx
  exact⟨rfl,by omega,by show x.2<T.length;omega,g,v,vf,tl,ha.step (by omega),h1⟩
theorem wordT_nx {i:Nat} {x:Nat×Nat} (hT:TW T) (h:wordT T i=.ok x):x.2=i+1∧i+1<T.length:=by
 unfold wordT at h
 split at h
 ·cases h
 ·rename_i t j hx
  obtain⟨g1,g2,g3⟩:=takeT_nx hx
  split at h
  ·cases h
   refine⟨?_,hT.last i t g1 (by omega)⟩
   show j=i+1
   rw[g3]
   exact hT.nx g1 (by omega)
  ·cases h
theorem fnWordF (h:FF w0 ab tg cap mw mb fb T c f X w) (hT:TW T):Calls Tryz.prog 145 #[.pointer (some ⟨fb,0,none⟩)] w (OutX w0 (wordT T f.m.i) fun x e w'=>e=.returned (.int .u8 (x.1:Nat))∧OnF w0 ab tg cap mw mb fb T c 1 f X x.2 w'):=by
 obtain⟨hi,g,v,vf,tl,ha,hS⟩:=h
 refine(fnWord_all (kf:=20) (km:=0) hS hT.toTT hi rfl rfl rfl rfl).mono ?_
 intro e w' h1
 cases hx:wordT T f.m.i with
 | error e=>rw[hx] at h1;exact h1
 | ok x=>
  rw[hx] at h1
  obtain⟨rfl,h1⟩:=h1
  obtain⟨g1,g2⟩:=wordT_nx hT hx
  exact⟨rfl,by omega,by show x.2<T.length;omega,g,v,vf,tl,ha.step (by omega),h1⟩
end
end
section
open Go.RowKit
set_option linter.unusedVariables false
section
variable {w0 w:World} {ab tg cap mw mb fb:Nat} {T:List Tok}
def RV (w0:World) (ab tg cap mw mb fb:Nat) (T:List Tok) (c d:Nat) (f:Bk) (X:List It) (f':Bk) (e:Ending) (w':World):Prop:=e=.returned (.tuple #[])∧f'.lb=f.lb∧f.m.i+d≤f'.m.i∧FF w0 ab tg cap mw mb fb T c f' X w'
def CR (w0:World) (ab tg cap mw mb fb:Nat) (T:List Tok) (F m d n k:Nat):Prop:=∀c X f w,FF w0 ab tg cap mw mb fb T c f X w→3*(T.length - f.m.i)+n≤k→Calls Tryz.prog F #[.pointer (some ⟨fb,0,none⟩)] w (OutX w0 (RT T k m 0 f) (RV w0 ab tg cap mw mb fb T c d f X))
def C1 (w0:World) (ab tg cap mw mb fb:Nat) (T:List Tok) (k:Nat):Prop:=CR w0 ab tg cap mw mb fb T 134 1 1 1 k∧CR w0 ab tg cap mw mb fb T 136 2 1 1 k
set_option maxRecDepth 100000 in
set_option maxHeartbeats 6400000 in
theorem fnInstructions_all (hT:TW T) (n:Nat) (ih:∀k,k<n→C1 w0 ab tg cap mw mb fb T k):CR w0 ab tg cap mw mb fb T 115 0 0 2 n:=by
 intro c X f w h hn
 have hnot:∀(x:Bool) (w:World),(Op.unary .not (.bool x)).run Tryz.prog w=.ok (.bool (!x)) w:=fun _ _=>rfl
 have hff:=tokF
 have te:∀u:Tok,tokV u=.agg #[.int .u8 (u.1:Nat),.int .i64 (u.2.1:Nat),.string u.2.2]:=fun _=>rfl
 have H:=hide h
 have HN:=hide hn
 have HIH:=hide ih
 clear h hn ih
 go_enter Tryz.func115,Tryz.ntmps115
 go_wp2_with fail
 go_loopg [] n (fun k wr=>∃f',k≤n∧3*(T.length - f'.m.i)+2≤k∧f'.lb=f.lb∧f.m.i≤f'.m.i∧RT T n 0 0 f=RT T k 0 0 f'∧FF w0 ab tg cap mw mb fb T c f' X wr)
 case atStart=>exact⟨f,Nat.le_refl _,HN.out,rfl,Nat.le_refl _,rfl,H.out⟩
 case round=>
  obtain⟨f',hkn,hk,hlb,hii,hL,hF⟩:=hrel
  clear H
  obtain⟨k',rfl⟩:∃k',gk=k'+1:=⟨gk - 1,by omega⟩
  obtain⟨t,ht⟩:∃t,T[f'.m.i]?=some t:=⟨_,List.getElem?_eq_getElem hF.1⟩
  have HT:=hide ht
  have HL:Hid (RT T n 0 0 f=(if t.1=2 then bnd (RT T k' 1 0 f') (RT T k' 0 0) else if t.1=5∧isW t elseB=false∧isW t endB=false then bnd (RT T k' 2 0 f') (RT T k' 0 0) else .ok f')):=by
   show _=_
   rw[hL]
   conv=>lhs;unfold RT
   rw[ht]
   rfl
  have HB:Hid ((k'<n∧3*(T.length - f'.m.i)+1≤k')∧f'.lb=f.lb∧f.m.i≤f'.m.i∧f'.m.i<T.length):=⟨by omega,hlb,hii,hF.1⟩
  obtain⟨a0,l0⟩:=hF.fb0
  have HF:=hide hF
  clear hkn hk hlb hii hL hF ht
  go_wp2_with fail
  refine(tPeek_F HF.out HT.out).mono ?_
  rintro e w1 ⟨rfl,h1⟩
  rw[te]
  obtain⟨b0,m0⟩:=h1.fb0
  have H1:=hide h1
  clear a0 l0 HF h1
  by_cases h2:t.1=2
  ·have t2:((t.1:Int)==2)=true:=by rw[h2];rfl
   have HL2:=hide (HL.out.trans (if_pos h2))
   clear h2 HL
   go_wp2_with fail
   refine((HIH.out k' HB.out.1.1).1 c X f' _ H1.out HB.out.1.2).mono ?_
   intro e w2 h3
   cases hx:RT T k' 1 0 f' with
   | error q=>
    rw[hx] at h3
    obtain⟨rfl,hk⟩:=h3
    exact⟨rfl,OutX.err_mk (by rw[HL2.out,bnd_err hx]) ⟨rfl,hk⟩⟩
   | ok f2=>
   rw[hx] at h3
   obtain⟨rfl,hl2,hi2,h3⟩:=h3
   have HL3:=hide (HL2.out.trans (bnd_ok hx))
   have HB2:Hid ((k'≤n∧3*(T.length - f2.m.i)+2≤k')∧f2.lb=f.lb∧f.m.i≤f2.m.i):=by
    have hb:=HB.out
    have hl:=h3.1
    exact⟨by omega,by rw[hl2];exact hb.2.1,by omega⟩
   have H3:=hide h3
   clear hx hl2 hi2 h3 HL2 H1 b0 m0
   go_wp2
   go_roundg k'
   case measure=>omega
   case rel=>exact⟨f2,HB2.out.1.1,HB2.out.1.2,HB2.out.2.1,HB2.out.2.2,HL3.out,H3.out⟩
  ·have t2:((t.1:Int)==2)=false:=by simp;omega
   have HL2:=hide (HL.out.trans (if_neg h2))
   clear h2 HL
   go_wp2_with fail
   refine(tPeek_F H1.out HT.out).mono ?_
   rintro e w2 ⟨rfl,h3⟩
   rw[te]
   obtain⟨c0,n0⟩:=h3.fb0
   have H3:=hide h3
   clear h3 H1 b0 m0
   by_cases h5:t.1=5
   ·have t5:((t.1:Int)==5)=true:=by rw[h5];rfl
    have H5:=hide h5
    clear h5
    go_wp2_with fail
    refine(tIs_F H3.out HT.out elseB).mono ?_
    rintro e w3 ⟨rfl,h4⟩
    obtain⟨d0,o0⟩:=h4.fb0
    have H4:=hide h4
    clear h4 H3 c0 n0
    cases he:isW t elseB with
    | true=>
     have HL3:=hide (HL2.out.trans (if_neg (fun c=>by rw[he] at c;exact absurd c.2.1 (by decide))))
     clear he HL2
     go_wp2
     go_end0
     exact OutX.ok_mk HL3.out ⟨rfl,HB.out.2.1,HB.out.2.2.1,H4.out⟩
    | false=>
     have HE:=hide he
     clear he
     go_wp2_with fail
     refine(tIs_F H4.out HT.out endB).mono ?_
     rintro e w4 ⟨rfl,h6⟩
     have H6:=hide h6
     clear h6 H4 d0 o0
     cases hn:isW t endB with
     | true=>
      have HL3:=hide (HL2.out.trans (if_neg (fun c=>by rw[hn] at c;exact absurd c.2.2 (by decide))))
      clear hn HL2
      go_wp2
      go_end0
      exact OutX.ok_mk HL3.out ⟨rfl,HB.out.2.1,HB.out.2.2.1,H6.out⟩
     | false=>
      have HL3:=hide (HL2.out.trans (if_pos ⟨H5.out,HE.out,hn⟩))
      clear hn HL2
      go_wp2_with fail
      refine((HIH.out k' HB.out.1.1).2 c X f' _ H6.out HB.out.1.2).mono ?_
      intro e w5 h7
      cases hx:RT T k' 2 0 f' with
      | error q=>
       rw[hx] at h7
       obtain⟨rfl,hk⟩:=h7
       exact⟨rfl,OutX.err_mk (by rw[HL3.out,bnd_err hx]) ⟨rfl,hk⟩⟩
      | ok f2=>
      rw[hx] at h7
      obtain⟨rfl,hl2,hi2,h7⟩:=h7
      have HL4:=hide (HL3.out.trans (bnd_ok hx))
      have HB2:Hid ((k'≤n∧3*(T.length - f2.m.i)+2≤k')∧f2.lb=f.lb∧f.m.i≤f2.m.i):=by
       have hb:=HB.out
       have hl:=h7.1
       exact⟨by omega,by rw[hl2];exact hb.2.1,by omega⟩
      have H7:=hide h7
      clear hx hl2 hi2 h7 HL3 H6
      go_wp2
      go_roundg k'
      case measure=>omega
      case rel=>exact⟨f2,HB2.out.1.1,HB2.out.1.2,HB2.out.2.1,HB2.out.2.2,HL4.out,H7.out⟩
   ·have t5:((t.1:Int)==5)=false:=by simp;omega
    have HL3:=hide (HL2.out.trans (if_neg (fun c=>h5 c.1)))
    clear h5 HL2
    go_wp2
    go_end0
    exact OutX.ok_mk HL3.out ⟨rfl,HB.out.2.1,HB.out.2.2.1,H3.out⟩
end
end
end Go.Proofs.YtkmofapihggjgaaGreatDoor
