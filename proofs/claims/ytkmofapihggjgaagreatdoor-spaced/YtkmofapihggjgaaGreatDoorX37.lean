import Derived.Test.YtkmofapihggjgaaGreatDoorX32
import Derived.Test.YtkmofapihggjgaaGreatDoorX33
import Derived.Test.YtkmofapihggjgaaGreatDoorX35
namespace Go.Proofs.YtkmofapihggjgaaGreatDoor
section
open Go.RowKit
set_option linter.unusedSimpArgs false
theorem mv_tokOf (φ:Nat→Nat) (w:ByteArray) (p:Nat):mv φ (tokOf w p)=tokOf w (φ p):=by
 unfold tokOf mv
 split
 ·rfl
 split<;>rfl
theorem toksI_mv {φ:Nat→Nat}:∀{l:Pcs} {i p:Nat},(∀j,j<(plcP p l).length→φ (i+j)=(plcP p l)[j]?.getD 0)→mvT φ (toksI i l)=toksP p l
 | [],i,p,h=>by
  have h0:=h 0 (by simp[plcP])
  simp[plcP] at h0
  simp[mvT,toksI,toksP,mv,h0]
 | x::l,i,p,h=>by
  have h0:=h 0 (by simp[plcP])
  simp[plcP] at h0
  have h1:=toksI_mv (l:=l) (i:=i+1) (p:=p+x.1.size+(gapL x.2).length) (φ:=φ) (fun j hj=>by
   have:=h (j+1) (by simp only[plcP,List.length_cons];omega)
   simp only[plcP,List.getElem?_cons_succ] at this
   rw[←this]
   congr 1
   omega)
  rw[toksI,toksP,←h1,←h0,←mv_tokOf]
  rfl
theorem toks_phi (l:Pcs):mvT (phi l) (toksI 0 l)=toksP 0 l:=toksI_mv fun j _=>by rw[Nat.zero_add];rfl
theorem toksI_le:∀{l:Pcs} {i:Nat},∀t∈toksI i l,t.2.1≤i+l.length
 | [],i,t,ht=>by
  simp only[toksI,List.mem_singleton] at ht
  subst ht
  simp
 | x::l,i,t,ht=>by
  rw[toksI] at ht
  rcases List.mem_cons.1 ht with rfl | ht
  ·rw[tokOf_2];omega
  ·have:=toksI_le t ht
   simp only[List.length_cons]
   omega
section
variable {φ ψ:Nat→Nat} {T:List Tok}
theorem asmM_mv (h0:φ 0=0):asmM (mvT φ T)=EM φ id (asmM T):=by
 unfold asmM
 rw[asmT_mv h0]
 cases asmT T<;>rfl
theorem asm_err {q p n:Nat} (hT:∀t∈T,t.2.1≤n) (h:asmM T=.error (q,p)):q≠1∧p≤n:=by
 have e:mvT (fun p=>if p≤n then p else 0) T=T:=by
  unfold mvT
  conv=>rhs;rw[←List.map_id T]
  apply List.map_congr_left
  intro t ht
  simp[mv,hT t ht]
 have h2:=asmM_mv (φ:=fun p=>if p≤n then p else 0) (T:=T) (by simp)
 rw[e,h] at h2
 simp only[EM,mvE,Except.error.injEq,Prod.mk.injEq] at h2
 obtain⟨a,b⟩:=h2
 constructor
 ·rintro rfl
  simp at a
 ·split at b
  ·assumption
  ·omega
theorem same_ans (h0:φ 0=0) (h1:ψ 0=0) {n:Nat} (hT:∀t∈T,t.2.1≤n) (a b:ByteArray):
  ∃x q p r,asmAns (mvT φ T) a=(x,q,p)∧asmAns (mvT ψ T) b=(x,q,r)∧(((q=0∨q=1)∧p=0∧r=0)∨(q≠0∧q≠1∧x=⟨#[]⟩∧∃i,i≤n∧p=φ i∧r=ψ i)):=by
 unfold asmAns
 rw[asmM_mv h0,asmM_mv h1]
 cases h:asmM T with
 | error z=>
  obtain⟨q,p⟩:=z
  obtain⟨hq,hp⟩:=asm_err hT h
  simp only[EM,mvE]
  rw[if_neg hq]
  by_cases hq0:q=0
  ·rw[if_pos hq0,if_pos hq0]
   exact⟨_,_,_,_,rfl,rfl,.inl ⟨.inl rfl,rfl,rfl⟩⟩
  ·rw[if_neg hq0,if_neg hq0]
   exact⟨_,_,_,_,rfl,rfl,.inr ⟨hq0,hq,rfl,p,hp,rfl,rfl⟩⟩
 | ok y=>
  simp only[EM,id]
  by_cases hy:5000<y.size
  ·rw[if_pos hy]
   exact⟨_,_,_,_,rfl,rfl,.inl ⟨.inr rfl,rfl,rfl⟩⟩
  ·rw[if_neg hy]
   exact⟨_,_,_,_,rfl,rfl,.inl ⟨.inl rfl,rfl,rfl⟩⟩
end
theorem TW_toks {l:Pcs} {p:Nat} (hw:∀x∈l,Wd x.1) (hl:l.length≤300):TW (toksP p l):=
 {len:=by rw[toksP_len];omega
  small:=fun t ht=>by have:=(toksP_in hw t ht).1;omega
  few:=by rw[toksP_len];omega
  exF:=fun i t h h4=>absurd h4 (toksP_in hw t (List.mem_of_getElem? h)).2
  last:=fun i t h hn=>toksP_last h hn}
end
section
open Go.RowKit
set_option linter.unusedSimpArgs false
def showB:ByteArray:=⟨#[40,109,111,100,117,108,101,32,40,102,117,110,99,32,36,105,100,32,40,112,97,114,97,109,32,36,120,32,105,51,50,41,32,40,114,101,115,117,108,116,32,105,51,50,41,32,108,111,99,97,108,46,103,101,116,32,36,120,41,32,40,101,120,112,111,114,116,32,34,105,100,34,32,40,102,117,110,99,32,36,105,100,41,41,41]⟩
def bytB:ByteArray:=⟨#[0,97,115,109,1,0,0,0,1,6,1,96,1,127,1,127,3,2,1,0,7,6,1,2,105,100,0,0,10,6,1,4,0,32,0,11,0,20,4,110,97,109,101,1,5,1,0,2,105,100,2,6,1,0,1,0,1,120]⟩
theorem show_tame:TameT showB:=by
 refine⟨by decide,fun k e=>?_,fun k e=>?_⟩
 ·rw[bt_tl] at e
  cases hc:(tl showB 0)[k]? with
  | none=>rw[hc] at e;cases e
  | some y=>
   rw[hc] at e
   have h2:∀x∈tl showB 0,x≠92:=by decide+kernel
   exact h2 y (List.mem_of_getElem? hc) e
 ·have h3:∀j:Fin 85,bt showB j.1=34→bt showB (j.1+1)≠34:=by decide+kernel
  by_cases hk:k<85
  ·exact h3 ⟨k,hk⟩ e
  ·rw[bt_tl,List.getElem?_eq_none (by rw[tl_len];show 85≤k;omega)] at e
   cases e
theorem show_ans:asmAns (toksM showB) showB=(bytB,0,0):=by decide+kernel
def showT:List Tok:=[(2,0,⟨#[]⟩),(5,1,⟨#[109,111,100,117,108,101]⟩),(2,8,⟨#[]⟩),(5,9,⟨#[102,117,110,99]⟩),(5,14,⟨#[36,105,100]⟩),(2,18,⟨#[]⟩),(5,19,⟨#[112,97,114,97,109]⟩),(5,25,⟨#[36,120]⟩),(5,28,⟨#[105,51,50]⟩),(3,31,⟨#[]⟩),(2,33,⟨#[]⟩),(5,34,⟨#[114,101,115,117,108,116]⟩),(5,41,⟨#[105,51,50]⟩),(3,44,⟨#[]⟩),(5,46,⟨#[108,111,99,97,108,46,103,101,116]⟩),(5,56,⟨#[36,120]⟩),(3,58,⟨#[]⟩),(2,60,⟨#[]⟩),(5,61,⟨#[101,120,112,111,114,116]⟩),(4,68,⟨#[105,100]⟩),(2,73,⟨#[]⟩),(5,74,⟨#[102,117,110,99]⟩),(5,79,⟨#[36,105,100]⟩),(3,82,⟨#[]⟩),(3,83,⟨#[]⟩),(3,84,⟨#[]⟩),(1,85,⟨#[]⟩)]
theorem show_toks:toksM showB=showT:=by decide+kernel
theorem show_TW:TW showT:=by
 have hl:showT.length=27:=rfl
 refine {len:=by rw[hl];decide,small:=by decide+kernel,few:=by rw[hl];decide,exF:=fun i t h h4=>?_,last:=fun i t h hn=>?_}
 ·have hi:i<27:=by
   rcases Nat.lt_or_ge i 27 with c | c
   ·exact c
   ·rw[List.getElem?_eq_none (by rw[hl];exact c)] at h;cases h
  have key:∀j:Fin 27,(showT[j.1]?).map (·.1)=some 4→j.1=19:=by decide+kernel
  obtain rfl:=key ⟨i,hi⟩ (by rw[h];exact congrArg some h4)
  have e19:showT[19]?=some (4,68,⟨#[105,100]⟩):=rfl
  obtain rfl:=Option.some.inj (e19.symm.trans h)
  exact⟨by decide,by decide+kernel,_,_,_,_,⟨rfl,rfl⟩,⟨rfl,rfl,rfl⟩,⟨rfl,by decide+kernel⟩,rfl,rfl⟩
 ·have hi:i<27:=by
   rcases Nat.lt_or_ge i 27 with c | c
   ·exact c
   ·rw[List.getElem?_eq_none (by rw[hl];exact c)] at h;cases h
  rw[hl]
  rcases Nat.lt_or_ge i 26 with c | c
  ·omega
  ·obtain rfl:i=26:=by omega
   have e26:showT[26]?=some (1,85,⟨#[]⟩):=rfl
   obtain rfl:=Option.some.inj (e26.symm.trans h)
   exact absurd rfl hn
theorem show_D:∀i,opensT showT ⟨#[100,97,116,97]⟩ i=false:=by
 have key:∀j:Fin 27,opensT showT ⟨#[100,97,116,97]⟩ j.1=false:=by decide+kernel
 intro i
 rcases Nat.lt_or_ge i 27 with c | c
 ·exact key ⟨i,c⟩
 ·unfold opensT
  rw[List.getElem?_eq_none (show showT.length≤i from c)]
theorem show_ans2:asmAns showT showB=(bytB,0,0):=by rw[←show_toks];exact show_ans
theorem awake_any {w:World} (hl:Gl w) (hg:Ge w) (hd:Gd w):Calls Tryz.prog 4 #[] w fun e w'=>e=.returned (.bool true)∧Kept (fun _=>False) w w':=by
 have hN:NewsC showB showT:=by rw[←show_toks];exact news_of show_tame
 have HC:=hide (assemble_any (text:=showB) (by decide) hN hl hg hd show_TW (by decide) (.inr show_D))
 clear hN hl hg hd
 go_enter Tryz.func4,Tryz.ntmps4
 go_wp2_with fail
 refine HC.out.mono ?_
 rintro e w1 ⟨rfl,hk1⟩
 rw[show_ans2]
 have tB:(bytB.toList==[0,97,115,109,1,0,0,0,1,6,1,96,1,127,1,127,3,2,1,0,7,6,1,2,105,100,0,0,10,6,1,4,0,32,0,11,0,20,4,110,97,109,101,1,5,1,0,2,105,100,2,6,1,0,1,0,1,120])=true:=by decide+kernel
 generalize bytB=bB at*
 have HK:=hide hk1
 clear hk1 HC
 go_wp2
 go_ret
 exact⟨rfl,HK.out⟩
end
end Go.Proofs.YtkmofapihggjgaaGreatDoor
