import Derived.Laws.Strings
import Derived.Test.YtkmofapihggjgaaGreatDoorX1
namespace Go.Proofs.YtkmofapihggjgaaGreatDoor
section
open Go.RowKit
set_option linter.unusedSimpArgs false
def At (s:ByteArray) (k:Nat) (l:List Nat):Prop:=k+l.length≤s.size∧∀(j:Nat) (h:j<l.length),bt s (k+j)=l[j]
theorem At.app {s:ByteArray} {k:Nat} {a b:List Nat} (h:At s k (a++b)):At s k a∧At s (k+a.length) b:=by
 obtain⟨h1,h2⟩:=h
 simp only[List.length_append] at h1
 refine⟨⟨by omega,fun j hj=>?_⟩,⟨by omega,fun j hj=>?_⟩⟩
 ·rw[h2 j (by simp;omega),List.getElem_append_left hj]
 ·rw[Nat.add_assoc,h2 (a.length+j) (by simp;omega),List.getElem_append_right (by omega)]
  congr 1
  omega
theorem At.hd {s:ByteArray} {k x:Nat} {l:List Nat} (h:At s k (x::l)):k<s.size∧bt s k=x:=by
 obtain⟨h1,h2⟩:=h
 simp only[List.length_cons] at h1
 exact⟨by omega,h2 0 (by simp)⟩
theorem At.tl {s:ByteArray} {k x:Nat} {l:List Nat} (h:At s k (x::l)):At s (k+1) l:=(At.app (a:=[x]) h).2
theorem blank_at {s:ByteArray} {k x:Nat} {l:List Nat} (h:At s k (x::l)) (hx:x=32∨x=10):skM s k=skM s (k+1):=by
 obtain⟨h1,h2⟩:=h.hd
 exact skM_step h1 (by rw[h2];exact hx)
theorem comB_at {s:ByteArray} {k:Nat} {l:List Nat} (h:At s k (59::59::l)):comB s k=true:=by
 obtain⟨h1,h2⟩:=h.hd
 obtain⟨h3,h4⟩:=h.tl.hd
 rw[bt_eq h1] at h2
 rw[bt_eq h3] at h4
 unfold comB hasPreB
 have e1:(s.extract k s.size).extract 0 (⟨#[59,59]⟩:ByteArray).size=⟨#[59,59]⟩:=by
  apply ByteArray.ext_getElem
  ·simp[ByteArray.size_extract]
   show min 2 (s.size - k)=2
   omega
  ·intro i hi hi2
   have:i<2:=hi2
   simp only[ByteArray.getElem_extract]
   rcases(show i=0∨i=1 by omega) with rfl | rfl
   ·exact UInt8.toNat_inj.1 (h2.trans rfl)
   ·exact UInt8.toNat_inj.1 (h4.trans rfl)
 rw[e1]
 simp
 show 2≤s.size - k
 omega
theorem comB_not {s:ByteArray} {k:Nat} (h:bt s k≠59):comB s k=false:=by
 cases hc:comB s k with
 | false=>rfl
 | true=>
  exfalso
  apply h
  unfold comB hasPreB at hc
  simp only[Bool.and_eq_true,decide_eq_true_eq,beq_iff_eq,ByteArray.toList_eq] at hc
  obtain⟨h1,h2⟩:=hc
  have h3:((s.extract k s.size).extract 0 (⟨#[59,59]⟩:ByteArray).size)=⟨#[59,59]⟩:=ByteArray.ext (Array.toList_inj.1 h2)
  have h4:2≤(s.extract k s.size).size:=h1
  simp at h4
  have e2:((s.extract k s.size).extract 0 (⟨#[59,59]⟩:ByteArray).size)[0]! =(59:UInt8):=by rw[h3];rfl
  rw[getElem!_pos _ 0 (by rw[h3];decide)] at e2
  simp only[ByteArray.getElem_extract,Nat.zero_add,Nat.add_zero] at e2
  rw[bt_eq (by omega),e2]
  rfl
theorem line_at {s:ByteArray} {k:Nat} {c l:List Nat} (h:At s k (c++10::l)) (hc:∀x∈c,x≠10):lineM (s.extract k s.size)=c.length:=by
 obtain⟨ha,hb⟩:=h.app
 obtain⟨h1,h2⟩:=hb.hd
 rw[bt_eq h1] at h2
 have hsz:(s.extract k s.size).size=s.size - k:=by simp
 have hg:∀i,(hi:i<s.size - k)→(s.extract k s.size)[i]! =s[k+i]:=fun i hi=>by
  rw[getElem!_pos (s.extract k s.size) i (by omega)]
  simp[ByteArray.getElem_extract]
 have hf:(List.range (s.extract k s.size).size).find? (fun i=>(s.extract k s.size)[i]! ==10)=some c.length:=by
  rw[List.find?_range_eq_some]
  refine⟨?_,by simp;omega,fun j hj=>?_⟩
  ·rw[hg _ (by omega)]
   simp
   apply UInt8.toNat_inj.1
   rw[h2]
   rfl
  ·rw[hg _ (by omega)]
   have:=ha.2 j hj
   rw[bt_eq (by omega)] at this
   have h3:=hc _ (List.getElem_mem hj)
   rw[←this] at h3
   simp
   intro hx
   apply h3
   rw[hx]
   rfl
 unfold lineM firstIdx
 rw[hf]
 simp
end
section
open Go.RowKit
set_option linter.unusedSimpArgs false
theorem com_at {s:ByteArray} {k:Nat} (c:List Nat) {l:List Nat} (h:At s k (59::59::c++10::l)) (hc:∀x∈c,x≠10):skM s k=skM s (k+(c.length+2))∧At s (k+(c.length+2)) (10::l):=by
 have h1:=line_at (c:=59::59::c) h (by simp;exact hc)
 obtain⟨h2,h3⟩:=h.hd
 refine⟨?_,(At.app (a:=59::59::c) h).2⟩
 rw[skM_com h2 (by rw[h3];decide) (comB_at h),h1]
 rfl
def gapL (n:Nat):List Nat:=
 if n=1 then[10] else if n=2 then[32,32,32,10,32,10] else if n=3 then[59,59,32,40,32,97,32,99,111,109,109,101,110,116,32,41,32,34,32,59,59,10] else if n=4 then[32,59,59,10,59,59,120,10,32] else[32]
theorem gap_at {s:ByteArray} {k:Nat} (n:Nat) (h:At s k (gapL n)):skM s k=skM s (k+(gapL n).length):=by
 unfold gapL at h ⊢
 split at h
 ·rename_i c
  rw[if_pos c]
  exact blank_at h (.inr rfl)
 rename_i c
 rw[if_neg c]
 split at h
 ·rename_i c
  rw[if_pos c]
  rw[blank_at h (.inl rfl),blank_at h.tl (.inl rfl),blank_at h.tl.tl (.inl rfl),blank_at h.tl.tl.tl (.inr rfl),blank_at h.tl.tl.tl.tl (.inl rfl),blank_at h.tl.tl.tl.tl.tl (.inr rfl)]
  rfl
 rename_i c
 rw[if_neg c]
 split at h
 ·rename_i c
  rw[if_pos c]
  obtain⟨h1,h2⟩:=com_at [32,40,32,97,32,99,111,109,109,101,110,116,32,41,32,34,32,59,59] (l:=[]) h (by decide)
  rw[h1,blank_at h2 (.inr rfl)]
  rfl
 rename_i c
 rw[if_neg c]
 split at h
 ·rename_i c
  rw[if_pos c]
  obtain⟨h1,h2⟩:=com_at [] (l:=[59,59,120,10,32]) h.tl (by simp)
  obtain⟨h3,h4⟩:=com_at [120] (l:=[32]) h2.tl (by simp)
  rw[blank_at h (.inl rfl),h1,blank_at h2 (.inr rfl),h3,blank_at h4 (.inr rfl),blank_at h4.tl (.inl rfl)]
  rfl
 ·rename_i c
  rw[if_neg c]
  exact blank_at h (.inl rfl)
theorem gap_first (n:Nat):∃x l,gapL n=x::l∧inWordB x=false:=by
 unfold gapL
 split
 ·exact⟨_,_,rfl,rfl⟩
 split
 ·exact⟨_,_,rfl,rfl⟩
 split
 ·exact⟨_,_,rfl,rfl⟩
 split
 ·exact⟨_,_,rfl,rfl⟩
 ·exact⟨_,_,rfl,rfl⟩
def okCh (x:Nat):Bool:=(decide (97≤x)&&decide (x≤122))||(decide (48≤x)&&decide (x≤57))||x==36||x==46||x==95||x==45||x==61
theorem okCh_in {x:Nat} (h:okCh x=true):inWordB x=true∧x≠32∧x≠10∧x≠59∧x≠40∧x≠41∧x≠34∧x≠92:=by
 unfold okCh at h
 simp only[Bool.or_eq_true,Bool.and_eq_true,decide_eq_true_eq,beq_iff_eq] at h
 refine⟨?_,by omega,by omega,by omega,by omega,by omega,by omega,by omega⟩
 unfold inWordB inNameB
 simp only[Bool.or_eq_true,Bool.and_eq_true,decide_eq_true_eq,beq_iff_eq]
 omega
def Wd (w:ByteArray):Prop:=w=⟨#[40]⟩∨w=⟨#[41]⟩∨(0<w.size∧w.size≤30∧∀x∈tl w 0,okCh x=true)
def tokOf (w:ByteArray) (p:Nat):Tok:=if w=⟨#[40]⟩ then(2,p,⟨#[]⟩) else if w=⟨#[41]⟩ then(3,p,⟨#[]⟩) else(5,p,w)
theorem tl_len (w:ByteArray):(tl w 0).length=w.size:=by unfold tl;simp
theorem tl_get (w:ByteArray) (j:Nat) (h:j<w.size):(tl w 0)[j]'(by rw[tl_len];exact h)=w[j].toNat:=by unfold tl;simp;rfl
theorem extract_at {s w:ByteArray} {k:Nat} (h:At s k (tl w 0)):s.extract k (k+w.size)=w:=by
 have h1:=h.1
 rw[tl_len] at h1
 apply ByteArray.ext_getElem
 ·simp[ByteArray.size_extract]
  omega
 ·intro i hi hi2
  apply UInt8.toNat_inj.1
  rw[←tl_get w i hi2,←h.2 i (by rw[tl_len];exact hi2),bt_eq (by omega)]
  simp only[ByteArray.getElem_extract]
theorem wordEnd_at {s:ByteArray}:∀{l:List Nat} {k:Nat},At s k l→(∀x∈l,okCh x=true)→inWordB (bt s (k+l.length))=false→wordEnd s k=k+l.length
 | [],k,_,_,hn=>wordEnd_stop (fun c=>by rw[List.length_nil,Nat.add_zero] at hn;rw[hn] at c;cases c.2)
 | x::l,k,h,hl,hn=>by
  obtain⟨h1,h2⟩:=h.hd
  rw[wordEnd_step h1 (by rw[h2];exact(okCh_in (hl x (by simp))).1),wordEnd_at h.tl (fun y hy=>hl y (by simp[hy])) (by rw[←hn];congr 2;simp;omega)]
  simp
  omega
theorem next_at {s:ByteArray} {i k:Nat} {w:ByteArray} {x:Nat} {l:List Nat} (hi:skM s i=skM s k) (h:At s k (tl w 0++x::l)) (hw:Wd w) (hx:inWordB x=false):nextM s i=(tokOf w k,k+w.size):=by
 obtain⟨ha,hb⟩:=h.app
 obtain⟨b1,b2⟩:=hb.hd
 rw[tl_len] at b1 b2
 have hk:bt s k≠32→bt s k≠10→bt s k≠59→k<s.size→skM s k=k:=fun e1 e2 e3 e4=>skM_stop (fun c=>c.2.elim e1 e2) (fun c=>by rw[comB_not e3] at c;cases c.2)
 unfold nextM
 simp only[hi]
 rcases hw with rfl | rfl | ⟨w0,w1,w2⟩
 ·obtain⟨c1,c2⟩:=At.hd (x:=40) (l:=[]) ha
  rw[hk (by omega) (by omega) (by omega) c1,if_neg (by omega),if_pos c2]
  rfl
 ·obtain⟨c1,c2⟩:=At.hd (x:=41) (l:=[]) ha
  rw[hk (by omega) (by omega) (by omega) c1,if_neg (by omega),if_neg (by omega),if_pos c2]
  rfl
 ·rw[tl_cons w0] at ha w2
  obtain⟨c1,c2⟩:=ha.hd
  obtain⟨d0,d1,d2,d3,d4,d5,d6,d7⟩:=okCh_in (w2 _ (List.mem_cons_self ..))
  rw[←tl_cons w0] at ha w2
  rw[←c2] at d0 d1 d2 d3 d4 d5 d6
  have e1:wordEnd s k=k+w.size:=by
   rw[wordEnd_at ha w2 (by rw[tl_len,b2];exact hx),tl_len]
  rw[hk d1 d2 d3 c1,if_neg (by omega),if_neg d4,if_neg d5,if_neg d6,if_pos d0,e1,extract_at ha]
  have n1:w≠⟨#[40]⟩:=fun e=>by
   subst e
   exact d4 c2
  have n2:w≠⟨#[41]⟩:=fun e=>by
   subst e
   exact d5 c2
  unfold tokOf
  rw[if_neg n1,if_neg n2]
abbrev Pcs:=List (ByteArray×Nat)
def flatP:Pcs→List Nat
 | []=>[]
 | x::l=>tl x.1 0++(gapL x.2++flatP l)
def toksP:Nat→Pcs→List Tok
 | p,[]=>[(1,p,⟨#[]⟩)]
 | p,x::l=>tokOf x.1 p::toksP (p+x.1.size+(gapL x.2).length) l
theorem tokOf_kind (w:ByteArray) (p:Nat):¬((tokOf w p).1=0∨(tokOf w p).1=1):=by
 unfold tokOf
 split
 ·simp
 split<;>simp
theorem toksGo_at {s:ByteArray}:∀(l:Pcs) (f i k:Nat),i≤s.size→skM s i=skM s k→At s k (flatP l)→s.size=k+(flatP l).length→(∀x∈l,Wd x.1)→s.size+1 - i≤f→toksGo s f i=toksP k l
 | [],0,i,k,hi,_,_,hz,_,hf=>by omega
 | [],f+1,i,k,hi,hs,h,hz,hw,hf=>by
  simp only[flatP,List.length_nil,Nat.add_zero] at hz
  have e1:skM s k=k:=skM_stop (fun c=>by omega) (fun c=>by omega)
  have e2:nextM s i=((1,k,⟨#[]⟩),k):=by
   unfold nextM
   simp only[hs,e1]
   rw[if_pos hz.symm]
  rw[toksGo,e2]
  simp[toksP]
 | x::l,0,i,k,hi,_,_,hz,_,hf=>by omega
 | x::l,f+1,i,k,hi,hs,h,hz,hw,hf=>by
  rw[flatP] at h hz
  obtain⟨y,r,hy,hyn⟩:=gap_first x.2
  have h1:=h
  rw[hy,List.cons_append] at h1
  have e1:=next_at hs h1 (hw x (by simp)) hyn
  obtain⟨ha,hb⟩:=h.app
  obtain⟨hc,hd⟩:=hb.app
  rw[tl_len] at hb hc hd
  have h2:=gap_at x.2 hc
  obtain⟨n1,n2⟩:=nextM_le hi
  rw[e1] at n1 n2
  have n3:=n2 (tokOf_kind _ _)
  simp only at n1 n3
  rw[toksGo,e1,if_neg (tokOf_kind _ _)]
  simp only
  rw[toksGo_at l f _ _ n1 h2 hd (by simp[tl_len] at hz;omega) (fun z hz=>hw z (by simp[hz])) (by omega)]
  rw[toksP]
theorem toksM_at {s:ByteArray} {l:Pcs} (h:tl s 0=flatP l) (hw:∀x∈l,Wd x.1):toksM s=toksP 0 l:=by
 have hz:s.size=(flatP l).length:=by rw[←h,tl_len]
 unfold toksM
 refine toksGo_at l _ _ _ (Nat.zero_le _) rfl ⟨by omega,fun j hj=>?_⟩ (by omega) hw (by omega)
 rw[Nat.zero_add,bt_eq (by omega),←tl_get s j (by omega)]
 simp only[h]
end
section
open Go.RowKit
set_option linter.unusedSimpArgs false
theorem tl_app (a b:ByteArray):tl (a++b) 0=tl a 0++tl b 0:=by
 unfold tl
 simp[ByteArray.data_append]
theorem flatP_app:∀a b:Pcs,flatP (a++b)=flatP a++flatP b
 | [],b=>rfl
 | x::a,b=>by simp[flatP,flatP_app a b]
def okL (l:List Nat):Prop:=∀k:Nat,l[k]?≠some 92∧(l[k]?=some 34→l[k+1]?=some 32)
theorem okL.app {a b:List Nat} (ha:okL a) (hb:okL b):okL (a++b):=by
 intro k
 by_cases hk:k<a.length
 ·rw[List.getElem?_append_left hk]
  refine⟨(ha k).1,fun h=>?_⟩
  have h2:=(ha k).2 h
  have h3:k+1<a.length:=by
   rcases Nat.lt_or_ge (k+1) a.length with c | c
   ·exact c
   ·rw[List.getElem?_eq_none c] at h2;cases h2
  rw[List.getElem?_append_left h3,h2]
 ·rw[List.getElem?_append_right (by omega),List.getElem?_append_right (by omega)]
  rw[show k+1 - a.length=k - a.length+1 by omega]
  exact hb _
theorem okL_gap (n:Nat):okL (gapL n):=by
 have key:∀l:List Nat,(∀k:Fin l.length,l[k]?≠some 92∧(l[k]?=some 34→l[k.1+1]?=some 32))→okL l:=by
  intro l h k
  rcases Nat.lt_or_ge k l.length with c | c
  ·exact h ⟨k,c⟩
  ·rw[List.getElem?_eq_none c];simp
 unfold gapL
 split
 ·exact key _ (by decide)
 split
 ·exact key _ (by decide)
 split
 ·exact key _ (by decide)
 split
 ·exact key _ (by decide)
 ·exact key _ (by decide)
theorem okL_word {w:ByteArray} (h:Wd w):okL (tl w 0):=by
 intro k
 have:∀x∈tl w 0,x≠92∧x≠34:=by
  rcases h with rfl | rfl | ⟨_,_,h⟩
  ·intro x hx;have:x=40:=by simpa [tl] using hx
   omega
  ·intro x hx;have:x=41:=by simpa [tl] using hx
   omega
  ·intro x hx
   obtain⟨_,_,_,_,_,_,a,b⟩:=okCh_in (h x hx)
   exact⟨b,a⟩
 refine⟨fun e=>(this _ (List.mem_of_getElem? e)).1 rfl,fun e=>absurd rfl (this _ (List.mem_of_getElem? e)).2⟩
theorem okL_flat:∀{l:Pcs},(∀x∈l,Wd x.1)→okL (flatP l)
 | [],_=>fun k=>by simp[flatP]
 | x::l,h=>(okL_word (h x (by simp))).app ((okL_gap x.2).app (okL_flat fun y hy=>h y (by simp[hy])))
theorem bt_tl (s:ByteArray) (k:Nat):bt s k=((tl s 0)[k]?).getD 0:=by
 by_cases h:k<s.size
 ·rw[bt_eq h,List.getElem?_eq_getElem (by rw[tl_len];exact h),tl_get s k h]
  rfl
 ·rw[List.getElem?_eq_none (by rw[tl_len];omega)]
  unfold bt
  rw[dif_neg h]
  rfl
theorem tame_at {s:ByteArray} {l:Pcs} (h:tl s 0=flatP l) (hw:∀x∈l,Wd x.1) (hz:s.size≤100000):TameT s:=by
 have ho:=okL_flat hw
 refine⟨hz,fun k e=>?_,fun k e=>?_⟩
 ·rw[bt_tl,h] at e
  cases hc:(flatP l)[k]? with
  | none=>rw[hc] at e;cases e
  | some y=>rw[hc] at e;exact(ho k).1 (by rw[hc];exact congrArg some e)
 ·rw[bt_tl,h] at e ⊢
  cases hc:(flatP l)[k]? with
  | none=>rw[hc] at e;cases e
  | some y=>
   rw[hc] at e
   rw[(ho k).2 (by rw[hc];exact congrArg some e)]
   simp
theorem gapL_len (n:Nat):1≤(gapL n).length∧(gapL n).length≤22:=by
 unfold gapL
 split
 ·decide
 split
 ·decide
 split
 ·decide
 split
 ·decide
 ·decide
theorem Wd.size {w:ByteArray} (h:Wd w):w.size≤30:=by
 rcases h with rfl | rfl | ⟨_,h,_⟩
 ·decide
 ·decide
 ·exact h
theorem flatP_len:∀{l:Pcs},(∀x∈l,Wd x.1)→(flatP l).length≤52*l.length
 | [],_=>by simp[flatP]
 | x::l,h=>by
  have h1:=(h x (by simp)).size
  have h2:=(gapL_len x.2).2
  have h3:=flatP_len (l:=l) fun y hy=>h y (by simp[hy])
  simp only[flatP,List.length_append,List.length_cons,tl_len]
  omega
theorem toksP_len:∀(l:Pcs) (p:Nat),(toksP p l).length=l.length+1
 | [],p=>rfl
 | x::l,p=>by simp[toksP,toksP_len l]
theorem tokOf_2 (w:ByteArray) (p:Nat):(tokOf w p).2.1=p:=by
 unfold tokOf
 split
 ·rfl
 split<;>rfl
theorem tokOf_big {w:ByteArray} (h:Wd w) (p:Nat):(tokOf w p).2.2.size≤30∧(tokOf w p).1≠4:=by
 unfold tokOf
 split
 ·exact⟨Nat.zero_le 30,by simp⟩
 split
 ·exact⟨Nat.zero_le 30,by simp⟩
 ·exact⟨h.size,by simp⟩
theorem toksP_in:∀{l:Pcs} {p:Nat},(∀x∈l,Wd x.1)→∀t∈toksP p l,t.2.2.size≤30∧t.1≠4
 | [],p,_,t,ht=>by
  simp only[toksP,List.mem_singleton] at ht
  subst ht
  exact⟨Nat.zero_le 30,by simp⟩
 | x::l,p,h,t,ht=>by
  rw[toksP] at ht
  rcases List.mem_cons.1 ht with rfl | ht
  ·exact tokOf_big (h x (by simp)) p
  ·exact toksP_in (fun y hy=>h y (by simp[hy])) t ht
theorem toksP_last:∀{l:Pcs} {p:Nat} {i:Nat} {t:Tok},(toksP p l)[i]?=some t→t.1≠1→i+1<(toksP p l).length
 | [],p,i,t,h,hn=>by
  exfalso
  rcases i with _ | i
  ·simp only[toksP,List.getElem?_cons_zero,Option.some.injEq] at h
   subst h
   exact hn rfl
  ·simp[toksP] at h
 | x::l,p,0,t,h,hn=>by simp[toksP,toksP_len]
 | x::l,p,i+1,t,h,hn=>by
  simp only[toksP,List.getElem?_cons_succ] at h
  have:=toksP_last h hn
  simp only[toksP,List.length_cons]
  omega
def toksI:Nat→Pcs→List Tok
 | p,[]=>[(1,p,⟨#[]⟩)]
 | p,x::l=>tokOf x.1 p::toksI (p+1) l
def plcP:Nat→Pcs→List Nat
 | p,[]=>[p]
 | p,x::l=>p::plcP (p+x.1.size+(gapL x.2).length) l
theorem plcP_len:∀(l:Pcs) (p:Nat),(plcP p l).length=l.length+1
 | [],p=>rfl
 | x::l,p=>by simp[plcP,plcP_len l]
theorem toksI_same:∀{a b:Pcs} {p:Nat},a.map (·.1)=b.map (·.1)→toksI p a=toksI p b
 | [],[],p,_=>rfl
 | [],y::b,p,h=>by simp at h
 | x::a,[],p,h=>by simp at h
 | x::a,y::b,p,h=>by
  simp only[List.map_cons,List.cons.injEq] at h
  rw[toksI,toksI,h.1,toksI_same h.2]
def phi (l:Pcs) (i:Nat):Nat:=(plcP 0 l)[i]?.getD 0
theorem phi_0 (l:Pcs):phi l 0=0:=by
 unfold phi
 cases l<;>rfl
theorem plcP_app:∀(a b:Pcs) (p:Nat),plcP p (a++b)=(plcP p a).dropLast++plcP (p+(flatP a).length) b
 | [],b,p=>by simp[plcP,flatP]
 | x::a,b,p=>by
  rw[List.cons_append,plcP,plcP_app a b,plcP]
  have:plcP (p+x.1.size+(gapL x.2).length) a≠[]:=by
   intro e
   have:=plcP_len a (p+x.1.size+(gapL x.2).length)
   rw[e] at this
   simp at this
  rw[List.dropLast_cons_of_ne_nil this]
  simp only[List.cons_append,flatP,List.length_append,tl_len]
  congr 3
  omega
end
section
open Go.RowKit
set_option linter.unusedSimpArgs false
def oneB (c:UInt8):ByteArray:=⟨#[c]⟩
def plG (w:ByteArray):Nat→Nat→ByteArray→ByteArray
 | 0,_,out=>out
 | f+1,i,out=>if h:i<w.size∧out.size<30 then plG w f (i+1) (if okCh (bt w i)=true then out++oneB (w[i]'h.1) else out) else out
def plainM (w:ByteArray):ByteArray:=if w.toList=[40]∨w.toList=[41] then w else if(plG w w.size 0 ⟨#[]⟩).size=0 then⟨#[120]⟩ else plG w w.size 0 ⟨#[]⟩
theorem plG_ok (w:ByteArray):∀(f i:Nat) (out:ByteArray),out.size≤30→(∀x∈tl out 0,okCh x=true)→(plG w f i out).size≤30∧∀x∈tl (plG w f i out) 0,okCh x=true
 | 0,i,out,h1,h2=>⟨h1,h2⟩
 | f+1,i,out,h1,h2=>by
  unfold plG
  split
  ·rename_i h
   split
   ·rename_i ho
    refine plG_ok w f (i+1) _ (by rw[ByteArray.size_append];show out.size+1≤30;omega) fun x hx=>?_
    rw[tl_app] at hx
    rcases List.mem_append.1 hx with hx | hx
    ·exact h2 x hx
    ·have:x=(w[i]'h.1).toNat:=by simpa [tl,oneB] using hx
     rw[this,←bt_eq h.1]
     exact ho
   ·exact plG_ok w f (i+1) out h1 h2
  ·exact⟨h1,h2⟩
theorem plain_ok (w:ByteArray):Wd (plainM w):=by
 unfold plainM
 split
 ·rename_i h
  rw[ByteArray.toList_eq] at h
  rcases h with h | h
  ·exact .inl (ByteArray.ext (Array.toList_inj.1 h))
  ·exact .inr (.inl (ByteArray.ext (Array.toList_inj.1 h)))
 ·obtain⟨h1,h2⟩:=plG_ok w w.size 0 ⟨#[]⟩ (Nat.zero_le _) (by simp[tl])
  split
  ·exact .inr (.inr ⟨by decide,by decide,by decide⟩)
  ·exact .inr (.inr ⟨by omega,h1,h2⟩)
theorem plG_stop {w:ByteArray} {f i:Nat} {out:ByteArray} (h:¬(i<w.size∧out.size<30)):plG w f i out=out:=by
 cases f with
 | zero=>rfl
 | succ f=>rw[plG,dif_neg h]
theorem plG_step {w:ByteArray} {i:Nat} {out:ByteArray} (h:i<w.size) (ho:out.size<30):plG w (w.size - i) i out=plG w (w.size - (i+1)) (i+1) (if okCh (bt w i)=true then out++oneB w[i] else out):=by
 rw[show w.size - i=w.size - (i+1)+1 by omega,plG,dif_pos ⟨h,ho⟩]
theorem okCh_z (x:Nat):okCh x=((decide ((97:Int)≤(x:Int))&&decide ((x:Int)≤(122:Int)))||(decide ((48:Int)≤(x:Int))&&decide ((x:Int)≤(57:Int)))||(x:Int)==36||(x:Int)==46||(x:Int)==95||(x:Int)==45||(x:Int)==61):=by
 have e1:decide ((97:Int)≤(x:Int))=decide (97≤x):=decide_eq_decide.2 (by omega)
 have e2:decide ((x:Int)≤(122:Int))=decide (x≤122):=decide_eq_decide.2 (by omega)
 have e5:decide ((48:Int)≤(x:Int))=decide (48≤x):=decide_eq_decide.2 (by omega)
 have e6:decide ((x:Int)≤(57:Int))=decide (x≤57):=decide_eq_decide.2 (by omega)
 have f1:((x:Int)==36)=(x==36):=by rw[Bool.eq_iff_iff];simp;omega
 have f2:((x:Int)==46)=(x==46):=by rw[Bool.eq_iff_iff];simp;omega
 have f3:((x:Int)==95)=(x==95):=by rw[Bool.eq_iff_iff];simp;omega
 have f4:((x:Int)==45)=(x==45):=by rw[Bool.eq_iff_iff];simp;omega
 have f5:((x:Int)==61)=(x==61):=by rw[Bool.eq_iff_iff];simp;omega
 rw[e1,e2,e5,e6,f1,f2,f3,f4,f5]
 rfl
theorem byte_string (W:World) (z:Int):(convert 31 9 (.slice (some ⟨W.heap.size,0,none⟩) 1 1)).run Tryz.prog (W.alloc (.cells #[.int .u8 z] 5))=.ok (.string (strOfNums [z])) (W.alloc (.cells #[.int .u8 z] 5)):=by
 refine run_convert_bytes_arg (P:=Tryz.prog) (W.alloc (.cells #[.int .u8 z] 5)) 31 5 Tryz.underlying31 Tryz.underlying5 W.heap.size 0 1 1 [z] rfl (fun i hi=>?_) 9 Tryz.underlying9
 obtain rfl:i=0:=by simpa using hi
 simp[go_sem]
theorem strOne (c:UInt8):strOfNums [(c.toNat:Int)]=oneB c:=by
 unfold strOfNums oneB
 simp
set_option maxRecDepth 100000 in
set_option maxHeartbeats 1600000 in
theorem plain_any (s:ByteArray) (hs:s.size≤maxLen) (w:World):Calls Tryz.prog 5 #[.string s] w fun e w'=>e=.returned (.string (plainM s))∧Kept (fun _=>False) w w':=by
 have hs2:(s.size:Int)≤9223372036854775807:=by unfold maxLen at hs;omega
 clear hs
 by_cases h1:s.toList=[40]
 ·have t1:(s.toList==[40])=true:=by rw[h1];rfl
  have HP:Hid (plainM s=s):=by show _=_;unfold plainM;rw[if_pos (.inl h1)]
  clear h1
  go_enter Tryz.func5,Tryz.ntmps5
  go_wp2
  go_ret
  exact⟨by rw[HP.out];rfl,Kept.refl _ _⟩
 have t1:(s.toList==[40])=false:=by simpa using h1
 by_cases h2:s.toList=[41]
 ·have t2:(s.toList==[41])=true:=by rw[h2];rfl
  have HP:Hid (plainM s=s):=by show _=_;unfold plainM;rw[if_pos (.inr h2)]
  clear h1 h2
  go_enter Tryz.func5,Tryz.ntmps5
  go_wp2
  go_ret
  exact⟨by rw[HP.out];rfl,Kept.refl _ _⟩
 have t2:(s.toList==[41])=false:=by simpa using h2
 have HP:Hid (plainM s=if(plG s s.size 0 ⟨#[]⟩).size=0 then⟨#[120]⟩ else plG s s.size 0 ⟨#[]⟩):=by show _=_;unfold plainM;rw[if_neg (fun c=>c.elim h1 h2)]
 clear h1 h2
 have hcv:=byte_string
 go_enter Tryz.func5,Tryz.ntmps5
 go_wp2
 go_loopw [3,4] (fun q3 q4 wr=>∃(k:Nat) (out:ByteArray),k≤s.size∧out.size≤30∧q3=.string out∧q4=.int .i64 (k:Nat)∧Kept (fun _=>False) w wr∧plG s s.size 0 ⟨#[]⟩=plG s (s.size - k) k out) (fun _ q4 _=>s.size - (intOf q4).toNat)
 case atStart=>exact⟨0,⟨#[]⟩,Nat.zero_le _,Nat.zero_le _,rfl,rfl,Kept.refl _ _,rfl⟩
 case round=>
  obtain⟨k,out,hk,ho,rfl,rfl,hkp,ha⟩:=hrel
  have HA:=hide ha
  have HK:=hide hkp
  clear ha hkp
  by_cases hk2:k<s.size
  ·have hlt:(k:Int)<(s.size:Int):=by omega
   by_cases ho2:out.size<30
   ·have hlo:(out.size:Int)<30:=by omega
    have HE:=hide (HA.out.trans (plG_step hk2 ho2))
    rw[bt_eq hk2] at HE
    have HC:=hide (okCh_z s[k].toNat)
    clear HA
    have HB:Hid (strOfNums [(s[k].toNat:Int)]=oneB s[k]):=strOne _
    generalize hz:(s[k].toNat:Int)=z at*
    have hcs:(123≤z)∨(97≤z∧z≤122)∨(48≤z∧z≤57)∨(z=95)∨(z=61)∨(58≤z∧z≤96∧z≠95∧z≠61)∨(z=36)∨(z=46)∨(z=45)∨(z≤47∧z≠36∧z≠46∧z≠45):=by omega
    rcases hcs with hc | hc | hc | hc | hc | hc | hc | hc | hc | hc
    ·have t3:decide ((97:Int)≤z)=true:=decide_eq_true (by omega)
     have t4:decide (z≤(122:Int))=false:=decide_eq_false (by omega)
     have t5:decide ((48:Int)≤z)=true:=decide_eq_true (by omega)
     have t6:decide (z≤(57:Int))=false:=decide_eq_false (by omega)
     have t7:(z==36)=false:=by simp;omega
     have t8:(z==46)=false:=by simp;omega
     have t9:(z==95)=false:=by simp;omega
     have t10:(z==45)=false:=by simp;omega
     have t11:(z==61)=false:=by simp;omega
     have HV:Hid (okCh s[k].toNat=false):=HC.out.trans (by rw[t3,t4,t5,t6,t7,t8,t9,t10,t11];rfl)
     have HE2:=hide (HE.out.trans (by rw[if_neg (by rw[HV.out];decide)]))
     clear hc HE HC HV
     go_wp2
     go_roundw
     case rel=>exact⟨k+1,out,by omega,ho,rfl,by go_num,HK.out,HE2.out⟩
     case measure=>simp[intOf];omega
    ·have t3:decide ((97:Int)≤z)=true:=decide_eq_true (by omega)
     have t4:decide (z≤(122:Int))=true:=decide_eq_true (by omega)
     have t5:decide ((48:Int)≤z)=true:=decide_eq_true (by omega)
     have t6:decide (z≤(57:Int))=false:=decide_eq_false (by omega)
     have t7:(z==36)=false:=by simp;omega
     have t8:(z==46)=false:=by simp;omega
     have t9:(z==95)=false:=by simp;omega
     have t10:(z==45)=false:=by simp;omega
     have t11:(z==61)=false:=by simp;omega
     have HV:Hid (okCh s[k].toNat=true):=HC.out.trans (by rw[t3,t4,t5,t6,t7,t8,t9,t10,t11];rfl)
     have HE2:=hide (HE.out.trans (by rw[if_pos HV.out]))
     clear hc HE HC HV
     have hcat:¬9223372036854775807<out.size+1:=by omega
     go_wp2
     go_roundw
     case rel=>exact⟨k+1,out++oneB s[k],by omega,by rw[ByteArray.size_append];show out.size+1≤30;omega,by rw[HB.out],by go_num,HK.out.alloc _,HE2.out⟩
     case measure=>simp[intOf];omega
    ·have t3:decide ((97:Int)≤z)=false:=decide_eq_false (by omega)
     have t4:decide (z≤(122:Int))=true:=decide_eq_true (by omega)
     have t5:decide ((48:Int)≤z)=true:=decide_eq_true (by omega)
     have t6:decide (z≤(57:Int))=true:=decide_eq_true (by omega)
     have t7:(z==36)=false:=by simp;omega
     have t8:(z==46)=false:=by simp;omega
     have t9:(z==95)=false:=by simp;omega
     have t10:(z==45)=false:=by simp;omega
     have t11:(z==61)=false:=by simp;omega
     have HV:Hid (okCh s[k].toNat=true):=HC.out.trans (by rw[t3,t4,t5,t6,t7,t8,t9,t10,t11];rfl)
     have HE2:=hide (HE.out.trans (by rw[if_pos HV.out]))
     clear hc HE HC HV
     have hcat:¬9223372036854775807<out.size+1:=by omega
     go_wp2
     go_roundw
     case rel=>exact⟨k+1,out++oneB s[k],by omega,by rw[ByteArray.size_append];show out.size+1≤30;omega,by rw[HB.out],by go_num,HK.out.alloc _,HE2.out⟩
     case measure=>simp[intOf];omega
    ·have t3:decide ((97:Int)≤z)=false:=decide_eq_false (by omega)
     have t4:decide (z≤(122:Int))=true:=decide_eq_true (by omega)
     have t5:decide ((48:Int)≤z)=true:=decide_eq_true (by omega)
     have t6:decide (z≤(57:Int))=false:=decide_eq_false (by omega)
     have t7:(z==36)=false:=by simp;omega
     have t8:(z==46)=false:=by simp;omega
     have t9:(z==95)=true:=by simp;omega
     have t10:(z==45)=false:=by simp;omega
     have t11:(z==61)=false:=by simp;omega
     have HV:Hid (okCh s[k].toNat=true):=HC.out.trans (by rw[t3,t4,t5,t6,t7,t8,t9,t10,t11];rfl)
     have HE2:=hide (HE.out.trans (by rw[if_pos HV.out]))
     clear hc HE HC HV
     have hcat:¬9223372036854775807<out.size+1:=by omega
     go_wp2
     go_roundw
     case rel=>exact⟨k+1,out++oneB s[k],by omega,by rw[ByteArray.size_append];show out.size+1≤30;omega,by rw[HB.out],by go_num,HK.out.alloc _,HE2.out⟩
     case measure=>simp[intOf];omega
    ·have t3:decide ((97:Int)≤z)=false:=decide_eq_false (by omega)
     have t4:decide (z≤(122:Int))=true:=decide_eq_true (by omega)
     have t5:decide ((48:Int)≤z)=true:=decide_eq_true (by omega)
     have t6:decide (z≤(57:Int))=false:=decide_eq_false (by omega)
     have t7:(z==36)=false:=by simp;omega
     have t8:(z==46)=false:=by simp;omega
     have t9:(z==95)=false:=by simp;omega
     have t10:(z==45)=false:=by simp;omega
     have t11:(z==61)=true:=by simp;omega
     have HV:Hid (okCh s[k].toNat=true):=HC.out.trans (by rw[t3,t4,t5,t6,t7,t8,t9,t10,t11];rfl)
     have HE2:=hide (HE.out.trans (by rw[if_pos HV.out]))
     clear hc HE HC HV
     have hcat:¬9223372036854775807<out.size+1:=by omega
     go_wp2
     go_roundw
     case rel=>exact⟨k+1,out++oneB s[k],by omega,by rw[ByteArray.size_append];show out.size+1≤30;omega,by rw[HB.out],by go_num,HK.out.alloc _,HE2.out⟩
     case measure=>simp[intOf];omega
    ·have t3:decide ((97:Int)≤z)=false:=decide_eq_false (by omega)
     have t4:decide (z≤(122:Int))=true:=decide_eq_true (by omega)
     have t5:decide ((48:Int)≤z)=true:=decide_eq_true (by omega)
     have t6:decide (z≤(57:Int))=false:=decide_eq_false (by omega)
     have t7:(z==36)=false:=by simp;omega
     have t8:(z==46)=false:=by simp;omega
     have t9:(z==95)=false:=by simp;omega
     have t10:(z==45)=false:=by simp;omega
     have t11:(z==61)=false:=by simp;omega
     have HV:Hid (okCh s[k].toNat=false):=HC.out.trans (by rw[t3,t4,t5,t6,t7,t8,t9,t10,t11];rfl)
     have HE2:=hide (HE.out.trans (by rw[if_neg (by rw[HV.out];decide)]))
     clear hc HE HC HV
     go_wp2
     go_roundw
     case rel=>exact⟨k+1,out,by omega,ho,rfl,by go_num,HK.out,HE2.out⟩
     case measure=>simp[intOf];omega
    ·have t3:decide ((97:Int)≤z)=false:=decide_eq_false (by omega)
     have t4:decide (z≤(122:Int))=true:=decide_eq_true (by omega)
     have t5:decide ((48:Int)≤z)=false:=decide_eq_false (by omega)
     have t6:decide (z≤(57:Int))=true:=decide_eq_true (by omega)
     have t7:(z==36)=true:=by simp;omega
     have t8:(z==46)=false:=by simp;omega
     have t9:(z==95)=false:=by simp;omega
     have t10:(z==45)=false:=by simp;omega
     have t11:(z==61)=false:=by simp;omega
     have HV:Hid (okCh s[k].toNat=true):=HC.out.trans (by rw[t3,t4,t5,t6,t7,t8,t9,t10,t11];rfl)
     have HE2:=hide (HE.out.trans (by rw[if_pos HV.out]))
     clear hc HE HC HV
     have hcat:¬9223372036854775807<out.size+1:=by omega
     go_wp2
     go_roundw
     case rel=>exact⟨k+1,out++oneB s[k],by omega,by rw[ByteArray.size_append];show out.size+1≤30;omega,by rw[HB.out],by go_num,HK.out.alloc _,HE2.out⟩
     case measure=>simp[intOf];omega
    ·have t3:decide ((97:Int)≤z)=false:=decide_eq_false (by omega)
     have t4:decide (z≤(122:Int))=true:=decide_eq_true (by omega)
     have t5:decide ((48:Int)≤z)=false:=decide_eq_false (by omega)
     have t6:decide (z≤(57:Int))=true:=decide_eq_true (by omega)
     have t7:(z==36)=false:=by simp;omega
     have t8:(z==46)=true:=by simp;omega
     have t9:(z==95)=false:=by simp;omega
     have t10:(z==45)=false:=by simp;omega
     have t11:(z==61)=false:=by simp;omega
     have HV:Hid (okCh s[k].toNat=true):=HC.out.trans (by rw[t3,t4,t5,t6,t7,t8,t9,t10,t11];rfl)
     have HE2:=hide (HE.out.trans (by rw[if_pos HV.out]))
     clear hc HE HC HV
     have hcat:¬9223372036854775807<out.size+1:=by omega
     go_wp2
     go_roundw
     case rel=>exact⟨k+1,out++oneB s[k],by omega,by rw[ByteArray.size_append];show out.size+1≤30;omega,by rw[HB.out],by go_num,HK.out.alloc _,HE2.out⟩
     case measure=>simp[intOf];omega
    ·have t3:decide ((97:Int)≤z)=false:=decide_eq_false (by omega)
     have t4:decide (z≤(122:Int))=true:=decide_eq_true (by omega)
     have t5:decide ((48:Int)≤z)=false:=decide_eq_false (by omega)
     have t6:decide (z≤(57:Int))=true:=decide_eq_true (by omega)
     have t7:(z==36)=false:=by simp;omega
     have t8:(z==46)=false:=by simp;omega
     have t9:(z==95)=false:=by simp;omega
     have t10:(z==45)=true:=by simp;omega
     have t11:(z==61)=false:=by simp;omega
     have HV:Hid (okCh s[k].toNat=true):=HC.out.trans (by rw[t3,t4,t5,t6,t7,t8,t9,t10,t11];rfl)
     have HE2:=hide (HE.out.trans (by rw[if_pos HV.out]))
     clear hc HE HC HV
     have hcat:¬9223372036854775807<out.size+1:=by omega
     go_wp2
     go_roundw
     case rel=>exact⟨k+1,out++oneB s[k],by omega,by rw[ByteArray.size_append];show out.size+1≤30;omega,by rw[HB.out],by go_num,HK.out.alloc _,HE2.out⟩
     case measure=>simp[intOf];omega
    ·have t3:decide ((97:Int)≤z)=false:=decide_eq_false (by omega)
     have t4:decide (z≤(122:Int))=true:=decide_eq_true (by omega)
     have t5:decide ((48:Int)≤z)=false:=decide_eq_false (by omega)
     have t6:decide (z≤(57:Int))=true:=decide_eq_true (by omega)
     have t7:(z==36)=false:=by simp;omega
     have t8:(z==46)=false:=by simp;omega
     have t9:(z==95)=false:=by simp;omega
     have t10:(z==45)=false:=by simp;omega
     have t11:(z==61)=false:=by simp;omega
     have HV:Hid (okCh s[k].toNat=false):=HC.out.trans (by rw[t3,t4,t5,t6,t7,t8,t9,t10,t11];rfl)
     have HE2:=hide (HE.out.trans (by rw[if_neg (by rw[HV.out];decide)]))
     clear hc HE HC HV
     go_wp2
     go_roundw
     case rel=>exact⟨k+1,out,by omega,ho,rfl,by go_num,HK.out,HE2.out⟩
     case measure=>simp[intOf];omega
   ·have hlo:¬(out.size:Int)<30:=by omega
    have HE:=hide (HA.out.trans (plG_stop (fun c=>ho2 c.2)))
    clear HA
    by_cases h0:out.size=0
    ·omega
    have HV:Hid (plainM s=out):=by
     show _=_
     rw[HP.out,HE.out,if_neg h0]
    have tE:out.toList.isEmpty=false:=by rw[ByteArray.toList_eq];simp[List.isEmpty_iff];intro c;apply h0;show out.data.size=0;rw[c];rfl
    clear HP HE h0
    go_wp2
    go_ret
    exact⟨by rw[HV.out];rfl,HK.out⟩
  ·have hlt:¬(k:Int)<(s.size:Int):=by omega
   have HE:=hide (HA.out.trans (plG_stop (fun c=>hk2 c.1)))
   clear HA
   by_cases h0:out.size=0
   ·have HV:Hid (plainM s=⟨#[120]⟩):=by
     show _=_
     rw[HP.out,HE.out,if_pos h0]
    have tE:out.toList.isEmpty=true:=by rw[ByteArray.toList_eq];simp[List.isEmpty_iff];exact Array.eq_empty_of_size_eq_zero h0
    clear HP HE h0
    go_wp2
    go_ret
    exact⟨by rw[HV.out];rfl,HK.out⟩
   ·have HV:Hid (plainM s=out):=by
     show _=_
     rw[HP.out,HE.out,if_neg h0]
    have tE:out.toList.isEmpty=false:=by rw[ByteArray.toList_eq];simp[List.isEmpty_iff];intro c;apply h0;show out.data.size=0;rw[c];rfl
    clear HP HE h0
    go_wp2
    go_ret
    exact⟨by rw[HV.out];rfl,HK.out⟩
end
end Go.Proofs.YtkmofapihggjgaaGreatDoor
