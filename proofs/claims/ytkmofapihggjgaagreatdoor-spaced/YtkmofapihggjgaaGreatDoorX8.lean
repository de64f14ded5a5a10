import Derived.Test.YtkmofapihggjgaaGreatDoorX7
namespace Go.Proofs.YtkmofapihggjgaaGreatDoor
section
open Go.RowKit
structure InsT where
 word:Nat
 typed:Bool
 gives:List Nat
 align:Int
 num:Int
 labels:List Nat
 value:Int
structure MS where
 i:Nat
 kT:List Nam
 kF:List Nam
 kG:List Nam
 fT:List Nam
 fF:List Nam
 fG:List Nam
 no:List (Nat×Nat)
 ty:List (List Nat×List Nat)
 fu:List Nat
 ta:List Lim
 me:List Lim
 gl:List Glb
 st:List Nat
 el:List (Cst×List Nat)
 co:List (List Nat×List InsT)
 da:List Cst
 lo:List (Nat×List Nam)
 ex:List (ByteArray×Nat×Nat)
structure VS where
 kT:Value
 kF:Value
 kG:Value
 fT:Value
 fF:Value
 fG:Value
 no:Value
 ty:Value
 fu:Value
 ta:Value
 me:Value
 gl:Value
 st:Value
 el:Value
 co:Value
 da:Value
 nf:Value
 lo:Value
 ex:Value
 xty:List Value
 xel:List Value
 xco:List Value
 xlo:List Value
def noC (x:Nat×Nat):List Value:=[.int .i64 (x.1:Nat),.int .i64 (x.2:Nat)]
def nuC (n:Nat):List Value:=[.int .u32 (n:Nat),.int .i64 0]
def exC (x:ByteArray×Nat×Nat):List Value:=[.int .i64 0,.string x.1,.int .u8 (x.2.1:Nat),.int .u32 (x.2.2:Nat),.int .i64 0]
def daC (c:Cst):List Value:=[.int .i64 0,.int .i64 (c.at_:Nat),.int .u8 (c.kind:Nat),.int .i64 c.val,.string ⟨#[]⟩]
abbrev ZA (mw mb:Nat) (v:VS):List Value:=[.map (some mw),v.kT,v.kF,v.kG,v.fT,v.fF,v.fG,.pointer (some ⟨mb,0,none⟩),v.no]
abbrev RA (mw mb:Nat) (v:VS) (s:MS) (tl:List It):List It:=
 .m mw 256 (wordsD 256)::.r 38 2 v.no s.no.length (s.no.flatMap noC)::
 .r 135 2 v.kT s.kT.length (s.kT.flatMap namCells)::.r 135 2 v.kF s.kF.length (s.kF.flatMap namCells)::.r 135 2 v.kG s.kG.length (s.kG.flatMap namCells)::
 .r 135 2 v.fT s.fT.length (s.fT.flatMap namCells)::.r 135 2 v.fF s.fF.length (s.fF.flatMap namCells)::.r 135 2 v.fG s.fG.length (s.fG.flatMap namCells)::
 .b mb [v.ty,v.fu,v.ta,v.me,v.gl,v.ex,v.st,v.el,v.co,v.da,v.nf,v.lo]::
 .r 47 2 v.ty s.ty.length v.xty::.r 66 2 v.fu s.fu.length (s.fu.flatMap nuC)::.r 70 4 v.ta s.ta.length (s.ta.flatMap Lim.cells)::.r 70 4 v.me s.me.length (s.me.flatMap Lim.cells)::
 .r 77 5 v.gl s.gl.length (s.gl.flatMap Glb.cells)::.r 66 2 v.st s.st.length (s.st.flatMap nuC)::.r 86 5 v.el s.el.length v.xel::.r 92 2 v.co s.co.length v.xco::
 .r 96 5 v.da s.da.length (s.da.flatMap daC)::.r 139 2 v.lo s.lo.length v.xlo::.r 81 5 v.ex s.ex.length (s.ex.flatMap exC)::tl
abbrev LA (ab tg cap mw mb:Nat) (T:List Tok) (v:VS) (s:MS) (tl:List It):List It:=AL ab tg cap T s.i (ZA mw mb v) (RA mw mb v s tl)
structure TT (T:List Tok):Prop where
 len:T.length≤100000
 small:∀t∈T,t.2.2.size≤100
def indexT (T:List Tok) (ns:List Nam) (i:Nat):Except Err ((Nat×Bool)×Nat×List (Nat×Nat)):=match T[i]? with
 | none=>.error (0,0)
 | some t=>if idA t=true then(match idxO ns (idRest t) with | some k=>.ok ((k,true),nx T i,[]) | none=>.ok ((0,false),nx T i,[(9,t.2.1)])) else(match numberM T i with | .ok (n,j)=>.ok ((n,true),j,[]) | .error e=>.error e)
def declT (T:List Tok) (ns:List Nam) (n i:Nat):Bool×List Nam×Nat×List (Nat×Nat):=match T[i]? with
 | none=>(false,ns,i,[])
 | some t=>if idA t=true then(match idxO ns (idRest t) with | some _=>(true,ns,nx T i,[(6,t.2.1)]) | none=>(true,ns++[(n,idRest t)],nx T i,[])) else(false,ns,i,[])
theorem idxO_mem:∀{ns:List Nam} {x:ByteArray} {k:Nat},idxO ns x=some k→∃p∈ns,p.1=k
 | [],_,_,h=>by cases h
 | p::l,x,k,h=>by
  unfold idxO at h
  split at h
  ·cases h;exact⟨p,List.mem_cons_self,rfl⟩
  ·obtain⟨q,hq,e⟩:=idxO_mem h
   exact⟨q,List.mem_cons_of_mem _ hq,e⟩
section
variable {w0 w:World} {ab tg cap mw mb:Nat} {T:List Tok} {v:VS} {s:MS} {tl:List It}
theorem LA.no_eq {j:Nat} {q:Value} {e p:Nat} {xs:List Value} (hx:xs=s.no.flatMap noC++[.int .i64 (e:Nat),.int .i64 (p:Nat)]):
  AL ab tg cap T j ((ZA mw mb v).set 8 q) ((RA mw mb v s tl).set 1 (.r 38 2 q (s.no.length+1) xs))=LA ab tg cap mw mb T {v with no:=q} {s with i:=j,no:=s.no++[(e,p)]} tl:=by
 subst hx
 simp[LA,RA,ZA,noC]
theorem asIndex_all {kr:Nat} {vv:Value} {ns:List Nam} (h:Sx w0 w (LA ab tg cap mw mb T v s tl)) (hg:Ge w0) (hT:TT T) (hi:s.i<T.length) (hr:(RA mw mb v s tl)[kr]?=some (.r 135 2 vv ns.length (ns.flatMap namCells))) (hn:ns.length≤1000) (hk:∀x∈ns,x.1≤100000) (hno:s.no.length≤100000):
  Calls Tryz.prog 123 #[.pointer (some ⟨ab,0,none⟩),vv] w (OutX w0 (indexT T ns s.i) fun x e w'=>e=.returned (.tuple #[.agg #[.int .u32 (x.1.1:Nat),.int .i64 0],.bool x.1.2])∧∃q,Sx w0 w' (LA ab tg cap mw mb T {v with no:=q} {s with i:=x.2.1,no:=s.no++x.2.2} tl)):=by
 obtain⟨t,ht⟩:∃t,T[s.i]?=some t:=⟨_,List.getElem?_eq_getElem hi⟩
 have hz:=hT.small t (List.mem_of_getElem? ht)
 cases hid:idA t with
 | false=>
  refine(asIndex_num h hg ht hT.len hz hid vv).mono ?_
  intro e w' h1
  unfold indexT
  rw[ht]
  simp only[hid]
  cases hn:numberM T s.i with
  | error q=>rw[hn] at h1;exact h1
  | ok y=>
   rw[hn] at h1
   obtain⟨rfl,h1⟩:=h1
   exact⟨rfl,v.no,by simpa using h1⟩
 | true=>
  cases hx:idxO ns (idRest t) with
  | none=>
   refine(asIndex_missA h ht hT.len hz hid hr hx hn (z:=ZA mw mb v) rfl (kq:=1) rfl hno).mono ?_
   rintro e w' ⟨rfl,q,h1⟩
   unfold indexT
   rw[ht]
   simp only[hid,if_true,hx]
   refine⟨rfl,q,?_⟩
   have h2:=LA.no_eq (ab:=ab) (tg:=tg) (cap:=cap) (mw:=mw) (mb:=mb) (T:=T) (v:=v) (s:=s) (tl:=tl) (j:=nx T s.i) (q:=q) (e:=9) (p:=t.2.1) rfl
   exact h2▸h1
  | some k=>
   obtain⟨p,hp,rfl⟩:=idxO_mem hx
   refine(asIndex_idA h ht hT.len hz hid (kr:=kr+2) (by simpa using hr) hx (hk p hp) hn).mono ?_
   rintro e w' ⟨rfl,h1⟩
   unfold indexT
   rw[ht]
   simp only[hid,if_true,hx]
   exact⟨rfl,v.no,by simpa using h1⟩
theorem asDeclare_fT (h:Sx w0 w (LA ab tg cap mw mb T v s tl)) (hT:TT T) (hi:s.i<T.length) (n:Nat) (hn:s.fT.length≤1000) (hno:s.no.length≤100000):
  Calls Tryz.prog 110 #[.pointer (some ⟨ab,0,none⟩),.pointer (some ⟨ab,6,none⟩),.int .i64 (n:Nat)] w (fun e w'=>e=.returned (.bool (declT T s.fT n s.i).1)∧∃q1 q,Sx w0 w' (LA ab tg cap mw mb T {v with fT:=q1,no:=q} {s with i:=(declT T s.fT n s.i).2.2.1,fT:=(declT T s.fT n s.i).2.1,no:=s.no++(declT T s.fT n s.i).2.2.2} tl)):=by
 obtain⟨t,ht⟩:∃t,T[s.i]?=some t:=⟨_,List.getElem?_eq_getElem hi⟩
 have hz:=hT.small t (List.mem_of_getElem? ht)
 unfold declT
 rw[ht]
 cases hid:idA t with
 | false=>
  refine(asDeclare_noA h ht hz hid _ _).mono ?_
  rintro e w' ⟨rfl,h1⟩
  simp only[hid]
  exact⟨rfl,v.fT,v.no,by simpa using h1⟩
 | true=>
  simp only[hid,if_true]
  cases hx:idxO s.fT (idRest t) with
  | none=>
   refine(asDeclare_yesA h ht hT.len hz hid (kb:=0) (kr:=7) (pb:=ab) (po:=6) rfl rfl rfl hx hn).mono ?_
   rintro e w' ⟨rfl,q,h1⟩
   exact⟨rfl,q,v.no,by simpa [LA,AL,RA,ZA] using h1⟩
  | some k=>
   refine(asDeclare_twice h ht hT.len hz hid (kb:=0) (kr:=7) (pb:=ab) (po:=6) rfl rfl rfl hx hn (z:=ZA mw mb v) rfl (kq:=1) rfl hno).mono ?_
   rintro e w' ⟨rfl,q,h1⟩
   refine⟨rfl,v.fT,q,?_⟩
   have h2:=LA.no_eq (ab:=ab) (tg:=tg) (cap:=cap) (mw:=mw) (mb:=mb) (T:=T) (v:=v) (s:=s) (tl:=tl) (j:=nx T s.i) (q:=q) (e:=6) (p:=t.2.1) rfl
   exact h2▸h1
theorem asDeclare_fF (h:Sx w0 w (LA ab tg cap mw mb T v s tl)) (hT:TT T) (hi:s.i<T.length) (n:Nat) (hn:s.fF.length≤1000) (hno:s.no.length≤100000):
  Calls Tryz.prog 110 #[.pointer (some ⟨ab,0,none⟩),.pointer (some ⟨ab,7,none⟩),.int .i64 (n:Nat)] w (fun e w'=>e=.returned (.bool (declT T s.fF n s.i).1)∧∃q1 q,Sx w0 w' (LA ab tg cap mw mb T {v with fF:=q1,no:=q} {s with i:=(declT T s.fF n s.i).2.2.1,fF:=(declT T s.fF n s.i).2.1,no:=s.no++(declT T s.fF n s.i).2.2.2} tl)):=by
 obtain⟨t,ht⟩:∃t,T[s.i]?=some t:=⟨_,List.getElem?_eq_getElem hi⟩
 have hz:=hT.small t (List.mem_of_getElem? ht)
 unfold declT
 rw[ht]
 cases hid:idA t with
 | false=>
  refine(asDeclare_noA h ht hz hid _ _).mono ?_
  rintro e w' ⟨rfl,h1⟩
  simp only[hid]
  exact⟨rfl,v.fF,v.no,by simpa using h1⟩
 | true=>
  simp only[hid,if_true]
  cases hx:idxO s.fF (idRest t) with
  | none=>
   refine(asDeclare_yesA h ht hT.len hz hid (kb:=0) (kr:=8) (pb:=ab) (po:=7) rfl rfl rfl hx hn).mono ?_
   rintro e w' ⟨rfl,q,h1⟩
   exact⟨rfl,q,v.no,by simpa [LA,AL,RA,ZA] using h1⟩
  | some k=>
   refine(asDeclare_twice h ht hT.len hz hid (kb:=0) (kr:=8) (pb:=ab) (po:=7) rfl rfl rfl hx hn (z:=ZA mw mb v) rfl (kq:=1) rfl hno).mono ?_
   rintro e w' ⟨rfl,q,h1⟩
   refine⟨rfl,v.fF,q,?_⟩
   have h2:=LA.no_eq (ab:=ab) (tg:=tg) (cap:=cap) (mw:=mw) (mb:=mb) (T:=T) (v:=v) (s:=s) (tl:=tl) (j:=nx T s.i) (q:=q) (e:=6) (p:=t.2.1) rfl
   exact h2▸h1
theorem asDeclare_fG (h:Sx w0 w (LA ab tg cap mw mb T v s tl)) (hT:TT T) (hi:s.i<T.length) (n:Nat) (hn:s.fG.length≤1000) (hno:s.no.length≤100000):
  Calls Tryz.prog 110 #[.pointer (some ⟨ab,0,none⟩),.pointer (some ⟨ab,8,none⟩),.int .i64 (n:Nat)] w (fun e w'=>e=.returned (.bool (declT T s.fG n s.i).1)∧∃q1 q,Sx w0 w' (LA ab tg cap mw mb T {v with fG:=q1,no:=q} {s with i:=(declT T s.fG n s.i).2.2.1,fG:=(declT T s.fG n s.i).2.1,no:=s.no++(declT T s.fG n s.i).2.2.2} tl)):=by
 obtain⟨t,ht⟩:∃t,T[s.i]?=some t:=⟨_,List.getElem?_eq_getElem hi⟩
 have hz:=hT.small t (List.mem_of_getElem? ht)
 unfold declT
 rw[ht]
 cases hid:idA t with
 | false=>
  refine(asDeclare_noA h ht hz hid _ _).mono ?_
  rintro e w' ⟨rfl,h1⟩
  simp only[hid]
  exact⟨rfl,v.fG,v.no,by simpa using h1⟩
 | true=>
  simp only[hid,if_true]
  cases hx:idxO s.fG (idRest t) with
  | none=>
   refine(asDeclare_yesA h ht hT.len hz hid (kb:=0) (kr:=9) (pb:=ab) (po:=8) rfl rfl rfl hx hn).mono ?_
   rintro e w' ⟨rfl,q,h1⟩
   exact⟨rfl,q,v.no,by simpa [LA,AL,RA,ZA] using h1⟩
  | some k=>
   refine(asDeclare_twice h ht hT.len hz hid (kb:=0) (kr:=9) (pb:=ab) (po:=8) rfl rfl rfl hx hn (z:=ZA mw mb v) rfl (kq:=1) rfl hno).mono ?_
   rintro e w' ⟨rfl,q,h1⟩
   refine⟨rfl,v.fG,q,?_⟩
   have h2:=LA.no_eq (ab:=ab) (tg:=tg) (cap:=cap) (mw:=mw) (mb:=mb) (T:=T) (v:=v) (s:=s) (tl:=tl) (j:=nx T s.i) (q:=q) (e:=6) (p:=t.2.1) rfl
   exact h2▸h1
end
end
section
open Go.RowKit Go.Maps
def wordH (s:ByteArray):Bool:=Maps.has (wordsD 256) (.string s.data.toList)
def wordN (s:ByteArray):Nat:=match(wordsD 256).atKey (.string s.data.toList) (.lit (.int .u8 0)) with
 | .lit (.int _ c)=>c.toNat
 | _=>0
theorem look_any {w:World} {mw:Nat} {s:ByteArray} (h:w.ownsMap Tryz.prog 9 (plainElem Tryz.prog 5) mw 256 (wordsD 256)) (hs:s.size≤100):
  (Instr.lookup 104 (.map (some mw)) (.string s) true).run Tryz.prog w=.ok (.tuple #[.int .u8 (wordN s:Nat),.bool (wordH s)]) w∧wordN s<256:=by
 obtain⟨v,ps,h1,h2⟩:=h.look_ok law (t:=104) (e:=5) (by kernel_rfl) (words_zero _) (plainElem_int Tryz.underlying5 (by decide)) (WideMaps.keyOf_string_mk Tryz.underlying9 (s:=s) (by unfold maxLen;omega))
 obtain⟨c,rfl,hc,hw⟩:=plainElem_int_inv Tryz.underlying5 h2
 have e:=congrArg Prod.fst hc
 simp only at e
 have hb:0≤c∧c<256:=by
  have h9:IntKind.u8.min≤c∧c≤IntKind.u8.max:=by simpa [Lit.wf] using hw
  have e1:IntKind.u8.min=0:=by decide
  have e2:IntKind.u8.max=255:=by decide
  omega
 have ew:wordN s=c.toNat:=by unfold wordN;rw[e]
 rw[ew,show((c.toNat:Nat):Int)=c from by omega]
 exact⟨h1,by omega⟩
theorem look1_any {w:World} {mw:Nat} {s:ByteArray} (h:w.ownsMap Tryz.prog 9 (plainElem Tryz.prog 5) mw 256 (wordsD 256)) (hs:s.size≤100):
  (Instr.lookup 104 (.map (some mw)) (.string s) false).run Tryz.prog w=.ok (.int .u8 (wordN s:Nat)) w:=by
 obtain⟨c,h1,e,hw⟩:=h.lookup_int law (t:=104) (e:=5) (by kernel_rfl) Tryz.underlying5 (words_zero _) (WideMaps.keyOf_string_mk Tryz.underlying9 (s:=s) (by unfold maxLen;omega))
 have hb:0≤c∧c<256:=by
  have h9:IntKind.u8.min≤c∧c≤IntKind.u8.max:=by simpa [Lit.wf] using hw
  have e1:IntKind.u8.min=0:=by decide
  have e2:IntKind.u8.max=255:=by decide
  omega
 have ew:wordN s=c.toNat:=by unfold wordN;rw[e]
 rw[ew,show((c.toNat:Nat):Int)=c from by omega]
 exact h1
def closeM (T:List Tok) (i:Nat):Except Err Nat:=match T[i]? with
 | none=>.error (0,0)
 | some t=>if t.1=2 then(match T[nx T i]? with | some t2=>.error (7,t2.2.1) | none=>.error (0,0)) else if t.1=3 then .ok (nx T i) else .error (7,t.2.1)
section
variable {w0 w:World} {ab tg cap i:Nat} {T:List Tok} {z:List Value} {r:List It} {t t2:Tok}
set_option maxRecDepth 100000 in
theorem asClose_all (h:Sx w0 w (AL ab tg cap T i z r)) (hl:T.length≤100000) (hi:i<T.length):
  Calls Tryz.prog 98 #[.pointer (some ⟨ab,0,none⟩)] w (OutX w0 (closeM T i) fun x=>Ans w0 (.tuple #[]) (AL ab tg cap T x z r)):=by
 obtain⟨t,ht⟩:∃t,T[i]?=some t:=⟨_,List.getElem?_eq_getElem hi⟩
 obtain⟨t2,ht2⟩:∃t,T[nx T i]?=some t:=⟨_,List.getElem?_eq_getElem (nx_ok hi)⟩
 have hff:=tokF
 have te:∀u:Tok,tokV u=.agg #[.int .u8 (u.1:Nat),.int .i64 (u.2.1:Nat),.string u.2.2]:=fun _=>rfl
 have HT:=hide ht
 have HT2:=hide ht2
 by_cases h2:t.1=2
 ·have HM:Hid (closeM T i=.error (7,t2.2.1)):=by show _=_;unfold closeM;simp[ht,ht2,h2]
  have t32:((t.1:Int)==2)=true:=by rw[h2];rfl
  have H:=hide h
  clear h ht ht2 h2
  go_enter Tryz.func98,Tryz.ntmps98
  go_wp2_with fail
  refine(tPeek_any H.out HT.out).mono ?_
  rintro e w1 ⟨rfl,h1⟩
  rw[te]
  have H1:=hide h1
  clear h1 H
  go_wp2_with fail
  refine(tSecond_any H1.out HT2.out hl hi).mono ?_
  rintro e w2 ⟨rfl,h3⟩
  have K:=hide h3.kept
  clear h3 H1
  go_wp2_with fail
  refine(tkRefuse_any t2 _).mono ?_
  rintro e w4 ⟨rfl,k4⟩
  exact⟨rfl,OutX.err_mk HM.out ⟨rfl,K.out.trans k4⟩⟩
 ·have t32:((t.1:Int)==2)=false:=by simp;omega
  by_cases h3:t.1=3
  ·exact(asClose_any h ht hl h3).mono fun e w' hh=>OutX.ok_mk (by unfold closeM;simp[ht,h3]) hh
  ·have HM:Hid (closeM T i=.error (7,t.2.1)):=by show _=_;unfold closeM;simp[ht,h2,h3]
   have H3:=hide h3
   have H:=hide h
   clear h ht ht2 h2 h3
   go_enter Tryz.func98,Tryz.ntmps98
   go_wp2_with fail
   refine(tPeek_any H.out HT.out).mono ?_
   rintro e w1 ⟨rfl,h1⟩
   rw[te]
   have H1:=hide h1
   clear h1 H
   go_wp2_with fail
   refine(tTake_bad H1.out HT.out (q:=3) H3.out).mono ?_
   rintro e w2 ⟨rfl,k2⟩
   exact⟨rfl,OutX.err_mk HM.out ⟨rfl,k2⟩⟩
end
end
section
open Go.RowKit Go.Maps
section
variable {w0 w:World} {ab tg cap i:Nat} {T:List Tok} {z:List Value} {r:List It} {t t2:Tok}
def constT (T:List Tok) (i:Nat):Except Err (Cst×Nat):=match takeT T 2 i with
 | .error e=>.error e
 | .ok (_,j)=>match takeT T 5 j with
  | .error e=>.error e
  | .ok (t,k)=>if wordN t.2.2=65 then(match signedM 32 T k with
    | .error e=>.error e
    | .ok (n,l)=>match takeT T 3 l with
     | .error e=>.error e
     | .ok (_,m)=>.ok (⟨0,127,n⟩,m))
   else if wordN t.2.2=66 then(match signedM 64 T k with
    | .error e=>.error e
    | .ok (n,l)=>match takeT T 3 l with
     | .error e=>.error e
     | .ok (_,m)=>.ok (⟨0,126,n⟩,m))
   else .error (7,t.2.1)
theorem takeT_nx {T:List Tok} {q i j:Nat} {t:Tok} (h:takeT T q i=.ok (t,j)):T[i]?=some t∧t.1=q∧j=nx T i:=by
 unfold takeT at h
 split at h
 ·split at h
  ·cases h;exact⟨by assumption,by assumption,rfl⟩
  ·cases h
 ·cases h
theorem signedM_nx {T:List Tok} {q i j:Nat} {n:Int} (h:signedM q T i=.ok (n,j)):j=nx T i:=by
 unfold signedM at h
 split at h
 ·rename_i t' j' h'
  have:=(takeT_nx h').2.2
  subst this
  split at h<;>(try split at h)<;>cases h<;>rfl
 ·cases h
set_option maxRecDepth 100000 in
set_option maxHeartbeats 1600000 in
theorem asConstant_all {mw km:Nat} (h:Sx w0 w (AL ab tg cap T i z r)) (hg:Ge w0) (hT:TT T) (hi:i<T.length) (hz0:z[0]?=some (.map (some mw))) (hm:r[km]?=some (.m mw 256 (wordsD 256))):
  Calls Tryz.prog 120 #[.pointer (some ⟨ab,0,none⟩)] w (OutX w0 (constT T i) fun x=>Ans w0 (.agg #[.int .i64 (x.1.at_:Nat),.int .u8 (x.1.kind:Nat),.int .i64 x.1.val]) (AL ab tg cap T x.2 z r)):=by
 obtain⟨t,ht⟩:∃t,T[i]?=some t:=⟨_,List.getElem?_eq_getElem hi⟩
 have hi2:=nx_ok hi
 have hi3:=nx_ok hi2
 have hi4:=nx_ok hi3
 obtain⟨t2,ht2⟩:∃t,T[nx T i]?=some t:=⟨_,List.getElem?_eq_getElem hi2⟩
 obtain⟨t3,ht3⟩:∃t,T[nx T (nx T i)]?=some t:=⟨_,List.getElem?_eq_getElem hi3⟩
 obtain⟨t4,ht4⟩:∃t,T[nx T (nx T (nx T i))]?=some t:=⟨_,List.getElem?_eq_getElem hi4⟩
 have hs2:=hT.small t2 (List.mem_of_getElem? ht2)
 have hs3:=hT.small t3 (List.mem_of_getElem? ht3)
 have hl:=hT.len
 have HT:=hide ht
 have HT2:=hide ht2
 have HT3:=hide ht3
 have HT4:=hide ht4
 have HG:=hide hg
 have H:=hide ((h.new #[.int .i64 0,.int .u8 0,.int .i64 0] 75).new #[.int .i64 0,.int .u8 0,.int .i64 0] 75)
 have hw1:∀o,(w.alloc o).heap.size=w.heap.size+1:=fun o=>by simp
 rw[hw1] at H
 clear h hg ht ht2 ht3 ht4
 generalize hrb:w.heap.size=rb at*
 go_enter Tryz.func120,Tryz.ntmps120
 go_wp2_with fail
 refine(tTake_all (r:=r++[.b rb [.int .i64 0,.int .u8 0,.int .i64 0]]++[.b (rb+1) [.int .i64 0,.int .u8 0,.int .i64 0]]) H.out HT.out hl 2).mono ?_
 intro e w1 h1
 cases hn1:takeT T 2 i with
 | error q=>
  rw[hn1] at h1
  obtain⟨rfl,hk⟩:=h1
  exact⟨rfl,OutX.err_mk (by unfold constT;rw[hn1]) ⟨rfl,hk⟩⟩
 | ok x=>
 obtain⟨ta,j⟩:=x
 obtain⟨-,-,rfl⟩:=takeT_nx hn1
 rw[hn1] at h1
 obtain⟨rfl,h1⟩:=h1
 simp only at h1 ⊢
 have HM1:=hide hn1
 have H1:=hide h1
 clear h1 hn1 H hrb hw1
 go_wp2_with fail
 refine(tTake_all H1.out HT2.out hl 5).mono ?_
 intro e w2 h2
 cases hn2:takeT T 5 (nx T i) with
 | error q=>
  rw[hn2] at h2
  obtain⟨rfl,hk⟩:=h2
  exact⟨rfl,OutX.err_mk (by unfold constT;rw[HM1.out];simp only;rw[hn2]) ⟨rfl,hk⟩⟩
 | ok x=>
 obtain⟨tb',j⟩:=x
 obtain⟨he,-,rfl⟩:=takeT_nx hn2
 obtain rfl:t2=tb':=by rw[HT2.out] at he;exact Option.some.inj he
 rw[hn2] at h2
 obtain⟨rfl,h2⟩:=h2
 simp only at h2 ⊢
 have HM2:=hide hn2
 obtain⟨c,p,s⟩:=t2
 rw[show tokV (c,p,s)=.agg #[.int .u8 (c:Nat),.int .i64 (p:Nat),.string s] from rfl]
 have h3:=h2.new #[.int .u8 (c:Nat),.int .i64 (p:Nat),.string s] 144
 obtain⟨b1,-⟩:=h3.c 0 2 (v:=.map (some mw)) rfl (by simpa using hz0)
 have m1:=h3.lt 0
 obtain⟨k0,-⟩:=h3.cL 0
 obtain⟨k1,-⟩:=h3.cL 1
 obtain⟨k2,-⟩:=h3.cL 2
 have mt:=h3.ltL
 have hmm:(AL ab tg cap T (nx T (nx T i)) z (r++[.b rb [.int .i64 0,.int .u8 0,.int .i64 0]]++[.b (rb+1) [.int .i64 0,.int .u8 0,.int .i64 0]]++[.b w2.heap.size [.int .u8 (c:Nat),.int .i64 (p:Nat),.string s]]))[km+2]?=some (.m mw 256 (wordsD 256)):=by
  have:=List.getElem?_eq_some_iff.mp hm
  obtain⟨hlt,_⟩:=this
  simp only[List.getElem?_cons_succ]
  rw[List.append_assoc,List.append_assoc,List.getElem?_append_left hlt]
  exact hm
 have hlook:∀n,(Instr.lookup 104 (.map (some mw)) (.string s) false).run Tryz.prog ((w2.alloc (.cells #[.int .u8 (c:Nat),.int .i64 (p:Nat),.string s] 144)).drewN n)=.ok (.int .u8 (wordN s:Nat)) ((w2.alloc (.cells #[.int .u8 (c:Nat),.int .i64 (p:Nat),.string s] 144)).drewN n):=fun n=>look1_any ((h3.drewN n).map _ hmm) hs2
 have hh3:∀n,Sx w0 ((w2.alloc (.cells #[.int .u8 (c:Nat),.int .i64 (p:Nat),.string s] 144)).drewN n) (AL ab tg cap T (nx T (nx T i)) z (r++[.b rb [.int .i64 0,.int .u8 0,.int .i64 0]]++[.b (rb+1) [.int .i64 0,.int .u8 0,.int .i64 0]]++[.b w2.heap.size [.int .u8 (c:Nat),.int .i64 (p:Nat),.string s]])):=fun n=>h3.drewN n
 have HH3:=hide hh3
 clear h2 h3 hn2 H1 hh3 hmm he
 go_wp2_with fail
 go_quiet (fail)
 have H2:=hide (HH3.out nq)
 clear HH3 hlook b1 m1 k0 k1 k2 mt
 generalize (w2.alloc (.cells #[.int .u8 (c:Nat),.int .i64 (p:Nat),.string s] 144)).drewN nq=wq at*
 generalize w2.heap.size=tb at*
 by_cases hw65:wordN s=65
 ·have HN:Hid (wordN s=65):=hw65
  have t1:((wordN s:Int)==65)=true:=by rw[hw65];rfl
  clear hw65
  go_wp2_with fail
  refine(asSigned32_all H2.out HG.out HT3.out hl hs3).mono ?_
  intro e w3 h4
  cases hn:signedM 32 T (nx T (nx T i)) with
  | error q=>
   rw[hn] at h4
   obtain⟨rfl,hk⟩:=h4
   exact⟨rfl,OutX.err_mk (by unfold constT;rw[HM1.out];simp only;rw[HM2.out];simp[HN.out,hn]) ⟨rfl,hk⟩⟩
  | ok x=>
   obtain⟨n,j⟩:=x
   have hj:=signedM_nx hn
   subst hj
   rw[hn] at h4
   obtain⟨rfl,h4⟩:=h4
   simp only at h4 ⊢
   rw[AL.app,AL.app,AL.app] at h4
   obtain⟨a0,e0⟩:=h4.left.cL 0
   obtain⟨a1,e1⟩:=h4.left.cL 1
   obtain⟨a2,e2⟩:=h4.left.cL 2
   have hlb:=h4.left.ltL
   have h5:=(h4.setM 1 (.int .u8 127)).setM 2 (.int .i64 n)
   simp only[List.set] at h5
   have HN2:=hide hn
   have H5:Hid (Sx w0 _ (AL ab tg cap T (nx T (nx T (nx T i))) z (r++[.b rb [.int .i64 0,.int .u8 0,.int .i64 0]]++[.b (rb+1) [.int .i64 0,.int .u8 127,.int .i64 n]]++[.b tb [.int .u8 (c:Nat),.int .i64 (p:Nat),.string s]]))):=h5
   clear h4 h5 hn H2
   go_wp2_with fail
   refine(tTake_all H5.out HT4.out hl 3).mono ?_
   intro e w4 h6
   cases hn4:takeT T 3 (nx T (nx T (nx T i))) with
   | error q=>
    rw[hn4] at h6
    obtain⟨rfl,hk⟩:=h6
    exact⟨rfl,OutX.err_mk (by unfold constT;rw[HM1.out];simp only;rw[HM2.out];simp[HN.out,HN2.out,hn4]) ⟨rfl,hk⟩⟩
   | ok x=>
    obtain⟨t5,j⟩:=x
    rw[hn4] at h6
    obtain⟨rfl,h6⟩:=h6
    have HM:Hid (constT T i=.ok (⟨0,127,n⟩,j)):=by show _=_;unfold constT;rw[HM1.out];simp only;rw[HM2.out];simp[HN.out,HN2.out,hn4]
    simp only at h6 ⊢
    rw[AL.app,AL.app,AL.app] at h6
    have h7:=h6.left
    obtain⟨f0,-⟩:=h7.cL 0
    obtain⟨f1,-⟩:=h7.cL 1
    obtain⟨f2,-⟩:=h7.cL 2
    obtain⟨b0,d0⟩:=h7.cM 0
    obtain⟨b1,d1⟩:=h7.cM 1
    obtain⟨b2,d2⟩:=h7.cM 2
    have hrb:=h7.left.ltL
    have h8:=((h7.setM 0 (.int .i64 0)).setM 1 (.int .u8 127)).setM 2 (.int .i64 n)
    obtain⟨y0,-⟩:=h8.cM 0
    obtain⟨y1,-⟩:=h8.cM 1
    obtain⟨y2,-⟩:=h8.cM 2
    have H8:=hide h8.left.left
    clear h6 h7 h8 hn4 H5
    go_wp2
    refine bodyPost_ret (v:=.agg #[.int .i64 0,.int .u8 127,.int .i64 n]) ?_ rfl ?_
    ·simp[results,Tryz.results120,go_sem,y0,y1,y2]
    ·exact OutX.ok_mk HM.out ⟨rfl,H8.out⟩
 ·by_cases hw66:wordN s=66
  ·have HN:Hid (wordN s=66):=hw66
   have t1:((wordN s:Int)==65)=false:=by simp;omega
   have t2:((wordN s:Int)==66)=true:=by rw[hw66];rfl
   clear hw66
   go_wp2_with fail
   refine(asSigned64_all H2.out HG.out HT3.out hl hs3).mono ?_
   intro e w3 h4
   cases hn:signedM 64 T (nx T (nx T i)) with
   | error q=>
    rw[hn] at h4
    obtain⟨rfl,hk⟩:=h4
    exact⟨rfl,OutX.err_mk (by unfold constT;rw[HM1.out];simp only;rw[HM2.out];simp[HN.out,hn]) ⟨rfl,hk⟩⟩
   | ok x=>
    obtain⟨n,j⟩:=x
    have hj:=signedM_nx hn
    subst hj
    rw[hn] at h4
    obtain⟨rfl,h4⟩:=h4
    simp only at h4 ⊢
    rw[AL.app,AL.app,AL.app] at h4
    obtain⟨a0,e0⟩:=h4.left.cL 0
    obtain⟨a1,e1⟩:=h4.left.cL 1
    obtain⟨a2,e2⟩:=h4.left.cL 2
    have hlb:=h4.left.ltL
    have h5:=(h4.setM 1 (.int .u8 126)).setM 2 (.int .i64 n)
    simp only[List.set] at h5
    have HN2:=hide hn
    have H5:Hid (Sx w0 _ (AL ab tg cap T (nx T (nx T (nx T i))) z (r++[.b rb [.int .i64 0,.int .u8 0,.int .i64 0]]++[.b (rb+1) [.int .i64 0,.int .u8 126,.int .i64 n]]++[.b tb [.int .u8 (c:Nat),.int .i64 (p:Nat),.string s]]))):=h5
    clear h4 h5 hn H2
    go_wp2_with fail
    refine(tTake_all H5.out HT4.out hl 3).mono ?_
    intro e w4 h6
    cases hn4:takeT T 3 (nx T (nx T (nx T i))) with
    | error q=>
     rw[hn4] at h6
     obtain⟨rfl,hk⟩:=h6
     exact⟨rfl,OutX.err_mk (by unfold constT;rw[HM1.out];simp only;rw[HM2.out];simp[HN.out,HN2.out,hn4]) ⟨rfl,hk⟩⟩
    | ok x=>
     obtain⟨t5,j⟩:=x
     rw[hn4] at h6
     obtain⟨rfl,h6⟩:=h6
     have HM:Hid (constT T i=.ok (⟨0,126,n⟩,j)):=by show _=_;unfold constT;rw[HM1.out];simp only;rw[HM2.out];simp[HN.out,HN2.out,hn4]
     simp only at h6 ⊢
     rw[AL.app,AL.app,AL.app] at h6
     have h7:=h6.left
     obtain⟨f0,-⟩:=h7.cL 0
     obtain⟨f1,-⟩:=h7.cL 1
     obtain⟨f2,-⟩:=h7.cL 2
     obtain⟨b0,d0⟩:=h7.cM 0
     obtain⟨b1,d1⟩:=h7.cM 1
     obtain⟨b2,d2⟩:=h7.cM 2
     have hrb:=h7.left.ltL
     have h8:=((h7.setM 0 (.int .i64 0)).setM 1 (.int .u8 126)).setM 2 (.int .i64 n)
     obtain⟨y0,-⟩:=h8.cM 0
     obtain⟨y1,-⟩:=h8.cM 1
     obtain⟨y2,-⟩:=h8.cM 2
     have H8:=hide h8.left.left
     clear h6 h7 h8 hn4 H5
     go_wp2
     refine bodyPost_ret (v:=.agg #[.int .i64 0,.int .u8 126,.int .i64 n]) ?_ rfl ?_
     ·simp[results,Tryz.results120,go_sem,y0,y1,y2]
     ·exact OutX.ok_mk HM.out ⟨rfl,H8.out⟩
  ·have HN:Hid (¬wordN s=65∧¬wordN s=66):=⟨hw65,hw66⟩
   have t1:((wordN s:Int)==65)=false:=by simp;omega
   have t2:((wordN s:Int)==66)=false:=by simp;omega
   clear hw65 hw66
   have hq:=H2.out
   rw[AL.app,AL.app,AL.app] at hq
   obtain⟨q0,-⟩:=hq.cL 0
   obtain⟨q1,-⟩:=hq.cL 1
   obtain⟨q2,-⟩:=hq.cL 2
   have K:=hide H2.out.kept
   clear H2 hq
   go_wp2_with fail
   refine(tkRefuse_any (c,p,s) _).mono ?_
   rintro e w4 ⟨rfl,k4⟩
   exact⟨rfl,OutX.err_mk (x:=(7,p)) (by unfold constT;rw[HM1.out];simp only;rw[HM2.out];simp[HN.out.1,HN.out.2]) ⟨rfl,K.out.trans k4⟩⟩
end
end
section
open Go.RowKit
def VSame (a b:VS):Prop:=a.xty=b.xty∧a.xel=b.xel∧a.xco=b.xco∧a.xlo=b.xlo
def ItemV (w0:World) (ab tg cap mw mb:Nat) (T:List Tok) (v0:VS) (tl:List It) (s:MS) (e:Ending) (w':World):Prop:=e=.returned (.tuple #[])∧∃v,VSame v0 v∧Sx w0 w' (LA ab tg cap mw mb T v s tl)
def startT (T:List Tok) (s:MS):Except Err MS:=match indexT T s.kF s.i with
 | .error e=>.error e
 | .ok (x,j,ns)=>.ok {s with i:=j,no:=s.no++ns,st:=s.st++[x.1]}
theorem Tryz.info66':(Tryz.prog.info? 66).map (fun i=>(i.zero,i.size,i.bytes))=some (some (.agg #[.int .u32 0,.int .i64 0]),2,16):=by kernel_rfl
section
variable {w0 w:World} {ab tg cap mw mb:Nat} {T:List Tok} {v:VS} {s:MS} {tl:List It}
set_option maxRecDepth 100000 in
set_option maxHeartbeats 3200000 in
theorem asStart_all (h:Sx w0 w (LA ab tg cap mw mb T v s tl)) (hg:Ge w0) (hT:TT T) (hi:s.i<T.length) (hn:s.kF.length≤1000) (hk:∀x∈s.kF,x.1≤100000) (hno:s.no.length≤100000) (hst:s.st.length≤1000):
  Calls Tryz.prog 95 #[.pointer (some ⟨ab,0,none⟩)] w (OutX w0 (startT T s) (ItemV w0 ab tg cap mw mb T v tl)):=by
 obtain⟨i0,hi0,hz0,hz1,hz2⟩:=info_parts Tryz.info66'
 obtain⟨a4,-⟩:=h.c 0 4 rfl rfl
 have l0:=h.lt 0 rfl
 have H:=hide h
 have HG:=hide hg
 have HI:=hide hi
 have HK:=hide hk
 clear h hg hi hk
 go_enter Tryz.func95,Tryz.ntmps95
 go_wp2_with fail
 refine(asIndex_all (kr:=3) H.out HG.out hT HI.out rfl hn HK.out hno).mono ?_
 intro e w1 h1
 cases hx:indexT T s.kF s.i with
 | error q=>
  rw[hx] at h1
  obtain⟨rfl,hk⟩:=h1
  exact⟨rfl,OutX.err_mk (by unfold startT;rw[hx]) ⟨rfl,hk⟩⟩
 | ok x=>
 obtain⟨⟨n,b⟩,j,ns⟩:=x
 rw[hx] at h1
 obtain⟨rfl,q,h1⟩:=h1
 have HM:Hid (startT T s=.ok {s with i:=j,no:=s.no++ns,st:=s.st++[n]}):=by show _=_;unfold startT;rw[hx]
 simp only at h1 ⊢
 have hst':({s with i:=j,no:=s.no++ns}:MS).st.length≤1000:=hst
 rw[show({s with i:=j,no:=s.no++ns,st:=s.st++[n]}:MS)={({s with i:=j,no:=s.no++ns}:MS) with st:=({s with i:=j,no:=s.no++ns}:MS).st++[n]} from rfl] at HM
 generalize ({s with i:=j,no:=s.no++ns}:MS)=s1 at*
 have HV:Hid (VSame v {v with no:=q}):=⟨rfl,rfl,rfl,rfl⟩
 generalize ({v with no:=q}:VS)=v1 at*
 have h2:=h1.new #[.int .u32 (n:Nat),.int .i64 0] 66
 have H2:=hide h2
 clear h1 h2 hx H a4 l0 hst
 have H9:=H2
 clear H2
 go_wp2_with fail
 generalize w1.alloc (.cells #[.int .u32 (n:Nat),.int .i64 0] 66)=w5 at*
 generalize w1.heap.size=ub at*
 obtain⟨pE,cE,hE⟩:=Row.shape (H9.out.isRow 16 rfl)
 have hS:∀V:World,Sx w0 V (LA ab tg cap mw mb T v1 s1 tl++[.b ub [.int .u32 (n:Nat),.int .i64 0]])→(fun V:World=>V.cell? ⟨ab,9,none⟩=some (.pointer (some ⟨mb,0,none⟩))∧V.cell? ⟨mb,6,none⟩=some (.slice pE s1.st.length cE)∧V.cell? ⟨ub,0,none⟩=some (.int .u32 (n:Nat))∧V.cell? ⟨ub,1,none⟩=some (.int .i64 0)) V:=fun V hV=>⟨(hV.c 0 9 rfl rfl).1,(hV.c 10 6 rfl rfl).1.trans (congrArg some hE),(hV.cL 0).1,(hV.cL 1).1⟩
 have hS0:=hS _ H9.out.drew
 refine regK (fun V:World=>V.cell? ⟨ab,9,none⟩=some (.pointer (some ⟨mb,0,none⟩))∧V.cell? ⟨mb,6,none⟩=some (.slice pE s1.st.length cE)∧V.cell? ⟨ub,0,none⟩=some (.int .u32 (n:Nat))∧V.cell? ⟨ub,1,none⟩=some (.int .i64 0)) 16 ?_
 iterate 12 refine tkk hS0 (h:=?_) (hy:=by(refine Or.inl ⟨by rfl,?_⟩;intro V hV;obtain⟨u0,u1,g0,g1⟩:=hV;go_simp;try with_reducible rfl))
 have h10:=H9.out.drew.alloc (.cells #[.int .u32 (n:Nat),.int .i64 0] 66)
 refine oneK (fun K hK=>?_)
 go_simp
 refine hK _ _ (.inr (hS _ h10)) ?_
 clear hK K
 have HOwn:=h10.row 16 rfl
 rw[hE] at HOwn
 refine oneK (fun K hK=>?_)
 refine step_append_lies _ (by rfl) (.tmp 24) (.tmp 26) 49 (by rfl) w0.heap.size 66 i0 (.agg #[.int .u32 0,.int .i64 0]) 2 16 (by kernel_rfl) hi0 hz0 hz1 hz2 rfl (by decide) (.slice pE s1.st.length cE) s1.st.length (s1.st.flatMap nuC) (by rfl) HOwn ⟨w5.heap.size,0,none⟩ 1 1 [.int .u32 (n:Nat),.int .i64 0] (by rfl) rfl (cells_at (by simp) rfl) ?c2 (by omega) ?c3 ?c4 ?c5 (w5.heap.size+1) (by simp) ?_
 case c2=>intro u hu;simp at hu;rcases hu with rfl | rfl<;>rfl
 case c3=>unfold maxLen;omega
 case c4=>omega
 case c5=>exact h10.kept.size
 intro gg cp w6 hown hgrow hat hlt6
 have h11:=h10.app 16 (v:=v1.st) hown (by rw[hE];exact hgrow) (by rw[hE];exact hat.imp id (fun e=>by rw[e];simp)) rfl
 have h12:Sx w0 w6 ((LA ab tg cap mw mb T v1 s1 tl).set 16 (.r 66 2 (.slice (some ⟨gg,0,none⟩) (s1.st.length+1) cp) (s1.st.length+1) ((s1.st.flatMap nuC)++[.int .u32 (n:Nat),.int .i64 0]))++[.b ub [.int .u32 (n:Nat),.int .i64 0]]):=h11
 have hS4:(fun V:World=>V.cell? ⟨ab,9,none⟩=some (.pointer (some ⟨mb,0,none⟩))∧V.cell? ⟨mb,6,none⟩=some (.slice pE s1.st.length cE)∧V.cell? ⟨ub,0,none⟩=some (.int .u32 (n:Nat))∧V.cell? ⟨ub,1,none⟩=some (.int .i64 0)) w6:=⟨(h12.c 0 9 rfl rfl).1,(h12.c 10 6 rfl rfl).1.trans (congrArg some hE),(h12.cL 0).1,(h12.cL 1).1⟩
 refine hK _ _ (.inr hS4) ?_
 clear hK K
 simp only[Act.put,List.setIfInBounds_toArray,List.set_cons_zero,List.set_cons_succ]
 iterate 2 refine tkk hS4 (h:=?_)
 obtain⟨c0,c1⟩:=h12.c 10 6 rfl rfl
 have mm:=h12.lt 10 rfl
 have h13:=h12.left.set 10 6 (.slice (some ⟨gg,0,none⟩) (s1.st.length+1) cp) rfl
 have h14:Sx w0 (w6.setCell ⟨mb,6,none⟩ (.slice (some ⟨gg,0,none⟩) (s1.st.length+1) cp)) (LA ab tg cap mw mb T {v1 with st:=.slice (some ⟨gg,0,none⟩) (s1.st.length+1) cp} {s1 with st:=s1.st++[n]} tl):=by
  simpa [LA,AL,RA,ZA,nuC] using h13
 refine lastK (fun K hK=>?_)
 go_simp
 refine hK _ _ ?_
 clear hK K
 have H14:=hide h14
 generalize (w6.setCell ⟨mb,6,none⟩ (.slice (some ⟨gg,0,none⟩) (s1.st.length+1) cp))=W7 at*
 clear h14 h13 h12 h11 h10 hS4 hS0 hS c0 c1 mm HOwn hown hgrow hat hlt6
 go_wp2
 go_end0
 refine OutX.ok_mk HM.out ⟨rfl,_,?_,H14.out⟩
 exact HV.out
end
end
section
open Go.RowKit
theorem step_callX {P:Program} {ops:Array Oper} {o:Oper} {a:Act} {w:World} {K:Act→World→Prop} {Q:Exit→Act→World→Prop} {E:Prop} {f:FuncId} {args:Array Value} {R:Ending→World→Prop} (hgd:o.guard=none)
  (hex:(execOp a.eval o).run P w=.ok (.enter f args) w) (hc:Calls P f args w R) (h:∀e w',R e w'→(∃v,e=.returned v∧K (a.put o.dst v) w')∨(∃c,e=.panicked c∧Q (.panic c) a w')):
  if Region.wanted o (yielded ops a.tmps)=true then Oper.wp P o a w K Q else E:=by
 have hw:Region.wanted o (yielded ops a.tmps)=true:=by simp[Region.wanted,hgd]
 rw[if_pos hw]
 unfold Oper.wp
 rw[hex]
 refine hc.mono ?_
 intro e w' hr
 rcases h e w' hr with⟨v,rfl,hk⟩ | ⟨c,rfl,hk⟩
 ·exact hk
 ·exact hk
theorem Tryz.info70':(Tryz.prog.info? 70).map (fun i=>(i.zero,i.size,i.bytes))=some (some (.agg #[.int .i64 0,.int .u32 0,.int .u32 0,.bool false]),4,24):=by kernel_rfl
theorem limitsM_at {T:List Tok} {i j:Nat} {l:Lim} (h:limitsM T i=.ok (l,j)):l.at_=0:=by
 unfold limitsM at h
 split at h
 ·cases h
 ·split at h
  ·cases h
  ·split at h
   ·split at h
    ·cases h;rfl
    ·cases h
   ·cases h;rfl
section
variable {w0 w:World} {ab tg cap mw mb:Nat} {T:List Tok} {v:VS} {s:MS} {tl:List It}
def taT (T:List Tok) (s:MS):Except Err MS:=match limitsM T s.i with
 | .error e=>.error e
 | .ok (l,j)=>.ok {s with i:=j,ta:=s.ta++[l]}
set_option maxRecDepth 100000 in
set_option maxHeartbeats 3200000 in
theorem asTable_all (h:Sx w0 w (LA ab tg cap mw mb T v s tl)) (hg:Ge w0) (hT:TT T) (hi:s.i<T.length) (hn:s.ta.length≤1000):
  Calls Tryz.prog 91 #[.pointer (some ⟨ab,0,none⟩)] w (OutX w0 (taT T s) (ItemV w0 ab tg cap mw mb T v tl)):=by
 obtain⟨i0,hi0,hz0,hz1,hz2⟩:=info_parts Tryz.info70'
 obtain⟨pE,cE,hE⟩:=Row.shape (h.isRow 13 rfl)
 have H:=hide h
 have HG:=hide hg
 have HI:=hide hi
 clear h hg hi
 go_enter Tryz.func91,Tryz.ntmps91
 go_wp2_with fail
 have hS:∀(V:World) (j:Nat),Sx w0 V (LA ab tg cap mw mb T v {s with i:=j} tl)→(fun V:World=>V.cell? ⟨ab,9,none⟩=some (.pointer (some ⟨mb,0,none⟩))∧V.cell? ⟨mb,2,none⟩=some (.slice pE s.ta.length cE)) V:=fun V j hV=>⟨(hV.c 0 9 rfl rfl).1,(hV.c 10 2 rfl rfl).1.trans (congrArg some hE)⟩
 have hS0:=hS _ s.i H.out.drew
 refine regK (fun V:World=>V.cell? ⟨ab,9,none⟩=some (.pointer (some ⟨mb,0,none⟩))∧V.cell? ⟨mb,2,none⟩=some (.slice pE s.ta.length cE)) 17 ?_
 iterate 12 refine tkk hS0 (h:=?_) (hy:=by(refine Or.inl ⟨by rfl,?_⟩;intro V hV;obtain⟨u0,u1⟩:=hV;go_simp;try with_reducible rfl))
 refine oneK (fun K hK=>?_)
 refine step_callX (f:=118) (args:= #[.pointer (some ⟨ab,0,none⟩)]) (by rfl) (by go_simp) (asLimits_all H.out.drew HG.out HI.out hT.len hT.small) ?_
 intro e w5 h1
 cases hx:limitsM T s.i with
 | error q=>
  rw[hx] at h1
  obtain⟨rfl,hk⟩:=h1
  exact .inr ⟨_,rfl,⟨rfl,OutX.err_mk (by unfold taT;rw[hx]) ⟨rfl,hk⟩⟩⟩
 | ok x=>
 obtain⟨l,j⟩:=x
 have hat0:=limitsM_at hx
 rw[hx] at h1
 obtain⟨rfl,h1⟩:=h1
 have HM:Hid (taT T s=.ok {s with i:=j,ta:=s.ta++[l]}):=by show _=_;unfold taT;rw[hx]
 simp only at h1
 have h1':Sx w0 w5 (LA ab tg cap mw mb T v {s with i:=j} tl):=h1
 refine .inl ⟨_,rfl,hK _ _ (.inr (hS _ j h1')) ?_⟩
 clear hK K hS0 hx h1 H
 simp only[Act.put,List.setIfInBounds_toArray,List.set_cons_zero,List.set_cons_succ]
 have h10:=h1'.alloc (.cells #[.int .i64 0,.int .u32 l.least,.int .u32 l.most,.bool l.has] 70)
 refine oneK (fun K hK=>?_)
 go_simp
 refine hK _ _ (.inr (hS _ j h10)) ?_
 clear hK K
 have HOwn:=h10.row 13 rfl
 rw[hE] at HOwn
 refine oneK (fun K hK=>?_)
 refine step_append_lies _ (by rfl) (.tmp 12) (.tmp 15) 50 (by rfl) w0.heap.size 70 i0 (.agg #[.int .i64 0,.int .u32 0,.int .u32 0,.bool false]) 4 24 (by kernel_rfl) hi0 hz0 hz1 hz2 rfl (by decide) (.slice pE s.ta.length cE) s.ta.length (s.ta.flatMap Lim.cells) (by rfl) HOwn ⟨w5.heap.size,0,none⟩ 1 1 [.int .i64 0,.int .u32 l.least,.int .u32 l.most,.bool l.has] (by rfl) rfl (cells_at (by simp) rfl) ?c2 (by omega) ?c3 ?c4 ?c5 (w5.heap.size+1) (by simp) ?_
 case c2=>intro u hu;simp at hu;rcases hu with rfl | rfl | rfl | rfl<;>rfl
 case c3=>unfold maxLen;omega
 case c4=>omega
 case c5=>exact h10.kept.size
 intro gg cp w6 hown hgrow hat hlt6
 have h11:=h10.app 13 (v:=v.ta) hown (by rw[hE];exact hgrow) (by rw[hE];exact hat.imp id (fun e=>by rw[e];simp)) rfl
 have h12:Sx w0 w6 ((LA ab tg cap mw mb T v {s with i:=j} tl).set 13 (.r 70 4 (.slice (some ⟨gg,0,none⟩) (s.ta.length+1) cp) (s.ta.length+1) (s.ta.flatMap Lim.cells++[.int .i64 0,.int .u32 l.least,.int .u32 l.most,.bool l.has]))):=h11
 have hS4:(fun V:World=>V.cell? ⟨ab,9,none⟩=some (.pointer (some ⟨mb,0,none⟩))∧V.cell? ⟨mb,2,none⟩=some (.slice pE s.ta.length cE)) w6:=⟨(h12.c 0 9 rfl rfl).1,(h12.c 10 2 rfl rfl).1.trans (congrArg some hE)⟩
 refine hK _ _ (.inr hS4) ?_
 clear hK K
 simp only[Act.put,List.setIfInBounds_toArray,List.set_cons_zero,List.set_cons_succ]
 iterate 2 refine tkk hS4 (h:=?_)
 obtain⟨c0,c1⟩:=h12.c 10 2 rfl rfl
 have mm:=h12.lt 10 rfl
 have h13:=h12.set 10 2 (.slice (some ⟨gg,0,none⟩) (s.ta.length+1) cp) rfl
 have h14:Sx w0 (w6.setCell ⟨mb,2,none⟩ (.slice (some ⟨gg,0,none⟩) (s.ta.length+1) cp)) (LA ab tg cap mw mb T {v with ta:=.slice (some ⟨gg,0,none⟩) (s.ta.length+1) cp} {s with i:=j,ta:=s.ta++[l]} tl):=by
  simpa [LA,AL,RA,ZA,Lim.cells,hat0] using h13
 refine lastK (fun K hK=>?_)
 go_simp
 refine hK _ _ ?_
 clear hK K
 have H14:=hide h14
 generalize (w6.setCell ⟨mb,2,none⟩ (.slice (some ⟨gg,0,none⟩) (s.ta.length+1) cp))=W7 at*
 clear h14 h13 h12 h11 h10 hS4 hS c0 c1 mm HOwn hown hgrow hat hlt6
 go_wp2
 go_end0
 refine OutX.ok_mk HM.out ⟨rfl,_,?_,H14.out⟩
 exact⟨rfl,rfl,rfl,rfl⟩
def meT (T:List Tok) (s:MS):Except Err MS:=match limitsM T s.i with
 | .error e=>.error e
 | .ok (l,j)=>.ok {s with i:=j,me:=s.me++[l]}
set_option maxRecDepth 100000 in
set_option maxHeartbeats 3200000 in
theorem asMemory_all (h:Sx w0 w (LA ab tg cap mw mb T v s tl)) (hg:Ge w0) (hT:TT T) (hi:s.i<T.length) (hn:s.me.length≤1000):
  Calls Tryz.prog 92 #[.pointer (some ⟨ab,0,none⟩)] w (OutX w0 (meT T s) (ItemV w0 ab tg cap mw mb T v tl)):=by
 obtain⟨i0,hi0,hz0,hz1,hz2⟩:=info_parts Tryz.info70'
 obtain⟨pE,cE,hE⟩:=Row.shape (h.isRow 14 rfl)
 have H:=hide h
 have HG:=hide hg
 have HI:=hide hi
 clear h hg hi
 go_enter Tryz.func92,Tryz.ntmps92
 go_wp2_with fail
 have hS:∀(V:World) (j:Nat),Sx w0 V (LA ab tg cap mw mb T v {s with i:=j} tl)→(fun V:World=>V.cell? ⟨ab,9,none⟩=some (.pointer (some ⟨mb,0,none⟩))∧V.cell? ⟨mb,3,none⟩=some (.slice pE s.me.length cE)) V:=fun V j hV=>⟨(hV.c 0 9 rfl rfl).1,(hV.c 10 3 rfl rfl).1.trans (congrArg some hE)⟩
 have hS0:=hS _ s.i H.out.drew
 refine regK (fun V:World=>V.cell? ⟨ab,9,none⟩=some (.pointer (some ⟨mb,0,none⟩))∧V.cell? ⟨mb,3,none⟩=some (.slice pE s.me.length cE)) 17 ?_
 iterate 12 refine tkk hS0 (h:=?_) (hy:=by(refine Or.inl ⟨by rfl,?_⟩;intro V hV;obtain⟨u0,u1⟩:=hV;go_simp;try with_reducible rfl))
 refine oneK (fun K hK=>?_)
 refine step_callX (f:=118) (args:= #[.pointer (some ⟨ab,0,none⟩)]) (by rfl) (by go_simp) (asLimits_all H.out.drew HG.out HI.out hT.len hT.small) ?_
 intro e w5 h1
 cases hx:limitsM T s.i with
 | error q=>
  rw[hx] at h1
  obtain⟨rfl,hk⟩:=h1
  exact .inr ⟨_,rfl,⟨rfl,OutX.err_mk (by unfold meT;rw[hx]) ⟨rfl,hk⟩⟩⟩
 | ok x=>
 obtain⟨l,j⟩:=x
 have hat0:=limitsM_at hx
 rw[hx] at h1
 obtain⟨rfl,h1⟩:=h1
 have HM:Hid (meT T s=.ok {s with i:=j,me:=s.me++[l]}):=by show _=_;unfold meT;rw[hx]
 simp only at h1
 have h1':Sx w0 w5 (LA ab tg cap mw mb T v {s with i:=j} tl):=h1
 refine .inl ⟨_,rfl,hK _ _ (.inr (hS _ j h1')) ?_⟩
 clear hK K hS0 hx h1 H
 simp only[Act.put,List.setIfInBounds_toArray,List.set_cons_zero,List.set_cons_succ]
 have h10:=h1'.alloc (.cells #[.int .i64 0,.int .u32 l.least,.int .u32 l.most,.bool l.has] 70)
 refine oneK (fun K hK=>?_)
 go_simp
 refine hK _ _ (.inr (hS _ j h10)) ?_
 clear hK K
 have HOwn:=h10.row 14 rfl
 rw[hE] at HOwn
 refine oneK (fun K hK=>?_)
 refine step_append_lies _ (by rfl) (.tmp 12) (.tmp 15) 50 (by rfl) w0.heap.size 70 i0 (.agg #[.int .i64 0,.int .u32 0,.int .u32 0,.bool false]) 4 24 (by kernel_rfl) hi0 hz0 hz1 hz2 rfl (by decide) (.slice pE s.me.length cE) s.me.length (s.me.flatMap Lim.cells) (by rfl) HOwn ⟨w5.heap.size,0,none⟩ 1 1 [.int .i64 0,.int .u32 l.least,.int .u32 l.most,.bool l.has] (by rfl) rfl (cells_at (by simp) rfl) ?c2 (by omega) ?c3 ?c4 ?c5 (w5.heap.size+1) (by simp) ?_
 case c2=>intro u hu;simp at hu;rcases hu with rfl | rfl | rfl | rfl<;>rfl
 case c3=>unfold maxLen;omega
 case c4=>omega
 case c5=>exact h10.kept.size
 intro gg cp w6 hown hgrow hat hlt6
 have h11:=h10.app 14 (v:=v.me) hown (by rw[hE];exact hgrow) (by rw[hE];exact hat.imp id (fun e=>by rw[e];simp)) rfl
 have h12:Sx w0 w6 ((LA ab tg cap mw mb T v {s with i:=j} tl).set 14 (.r 70 4 (.slice (some ⟨gg,0,none⟩) (s.me.length+1) cp) (s.me.length+1) (s.me.flatMap Lim.cells++[.int .i64 0,.int .u32 l.least,.int .u32 l.most,.bool l.has]))):=h11
 have hS4:(fun V:World=>V.cell? ⟨ab,9,none⟩=some (.pointer (some ⟨mb,0,none⟩))∧V.cell? ⟨mb,3,none⟩=some (.slice pE s.me.length cE)) w6:=⟨(h12.c 0 9 rfl rfl).1,(h12.c 10 3 rfl rfl).1.trans (congrArg some hE)⟩
 refine hK _ _ (.inr hS4) ?_
 clear hK K
 simp only[Act.put,List.setIfInBounds_toArray,List.set_cons_zero,List.set_cons_succ]
 iterate 2 refine tkk hS4 (h:=?_)
 obtain⟨c0,c1⟩:=h12.c 10 3 rfl rfl
 have mm:=h12.lt 10 rfl
 have h13:=h12.set 10 3 (.slice (some ⟨gg,0,none⟩) (s.me.length+1) cp) rfl
 have h14:Sx w0 (w6.setCell ⟨mb,3,none⟩ (.slice (some ⟨gg,0,none⟩) (s.me.length+1) cp)) (LA ab tg cap mw mb T {v with me:=.slice (some ⟨gg,0,none⟩) (s.me.length+1) cp} {s with i:=j,me:=s.me++[l]} tl):=by
  simpa [LA,AL,RA,ZA,Lim.cells,hat0] using h13
 refine lastK (fun K hK=>?_)
 go_simp
 refine hK _ _ ?_
 clear hK K
 have H14:=hide h14
 generalize (w6.setCell ⟨mb,3,none⟩ (.slice (some ⟨gg,0,none⟩) (s.me.length+1) cp))=W7 at*
 clear h14 h13 h12 h11 h10 hS4 hS c0 c1 mm HOwn hown hgrow hat hlt6
 go_wp2
 go_end0
 refine OutX.ok_mk HM.out ⟨rfl,_,?_,H14.out⟩
 exact⟨rfl,rfl,rfl,rfl⟩
end
end
section
open Go.RowKit
theorem Tryz.info96':(Tryz.prog.info? 96).map (fun i=>(i.zero,i.size,i.bytes))=some (some (.agg #[.int .i64 0,.int .i64 0,.int .u8 0,.int .i64 0,.string ⟨#[]⟩]),5,48):=by kernel_rfl
def dataT (T:List Tok) (s:MS):Except Err MS:=match constT T s.i with
 | .error e=>.error e
 | .ok (c,j)=>.ok {s with i:=j,da:=s.da++[c]}
theorem constT_lt {T:List Tok} {i j:Nat} {c:Cst} (hi:i<T.length) (h:constT T i=.ok (c,j)):j<T.length:=by
 unfold constT at h
 split at h
 ·cases h
 ·rename_i h1
  obtain⟨-,-,rfl⟩:=takeT_nx h1
  split at h
  ·cases h
  ·rename_i h2
   obtain⟨-,-,rfl⟩:=takeT_nx h2
   split at h
   ·split at h
    ·cases h
    ·rename_i h3
     obtain rfl:=signedM_nx h3
     split at h
     ·cases h
     ·rename_i h4
      obtain⟨-,-,rfl⟩:=takeT_nx h4
      cases h
      exact nx_ok (nx_ok (nx_ok (nx_ok hi)))
   ·split at h
    ·split at h
     ·cases h
     ·rename_i h3
      obtain rfl:=signedM_nx h3
      split at h
      ·cases h
      ·rename_i h4
       obtain⟨-,-,rfl⟩:=takeT_nx h4
       cases h
       exact nx_ok (nx_ok (nx_ok (nx_ok hi)))
    ·cases h
section
variable {w0 w:World} {ab tg cap mw mb:Nat} {T:List Tok} {v:VS} {s:MS} {tl:List It}
set_option maxRecDepth 100000 in
set_option maxHeartbeats 3200000 in
theorem asData_all (h:Sx w0 w (LA ab tg cap mw mb T v s tl)) (hg:Ge w0) (hT:TT T) (hns:∀t∈T,t.1≠4) (hi:s.i<T.length) (hn:s.da.length≤1000):
  Calls Tryz.prog 97 #[.pointer (some ⟨ab,0,none⟩)] w (OutX w0 (dataT T s) (ItemV w0 ab tg cap mw mb T v tl)):=by
 obtain⟨i0,hi0,hz0,hz1,hz2⟩:=info_parts Tryz.info96'
 have hff:=tokF
 have te:∀u:Tok,tokV u=.agg #[.int .u8 (u.1:Nat),.int .i64 (u.2.1:Nat),.string u.2.2]:=fun _=>rfl
 have H:=hide h
 have HG:=hide hg
 have HI:=hide hi
 have HNS:=hide hns
 clear h hg hi hns
 go_enter Tryz.func97,Tryz.ntmps97
 go_wp2_with fail
 refine(asConstant_all (km:=0) H.out HG.out hT HI.out rfl rfl).mono ?_
 intro e w1 h1
 cases hx:constT T s.i with
 | error q=>
  rw[hx] at h1
  obtain⟨rfl,hk⟩:=h1
  exact⟨rfl,OutX.err_mk (by unfold dataT;rw[hx]) ⟨rfl,hk⟩⟩
 | ok x=>
 obtain⟨c,j⟩:=x
 have hj:=constT_lt HI.out hx
 rw[hx] at h1
 obtain⟨rfl,h1⟩:=h1
 have HM:Hid (dataT T s=.ok {s with i:=j,da:=s.da++[c]}):=by show _=_;unfold dataT;rw[hx]
 simp only at h1 ⊢
 have h1':Sx w0 w1 (LA ab tg cap mw mb T v {s with i:=j} tl):=h1
 have hj':({s with i:=j}:MS).i<T.length:=hj
 have hst':({s with i:=j}:MS).da.length≤1000:=hn
 rw[show({s with i:=j,da:=s.da++[c]}:MS)={({s with i:=j}:MS) with da:=({s with i:=j}:MS).da++[c]} from rfl] at HM
 clear h1 hx
 generalize ({s with i:=j}:MS)=s1 at*
 obtain⟨t,ht⟩:∃t,T[s1.i]?=some t:=⟨_,List.getElem?_eq_getElem hj'⟩
 have hns:=HNS.out t (List.mem_of_getElem? ht)
 have HT:=hide ht
 have t4:((t.1:Int)==4)=false:=by simp;omega
 have h2:=h1'.new #[.int .i64 0,.int .i64 (c.at_:Nat),.int .u8 (c.kind:Nat),.int .i64 c.val,.string ⟨#[]⟩] 96
 have H2:=hide h2
 clear h1' h2 H ht hns
 go_wp2_with fail
 refine wp_loop_rounds 1 ?_
 rw[rounds_succ]
 go_wp2_with fail
 refine(tPeek_any (r:=RA mw mb v s1 tl++[.b w1.heap.size [.int .i64 0,.int .i64 (c.at_:Nat),.int .u8 (c.kind:Nat),.int .i64 c.val,.string ⟨#[]⟩]]) H2.out HT.out).mono ?_
 rintro e w5 ⟨rfl,h3⟩
 rw[te]
 rw[AL.app] at h3
 have H9:Hid (Sx w0 w5 (LA ab tg cap mw mb T v s1 tl++[.b w1.heap.size [.int .i64 0,.int .i64 (c.at_:Nat),.int .u8 (c.kind:Nat),.int .i64 c.val,.string ⟨#[]⟩]])):=h3
 generalize w1.heap.size=ub at*
 clear h3 H2
 go_wp2_with fail
 obtain⟨pE,cE,hE⟩:=Row.shape (H9.out.isRow 19 rfl)
 have hS:∀V:World,Sx w0 V (LA ab tg cap mw mb T v s1 tl++[.b ub [.int .i64 0,.int .i64 (c.at_:Nat),.int .u8 (c.kind:Nat),.int .i64 c.val,.string ⟨#[]⟩]])→(fun V:World=>V.cell? ⟨ab,9,none⟩=some (.pointer (some ⟨mb,0,none⟩))∧V.cell? ⟨mb,9,none⟩=some (.slice pE s1.da.length cE)∧V.cell? ⟨ub,0,none⟩=some (.int .i64 0)∧V.cell? ⟨ub,1,none⟩=some (.int .i64 (c.at_:Nat))∧V.cell? ⟨ub,2,none⟩=some (.int .u8 (c.kind:Nat))∧V.cell? ⟨ub,3,none⟩=some (.int .i64 c.val)∧V.cell? ⟨ub,4,none⟩=some (.string ⟨#[]⟩)) V:=fun V hV=>⟨(hV.c 0 9 rfl rfl).1,(hV.c 10 9 rfl rfl).1.trans (congrArg some hE),(hV.cL 0).1,(hV.cL 1).1,(hV.cL 2).1,(hV.cL 3).1,(hV.cL 4).1⟩
 have hS0:=hS _ H9.out.drew
 refine regK (fun V:World=>V.cell? ⟨ab,9,none⟩=some (.pointer (some ⟨mb,0,none⟩))∧V.cell? ⟨mb,9,none⟩=some (.slice pE s1.da.length cE)∧V.cell? ⟨ub,0,none⟩=some (.int .i64 0)∧V.cell? ⟨ub,1,none⟩=some (.int .i64 (c.at_:Nat))∧V.cell? ⟨ub,2,none⟩=some (.int .u8 (c.kind:Nat))∧V.cell? ⟨ub,3,none⟩=some (.int .i64 c.val)∧V.cell? ⟨ub,4,none⟩=some (.string ⟨#[]⟩)) 16 ?_
 iterate 12 refine tkk hS0 (h:=?_) (hy:=by(refine Or.inl ⟨by rfl,?_⟩;intro V hV;obtain⟨u0,u1,g0,g1,g2,g3,g4⟩:=hV;go_simp;try with_reducible rfl))
 have h10:=H9.out.drew.alloc (.cells #[.int .i64 0,.int .i64 (c.at_:Nat),.int .u8 (c.kind:Nat),.int .i64 c.val,.string ⟨#[]⟩] 96)
 refine oneK (fun K hK=>?_)
 go_simp
 refine hK _ _ (.inr (hS _ h10)) ?_
 clear hK K
 have HOwn:=h10.row 19 rfl
 rw[hE] at HOwn
 refine oneK (fun K hK=>?_)
 refine step_append_lies _ (by rfl) (.tmp 39) (.tmp 41) 55 (by rfl) w0.heap.size 96 i0 (.agg #[.int .i64 0,.int .i64 0,.int .u8 0,.int .i64 0,.string ⟨#[]⟩]) 5 48 (by kernel_rfl) hi0 hz0 hz1 hz2 rfl (by decide) (.slice pE s1.da.length cE) s1.da.length (s1.da.flatMap daC) (by rfl) HOwn ⟨w5.heap.size,0,none⟩ 1 1 [.int .i64 0,.int .i64 (c.at_:Nat),.int .u8 (c.kind:Nat),.int .i64 c.val,.string ⟨#[]⟩] (by rfl) rfl (cells_at (by simp) rfl) ?c2 (by omega) ?c3 ?c4 ?c5 (w5.heap.size+1) (by simp) ?_
 case c2=>intro u hu;simp at hu;rcases hu with rfl | rfl | rfl | rfl | rfl<;>rfl
 case c3=>unfold maxLen;omega
 case c4=>omega
 case c5=>exact h10.kept.size
 intro gg cp w6 hown hgrow hat hlt6
 have h11:=h10.app 19 (v:=v.da) hown (by rw[hE];exact hgrow) (by rw[hE];exact hat.imp id (fun e=>by rw[e];simp)) rfl
 have h12:Sx w0 w6 ((LA ab tg cap mw mb T v s1 tl).set 19 (.r 96 5 (.slice (some ⟨gg,0,none⟩) (s1.da.length+1) cp) (s1.da.length+1) ((s1.da.flatMap daC)++[.int .i64 0,.int .i64 (c.at_:Nat),.int .u8 (c.kind:Nat),.int .i64 c.val,.string ⟨#[]⟩]))++[.b ub [.int .i64 0,.int .i64 (c.at_:Nat),.int .u8 (c.kind:Nat),.int .i64 c.val,.string ⟨#[]⟩]]):=h11
 have hS4:(fun V:World=>V.cell? ⟨ab,9,none⟩=some (.pointer (some ⟨mb,0,none⟩))∧V.cell? ⟨mb,9,none⟩=some (.slice pE s1.da.length cE)∧V.cell? ⟨ub,0,none⟩=some (.int .i64 0)∧V.cell? ⟨ub,1,none⟩=some (.int .i64 (c.at_:Nat))∧V.cell? ⟨ub,2,none⟩=some (.int .u8 (c.kind:Nat))∧V.cell? ⟨ub,3,none⟩=some (.int .i64 c.val)∧V.cell? ⟨ub,4,none⟩=some (.string ⟨#[]⟩)) w6:=⟨(h12.c 0 9 rfl rfl).1,(h12.c 10 9 rfl rfl).1.trans (congrArg some hE),(h12.cL 0).1,(h12.cL 1).1,(h12.cL 2).1,(h12.cL 3).1,(h12.cL 4).1⟩
 refine hK _ _ (.inr hS4) ?_
 clear hK K
 simp only[Act.put,List.setIfInBounds_toArray,List.set_cons_zero,List.set_cons_succ]
 iterate 2 refine tkk hS4 (h:=?_)
 obtain⟨c0,c1⟩:=h12.c 10 9 rfl rfl
 have mm:=h12.lt 10 rfl
 have h13:=h12.left.set 10 9 (.slice (some ⟨gg,0,none⟩) (s1.da.length+1) cp) rfl
 have h14:Sx w0 (w6.setCell ⟨mb,9,none⟩ (.slice (some ⟨gg,0,none⟩) (s1.da.length+1) cp)) (LA ab tg cap mw mb T {v with da:=.slice (some ⟨gg,0,none⟩) (s1.da.length+1) cp} {s1 with da:=s1.da++[c]} tl):=by
  simpa [LA,AL,RA,ZA,daC] using h13
 refine lastK (fun K hK=>?_)
 go_simp
 refine hK _ _ ?_
 clear hK K
 have H14:=hide h14
 generalize (w6.setCell ⟨mb,9,none⟩ (.slice (some ⟨gg,0,none⟩) (s1.da.length+1) cp))=W7 at*
 clear h14 h13 h12 h11 h10 hS4 hS0 hS c0 c1 mm HOwn hown hgrow hat hlt6
 go_wp2
 go_end0
 refine OutX.ok_mk HM.out ⟨rfl,_,?_,H14.out⟩
 exact⟨rfl,rfl,rfl,rfl⟩
end
end
section
open Go.RowKit
theorem Tryz.info77':(Tryz.prog.info? 77).map (fun i=>(i.zero,i.size,i.bytes))=some (some (.agg #[.int .u8 0,.bool false,.int .i64 0,.int .u8 0,.int .i64 0]),5,32):=by kernel_rfl
def gkindT (T:List Tok) (j:Nat):Except Err ((Nat×Bool)×Nat):=match T[j]? with
 | none=>.error (0,0)
 | some t=>if t.1=2 then(match takeO T ⟨#[109,117,116]⟩ j with
   | .error e=>.error e
   | .ok (_,k)=>match kindT T k with
    | .error e=>.error e
    | .ok (kd,l)=>match takeT T 3 l with
     | .error e=>.error e
     | .ok (_,m)=>.ok ((kd,true),m))
  else(match kindT T j with
   | .error e=>.error e
   | .ok (kd,l)=>.ok ((kd,false),l))
def globT (T:List Tok) (s:MS):Except Err MS:=
 let d:=declT T s.fG s.gl.length s.i
 match gkindT T d.2.2.1 with
 | .error e=>.error e
 | .ok (kd,m)=>match constT T m with
  | .error e=>.error e
  | .ok (c,n)=>.ok {s with i:=n,fG:=d.2.1,no:=s.no++d.2.2.2,gl:=s.gl++[⟨kd.1,kd.2,c⟩]}
theorem takeO_nx {T:List Tok} {q:ByteArray} {i j:Nat} {t:Tok} (h:takeO T q i=.ok (t,j)):j=nx T (nx T i):=by
 unfold takeO at h
 split at h
 ·rename_i h1
  obtain⟨-,-,rfl⟩:=takeT_nx h1
  unfold takeW at h
  split at h
  ·split at h
   ·cases h;rfl
   ·cases h
  ·cases h
 ·cases h
theorem kindT_nx {T:List Tok} {i j k:Nat} (h:kindT T i=.ok (k,j)):j=nx T i:=by
 unfold kindT at h
 split at h
 ·rename_i h1
  obtain⟨-,-,rfl⟩:=takeT_nx h1
  split at h<;>cases h
  rfl
 ·cases h
theorem declT_lt {T:List Tok} {ns:List Nam} {n i:Nat} (hi:i<T.length):(declT T ns n i).2.2.1<T.length:=by
 unfold declT
 split
 ·exact hi
 ·split
  ·split
   ·exact nx_ok hi
   ·exact nx_ok hi
  ·exact hi
section
variable {w0 w:World} {ab tg cap mw mb:Nat} {T:List Tok} {v:VS} {s:MS} {tl:List It}
set_option maxRecDepth 100000 in
set_option maxHeartbeats 6400000 in
theorem asGlobal_all (h:Sx w0 w (LA ab tg cap mw mb T v s tl)) (hg:Ge w0) (hT:TT T) (hi:s.i<T.length) (hn:s.gl.length≤1000) (hf:s.fG.length≤1000) (hno:s.no.length≤100000):
  Calls Tryz.prog 93 #[.pointer (some ⟨ab,0,none⟩)] w (OutX w0 (globT T s) (ItemV w0 ab tg cap mw mb T v tl)):=by
 obtain⟨i0,hi0,hz0,hz1,hz2⟩:=info_parts Tryz.info77'
 have hff:=tokF
 have te:∀u:Tok,tokV u=.agg #[.int .u8 (u.1:Nat),.int .i64 (u.2.1:Nat),.string u.2.2]:=fun _=>rfl
 obtain⟨pE,cE,hE⟩:=Row.shape (h.isRow 15 rfl)
 have h0:Sx w0 _ (LA ab tg cap mw mb T v s (tl++[.b w.heap.size [.int .u8 0,.bool false,.int .i64 0,.int .u8 0,.int .i64 0]])):=h.new #[.int .u8 0,.bool false,.int .i64 0,.int .u8 0,.int .i64 0] 77
 have H:=hide h0
 have HG:=hide hg
 have HI:=hide hi
 clear h h0 hg hi
 go_enter Tryz.func93,Tryz.ntmps93
 go_wp2_with fail
 have hS0:(fun V:World=>V.cell? ⟨ab,9,none⟩=some (.pointer (some ⟨mb,0,none⟩))∧V.cell? ⟨mb,4,none⟩=some (.slice pE s.gl.length cE)) (w.alloc (.cells #[.int .u8 0,.bool false,.int .i64 0,.int .u8 0,.int .i64 0] 77)).drew:=⟨(H.out.drew.c 0 9 rfl rfl).1,(H.out.drew.c 10 4 rfl rfl).1.trans (congrArg some hE)⟩
 refine regK (fun V:World=>V.cell? ⟨ab,9,none⟩=some (.pointer (some ⟨mb,0,none⟩))∧V.cell? ⟨mb,4,none⟩=some (.slice pE s.gl.length cE)) 13 ?_
 iterate 13 refine tkk hS0 (h:=?_) (hy:=by(refine Or.inl ⟨by rfl,?_⟩;intro V hV;obtain⟨u0,u1⟩:=hV;go_simp;try with_reducible rfl))
 refine lastK (fun K hK=>?_)
 refine step_call (f:=110) (args:= #[.pointer (some ⟨ab,0,none⟩),.pointer (some ⟨ab,8,none⟩),.int .i64 (s.gl.length:Nat)]) (by rfl) (by go_simp) (asDeclare_fG H.out.drew hT HI.out s.gl.length hf hno) ?_
 rintro e w1 ⟨rfl,q1,q,h1⟩
 refine⟨_,rfl,hK _ _ ?_⟩
 clear hK K hS0 hE
 simp only[Act.put,List.setIfInBounds_toArray,List.set_cons_zero,List.set_cons_succ]
 have HGT:Hid (globT T s=(match gkindT T (declT T s.fG s.gl.length s.i).2.2.1 with
  | .error e=>.error e
  | .ok (kd,m)=>match constT T m with
   | .error e=>.error e
   | .ok (c,n)=>.ok {({s with i:=(declT T s.fG s.gl.length s.i).2.2.1,fG:=(declT T s.fG s.gl.length s.i).2.1,no:=s.no++(declT T s.fG s.gl.length s.i).2.2.2}:MS) with i:=n,gl:=({s with i:=(declT T s.fG s.gl.length s.i).2.2.1,fG:=(declT T s.fG s.gl.length s.i).2.1,no:=s.no++(declT T s.fG s.gl.length s.i).2.2.2}:MS).gl++[⟨kd.1,kd.2,c⟩]})):=by show _=_;rfl
 have hj:({s with i:=(declT T s.fG s.gl.length s.i).2.2.1,fG:=(declT T s.fG s.gl.length s.i).2.1,no:=s.no++(declT T s.fG s.gl.length s.i).2.2.2}:MS).i<T.length:=declT_lt HI.out
 rw[show gkindT T (declT T s.fG s.gl.length s.i).2.2.1=gkindT T ({s with i:=(declT T s.fG s.gl.length s.i).2.2.1,fG:=(declT T s.fG s.gl.length s.i).2.1,no:=s.no++(declT T s.fG s.gl.length s.i).2.2.2}:MS).i from rfl] at HGT
 have hn1:({s with i:=(declT T s.fG s.gl.length s.i).2.2.1,fG:=(declT T s.fG s.gl.length s.i).2.1,no:=s.no++(declT T s.fG s.gl.length s.i).2.2.2}:MS).gl.length≤1000:=hn
 generalize (.bool (declT T s.fG s.gl.length s.i).1:Value)=bd at*
 generalize ({s with i:=(declT T s.fG s.gl.length s.i).2.2.1,fG:=(declT T s.fG s.gl.length s.i).2.1,no:=s.no++(declT T s.fG s.gl.length s.i).2.2.2}:MS)=s1 at*
 have HV:Hid (VSame v {v with fG:=q1,no:=q}):=⟨rfl,rfl,rfl,rfl⟩
 generalize ({v with fG:=q1,no:=q}:VS)=v1 at*
 generalize w.heap.size=ub at*
 have H1:=hide h1
 clear h1 H
 obtain⟨t,ht⟩:∃t,T[s1.i]?=some t:=⟨_,List.getElem?_eq_getElem hj⟩
 have HT:=hide ht
 clear ht
 generalize (Value.slice pE s.gl.length cE)=xE
 clear pE cE
 go_wp2_with fail
 refine(tPeek_any H1.out HT.out).mono ?_
 rintro e w2 ⟨rfl,h2⟩
 rw[te]
 have H2:=hide h2
 clear h2 H1
 by_cases hc:t.1=2
 ·have t1:((t.1:Int)==2)=true:=by rw[hc];rfl
  have HC:=hide hc
  have hi2:=nx_ok hj
  have hi3:=nx_ok hi2
  have hi4:=nx_ok hi3
  obtain⟨t2,ht2⟩:∃t,T[nx T s1.i]?=some t:=⟨_,List.getElem?_eq_getElem hi2⟩
  obtain⟨t3,ht3⟩:∃t,T[nx T (nx T s1.i)]?=some t:=⟨_,List.getElem?_eq_getElem hi3⟩
  obtain⟨t4,ht4⟩:∃t,T[nx T (nx T (nx T s1.i))]?=some t:=⟨_,List.getElem?_eq_getElem hi4⟩
  have HT2:=hide ht2
  have HT3:=hide ht3
  have HT4:=hide ht4
  clear hc ht2 ht3 ht4
  go_wp2_with fail
  refine(tTakeOpen_all H2.out HT.out HT2.out hT.len ⟨#[109,117,116]⟩).mono ?_
  intro e w3 h3
  cases hx:takeO T ⟨#[109,117,116]⟩ s1.i with
  | error q=>
   rw[hx] at h3
   obtain⟨rfl,hk⟩:=h3
   exact⟨rfl,OutX.err_mk (by rw[HGT.out];unfold gkindT;simp only[HT.out,HC.out,if_true,hx]) ⟨rfl,hk⟩⟩
  | ok x=>
  obtain⟨ty,k⟩:=x
  obtain rfl:=takeO_nx hx
  rw[hx] at h3
  obtain⟨rfl,h3⟩:=h3
  simp only at h3 ⊢
  have HX:=hide hx
  have H3:=hide h3
  clear h3 hx H2
  go_wp2_with fail
  refine(asKind_all H3.out HT3.out hT.len).mono ?_
  intro e w4 h4
  cases hx:kindT T (nx T (nx T s1.i)) with
  | error q=>
   rw[hx] at h4
   obtain⟨rfl,hk⟩:=h4
   exact⟨rfl,OutX.err_mk (by rw[HGT.out];unfold gkindT;simp only[HT.out,HC.out,if_true,HX.out,hx]) ⟨rfl,hk⟩⟩
  | ok x=>
  obtain⟨kd,k⟩:=x
  obtain rfl:=kindT_nx hx
  rw[hx] at h4
  obtain⟨rfl,h4⟩:=h4
  simp only at h4 ⊢
  have HX2:=hide hx
  have h4':Sx w0 w4 (LA ab tg cap mw mb T v1 {s1 with i:=nx T (nx T (nx T s1.i))} tl++[.b ub [.int .u8 0,.bool false,.int .i64 0,.int .u8 0,.int .i64 0]]):=h4
  obtain⟨a0,e0⟩:=h4'.cL 0
  obtain⟨a1,e1⟩:=h4'.cL 1
  have lu:=h4'.ltL
  have h5:=(h4'.setL 1 (.bool true)).setL 0 (.int .u8 (kd:Nat))
  have H5:Hid (Sx w0 _ (AL ab tg cap T (nx T (nx T (nx T s1.i))) (ZA mw mb v1) (RA mw mb v1 s1 tl++[.b ub [.int .u8 (kd:Nat),.bool true,.int .i64 0,.int .u8 0,.int .i64 0]]))):=h5
  clear h4 h4' h5 hx H3
  go_wp2_with fail
  refine(tTake_all H5.out HT4.out hT.len 3).mono ?_
  intro e w5 h6
  cases hx:takeT T 3 (nx T (nx T (nx T s1.i))) with
  | error q=>
   rw[hx] at h6
   obtain⟨rfl,hk⟩:=h6
   exact⟨rfl,OutX.err_mk (by rw[HGT.out];unfold gkindT;simp only[HT.out,HC.out,if_true,HX.out,HX2.out,hx]) ⟨rfl,hk⟩⟩
  | ok x=>
  obtain⟨tz,k⟩:=x
  obtain⟨-,-,rfl⟩:=takeT_nx hx
  rw[hx] at h6
  obtain⟨rfl,h6⟩:=h6
  simp only at h6 ⊢
  have HM:Hid (gkindT T s1.i=.ok ((kd,true),nx T (nx T (nx T (nx T s1.i))))):=by show _=_;unfold gkindT;simp only[HT.out,HC.out,if_true,HX.out,HX2.out,hx]
  have hjj:=nx_ok hi4
  have H7:Hid (Sx w0 w5 (AL ab tg cap T (nx T (nx T (nx T (nx T s1.i)))) (ZA mw mb v1) (RA mw mb v1 s1 tl++[.b ub [.int .u8 (kd:Nat),.bool true,.int .i64 0,.int .u8 0,.int .i64 0]]))):=h6
  clear h6 hx H5 HX HX2 a0 a1 e0 e1 lu hi2 hi3 hi4 HT2 HT3 HT4 HT HC t1 te
  generalize nx T (nx T (nx T (nx T s1.i)))=jj at*
  go_wp2_with fail
  refine(asConstant_all (km:=0) H7.out HG.out hT hjj rfl rfl).mono ?_
  intro e w6 h8
  cases hx:constT T jj with
  | error q=>
   rw[hx] at h8
   obtain⟨rfl,hk⟩:=h8
   exact⟨rfl,OutX.err_mk (by rw[HGT.out,HM.out];simp only[hx]) ⟨rfl,hk⟩⟩
  | ok x=>
  obtain⟨c,k⟩:=x
  rw[hx] at h8
  obtain⟨rfl,h8⟩:=h8
  have HMM:Hid (globT T s=.ok {({s1 with i:=k}:MS) with gl:=({s1 with i:=k}:MS).gl++[⟨kd,true,c⟩]}):=by show _=_;rw[HGT.out,HM.out];simp only[hx]
  simp only at h8 ⊢
  have h8':Sx w0 w6 (LA ab tg cap mw mb T v1 {s1 with i:=k} tl++[.b ub [.int .u8 (kd:Nat),.bool true,.int .i64 0,.int .u8 0,.int .i64 0]]):=h8
  have hst':({s1 with i:=k}:MS).gl.length≤1000:=hn1
  obtain⟨a2,e2⟩:=h8'.cL 2
  obtain⟨a3,e3⟩:=h8'.cL 3
  obtain⟨a4,e4⟩:=h8'.cL 4
  have lu:=h8'.ltL
  have h9:=((h8'.setL 2 (.int .i64 (c.at_:Nat))).setL 3 (.int .u8 (c.kind:Nat))).setL 4 (.int .i64 c.val)
  clear h8 h8' hx H7 HM HGT
  generalize ({s1 with i:=k}:MS)=s2 at*
  have H9:Hid (Sx w0 _ (LA ab tg cap mw mb T v1 s2 tl++[.b ub [.int .u8 (kd:Nat),.bool true,.int .i64 (c.at_:Nat),.int .u8 (c.kind:Nat),.int .i64 c.val]])):=h9
  clear h9
  go_wp2_with fail
  generalize ((w6.setCell ⟨ub,2,none⟩ (.int .i64 (c.at_:Nat))).setCell ⟨ub,3,none⟩ (.int .u8 (c.kind:Nat))).setCell ⟨ub,4,none⟩ (.int .i64 c.val)=w5 at*
  clear a2 a3 a4 e2 e3 e4 lu
  obtain⟨pE,cE,hE⟩:=Row.shape (H9.out.isRow 15 rfl)
  have hS:∀V:World,Sx w0 V (LA ab tg cap mw mb T v1 s2 tl++[.b ub [.int .u8 (kd:Nat),.bool true,.int .i64 (c.at_:Nat),.int .u8 (c.kind:Nat),.int .i64 c.val]])→(fun V:World=>V.cell? ⟨ab,9,none⟩=some (.pointer (some ⟨mb,0,none⟩))∧V.cell? ⟨mb,4,none⟩=some (.slice pE s2.gl.length cE)∧V.cell? ⟨ub,0,none⟩=some (.int .u8 (kd:Nat))∧V.cell? ⟨ub,1,none⟩=some (.bool true)∧V.cell? ⟨ub,2,none⟩=some (.int .i64 (c.at_:Nat))∧V.cell? ⟨ub,3,none⟩=some (.int .u8 (c.kind:Nat))∧V.cell? ⟨ub,4,none⟩=some (.int .i64 c.val)) V:=fun V hV=>⟨(hV.c 0 9 rfl rfl).1,(hV.c 10 4 rfl rfl).1.trans (congrArg some hE),(hV.cL 0).1,(hV.cL 1).1,(hV.cL 2).1,(hV.cL 3).1,(hV.cL 4).1⟩
  have hS0:=hS _ H9.out.drew
  refine regK (fun V:World=>V.cell? ⟨ab,9,none⟩=some (.pointer (some ⟨mb,0,none⟩))∧V.cell? ⟨mb,4,none⟩=some (.slice pE s2.gl.length cE)∧V.cell? ⟨ub,0,none⟩=some (.int .u8 (kd:Nat))∧V.cell? ⟨ub,1,none⟩=some (.bool true)∧V.cell? ⟨ub,2,none⟩=some (.int .i64 (c.at_:Nat))∧V.cell? ⟨ub,3,none⟩=some (.int .u8 (c.kind:Nat))∧V.cell? ⟨ub,4,none⟩=some (.int .i64 c.val)) 16 ?_
  iterate 12 refine tkk hS0 (h:=?_) (hy:=by(refine Or.inl ⟨by rfl,?_⟩;intro V hV;obtain⟨u0,u1,g0,g1,g2,g3,g4⟩:=hV;go_simp;try with_reducible rfl))
  have h10:=H9.out.drew.alloc (.cells #[.int .u8 (kd:Nat),.bool true,.int .i64 (c.at_:Nat),.int .u8 (c.kind:Nat),.int .i64 c.val] 77)
  refine oneK (fun K hK=>?_)
  go_simp
  refine hK _ _ (.inr (hS _ h10)) ?_
  clear hK K
  have HOwn:=h10.row 15 rfl
  rw[hE] at HOwn
  refine oneK (fun K hK=>?_)
  refine step_append_lies _ (by rfl) (.tmp 51) (.tmp 53) 51 (by rfl) w0.heap.size 77 i0 (.agg #[.int .u8 0,.bool false,.int .i64 0,.int .u8 0,.int .i64 0]) 5 32 (by kernel_rfl) hi0 hz0 hz1 hz2 rfl (by decide) (.slice pE s2.gl.length cE) s2.gl.length (s2.gl.flatMap Glb.cells) (by rfl) HOwn ⟨w5.heap.size,0,none⟩ 1 1 [.int .u8 (kd:Nat),.bool true,.int .i64 (c.at_:Nat),.int .u8 (c.kind:Nat),.int .i64 c.val] (by rfl) rfl (cells_at (by simp) rfl) ?c2 (by omega) ?c3 ?c4 ?c5 (w5.heap.size+1) (by simp) ?_
  case c2=>intro u hu;simp at hu;rcases hu with rfl | rfl | rfl | rfl | rfl<;>rfl
  case c3=>unfold maxLen;omega
  case c4=>omega
  case c5=>exact h10.kept.size
  intro gg cp w6 hown hgrow hat hlt6
  have h11:=h10.app 15 (v:=v1.gl) hown (by rw[hE];exact hgrow) (by rw[hE];exact hat.imp id (fun e=>by rw[e];simp)) rfl
  have h12:Sx w0 w6 ((LA ab tg cap mw mb T v1 s2 tl).set 15 (.r 77 5 (.slice (some ⟨gg,0,none⟩) (s2.gl.length+1) cp) (s2.gl.length+1) ((s2.gl.flatMap Glb.cells)++[.int .u8 (kd:Nat),.bool true,.int .i64 (c.at_:Nat),.int .u8 (c.kind:Nat),.int .i64 c.val]))++[.b ub [.int .u8 (kd:Nat),.bool true,.int .i64 (c.at_:Nat),.int .u8 (c.kind:Nat),.int .i64 c.val]]):=h11
  have hS4:(fun V:World=>V.cell? ⟨ab,9,none⟩=some (.pointer (some ⟨mb,0,none⟩))∧V.cell? ⟨mb,4,none⟩=some (.slice pE s2.gl.length cE)∧V.cell? ⟨ub,0,none⟩=some (.int .u8 (kd:Nat))∧V.cell? ⟨ub,1,none⟩=some (.bool true)∧V.cell? ⟨ub,2,none⟩=some (.int .i64 (c.at_:Nat))∧V.cell? ⟨ub,3,none⟩=some (.int .u8 (c.kind:Nat))∧V.cell? ⟨ub,4,none⟩=some (.int .i64 c.val)) w6:=⟨(h12.c 0 9 rfl rfl).1,(h12.c 10 4 rfl rfl).1.trans (congrArg some hE),(h12.cL 0).1,(h12.cL 1).1,(h12.cL 2).1,(h12.cL 3).1,(h12.cL 4).1⟩
  refine hK _ _ (.inr hS4) ?_
  clear hK K
  simp only[Act.put,List.setIfInBounds_toArray,List.set_cons_zero,List.set_cons_succ]
  iterate 2 refine tkk hS4 (h:=?_)
  obtain⟨c0,c1⟩:=h12.c 10 4 rfl rfl
  have mm:=h12.lt 10 rfl
  have h13:=h12.left.set 10 4 (.slice (some ⟨gg,0,none⟩) (s2.gl.length+1) cp) rfl
  have h14:Sx w0 (w6.setCell ⟨mb,4,none⟩ (.slice (some ⟨gg,0,none⟩) (s2.gl.length+1) cp)) (LA ab tg cap mw mb T {v1 with gl:=.slice (some ⟨gg,0,none⟩) (s2.gl.length+1) cp} {s2 with gl:=s2.gl++[⟨kd,true,c⟩]} tl):=by
   simpa [LA,AL,RA,ZA,Glb.cells] using h13
  refine lastK (fun K hK=>?_)
  go_simp
  refine hK _ _ ?_
  clear hK K
  have H14:=hide h14
  generalize (w6.setCell ⟨mb,4,none⟩ (.slice (some ⟨gg,0,none⟩) (s2.gl.length+1) cp))=W7 at*
  clear h14 h13 h12 h11 h10 hS4 hS0 hS c0 c1 mm HOwn hown hgrow hat hlt6
  go_wp2
  go_end0
  refine OutX.ok_mk HMM.out ⟨rfl,_,?_,H14.out⟩
  exact HV.out
 ·have t1:((t.1:Int)==2)=false:=by simp;omega
  have HC:=hide hc
  clear hc
  go_wp2_with fail
  refine(asKind_all H2.out HT.out hT.len).mono ?_
  intro e w4 h4
  cases hx:kindT T s1.i with
  | error q=>
   rw[hx] at h4
   obtain⟨rfl,hk⟩:=h4
   exact⟨rfl,OutX.err_mk (by rw[HGT.out];unfold gkindT;simp only[HT.out,HC.out,if_false,hx]) ⟨rfl,hk⟩⟩
  | ok x=>
  obtain⟨kd,k⟩:=x
  obtain rfl:=kindT_nx hx
  rw[hx] at h4
  obtain⟨rfl,h4⟩:=h4
  simp only at h4 ⊢
  have HM:Hid (gkindT T s1.i=.ok ((kd,false),nx T s1.i)):=by show _=_;unfold gkindT;simp only[HT.out,HC.out,if_false,hx]
  have hjj:=nx_ok hj
  have h4':Sx w0 w4 (LA ab tg cap mw mb T v1 {s1 with i:=nx T s1.i} tl++[.b ub [.int .u8 0,.bool false,.int .i64 0,.int .u8 0,.int .i64 0]]):=h4
  obtain⟨a0,e0⟩:=h4'.cL 0
  have lu:=h4'.ltL
  have h5:=h4'.setL 0 (.int .u8 (kd:Nat))
  have H7:Hid (Sx w0 _ (AL ab tg cap T (nx T s1.i) (ZA mw mb v1) (RA mw mb v1 s1 tl++[.b ub [.int .u8 (kd:Nat),.bool false,.int .i64 0,.int .u8 0,.int .i64 0]]))):=h5
  clear h4 h4' h5 hx H2 HT HC t1 te
  generalize nx T s1.i=jj at*
  go_wp2_with fail
  refine(asConstant_all (km:=0) H7.out HG.out hT hjj rfl rfl).mono ?_
  intro e w6 h8
  cases hx:constT T jj with
  | error q=>
   rw[hx] at h8
   obtain⟨rfl,hk⟩:=h8
   exact⟨rfl,OutX.err_mk (by rw[HGT.out,HM.out];simp only[hx]) ⟨rfl,hk⟩⟩
  | ok x=>
  obtain⟨c,k⟩:=x
  rw[hx] at h8
  obtain⟨rfl,h8⟩:=h8
  have HMM:Hid (globT T s=.ok {({s1 with i:=k}:MS) with gl:=({s1 with i:=k}:MS).gl++[⟨kd,false,c⟩]}):=by show _=_;rw[HGT.out,HM.out];simp only[hx]
  simp only at h8 ⊢
  have h8':Sx w0 w6 (LA ab tg cap mw mb T v1 {s1 with i:=k} tl++[.b ub [.int .u8 (kd:Nat),.bool false,.int .i64 0,.int .u8 0,.int .i64 0]]):=h8
  have hst':({s1 with i:=k}:MS).gl.length≤1000:=hn1
  obtain⟨a2,e2⟩:=h8'.cL 2
  obtain⟨a3,e3⟩:=h8'.cL 3
  obtain⟨a4,e4⟩:=h8'.cL 4
  have lu:=h8'.ltL
  have h9:=((h8'.setL 2 (.int .i64 (c.at_:Nat))).setL 3 (.int .u8 (c.kind:Nat))).setL 4 (.int .i64 c.val)
  clear h8 h8' hx H7 HM HGT
  generalize ({s1 with i:=k}:MS)=s2 at*
  have H9:Hid (Sx w0 _ (LA ab tg cap mw mb T v1 s2 tl++[.b ub [.int .u8 (kd:Nat),.bool false,.int .i64 (c.at_:Nat),.int .u8 (c.kind:Nat),.int .i64 c.val]])):=h9
  clear h9
  go_wp2_with fail
  generalize ((w6.setCell ⟨ub,2,none⟩ (.int .i64 (c.at_:Nat))).setCell ⟨ub,3,none⟩ (.int .u8 (c.kind:Nat))).setCell ⟨ub,4,none⟩ (.int .i64 c.val)=w5 at*
  clear a2 a3 a4 e2 e3 e4 lu
  obtain⟨pE,cE,hE⟩:=Row.shape (H9.out.isRow 15 rfl)
  have hS:∀V:World,Sx w0 V (LA ab tg cap mw mb T v1 s2 tl++[.b ub [.int .u8 (kd:Nat),.bool false,.int .i64 (c.at_:Nat),.int .u8 (c.kind:Nat),.int .i64 c.val]])→(fun V:World=>V.cell? ⟨ab,9,none⟩=some (.pointer (some ⟨mb,0,none⟩))∧V.cell? ⟨mb,4,none⟩=some (.slice pE s2.gl.length cE)∧V.cell? ⟨ub,0,none⟩=some (.int .u8 (kd:Nat))∧V.cell? ⟨ub,1,none⟩=some (.bool false)∧V.cell? ⟨ub,2,none⟩=some (.int .i64 (c.at_:Nat))∧V.cell? ⟨ub,3,none⟩=some (.int .u8 (c.kind:Nat))∧V.cell? ⟨ub,4,none⟩=some (.int .i64 c.val)) V:=fun V hV=>⟨(hV.c 0 9 rfl rfl).1,(hV.c 10 4 rfl rfl).1.trans (congrArg some hE),(hV.cL 0).1,(hV.cL 1).1,(hV.cL 2).1,(hV.cL 3).1,(hV.cL 4).1⟩
  have hS0:=hS _ H9.out.drew
  refine regK (fun V:World=>V.cell? ⟨ab,9,none⟩=some (.pointer (some ⟨mb,0,none⟩))∧V.cell? ⟨mb,4,none⟩=some (.slice pE s2.gl.length cE)∧V.cell? ⟨ub,0,none⟩=some (.int .u8 (kd:Nat))∧V.cell? ⟨ub,1,none⟩=some (.bool false)∧V.cell? ⟨ub,2,none⟩=some (.int .i64 (c.at_:Nat))∧V.cell? ⟨ub,3,none⟩=some (.int .u8 (c.kind:Nat))∧V.cell? ⟨ub,4,none⟩=some (.int .i64 c.val)) 16 ?_
  iterate 12 refine tkk hS0 (h:=?_) (hy:=by(refine Or.inl ⟨by rfl,?_⟩;intro V hV;obtain⟨u0,u1,g0,g1,g2,g3,g4⟩:=hV;go_simp;try with_reducible rfl))
  have h10:=H9.out.drew.alloc (.cells #[.int .u8 (kd:Nat),.bool false,.int .i64 (c.at_:Nat),.int .u8 (c.kind:Nat),.int .i64 c.val] 77)
  refine oneK (fun K hK=>?_)
  go_simp
  refine hK _ _ (.inr (hS _ h10)) ?_
  clear hK K
  have HOwn:=h10.row 15 rfl
  rw[hE] at HOwn
  refine oneK (fun K hK=>?_)
  refine step_append_lies _ (by rfl) (.tmp 51) (.tmp 53) 51 (by rfl) w0.heap.size 77 i0 (.agg #[.int .u8 0,.bool false,.int .i64 0,.int .u8 0,.int .i64 0]) 5 32 (by kernel_rfl) hi0 hz0 hz1 hz2 rfl (by decide) (.slice pE s2.gl.length cE) s2.gl.length (s2.gl.flatMap Glb.cells) (by rfl) HOwn ⟨w5.heap.size,0,none⟩ 1 1 [.int .u8 (kd:Nat),.bool false,.int .i64 (c.at_:Nat),.int .u8 (c.kind:Nat),.int .i64 c.val] (by rfl) rfl (cells_at (by simp) rfl) ?c2 (by omega) ?c3 ?c4 ?c5 (w5.heap.size+1) (by simp) ?_
  case c2=>intro u hu;simp at hu;rcases hu with rfl | rfl | rfl | rfl | rfl<;>rfl
  case c3=>unfold maxLen;omega
  case c4=>omega
  case c5=>exact h10.kept.size
  intro gg cp w6 hown hgrow hat hlt6
  have h11:=h10.app 15 (v:=v1.gl) hown (by rw[hE];exact hgrow) (by rw[hE];exact hat.imp id (fun e=>by rw[e];simp)) rfl
  have h12:Sx w0 w6 ((LA ab tg cap mw mb T v1 s2 tl).set 15 (.r 77 5 (.slice (some ⟨gg,0,none⟩) (s2.gl.length+1) cp) (s2.gl.length+1) ((s2.gl.flatMap Glb.cells)++[.int .u8 (kd:Nat),.bool false,.int .i64 (c.at_:Nat),.int .u8 (c.kind:Nat),.int .i64 c.val]))++[.b ub [.int .u8 (kd:Nat),.bool false,.int .i64 (c.at_:Nat),.int .u8 (c.kind:Nat),.int .i64 c.val]]):=h11
  have hS4:(fun V:World=>V.cell? ⟨ab,9,none⟩=some (.pointer (some ⟨mb,0,none⟩))∧V.cell? ⟨mb,4,none⟩=some (.slice pE s2.gl.length cE)∧V.cell? ⟨ub,0,none⟩=some (.int .u8 (kd:Nat))∧V.cell? ⟨ub,1,none⟩=some (.bool false)∧V.cell? ⟨ub,2,none⟩=some (.int .i64 (c.at_:Nat))∧V.cell? ⟨ub,3,none⟩=some (.int .u8 (c.kind:Nat))∧V.cell? ⟨ub,4,none⟩=some (.int .i64 c.val)) w6:=⟨(h12.c 0 9 rfl rfl).1,(h12.c 10 4 rfl rfl).1.trans (congrArg some hE),(h12.cL 0).1,(h12.cL 1).1,(h12.cL 2).1,(h12.cL 3).1,(h12.cL 4).1⟩
  refine hK _ _ (.inr hS4) ?_
  clear hK K
  simp only[Act.put,List.setIfInBounds_toArray,List.set_cons_zero,List.set_cons_succ]
  iterate 2 refine tkk hS4 (h:=?_)
  obtain⟨c0,c1⟩:=h12.c 10 4 rfl rfl
  have mm:=h12.lt 10 rfl
  have h13:=h12.left.set 10 4 (.slice (some ⟨gg,0,none⟩) (s2.gl.length+1) cp) rfl
  have h14:Sx w0 (w6.setCell ⟨mb,4,none⟩ (.slice (some ⟨gg,0,none⟩) (s2.gl.length+1) cp)) (LA ab tg cap mw mb T {v1 with gl:=.slice (some ⟨gg,0,none⟩) (s2.gl.length+1) cp} {s2 with gl:=s2.gl++[⟨kd,false,c⟩]} tl):=by
   simpa [LA,AL,RA,ZA,Glb.cells] using h13
  refine lastK (fun K hK=>?_)
  go_simp
  refine hK _ _ ?_
  clear hK K
  have H14:=hide h14
  generalize (w6.setCell ⟨mb,4,none⟩ (.slice (some ⟨gg,0,none⟩) (s2.gl.length+1) cp))=W7 at*
  clear h14 h13 h12 h11 h10 hS4 hS0 hS c0 c1 mm HOwn hown hgrow hat hlt6
  go_wp2
  go_end0
  refine OutX.ok_mk HMM.out ⟨rfl,_,?_,H14.out⟩
  exact HV.out
end
end
end Go.Proofs.YtkmofapihggjgaaGreatDoor
