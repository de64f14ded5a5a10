import Derived.Test.YtkmofapihggjgaaGreatDoorX21
namespace Go.Proofs.YtkmofapihggjgaaGreatDoor
section
open Go.RowKit
set_option linter.unusedSimpArgs false
set_option linter.unusedVariables false
section
variable {T:List Tok}
theorem kinF_sz {b:Bool} {f:Bk} {x:(List Nat×List Nat)×Bk} (hT:TW T) (h:kinF b T f=.ok x):∀y∈x.2.nm,y∈f.nm∨y.2.size≤1000:=by
 unfold kinF at h
 split at h
 ·split at h
  ·cases h
  ·rename_i h1
   cases h
   unfold seqT at h1
   split at h1
   ·cases h1
   ·rename_i h2
    split at h1
    ·cases h1
    ·cases h1
     exact gnT_sz hT h2
 ·split at h
  ·cases h
  ·cases h
   exact fun y hy=>.inl hy
theorem useT_sz {b:Bool} {f:Bk} {x:UseR×Bk} (hT:TW T) (h:useT b T f=.ok x):∀y∈x.2.nm,y∈f.nm∨y.2.size≤1000:=by
 unfold useT at h
 split at h
 ·split at h
  ·cases h
  ·split at h
   ·cases h
   ·split at h
    ·cases h
    ·rename_i h2
     have g:=kinF_sz hT h2
     cases h
     simp only at g ⊢
     split
     ·exact g
     ·exact g
 ·split at h
  ·cases h
  ·rename_i h2
   cases h
   exact kinF_sz hT h2
theorem useT_ix {b:Bool} {f:Bk} {x:UseR×Bk} (hf:∀y∈f.m.fT,y.1≤100000) (h:useT b T f=.ok x):x.1.ix≤4294967295:=by
 unfold useT at h
 split at h
 ·split at h
  ·cases h
  ·rename_i h1
   split at h
   ·cases h
   ·split at h
    ·cases h
    ·cases h
     exact indexT_ok hf h1
 ·split at h
  ·cases h
  ·cases h
   exact Nat.zero_le _
theorem tyAt_len {ty:List (List Nat×List Nat)} (k:Nat) (h:∀y∈ty,y.1.length≤50):(tyAt ty k).1.length≤50:=by
 unfold tyAt
 rw[List.getD_eq_getElem?_getD]
 cases e:ty[k]? with
 | none=>simp
 | some q=>exact h q (List.mem_of_getElem? e)
theorem useT_a {b:Bool} {f:Bk} {x:UseR×Bk} (hf:∀y∈f.m.ty,y.1.length≤50) (h:useT b T f=.ok x):x.1.told=true→x.1.a.length≤50:=by
 unfold useT at h
 split at h
 ·split at h
  ·cases h
  ·split at h
   ·cases h
   ·split at h
    ·cases h
    ·cases h
     intro _
     show(if _=true then tyAt f.m.ty _ else([],[])).1.length≤50
     split
     ·exact tyAt_len _ hf
     ·simp
 ·split at h
  ·cases h
  ·cases h
   intro c
   cases c
theorem fnT_ok {s s':MS} (hT:TW T) (hi:s.i<T.length) (hs:Sml s) (h:fnT T s=.ok s'):Sml s':=by
 obtain⟨x,h1,h⟩:=bnd_inv h
 obtain⟨y,h2,h⟩:=bnd_inv h
 obtain⟨z,h3,h⟩:=bnd_inv h
 obtain⟨f3,h4,h⟩:=bnd_inv h
 obtain⟨f0,hf0⟩:∃f0:Bk,f0=⟨{s with i:=(declT T s.fF s.fu.length s.i).2.2.1,fF:=(declT T s.fF s.fu.length s.i).2.1,no:=s.no++(declT T s.fF s.fu.length s.i).2.2.2},[],[],[]⟩:=⟨_,rfl⟩
 rw[←hf0] at h1
 have i0:f0.m.i<T.length:=by rw[hf0];exact declT_lt hi
 have u1:=useT_le hT h1 i0
 have u2:=useT_sz hT h1
 have u3:=useT_ix (by rw[hf0];exact hs.fT) h1
 obtain⟨e1⟩:Nonempty (x.2={f0 with nm:=x.2.nm,m:={f0.m with i:=x.2.m.i,no:=x.2.m.no}}):=⟨u1.2.2.2.2.1⟩
 have ety:x.2.m.ty=s.ty:=by rw[e1,hf0]
 have hy:y.1≤4294967295∧y.2={x.2.m with ty:=y.2.ty}∧y.2.ty.length≤20:=by
  split at h2
  ·cases h2
   exact⟨u3,rfl,by rw[ety];exact hs.ty⟩
  ·have g1:=tixT_ok (by rw[ety];exact hs.ty) h2
   exact⟨by omega,tixT_m h2,g1.2⟩
 have hnm:∀q∈x.2.nm,q.1≤100000∧q.2.size≤1000:=fun q hq=>by
  have g1:=u1.2.2.2.1 q hq
  have g2:=u2 q hq
  rw[hf0] at g1 g2
  simp at g1 g2
  exact⟨by omega,g2⟩
 have iy:y.2.i<T.length:=by
  rw[hy.2.1]
  exact u1.1.2
 have z1:=gnT_le hT h3 iy (by simp)
 have z2:=gnT_sz hT h3
 have ha:x.1.a.length≤50:=by
  cases c:x.1.told with
  | true=>exact useT_a (by rw[hf0];exact hs.tl) h1 c
  | false=>have:=(u1.2.2.2.2.2 c).2.1;omega
 have htl:∀q∈y.2.ty,q.1.length≤50:=by
  split at h2
  ·cases h2
   show ∀q∈x.2.m.ty,_
   rw[ety]
   exact hs.tl
  ·exact tixT_tl (by rw[ety];exact hs.tl) ha h2
 obtain⟨f2,hf2⟩:∃f2:Bk,f2={x.2 with nm:=z.1.2.1,m:={y.2 with fu:=y.2.fu++[y.1],i:=z.2,no:=z.1.2.2}}:=⟨_,rfl⟩
 rw[←hf2] at h4
 have hzn:∀q∈z.1.2.1,q.1≤100000∧q.2.size≤1000:=fun q hq=>by
  have g1:=z1.2.2.2.2 q hq
  have g2:=z2 q hq
  refine⟨?_,?_⟩
  ·rcases g1 with c | c
   ·exact(hnm q c).1
   ·omega
  ·rcases g2 with c | c
   ·exact(hnm q c).2
   ·exact c
 have em:y.2={s with i:=y.2.i,no:=y.2.no,ty:=y.2.ty,fF:=(declT T s.fF s.fu.length s.i).2.1}:=by
  have e2:=hy.2.1
  rw[e1,hf0] at e2
  rw[e2]
 have hO:Okf f2:=by
  rw[hf2]
  refine⟨?_,?_,hy.2.2,fun q hq=>(hzn q hq).1,?_,?_,?_,htl⟩
  ·show ∀q∈x.2.al,_
   rw[e1,hf0]
   simp
  ·show x.2.lb.length≤50
   rw[e1,hf0]
   simp
  ·show ∀q∈y.2.kF,_
   rw[em]
   exact hs.kF
  ·show ∀q∈y.2.kG,_
   rw[em]
   exact hs.kG
  ·show ∀q∈y.2.fT,_
   rw[em]
   exact hs.fT
 have g3:=RT_ok h4 hO
 obtain⟨n3,m3⟩:=RT_sf hT h4
 unfold Sm at m3
 have em3:f3.m={s with i:=f3.m.i,no:=f3.m.no,ty:=f3.m.ty,fF:=(declT T s.fF s.fu.length s.i).2.1,fu:=s.fu++[y.1]}:=by
  rw[hf2,em] at m3
  exact m3
 have n4:f3.nm=z.1.2.1:=by rw[n3,hf2]
 have t3:=g3.1.ty
 have t4:=g3.1.tl
 obtain⟨a3,b3,c3,e3⟩:∃a b c,f3.m={s with i:=a,no:=b,ty:=c,fF:=(declT T s.fF s.fu.length s.i).2.1,fu:=s.fu++[y.1]}:=⟨_,_,_,em3⟩
 cases h
 rw[n4]
 rw[e3] at t3 t4 ⊢
 refine⟨mem_app hs.fu hy.1,hs.ta,hs.me,hs.gl,hs.ex,hs.st,hs.el,mem_app hs.co ?_,hs.da,?_,?_,t3,hs.kF,hs.kG,hs.fT,t4⟩
 ·exact mem_app g3.1.al (insB_ok 11)
 ·intro q hq
  rcases declT_sz hT q hq with c | c
  ·exact hs.fF q c
  ·exact c.2
 ·refine mem_app (fun q hq=>?_) ⟨?_,hzn⟩
  ·have:=hs.lo q hq
   refine⟨?_,this.2⟩
   show q.1<(s.fu++[y.1]).length
   simp
   omega
  ·show s.fu.length<(s.fu++[y.1]).length
   simp
theorem modT_ok {s s':MS} (hT:TW T) (h0:0<T.length) (hty:s.ty=[]) (hs:Sml s) (h:modT T s=.ok s'):Sml s':=by
 obtain⟨x,h1,h⟩:=bnd_inv h
 obtain⟨s1,h2,h⟩:=bnd_inv h
 obtain⟨s2,h3,h⟩:=bnd_inv h
 obtain⟨s3,h4,h⟩:=bnd_inv h
 obtain⟨s4,h5,h⟩:=bnd_inv h
 obtain⟨s5,h6,h⟩:=bnd_inv h
 obtain⟨s6,h7,h⟩:=bnd_inv h
 obtain⟨s7,h8,h⟩:=bnd_inv h
 obtain⟨s8,h9,h⟩:=bnd_inv h
 obtain⟨s9,h10,h⟩:=bnd_inv h
 obtain⟨j,h11,h⟩:=bnd_inv h
 obtain⟨y,h12,h⟩:=bnd_inv h
 have i1:=takeO_le hT h1
 have g1:=itemsT_okT hT h2 (by show x.2<T.length;omega) (by show s.ty.length=0;rw[hty];rfl) (by omega) (hs.at _)
 have g2:=itemsT_ok (fun a b hi hs hb=>fnT_ok hT hi hs hb) h3 g1.2 g1.1
 have g3:=perhapsT_ok (fun a b _ _ hs hb=>taT_ok hs hb) g2.2 g2.1 h4
 have g4:=perhapsT_ok (fun a b _ _ hs hb=>meT_ok hs hb) g3.2 g3.1 h5
 have g5:=itemsT_ok (fun a b _ hs hb=>globT_ok hs hb) h6 g4.2 g4.1
 have g6:=itemsT_ok (fun a b _ hs hb=>exportT_ok hT hs hb) h7 g5.2 g5.1
 have g7:=perhapsT_ok (fun a b _ _ hs hb=>startT_ok hs hb) g6.2 g6.1 h8
 have g8:=itemsT_ok (fun a b _ hs hb=>elemI_ok hs hb) h9 g7.2 g7.1
 have g9:=itemsT_ok (fun a b _ hs hb=>dataT_ok hs hb) h10 g8.2 g8.1
 cases h
 exact g9.1.at _
theorem mkS_ok {a b c:List Nam} (hb:∀x∈b,x.1≤100000) (hc:∀x∈c,x.1≤100000):Sml (mkS a b c):=by
 refine⟨?_,?_,?_,?_,?_,?_,?_,?_,?_,?_,?_,?_,hb,hc,?_,?_⟩<;>simp[mkS]
end
end
section
open Go.RowKit
set_option linter.unusedSimpArgs false
set_option linter.unusedVariables false
section
variable {w0 w:World} {wb:Nat} {os:List Nat} {Y R:List It}
set_option maxRecDepth 100000 in
set_option maxHeartbeats 1600000 in
theorem liKind_all {P M:Nat} {els:List (Nat)} {pf:Nat→List Nat} {v:Value} (hP:Enters P) (hput:∀x∈els,∀os Y' w',os.length+M≤1000000000000→(∀p∈R,p∈Y')→WW w0 wb os Y' w'→Calls Tryz.prog P #[.pointer (some ⟨wb,0,none⟩),.int .u8 (x:Nat)] w' (fun e w2=>e=.returned (.tuple #[])∧WW w0 wb (os++pf x) Y' w2))
  (hlen:∀x∈els,(pf x).length≤M) (hr:HasR R 73 1 v els.length (els.flatMap (fun x:Nat=>([.int .u8 (x:Nat)]:List Value)))) (hs:∀p∈R,p∈Y) (hm:els.length≤1000) (hM:M≤100000000) (h:WW w0 wb os Y w) (hn:os.length+6+1000*M≤1000000000000):
  Calls Tryz.prog 42 #[.pointer (some ⟨wb,0,none⟩),v,.func (.func P) #[] #[]] w (fun e w'=>e=.returned (.tuple #[])∧WW w0 wb (os++(uN (els.length:Nat)++els.flatMap pf)) Y w'):=by
 have hcl:∀(args:Array Value) (w:World),(callFunc P args).run Tryz.prog w=.ok (.enter P args) w:=hP
 have hw:IntKind.u32.wrap (els.length:Int)=(els.length:Int):=wrap_u32 (by omega)
 obtain⟨pv,cv,rfl⟩:=Row.shape (h.row hr hs)
 have H:=hide h
 have HN:=hide hn
 have HPut:=hide hput
 have HLen:=hide hlen
 have HR:=hide hr
 have HS:=hide hs
 clear h hn hput hlen hr hs hP
 go_enter Tryz.func42,Tryz.ntmps42
 go_wp2_with fail
 refine(wrU_all (n:=(els.length:Int)) (by omega) (by omega) H.out (by have:=HN.out;omega)).mono ?_
 rintro e w1 ⟨rfl,h1⟩
 have H1:=hide h1
 clear h1 H
 go_wp2_with fail
 go_loopw [15] (fun q W9=>∃(j:Nat) (os':List Nat),j≤els.length∧q=.int .i64 (j:Nat)∧os'.length+(els.length - j)*M≤os.length+6+els.length*M∧os++(uN (els.length:Nat)++els.flatMap pf)=os'++(els.drop j).flatMap pf∧WW w0 wb os' Y W9) (fun q _=>els.length - (intOf q).toNat)
 case atStart=>
  refine⟨0,_,Nat.zero_le _,rfl,?_,?_,H1.out⟩
  ·rw[List.length_append];have:=uN_len (els.length:Nat);simp only[Nat.sub_zero];omega
  ·simp
 case round=>
  obtain⟨j,os',hj,rfl,hb,hL,hW⟩:=hrel
  clear H1
  have HL:=hide hL
  have HW:=hide hW
  have HB:=hide hb
  clear hL hW hb
  by_cases hlt:j<els.length
  ·have hlt':(j:Int)<(els.length:Int):=by omega
   obtain⟨x,hx⟩:∃x,els[j]?=some x:=⟨_,List.getElem?_eq_getElem hlt⟩
   have hxm:=List.mem_of_getElem? hx
   have HXM:=hide hxm
   obtain⟨gT,cpT,hvT,-,hgl,-,hcell⟩:=Row.cells (HW.out.row HR.out HS.out) (by omega)
   cases hvT
   have k0:wr.cell? ⟨gT,j,none⟩=some (.int .u8 (x:Nat)):=(hcell (j) (by omega)).trans (by have:=flat_get (f:=(fun x:Nat=>([.int .u8 (x:Nat)]:List Value))) (m:=1) (o:=0) (fun _=>rfl) hx (by omega);simpa using this)
   have HD:Hid (os++(uN (els.length:Nat)++els.flatMap pf)=(os'++pf x)++(els.drop (j+1)).flatMap pf):=by
    show _=_
    rw[HL.out,List.drop_eq_getElem_cons hlt]
    have e:els[j]=x:=by rw[List.getElem?_eq_getElem hlt] at hx;exact Option.some.inj hx
    rw[e]
    simp
   have HC:Hid (os'.length+M≤1000000000000∧(os'++pf x).length+(els.length - (j+1))*M≤os.length+6+els.length*M):=by
    have g1:=HB.out
    have g2:=HLen.out x hxm
    have g3:=HN.out
    have g4:(els.length - j)*M=(els.length - (j+1))*M+M:=by
     have:els.length - j=(els.length - (j+1))+1:=by omega
     rw[this,Nat.add_mul,Nat.one_mul]
    have g5:els.length*M≤1000*M:=Nat.mul_le_mul_right _ hm
    rw[List.length_append]
    exact⟨by omega,by omega⟩
   have HP:=HPut.out x hxm
   have HP2:=hide HP
   have HNW:=hide HW.out
   clear hcell hx hxm HL HB HP
   go_wp2_with fail
   refine(HP2.out os' _ _ HC.out.1 HS.out HNW.out).mono ?_
   rintro e w3 ⟨rfl,h3⟩
   have H3:=hide h3
   clear h3 HNW HW HP2 k0
   go_wp2
   go_roundw
   case rel=>exact⟨j+1,_,by omega,by go_num,HC.out.2,HD.out,H3.out⟩
   case measure=>simp[intOf];omega
  ·have HD:Hid (os++(uN (els.length:Nat)++els.flatMap pf)=os'):=by
    show _=_
    rw[HL.out,List.drop_eq_nil_of_le (by omega)]
    simp
   clear HL HB
   go_wp2
   go_end0
   exact⟨rfl,by rw[HD.out];exact HW.out⟩
set_option maxRecDepth 100000 in
set_option maxHeartbeats 1600000 in
theorem liNumber_all {P M:Nat} {els:List (Nat)} {pf:Nat→List Nat} {v:Value} (hP:Enters P) (hput:∀x∈els,∀os Y' w',os.length+M≤1000000000000→(∀p∈R,p∈Y')→WW w0 wb os Y' w'→Calls Tryz.prog P #[.pointer (some ⟨wb,0,none⟩),.agg #[.int .u32 (x:Nat),.int .i64 0]] w' (fun e w2=>e=.returned (.tuple #[])∧WW w0 wb (os++pf x) Y' w2))
  (hlen:∀x∈els,(pf x).length≤M) (hr:HasR R 66 2 v els.length (els.flatMap (fun x:Nat=>([.int .u32 (x:Nat),.int .i64 0]:List Value)))) (hs:∀p∈R,p∈Y) (hm:els.length≤1000) (hM:M≤100000000) (h:WW w0 wb os Y w) (hn:os.length+6+1000*M≤1000000000000):
  Calls Tryz.prog 45 #[.pointer (some ⟨wb,0,none⟩),v,.func (.func P) #[] #[]] w (fun e w'=>e=.returned (.tuple #[])∧WW w0 wb (os++(uN (els.length:Nat)++els.flatMap pf)) Y w'):=by
 have hcl:∀(args:Array Value) (w:World),(callFunc P args).run Tryz.prog w=.ok (.enter P args) w:=hP
 have hw:IntKind.u32.wrap (els.length:Int)=(els.length:Int):=wrap_u32 (by omega)
 obtain⟨pv,cv,rfl⟩:=Row.shape (h.row hr hs)
 have H:=hide h
 have HN:=hide hn
 have HPut:=hide hput
 have HLen:=hide hlen
 have HR:=hide hr
 have HS:=hide hs
 clear h hn hput hlen hr hs hP
 go_enter Tryz.func45,Tryz.ntmps45
 go_wp2_with fail
 refine(wrU_all (n:=(els.length:Int)) (by omega) (by omega) H.out (by have:=HN.out;omega)).mono ?_
 rintro e w1 ⟨rfl,h1⟩
 have H1:=hide h1
 clear h1 H
 go_wp2_with fail
 go_loopw [15] (fun q W9=>∃(j:Nat) (os':List Nat),j≤els.length∧q=.int .i64 (j:Nat)∧os'.length+(els.length - j)*M≤os.length+6+els.length*M∧os++(uN (els.length:Nat)++els.flatMap pf)=os'++(els.drop j).flatMap pf∧WW w0 wb os' Y W9) (fun q _=>els.length - (intOf q).toNat)
 case atStart=>
  refine⟨0,_,Nat.zero_le _,rfl,?_,?_,H1.out⟩
  ·rw[List.length_append];have:=uN_len (els.length:Nat);simp only[Nat.sub_zero];omega
  ·simp
 case round=>
  obtain⟨j,os',hj,rfl,hb,hL,hW⟩:=hrel
  clear H1
  have HL:=hide hL
  have HW:=hide hW
  have HB:=hide hb
  clear hL hW hb
  by_cases hlt:j<els.length
  ·have hlt':(j:Int)<(els.length:Int):=by omega
   obtain⟨x,hx⟩:∃x,els[j]?=some x:=⟨_,List.getElem?_eq_getElem hlt⟩
   have hxm:=List.mem_of_getElem? hx
   have HXM:=hide hxm
   obtain⟨gT,cpT,hvT,-,hgl,-,hcell⟩:=Row.cells (HW.out.row HR.out HS.out) (by omega)
   cases hvT
   have k0:wr.cell? ⟨gT,j*2,none⟩=some (.int .u32 (x:Nat)):=(hcell (j*2) (by omega)).trans (by have:=flat_get (f:=(fun x:Nat=>([.int .u32 (x:Nat),.int .i64 0]:List Value))) (m:=2) (o:=0) (fun _=>rfl) hx (by omega);simpa using this)
   have k1:wr.cell? ⟨gT,j*2+1,none⟩=some (.int .i64 0):=(hcell (j*2+1) (by omega)).trans (by have:=flat_get (f:=(fun x:Nat=>([.int .u32 (x:Nat),.int .i64 0]:List Value))) (m:=2) (o:=1) (fun _=>rfl) hx (by omega);simpa using this)
   have HD:Hid (os++(uN (els.length:Nat)++els.flatMap pf)=(os'++pf x)++(els.drop (j+1)).flatMap pf):=by
    show _=_
    rw[HL.out,List.drop_eq_getElem_cons hlt]
    have e:els[j]=x:=by rw[List.getElem?_eq_getElem hlt] at hx;exact Option.some.inj hx
    rw[e]
    simp
   have HC:Hid (os'.length+M≤1000000000000∧(os'++pf x).length+(els.length - (j+1))*M≤os.length+6+els.length*M):=by
    have g1:=HB.out
    have g2:=HLen.out x hxm
    have g3:=HN.out
    have g4:(els.length - j)*M=(els.length - (j+1))*M+M:=by
     have:els.length - j=(els.length - (j+1))+1:=by omega
     rw[this,Nat.add_mul,Nat.one_mul]
    have g5:els.length*M≤1000*M:=Nat.mul_le_mul_right _ hm
    rw[List.length_append]
    exact⟨by omega,by omega⟩
   have HP:=HPut.out x hxm
   have HP2:=hide HP
   have HNW:=hide (HW.out.new #[.int .u32 (x:Nat),.int .i64 0] 66)
   clear hcell hx hxm HL HB HP
   go_wp2_with fail
   refine(HP2.out os' _ _ HC.out.1 (fun p hp=>List.mem_cons_of_mem _ (HS.out p hp)) HNW.out).mono ?_
   rintro e w3 ⟨rfl,h3⟩
   have H3:=hide h3.pop
   clear h3 HNW HW HP2 k0 k1
   go_wp2
   go_roundw
   case rel=>exact⟨j+1,_,by omega,by go_num,HC.out.2,HD.out,H3.out⟩
   case measure=>simp[intOf];omega
  ·have HD:Hid (os++(uN (els.length:Nat)++els.flatMap pf)=os'):=by
    show _=_
    rw[HL.out,List.drop_eq_nil_of_le (by omega)]
    simp
   clear HL HB
   go_wp2
   go_end0
   exact⟨rfl,by rw[HD.out];exact HW.out⟩
set_option maxRecDepth 100000 in
set_option maxHeartbeats 1600000 in
theorem liName_all {P M:Nat} {els:List (Nam)} {pf:Nam→List Nat} {v:Value} (hP:Enters P) (hput:∀x∈els,∀os Y' w',os.length+M≤1000000000000→(∀p∈R,p∈Y')→WW w0 wb os Y' w'→Calls Tryz.prog P #[.pointer (some ⟨wb,0,none⟩),.agg #[.int .i64 (x.1:Nat),.string x.2]] w' (fun e w2=>e=.returned (.tuple #[])∧WW w0 wb (os++pf x) Y' w2))
  (hlen:∀x∈els,(pf x).length≤M) (hr:HasR R 135 2 v els.length (els.flatMap (fun x:Nam=>([.int .i64 (x.1:Nat),.string x.2]:List Value)))) (hs:∀p∈R,p∈Y) (hm:els.length≤1000) (hM:M≤100000000) (h:WW w0 wb os Y w) (hn:os.length+6+1000*M≤1000000000000):
  Calls Tryz.prog 79 #[.pointer (some ⟨wb,0,none⟩),v,.func (.func P) #[] #[]] w (fun e w'=>e=.returned (.tuple #[])∧WW w0 wb (os++(uN (els.length:Nat)++els.flatMap pf)) Y w'):=by
 have hcl:∀(args:Array Value) (w:World),(callFunc P args).run Tryz.prog w=.ok (.enter P args) w:=hP
 have hw:IntKind.u32.wrap (els.length:Int)=(els.length:Int):=wrap_u32 (by omega)
 obtain⟨pv,cv,rfl⟩:=Row.shape (h.row hr hs)
 have H:=hide h
 have HN:=hide hn
 have HPut:=hide hput
 have HLen:=hide hlen
 have HR:=hide hr
 have HS:=hide hs
 clear h hn hput hlen hr hs hP
 go_enter Tryz.func79,Tryz.ntmps79
 go_wp2_with fail
 refine(wrU_all (n:=(els.length:Int)) (by omega) (by omega) H.out (by have:=HN.out;omega)).mono ?_
 rintro e w1 ⟨rfl,h1⟩
 have H1:=hide h1
 clear h1 H
 go_wp2_with fail
 go_loopw [15] (fun q W9=>∃(j:Nat) (os':List Nat),j≤els.length∧q=.int .i64 (j:Nat)∧os'.length+(els.length - j)*M≤os.length+6+els.length*M∧os++(uN (els.length:Nat)++els.flatMap pf)=os'++(els.drop j).flatMap pf∧WW w0 wb os' Y W9) (fun q _=>els.length - (intOf q).toNat)
 case atStart=>
  refine⟨0,_,Nat.zero_le _,rfl,?_,?_,H1.out⟩
  ·rw[List.length_append];have:=uN_len (els.length:Nat);simp only[Nat.sub_zero];omega
  ·simp
 case round=>
  obtain⟨j,os',hj,rfl,hb,hL,hW⟩:=hrel
  clear H1
  have HL:=hide hL
  have HW:=hide hW
  have HB:=hide hb
  clear hL hW hb
  by_cases hlt:j<els.length
  ·have hlt':(j:Int)<(els.length:Int):=by omega
   obtain⟨x,hx⟩:∃x,els[j]?=some x:=⟨_,List.getElem?_eq_getElem hlt⟩
   have hxm:=List.mem_of_getElem? hx
   have HXM:=hide hxm
   obtain⟨gT,cpT,hvT,-,hgl,-,hcell⟩:=Row.cells (HW.out.row HR.out HS.out) (by omega)
   cases hvT
   have k0:wr.cell? ⟨gT,j*2,none⟩=some (.int .i64 (x.1:Nat)):=(hcell (j*2) (by omega)).trans (by have:=flat_get (f:=(fun x:Nam=>([.int .i64 (x.1:Nat),.string x.2]:List Value))) (m:=2) (o:=0) (fun _=>rfl) hx (by omega);simpa using this)
   have k1:wr.cell? ⟨gT,j*2+1,none⟩=some (.string x.2):=(hcell (j*2+1) (by omega)).trans (by have:=flat_get (f:=(fun x:Nam=>([.int .i64 (x.1:Nat),.string x.2]:List Value))) (m:=2) (o:=1) (fun _=>rfl) hx (by omega);simpa using this)
   have HD:Hid (os++(uN (els.length:Nat)++els.flatMap pf)=(os'++pf x)++(els.drop (j+1)).flatMap pf):=by
    show _=_
    rw[HL.out,List.drop_eq_getElem_cons hlt]
    have e:els[j]=x:=by rw[List.getElem?_eq_getElem hlt] at hx;exact Option.some.inj hx
    rw[e]
    simp
   have HC:Hid (os'.length+M≤1000000000000∧(os'++pf x).length+(els.length - (j+1))*M≤os.length+6+els.length*M):=by
    have g1:=HB.out
    have g2:=HLen.out x hxm
    have g3:=HN.out
    have g4:(els.length - j)*M=(els.length - (j+1))*M+M:=by
     have:els.length - j=(els.length - (j+1))+1:=by omega
     rw[this,Nat.add_mul,Nat.one_mul]
    have g5:els.length*M≤1000*M:=Nat.mul_le_mul_right _ hm
    rw[List.length_append]
    exact⟨by omega,by omega⟩
   have HP:=HPut.out x hxm
   have HP2:=hide HP
   have HNW:=hide (HW.out.new #[.int .i64 (x.1:Nat),.string x.2] 135)
   clear hcell hx hxm HL HB HP
   go_wp2_with fail
   refine(HP2.out os' _ _ HC.out.1 (fun p hp=>List.mem_cons_of_mem _ (HS.out p hp)) HNW.out).mono ?_
   rintro e w3 ⟨rfl,h3⟩
   have H3:=hide h3.pop
   clear h3 HNW HW HP2 k0 k1
   go_wp2
   go_roundw
   case rel=>exact⟨j+1,_,by omega,by go_num,HC.out.2,HD.out,H3.out⟩
   case measure=>simp[intOf];omega
  ·have HD:Hid (os++(uN (els.length:Nat)++els.flatMap pf)=os'):=by
    show _=_
    rw[HL.out,List.drop_eq_nil_of_le (by omega)]
    simp
   clear HL HB
   go_wp2
   go_end0
   exact⟨rfl,by rw[HD.out];exact HW.out⟩
set_option maxRecDepth 100000 in
set_option maxHeartbeats 1600000 in
theorem liRun_all {P M:Nat} {els:List (Nat×Nat)} {pf:Nat×Nat→List Nat} {v:Value} (hP:Enters P) (hput:∀x∈els,∀os Y' w',os.length+M≤1000000000000→(∀p∈R,p∈Y')→WW w0 wb os Y' w'→Calls Tryz.prog P #[.pointer (some ⟨wb,0,none⟩),.agg #[.int .u32 (x.1:Nat),.int .u8 (x.2:Nat)]] w' (fun e w2=>e=.returned (.tuple #[])∧WW w0 wb (os++pf x) Y' w2))
  (hlen:∀x∈els,(pf x).length≤M) (hr:HasR R 126 2 v els.length (els.flatMap (fun x:Nat×Nat=>([.int .u32 (x.1:Nat),.int .u8 (x.2:Nat)]:List Value)))) (hs:∀p∈R,p∈Y) (hm:els.length≤1000) (hM:M≤100000000) (h:WW w0 wb os Y w) (hn:os.length+6+1000*M≤1000000000000):
  Calls Tryz.prog 61 #[.pointer (some ⟨wb,0,none⟩),v,.func (.func P) #[] #[]] w (fun e w'=>e=.returned (.tuple #[])∧WW w0 wb (os++(uN (els.length:Nat)++els.flatMap pf)) Y w'):=by
 have hcl:∀(args:Array Value) (w:World),(callFunc P args).run Tryz.prog w=.ok (.enter P args) w:=hP
 have hw:IntKind.u32.wrap (els.length:Int)=(els.length:Int):=wrap_u32 (by omega)
 obtain⟨pv,cv,rfl⟩:=Row.shape (h.row hr hs)
 have H:=hide h
 have HN:=hide hn
 have HPut:=hide hput
 have HLen:=hide hlen
 have HR:=hide hr
 have HS:=hide hs
 clear h hn hput hlen hr hs hP
 go_enter Tryz.func61,Tryz.ntmps61
 go_wp2_with fail
 refine(wrU_all (n:=(els.length:Int)) (by omega) (by omega) H.out (by have:=HN.out;omega)).mono ?_
 rintro e w1 ⟨rfl,h1⟩
 have H1:=hide h1
 clear h1 H
 go_wp2_with fail
 go_loopw [15] (fun q W9=>∃(j:Nat) (os':List Nat),j≤els.length∧q=.int .i64 (j:Nat)∧os'.length+(els.length - j)*M≤os.length+6+els.length*M∧os++(uN (els.length:Nat)++els.flatMap pf)=os'++(els.drop j).flatMap pf∧WW w0 wb os' Y W9) (fun q _=>els.length - (intOf q).toNat)
 case atStart=>
  refine⟨0,_,Nat.zero_le _,rfl,?_,?_,H1.out⟩
  ·rw[List.length_append];have:=uN_len (els.length:Nat);simp only[Nat.sub_zero];omega
  ·simp
 case round=>
  obtain⟨j,os',hj,rfl,hb,hL,hW⟩:=hrel
  clear H1
  have HL:=hide hL
  have HW:=hide hW
  have HB:=hide hb
  clear hL hW hb
  by_cases hlt:j<els.length
  ·have hlt':(j:Int)<(els.length:Int):=by omega
   obtain⟨x,hx⟩:∃x,els[j]?=some x:=⟨_,List.getElem?_eq_getElem hlt⟩
   have hxm:=List.mem_of_getElem? hx
   have HXM:=hide hxm
   obtain⟨gT,cpT,hvT,-,hgl,-,hcell⟩:=Row.cells (HW.out.row HR.out HS.out) (by omega)
   cases hvT
   have k0:wr.cell? ⟨gT,j*2,none⟩=some (.int .u32 (x.1:Nat)):=(hcell (j*2) (by omega)).trans (by have:=flat_get (f:=(fun x:Nat×Nat=>([.int .u32 (x.1:Nat),.int .u8 (x.2:Nat)]:List Value))) (m:=2) (o:=0) (fun _=>rfl) hx (by omega);simpa using this)
   have k1:wr.cell? ⟨gT,j*2+1,none⟩=some (.int .u8 (x.2:Nat)):=(hcell (j*2+1) (by omega)).trans (by have:=flat_get (f:=(fun x:Nat×Nat=>([.int .u32 (x.1:Nat),.int .u8 (x.2:Nat)]:List Value))) (m:=2) (o:=1) (fun _=>rfl) hx (by omega);simpa using this)
   have HD:Hid (os++(uN (els.length:Nat)++els.flatMap pf)=(os'++pf x)++(els.drop (j+1)).flatMap pf):=by
    show _=_
    rw[HL.out,List.drop_eq_getElem_cons hlt]
    have e:els[j]=x:=by rw[List.getElem?_eq_getElem hlt] at hx;exact Option.some.inj hx
    rw[e]
    simp
   have HC:Hid (os'.length+M≤1000000000000∧(os'++pf x).length+(els.length - (j+1))*M≤os.length+6+els.length*M):=by
    have g1:=HB.out
    have g2:=HLen.out x hxm
    have g3:=HN.out
    have g4:(els.length - j)*M=(els.length - (j+1))*M+M:=by
     have:els.length - j=(els.length - (j+1))+1:=by omega
     rw[this,Nat.add_mul,Nat.one_mul]
    have g5:els.length*M≤1000*M:=Nat.mul_le_mul_right _ hm
    rw[List.length_append]
    exact⟨by omega,by omega⟩
   have HP:=HPut.out x hxm
   have HP2:=hide HP
   have HNW:=hide (HW.out.new #[.int .u32 (x.1:Nat),.int .u8 (x.2:Nat)] 126)
   clear hcell hx hxm HL HB HP
   go_wp2_with fail
   refine(HP2.out os' _ _ HC.out.1 (fun p hp=>List.mem_cons_of_mem _ (HS.out p hp)) HNW.out).mono ?_
   rintro e w3 ⟨rfl,h3⟩
   have H3:=hide h3.pop
   clear h3 HNW HW HP2 k0 k1
   go_wp2
   go_roundw
   case rel=>exact⟨j+1,_,by omega,by go_num,HC.out.2,HD.out,H3.out⟩
   case measure=>simp[intOf];omega
  ·have HD:Hid (os++(uN (els.length:Nat)++els.flatMap pf)=os'):=by
    show _=_
    rw[HL.out,List.drop_eq_nil_of_le (by omega)]
    simp
   clear HL HB
   go_wp2
   go_end0
   exact⟨rfl,by rw[HD.out];exact HW.out⟩
end
end
section
open Go.RowKit
set_option linter.unusedSimpArgs false
set_option linter.unusedVariables false
section
variable {w0 w:World} {wb:Nat} {os:List Nat} {Y R:List It}
set_option maxRecDepth 100000 in
set_option maxHeartbeats 1600000 in
theorem liLimits_all {P M:Nat} {els:List (Lim)} {pf:Lim→List Nat} {v:Value} (hP:Enters P) (hput:∀x∈els,∀os Y' w',os.length+M≤1000000000000→(∀p∈R,p∈Y')→WW w0 wb os Y' w'→Calls Tryz.prog P #[.pointer (some ⟨wb,0,none⟩),.agg #[.int .i64 (x.at_:Nat),.int .u32 x.least,.int .u32 x.most,.bool x.has]] w' (fun e w2=>e=.returned (.tuple #[])∧WW w0 wb (os++pf x) Y' w2))
  (hlen:∀x∈els,(pf x).length≤M) (hr:HasR R 70 4 v els.length (els.flatMap (fun x:Lim=>([.int .i64 (x.at_:Nat),.int .u32 x.least,.int .u32 x.most,.bool x.has]:List Value)))) (hs:∀p∈R,p∈Y) (hm:els.length≤1000) (hM:M≤100000000) (h:WW w0 wb os Y w) (hn:os.length+6+1000*M≤1000000000000):
  Calls Tryz.prog 48 #[.pointer (some ⟨wb,0,none⟩),v,.func (.func P) #[] #[]] w (fun e w'=>e=.returned (.tuple #[])∧WW w0 wb (os++(uN (els.length:Nat)++els.flatMap pf)) Y w'):=by
 have hcl:∀(args:Array Value) (w:World),(callFunc P args).run Tryz.prog w=.ok (.enter P args) w:=hP
 have hw:IntKind.u32.wrap (els.length:Int)=(els.length:Int):=wrap_u32 (by omega)
 obtain⟨pv,cv,rfl⟩:=Row.shape (h.row hr hs)
 have H:=hide h
 have HN:=hide hn
 have HPut:=hide hput
 have HLen:=hide hlen
 have HR:=hide hr
 have HS:=hide hs
 clear h hn hput hlen hr hs hP
 go_enter Tryz.func48,Tryz.ntmps48
 go_wp2_with fail
 refine(wrU_all (n:=(els.length:Int)) (by omega) (by omega) H.out (by have:=HN.out;omega)).mono ?_
 rintro e w1 ⟨rfl,h1⟩
 have H1:=hide h1
 clear h1 H
 go_wp2_with fail
 go_loopw [15] (fun q W9=>∃(j:Nat) (os':List Nat),j≤els.length∧q=.int .i64 (j:Nat)∧os'.length+(els.length - j)*M≤os.length+6+els.length*M∧os++(uN (els.length:Nat)++els.flatMap pf)=os'++(els.drop j).flatMap pf∧WW w0 wb os' Y W9) (fun q _=>els.length - (intOf q).toNat)
 case atStart=>
  refine⟨0,_,Nat.zero_le _,rfl,?_,?_,H1.out⟩
  ·rw[List.length_append];have:=uN_len (els.length:Nat);simp only[Nat.sub_zero];omega
  ·simp
 case round=>
  obtain⟨j,os',hj,rfl,hb,hL,hW⟩:=hrel
  clear H1
  have HL:=hide hL
  have HW:=hide hW
  have HB:=hide hb
  clear hL hW hb
  by_cases hlt:j<els.length
  ·have hlt':(j:Int)<(els.length:Int):=by omega
   obtain⟨x,hx⟩:∃x,els[j]?=some x:=⟨_,List.getElem?_eq_getElem hlt⟩
   have hxm:=List.mem_of_getElem? hx
   have HXM:=hide hxm
   obtain⟨gT,cpT,hvT,-,hgl,-,hcell⟩:=Row.cells (HW.out.row HR.out HS.out) (by omega)
   cases hvT
   have k0:wr.cell? ⟨gT,j*4,none⟩=some (.int .i64 (x.at_:Nat)):=(hcell (j*4) (by omega)).trans (by have:=flat_get (f:=(fun x:Lim=>([.int .i64 (x.at_:Nat),.int .u32 x.least,.int .u32 x.most,.bool x.has]:List Value))) (m:=4) (o:=0) (fun _=>rfl) hx (by omega);simpa using this)
   have k1:wr.cell? ⟨gT,j*4+1,none⟩=some (.int .u32 x.least):=(hcell (j*4+1) (by omega)).trans (by have:=flat_get (f:=(fun x:Lim=>([.int .i64 (x.at_:Nat),.int .u32 x.least,.int .u32 x.most,.bool x.has]:List Value))) (m:=4) (o:=1) (fun _=>rfl) hx (by omega);simpa using this)
   have k2:wr.cell? ⟨gT,j*4+2,none⟩=some (.int .u32 x.most):=(hcell (j*4+2) (by omega)).trans (by have:=flat_get (f:=(fun x:Lim=>([.int .i64 (x.at_:Nat),.int .u32 x.least,.int .u32 x.most,.bool x.has]:List Value))) (m:=4) (o:=2) (fun _=>rfl) hx (by omega);simpa using this)
   have k3:wr.cell? ⟨gT,j*4+3,none⟩=some (.bool x.has):=(hcell (j*4+3) (by omega)).trans (by have:=flat_get (f:=(fun x:Lim=>([.int .i64 (x.at_:Nat),.int .u32 x.least,.int .u32 x.most,.bool x.has]:List Value))) (m:=4) (o:=3) (fun _=>rfl) hx (by omega);simpa using this)
   have HD:Hid (os++(uN (els.length:Nat)++els.flatMap pf)=(os'++pf x)++(els.drop (j+1)).flatMap pf):=by
    show _=_
    rw[HL.out,List.drop_eq_getElem_cons hlt]
    have e:els[j]=x:=by rw[List.getElem?_eq_getElem hlt] at hx;exact Option.some.inj hx
    rw[e]
    simp
   have HC:Hid (os'.length+M≤1000000000000∧(os'++pf x).length+(els.length - (j+1))*M≤os.length+6+els.length*M):=by
    have g1:=HB.out
    have g2:=HLen.out x hxm
    have g3:=HN.out
    have g4:(els.length - j)*M=(els.length - (j+1))*M+M:=by
     have:els.length - j=(els.length - (j+1))+1:=by omega
     rw[this,Nat.add_mul,Nat.one_mul]
    have g5:els.length*M≤1000*M:=Nat.mul_le_mul_right _ hm
    rw[List.length_append]
    exact⟨by omega,by omega⟩
   have HP:=HPut.out x hxm
   have HP2:=hide HP
   have HNW:=hide (HW.out.new #[.int .i64 (x.at_:Nat),.int .u32 x.least,.int .u32 x.most,.bool x.has] 70)
   clear hcell hx hxm HL HB HP
   go_wp2_with fail
   refine(HP2.out os' _ _ HC.out.1 (fun p hp=>List.mem_cons_of_mem _ (HS.out p hp)) HNW.out).mono ?_
   rintro e w3 ⟨rfl,h3⟩
   have H3:=hide h3.pop
   clear h3 HNW HW HP2 k0 k1 k2 k3
   go_wp2
   go_roundw
   case rel=>exact⟨j+1,_,by omega,by go_num,HC.out.2,HD.out,H3.out⟩
   case measure=>simp[intOf];omega
  ·have HD:Hid (os++(uN (els.length:Nat)++els.flatMap pf)=os'):=by
    show _=_
    rw[HL.out,List.drop_eq_nil_of_le (by omega)]
    simp
   clear HL HB
   go_wp2
   go_end0
   exact⟨rfl,by rw[HD.out];exact HW.out⟩
set_option maxRecDepth 100000 in
set_option maxHeartbeats 1600000 in
theorem liGlobal_all {P M:Nat} {els:List (Glb)} {pf:Glb→List Nat} {v:Value} (hP:Enters P) (hput:∀x∈els,∀os Y' w',os.length+M≤1000000000000→(∀p∈R,p∈Y')→WW w0 wb os Y' w'→Calls Tryz.prog P #[.pointer (some ⟨wb,0,none⟩),.agg #[.int .u8 (x.kind:Nat),.bool x.set_,.int .i64 (x.first.at_:Nat),.int .u8 (x.first.kind:Nat),.int .i64 x.first.val]] w' (fun e w2=>e=.returned (.tuple #[])∧WW w0 wb (os++pf x) Y' w2))
  (hlen:∀x∈els,(pf x).length≤M) (hr:HasR R 77 5 v els.length (els.flatMap (fun x:Glb=>([.int .u8 (x.kind:Nat),.bool x.set_,.int .i64 (x.first.at_:Nat),.int .u8 (x.first.kind:Nat),.int .i64 x.first.val]:List Value)))) (hs:∀p∈R,p∈Y) (hm:els.length≤1000) (hM:M≤100000000) (h:WW w0 wb os Y w) (hn:os.length+6+1000*M≤1000000000000):
  Calls Tryz.prog 50 #[.pointer (some ⟨wb,0,none⟩),v,.func (.func P) #[] #[]] w (fun e w'=>e=.returned (.tuple #[])∧WW w0 wb (os++(uN (els.length:Nat)++els.flatMap pf)) Y w'):=by
 have hcl:∀(args:Array Value) (w:World),(callFunc P args).run Tryz.prog w=.ok (.enter P args) w:=hP
 have hw:IntKind.u32.wrap (els.length:Int)=(els.length:Int):=wrap_u32 (by omega)
 obtain⟨pv,cv,rfl⟩:=Row.shape (h.row hr hs)
 have H:=hide h
 have HN:=hide hn
 have HPut:=hide hput
 have HLen:=hide hlen
 have HR:=hide hr
 have HS:=hide hs
 clear h hn hput hlen hr hs hP
 go_enter Tryz.func50,Tryz.ntmps50
 go_wp2_with fail
 refine(wrU_all (n:=(els.length:Int)) (by omega) (by omega) H.out (by have:=HN.out;omega)).mono ?_
 rintro e w1 ⟨rfl,h1⟩
 have H1:=hide h1
 clear h1 H
 go_wp2_with fail
 go_loopw [15] (fun q W9=>∃(j:Nat) (os':List Nat),j≤els.length∧q=.int .i64 (j:Nat)∧os'.length+(els.length - j)*M≤os.length+6+els.length*M∧os++(uN (els.length:Nat)++els.flatMap pf)=os'++(els.drop j).flatMap pf∧WW w0 wb os' Y W9) (fun q _=>els.length - (intOf q).toNat)
 case atStart=>
  refine⟨0,_,Nat.zero_le _,rfl,?_,?_,H1.out⟩
  ·rw[List.length_append];have:=uN_len (els.length:Nat);simp only[Nat.sub_zero];omega
  ·simp
 case round=>
  obtain⟨j,os',hj,rfl,hb,hL,hW⟩:=hrel
  clear H1
  have HL:=hide hL
  have HW:=hide hW
  have HB:=hide hb
  clear hL hW hb
  by_cases hlt:j<els.length
  ·have hlt':(j:Int)<(els.length:Int):=by omega
   obtain⟨x,hx⟩:∃x,els[j]?=some x:=⟨_,List.getElem?_eq_getElem hlt⟩
   have hxm:=List.mem_of_getElem? hx
   have HXM:=hide hxm
   obtain⟨gT,cpT,hvT,-,hgl,-,hcell⟩:=Row.cells (HW.out.row HR.out HS.out) (by omega)
   cases hvT
   have k0:wr.cell? ⟨gT,j*5,none⟩=some (.int .u8 (x.kind:Nat)):=(hcell (j*5) (by omega)).trans (by have:=flat_get (f:=(fun x:Glb=>([.int .u8 (x.kind:Nat),.bool x.set_,.int .i64 (x.first.at_:Nat),.int .u8 (x.first.kind:Nat),.int .i64 x.first.val]:List Value))) (m:=5) (o:=0) (fun _=>rfl) hx (by omega);simpa using this)
   have k1:wr.cell? ⟨gT,j*5+1,none⟩=some (.bool x.set_):=(hcell (j*5+1) (by omega)).trans (by have:=flat_get (f:=(fun x:Glb=>([.int .u8 (x.kind:Nat),.bool x.set_,.int .i64 (x.first.at_:Nat),.int .u8 (x.first.kind:Nat),.int .i64 x.first.val]:List Value))) (m:=5) (o:=1) (fun _=>rfl) hx (by omega);simpa using this)
   have k2:wr.cell? ⟨gT,j*5+2,none⟩=some (.int .i64 (x.first.at_:Nat)):=(hcell (j*5+2) (by omega)).trans (by have:=flat_get (f:=(fun x:Glb=>([.int .u8 (x.kind:Nat),.bool x.set_,.int .i64 (x.first.at_:Nat),.int .u8 (x.first.kind:Nat),.int .i64 x.first.val]:List Value))) (m:=5) (o:=2) (fun _=>rfl) hx (by omega);simpa using this)
   have k3:wr.cell? ⟨gT,j*5+3,none⟩=some (.int .u8 (x.first.kind:Nat)):=(hcell (j*5+3) (by omega)).trans (by have:=flat_get (f:=(fun x:Glb=>([.int .u8 (x.kind:Nat),.bool x.set_,.int .i64 (x.first.at_:Nat),.int .u8 (x.first.kind:Nat),.int .i64 x.first.val]:List Value))) (m:=5) (o:=3) (fun _=>rfl) hx (by omega);simpa using this)
   have k4:wr.cell? ⟨gT,j*5+4,none⟩=some (.int .i64 x.first.val):=(hcell (j*5+4) (by omega)).trans (by have:=flat_get (f:=(fun x:Glb=>([.int .u8 (x.kind:Nat),.bool x.set_,.int .i64 (x.first.at_:Nat),.int .u8 (x.first.kind:Nat),.int .i64 x.first.val]:List Value))) (m:=5) (o:=4) (fun _=>rfl) hx (by omega);simpa using this)
   have HD:Hid (os++(uN (els.length:Nat)++els.flatMap pf)=(os'++pf x)++(els.drop (j+1)).flatMap pf):=by
    show _=_
    rw[HL.out,List.drop_eq_getElem_cons hlt]
    have e:els[j]=x:=by rw[List.getElem?_eq_getElem hlt] at hx;exact Option.some.inj hx
    rw[e]
    simp
   have HC:Hid (os'.length+M≤1000000000000∧(os'++pf x).length+(els.length - (j+1))*M≤os.length+6+els.length*M):=by
    have g1:=HB.out
    have g2:=HLen.out x hxm
    have g3:=HN.out
    have g4:(els.length - j)*M=(els.length - (j+1))*M+M:=by
     have:els.length - j=(els.length - (j+1))+1:=by omega
     rw[this,Nat.add_mul,Nat.one_mul]
    have g5:els.length*M≤1000*M:=Nat.mul_le_mul_right _ hm
    rw[List.length_append]
    exact⟨by omega,by omega⟩
   have HP:=HPut.out x hxm
   have HP2:=hide HP
   have HNW:=hide (HW.out.new #[.int .u8 (x.kind:Nat),.bool x.set_,.int .i64 (x.first.at_:Nat),.int .u8 (x.first.kind:Nat),.int .i64 x.first.val] 77)
   clear hcell hx hxm HL HB HP
   go_wp2_with fail
   refine(HP2.out os' _ _ HC.out.1 (fun p hp=>List.mem_cons_of_mem _ (HS.out p hp)) HNW.out).mono ?_
   rintro e w3 ⟨rfl,h3⟩
   have H3:=hide h3.pop
   clear h3 HNW HW HP2 k0 k1 k2 k3 k4
   go_wp2
   go_roundw
   case rel=>exact⟨j+1,_,by omega,by go_num,HC.out.2,HD.out,H3.out⟩
   case measure=>simp[intOf];omega
  ·have HD:Hid (os++(uN (els.length:Nat)++els.flatMap pf)=os'):=by
    show _=_
    rw[HL.out,List.drop_eq_nil_of_le (by omega)]
    simp
   clear HL HB
   go_wp2
   go_end0
   exact⟨rfl,by rw[HD.out];exact HW.out⟩
set_option maxRecDepth 100000 in
set_option maxHeartbeats 1600000 in
theorem liExport_all {P M:Nat} {els:List (ByteArray×Nat×Nat)} {pf:ByteArray×Nat×Nat→List Nat} {v:Value} (hP:Enters P) (hput:∀x∈els,∀os Y' w',os.length+M≤1000000000000→(∀p∈R,p∈Y')→WW w0 wb os Y' w'→Calls Tryz.prog P #[.pointer (some ⟨wb,0,none⟩),.agg #[.int .i64 0,.string x.1,.int .u8 (x.2.1:Nat),.int .u32 (x.2.2:Nat),.int .i64 0]] w' (fun e w2=>e=.returned (.tuple #[])∧WW w0 wb (os++pf x) Y' w2))
  (hlen:∀x∈els,(pf x).length≤M) (hr:HasR R 81 5 v els.length (els.flatMap (fun x:ByteArray×Nat×Nat=>([.int .i64 0,.string x.1,.int .u8 (x.2.1:Nat),.int .u32 (x.2.2:Nat),.int .i64 0]:List Value)))) (hs:∀p∈R,p∈Y) (hm:els.length≤1000) (hM:M≤100000000) (h:WW w0 wb os Y w) (hn:os.length+6+1000*M≤1000000000000):
  Calls Tryz.prog 53 #[.pointer (some ⟨wb,0,none⟩),v,.func (.func P) #[] #[]] w (fun e w'=>e=.returned (.tuple #[])∧WW w0 wb (os++(uN (els.length:Nat)++els.flatMap pf)) Y w'):=by
 have hcl:∀(args:Array Value) (w:World),(callFunc P args).run Tryz.prog w=.ok (.enter P args) w:=hP
 have hw:IntKind.u32.wrap (els.length:Int)=(els.length:Int):=wrap_u32 (by omega)
 obtain⟨pv,cv,rfl⟩:=Row.shape (h.row hr hs)
 have H:=hide h
 have HN:=hide hn
 have HPut:=hide hput
 have HLen:=hide hlen
 have HR:=hide hr
 have HS:=hide hs
 clear h hn hput hlen hr hs hP
 go_enter Tryz.func53,Tryz.ntmps53
 go_wp2_with fail
 refine(wrU_all (n:=(els.length:Int)) (by omega) (by omega) H.out (by have:=HN.out;omega)).mono ?_
 rintro e w1 ⟨rfl,h1⟩
 have H1:=hide h1
 clear h1 H
 go_wp2_with fail
 go_loopw [15] (fun q W9=>∃(j:Nat) (os':List Nat),j≤els.length∧q=.int .i64 (j:Nat)∧os'.length+(els.length - j)*M≤os.length+6+els.length*M∧os++(uN (els.length:Nat)++els.flatMap pf)=os'++(els.drop j).flatMap pf∧WW w0 wb os' Y W9) (fun q _=>els.length - (intOf q).toNat)
 case atStart=>
  refine⟨0,_,Nat.zero_le _,rfl,?_,?_,H1.out⟩
  ·rw[List.length_append];have:=uN_len (els.length:Nat);simp only[Nat.sub_zero];omega
  ·simp
 case round=>
  obtain⟨j,os',hj,rfl,hb,hL,hW⟩:=hrel
  clear H1
  have HL:=hide hL
  have HW:=hide hW
  have HB:=hide hb
  clear hL hW hb
  by_cases hlt:j<els.length
  ·have hlt':(j:Int)<(els.length:Int):=by omega
   obtain⟨x,hx⟩:∃x,els[j]?=some x:=⟨_,List.getElem?_eq_getElem hlt⟩
   have hxm:=List.mem_of_getElem? hx
   have HXM:=hide hxm
   obtain⟨gT,cpT,hvT,-,hgl,-,hcell⟩:=Row.cells (HW.out.row HR.out HS.out) (by omega)
   cases hvT
   have k0:wr.cell? ⟨gT,j*5,none⟩=some (.int .i64 0):=(hcell (j*5) (by omega)).trans (by have:=flat_get (f:=(fun x:ByteArray×Nat×Nat=>([.int .i64 0,.string x.1,.int .u8 (x.2.1:Nat),.int .u32 (x.2.2:Nat),.int .i64 0]:List Value))) (m:=5) (o:=0) (fun _=>rfl) hx (by omega);simpa using this)
   have k1:wr.cell? ⟨gT,j*5+1,none⟩=some (.string x.1):=(hcell (j*5+1) (by omega)).trans (by have:=flat_get (f:=(fun x:ByteArray×Nat×Nat=>([.int .i64 0,.string x.1,.int .u8 (x.2.1:Nat),.int .u32 (x.2.2:Nat),.int .i64 0]:List Value))) (m:=5) (o:=1) (fun _=>rfl) hx (by omega);simpa using this)
   have k2:wr.cell? ⟨gT,j*5+2,none⟩=some (.int .u8 (x.2.1:Nat)):=(hcell (j*5+2) (by omega)).trans (by have:=flat_get (f:=(fun x:ByteArray×Nat×Nat=>([.int .i64 0,.string x.1,.int .u8 (x.2.1:Nat),.int .u32 (x.2.2:Nat),.int .i64 0]:List Value))) (m:=5) (o:=2) (fun _=>rfl) hx (by omega);simpa using this)
   have k3:wr.cell? ⟨gT,j*5+3,none⟩=some (.int .u32 (x.2.2:Nat)):=(hcell (j*5+3) (by omega)).trans (by have:=flat_get (f:=(fun x:ByteArray×Nat×Nat=>([.int .i64 0,.string x.1,.int .u8 (x.2.1:Nat),.int .u32 (x.2.2:Nat),.int .i64 0]:List Value))) (m:=5) (o:=3) (fun _=>rfl) hx (by omega);simpa using this)
   have k4:wr.cell? ⟨gT,j*5+4,none⟩=some (.int .i64 0):=(hcell (j*5+4) (by omega)).trans (by have:=flat_get (f:=(fun x:ByteArray×Nat×Nat=>([.int .i64 0,.string x.1,.int .u8 (x.2.1:Nat),.int .u32 (x.2.2:Nat),.int .i64 0]:List Value))) (m:=5) (o:=4) (fun _=>rfl) hx (by omega);simpa using this)
   have HD:Hid (os++(uN (els.length:Nat)++els.flatMap pf)=(os'++pf x)++(els.drop (j+1)).flatMap pf):=by
    show _=_
    rw[HL.out,List.drop_eq_getElem_cons hlt]
    have e:els[j]=x:=by rw[List.getElem?_eq_getElem hlt] at hx;exact Option.some.inj hx
    rw[e]
    simp
   have HC:Hid (os'.length+M≤1000000000000∧(os'++pf x).length+(els.length - (j+1))*M≤os.length+6+els.length*M):=by
    have g1:=HB.out
    have g2:=HLen.out x hxm
    have g3:=HN.out
    have g4:(els.length - j)*M=(els.length - (j+1))*M+M:=by
     have:els.length - j=(els.length - (j+1))+1:=by omega
     rw[this,Nat.add_mul,Nat.one_mul]
    have g5:els.length*M≤1000*M:=Nat.mul_le_mul_right _ hm
    rw[List.length_append]
    exact⟨by omega,by omega⟩
   have HP:=HPut.out x hxm
   have HP2:=hide HP
   have HNW:=hide (HW.out.new #[.int .i64 0,.string x.1,.int .u8 (x.2.1:Nat),.int .u32 (x.2.2:Nat),.int .i64 0] 81)
   clear hcell hx hxm HL HB HP
   go_wp2_with fail
   refine(HP2.out os' _ _ HC.out.1 (fun p hp=>List.mem_cons_of_mem _ (HS.out p hp)) HNW.out).mono ?_
   rintro e w3 ⟨rfl,h3⟩
   have H3:=hide h3.pop
   clear h3 HNW HW HP2 k0 k1 k2 k3 k4
   go_wp2
   go_roundw
   case rel=>exact⟨j+1,_,by omega,by go_num,HC.out.2,HD.out,H3.out⟩
   case measure=>simp[intOf];omega
  ·have HD:Hid (os++(uN (els.length:Nat)++els.flatMap pf)=os'):=by
    show _=_
    rw[HL.out,List.drop_eq_nil_of_le (by omega)]
    simp
   clear HL HB
   go_wp2
   go_end0
   exact⟨rfl,by rw[HD.out];exact HW.out⟩
set_option maxRecDepth 100000 in
set_option maxHeartbeats 1600000 in
theorem liData_all {P M:Nat} {els:List (Cst)} {pf:Cst→List Nat} {v:Value} (hP:Enters P) (hput:∀x∈els,∀os Y' w',os.length+M≤1000000000000→(∀p∈R,p∈Y')→WW w0 wb os Y' w'→Calls Tryz.prog P #[.pointer (some ⟨wb,0,none⟩),.agg #[.int .i64 0,.int .i64 (x.at_:Nat),.int .u8 (x.kind:Nat),.int .i64 x.val,.string ⟨#[]⟩]] w' (fun e w2=>e=.returned (.tuple #[])∧WW w0 wb (os++pf x) Y' w2))
  (hlen:∀x∈els,(pf x).length≤M) (hr:HasR R 96 5 v els.length (els.flatMap (fun x:Cst=>([.int .i64 0,.int .i64 (x.at_:Nat),.int .u8 (x.kind:Nat),.int .i64 x.val,.string ⟨#[]⟩]:List Value)))) (hs:∀p∈R,p∈Y) (hm:els.length≤1000) (hM:M≤100000000) (h:WW w0 wb os Y w) (hn:os.length+6+1000*M≤1000000000000):
  Calls Tryz.prog 66 #[.pointer (some ⟨wb,0,none⟩),v,.func (.func P) #[] #[]] w (fun e w'=>e=.returned (.tuple #[])∧WW w0 wb (os++(uN (els.length:Nat)++els.flatMap pf)) Y w'):=by
 have hcl:∀(args:Array Value) (w:World),(callFunc P args).run Tryz.prog w=.ok (.enter P args) w:=hP
 have hw:IntKind.u32.wrap (els.length:Int)=(els.length:Int):=wrap_u32 (by omega)
 obtain⟨pv,cv,rfl⟩:=Row.shape (h.row hr hs)
 have H:=hide h
 have HN:=hide hn
 have HPut:=hide hput
 have HLen:=hide hlen
 have HR:=hide hr
 have HS:=hide hs
 clear h hn hput hlen hr hs hP
 go_enter Tryz.func66,Tryz.ntmps66
 go_wp2_with fail
 refine(wrU_all (n:=(els.length:Int)) (by omega) (by omega) H.out (by have:=HN.out;omega)).mono ?_
 rintro e w1 ⟨rfl,h1⟩
 have H1:=hide h1
 clear h1 H
 go_wp2_with fail
 go_loopw [15] (fun q W9=>∃(j:Nat) (os':List Nat),j≤els.length∧q=.int .i64 (j:Nat)∧os'.length+(els.length - j)*M≤os.length+6+els.length*M∧os++(uN (els.length:Nat)++els.flatMap pf)=os'++(els.drop j).flatMap pf∧WW w0 wb os' Y W9) (fun q _=>els.length - (intOf q).toNat)
 case atStart=>
  refine⟨0,_,Nat.zero_le _,rfl,?_,?_,H1.out⟩
  ·rw[List.length_append];have:=uN_len (els.length:Nat);simp only[Nat.sub_zero];omega
  ·simp
 case round=>
  obtain⟨j,os',hj,rfl,hb,hL,hW⟩:=hrel
  clear H1
  have HL:=hide hL
  have HW:=hide hW
  have HB:=hide hb
  clear hL hW hb
  by_cases hlt:j<els.length
  ·have hlt':(j:Int)<(els.length:Int):=by omega
   obtain⟨x,hx⟩:∃x,els[j]?=some x:=⟨_,List.getElem?_eq_getElem hlt⟩
   have hxm:=List.mem_of_getElem? hx
   have HXM:=hide hxm
   obtain⟨gT,cpT,hvT,-,hgl,-,hcell⟩:=Row.cells (HW.out.row HR.out HS.out) (by omega)
   cases hvT
   have k0:wr.cell? ⟨gT,j*5,none⟩=some (.int .i64 0):=(hcell (j*5) (by omega)).trans (by have:=flat_get (f:=(fun x:Cst=>([.int .i64 0,.int .i64 (x.at_:Nat),.int .u8 (x.kind:Nat),.int .i64 x.val,.string ⟨#[]⟩]:List Value))) (m:=5) (o:=0) (fun _=>rfl) hx (by omega);simpa using this)
   have k1:wr.cell? ⟨gT,j*5+1,none⟩=some (.int .i64 (x.at_:Nat)):=(hcell (j*5+1) (by omega)).trans (by have:=flat_get (f:=(fun x:Cst=>([.int .i64 0,.int .i64 (x.at_:Nat),.int .u8 (x.kind:Nat),.int .i64 x.val,.string ⟨#[]⟩]:List Value))) (m:=5) (o:=1) (fun _=>rfl) hx (by omega);simpa using this)
   have k2:wr.cell? ⟨gT,j*5+2,none⟩=some (.int .u8 (x.kind:Nat)):=(hcell (j*5+2) (by omega)).trans (by have:=flat_get (f:=(fun x:Cst=>([.int .i64 0,.int .i64 (x.at_:Nat),.int .u8 (x.kind:Nat),.int .i64 x.val,.string ⟨#[]⟩]:List Value))) (m:=5) (o:=2) (fun _=>rfl) hx (by omega);simpa using this)
   have k3:wr.cell? ⟨gT,j*5+3,none⟩=some (.int .i64 x.val):=(hcell (j*5+3) (by omega)).trans (by have:=flat_get (f:=(fun x:Cst=>([.int .i64 0,.int .i64 (x.at_:Nat),.int .u8 (x.kind:Nat),.int .i64 x.val,.string ⟨#[]⟩]:List Value))) (m:=5) (o:=3) (fun _=>rfl) hx (by omega);simpa using this)
   have k4:wr.cell? ⟨gT,j*5+4,none⟩=some (.string ⟨#[]⟩):=(hcell (j*5+4) (by omega)).trans (by have:=flat_get (f:=(fun x:Cst=>([.int .i64 0,.int .i64 (x.at_:Nat),.int .u8 (x.kind:Nat),.int .i64 x.val,.string ⟨#[]⟩]:List Value))) (m:=5) (o:=4) (fun _=>rfl) hx (by omega);simpa using this)
   have HD:Hid (os++(uN (els.length:Nat)++els.flatMap pf)=(os'++pf x)++(els.drop (j+1)).flatMap pf):=by
    show _=_
    rw[HL.out,List.drop_eq_getElem_cons hlt]
    have e:els[j]=x:=by rw[List.getElem?_eq_getElem hlt] at hx;exact Option.some.inj hx
    rw[e]
    simp
   have HC:Hid (os'.length+M≤1000000000000∧(os'++pf x).length+(els.length - (j+1))*M≤os.length+6+els.length*M):=by
    have g1:=HB.out
    have g2:=HLen.out x hxm
    have g3:=HN.out
    have g4:(els.length - j)*M=(els.length - (j+1))*M+M:=by
     have:els.length - j=(els.length - (j+1))+1:=by omega
     rw[this,Nat.add_mul,Nat.one_mul]
    have g5:els.length*M≤1000*M:=Nat.mul_le_mul_right _ hm
    rw[List.length_append]
    exact⟨by omega,by omega⟩
   have HP:=HPut.out x hxm
   have HP2:=hide HP
   have HNW:=hide (HW.out.new #[.int .i64 0,.int .i64 (x.at_:Nat),.int .u8 (x.kind:Nat),.int .i64 x.val,.string ⟨#[]⟩] 96)
   clear hcell hx hxm HL HB HP
   go_wp2_with fail
   refine(HP2.out os' _ _ HC.out.1 (fun p hp=>List.mem_cons_of_mem _ (HS.out p hp)) HNW.out).mono ?_
   rintro e w3 ⟨rfl,h3⟩
   have H3:=hide h3.pop
   clear h3 HNW HW HP2 k0 k1 k2 k3 k4
   go_wp2
   go_roundw
   case rel=>exact⟨j+1,_,by omega,by go_num,HC.out.2,HD.out,H3.out⟩
   case measure=>simp[intOf];omega
  ·have HD:Hid (os++(uN (els.length:Nat)++els.flatMap pf)=os'):=by
    show _=_
    rw[HL.out,List.drop_eq_nil_of_le (by omega)]
    simp
   clear HL HB
   go_wp2
   go_end0
   exact⟨rfl,by rw[HD.out];exact HW.out⟩
end
end
section
open Go.RowKit
set_option linter.unusedSimpArgs false
set_option linter.unusedVariables false
section
variable {w0 w:World} {wb:Nat} {os:List Nat} {Y R:List It}
set_option maxRecDepth 100000 in
set_option maxHeartbeats 1600000 in
theorem liType_all {P M:Nat} {els:List ((List Nat×List Nat)×TyV)} {pf:(List Nat×List Nat)×TyV→List Nat} {v:Value} (hP:Enters P) (hsh:∀x∈els,(∃p1 q1,x.2.1=.slice p1 x.1.1.length q1)∧∃p2 q2,x.2.2=.slice p2 x.1.2.length q2) (hput:∀x∈els,∀os Y' w',os.length+M≤1000000000000→(∀p∈R,p∈Y')→WW w0 wb os Y' w'→Calls Tryz.prog P #[.pointer (some ⟨wb,0,none⟩),.agg #[x.2.1,x.2.2]] w' (fun e w2=>e=.returned (.tuple #[])∧WW w0 wb (os++pf x) Y' w2))
  (hlen:∀x∈els,(pf x).length≤M) (hr:HasR R 47 2 v els.length (els.flatMap (fun x:(List Nat×List Nat)×TyV=>([x.2.1,x.2.2]:List Value)))) (hs:∀p∈R,p∈Y) (hm:els.length≤1000) (hM:M≤100000000) (h:WW w0 wb os Y w) (hn:os.length+6+1000*M≤1000000000000):
  Calls Tryz.prog 41 #[.pointer (some ⟨wb,0,none⟩),v,.func (.func P) #[] #[]] w (fun e w'=>e=.returned (.tuple #[])∧WW w0 wb (os++(uN (els.length:Nat)++els.flatMap pf)) Y w'):=by
 have hcl:∀(args:Array Value) (w:World),(callFunc P args).run Tryz.prog w=.ok (.enter P args) w:=hP
 have hw:IntKind.u32.wrap (els.length:Int)=(els.length:Int):=wrap_u32 (by omega)
 obtain⟨pv,cv,rfl⟩:=Row.shape (h.row hr hs)
 have H:=hide h
 have HN:=hide hn
 have HPut:=hide hput
 have HLen:=hide hlen
 have HR:=hide hr
 have HS:=hide hs
 clear h hn hput hlen hr hs hP
 go_enter Tryz.func41,Tryz.ntmps41
 go_wp2_with fail
 refine(wrU_all (n:=(els.length:Int)) (by omega) (by omega) H.out (by have:=HN.out;omega)).mono ?_
 rintro e w1 ⟨rfl,h1⟩
 have H1:=hide h1
 clear h1 H
 go_wp2_with fail
 go_loopw [15] (fun q W9=>∃(j:Nat) (os':List Nat),j≤els.length∧q=.int .i64 (j:Nat)∧os'.length+(els.length - j)*M≤os.length+6+els.length*M∧os++(uN (els.length:Nat)++els.flatMap pf)=os'++(els.drop j).flatMap pf∧WW w0 wb os' Y W9) (fun q _=>els.length - (intOf q).toNat)
 case atStart=>
  refine⟨0,_,Nat.zero_le _,rfl,?_,?_,H1.out⟩
  ·rw[List.length_append];have:=uN_len (els.length:Nat);simp only[Nat.sub_zero];omega
  ·simp
 case round=>
  obtain⟨j,os',hj,rfl,hb,hL,hW⟩:=hrel
  clear H1
  have HL:=hide hL
  have HW:=hide hW
  have HB:=hide hb
  clear hL hW hb
  by_cases hlt:j<els.length
  ·have hlt':(j:Int)<(els.length:Int):=by omega
   obtain⟨x,hx⟩:∃x,els[j]?=some x:=⟨_,List.getElem?_eq_getElem hlt⟩
   have hxm:=List.mem_of_getElem? hx
   have HXM:=hide hxm
   obtain⟨gT,cpT,hvT,-,hgl,-,hcell⟩:=Row.cells (HW.out.row HR.out HS.out) (by omega)
   cases hvT
   have k0:wr.cell? ⟨gT,j*2,none⟩=some (x.2.1):=(hcell (j*2) (by omega)).trans (by have:=flat_get (f:=(fun x:(List Nat×List Nat)×TyV=>([x.2.1,x.2.2]:List Value))) (m:=2) (o:=0) (fun _=>rfl) hx (by omega);simpa using this)
   have k1:wr.cell? ⟨gT,j*2+1,none⟩=some (x.2.2):=(hcell (j*2+1) (by omega)).trans (by have:=flat_get (f:=(fun x:(List Nat×List Nat)×TyV=>([x.2.1,x.2.2]:List Value))) (m:=2) (o:=1) (fun _=>rfl) hx (by omega);simpa using this)
   obtain⟨⟨p1,q1,s1⟩,p2,q2,s2⟩:=hsh x hxm
   rw[s1] at k0
   rw[s2] at k1
   have HD:Hid (os++(uN (els.length:Nat)++els.flatMap pf)=(os'++pf x)++(els.drop (j+1)).flatMap pf):=by
    show _=_
    rw[HL.out,List.drop_eq_getElem_cons hlt]
    have e:els[j]=x:=by rw[List.getElem?_eq_getElem hlt] at hx;exact Option.some.inj hx
    rw[e]
    simp
   have HC:Hid (os'.length+M≤1000000000000∧(os'++pf x).length+(els.length - (j+1))*M≤os.length+6+els.length*M):=by
    have g1:=HB.out
    have g2:=HLen.out x hxm
    have g3:=HN.out
    have g4:(els.length - j)*M=(els.length - (j+1))*M+M:=by
     have:els.length - j=(els.length - (j+1))+1:=by omega
     rw[this,Nat.add_mul,Nat.one_mul]
    have g5:els.length*M≤1000*M:=Nat.mul_le_mul_right _ hm
    rw[List.length_append]
    exact⟨by omega,by omega⟩
   have HP:=HPut.out x hxm
   rw[s1,s2] at HP
   clear s1 s2
   have HP2:=hide HP
   have HNW:=hide (HW.out.new #[.slice p1 x.1.1.length q1,.slice p2 x.1.2.length q2] 47)
   clear hcell hx hxm HL HB HP
   go_wp2_with fail
   refine(HP2.out os' _ _ HC.out.1 (fun p hp=>List.mem_cons_of_mem _ (HS.out p hp)) HNW.out).mono ?_
   rintro e w3 ⟨rfl,h3⟩
   have H3:=hide h3.pop
   clear h3 HNW HW HP2 k0 k1
   go_wp2
   go_roundw
   case rel=>exact⟨j+1,_,by omega,by go_num,HC.out.2,HD.out,H3.out⟩
   case measure=>simp[intOf];omega
  ·have HD:Hid (os++(uN (els.length:Nat)++els.flatMap pf)=os'):=by
    show _=_
    rw[HL.out,List.drop_eq_nil_of_le (by omega)]
    simp
   clear HL HB
   go_wp2
   go_end0
   exact⟨rfl,by rw[HD.out];exact HW.out⟩
set_option maxRecDepth 100000 in
set_option maxHeartbeats 1600000 in
theorem liElement_all {P M:Nat} {els:List ((Cst×List Nat)×Value)} {pf:(Cst×List Nat)×Value→List Nat} {v:Value} (hP:Enters P) (hsh:∀x∈els,∃p1 q1,x.2=.slice p1 x.1.2.length q1) (hput:∀x∈els,∀os Y' w',os.length+M≤1000000000000→(∀p∈R,p∈Y')→WW w0 wb os Y' w'→Calls Tryz.prog P #[.pointer (some ⟨wb,0,none⟩),.agg #[.int .i64 0,.int .i64 (x.1.1.at_:Nat),.int .u8 (x.1.1.kind:Nat),.int .i64 x.1.1.val,x.2]] w' (fun e w2=>e=.returned (.tuple #[])∧WW w0 wb (os++pf x) Y' w2))
  (hlen:∀x∈els,(pf x).length≤M) (hr:HasR R 86 5 v els.length (els.flatMap (fun x:(Cst×List Nat)×Value=>([.int .i64 0,.int .i64 (x.1.1.at_:Nat),.int .u8 (x.1.1.kind:Nat),.int .i64 x.1.1.val,x.2]:List Value)))) (hs:∀p∈R,p∈Y) (hm:els.length≤1000) (hM:M≤100000000) (h:WW w0 wb os Y w) (hn:os.length+6+1000*M≤1000000000000):
  Calls Tryz.prog 57 #[.pointer (some ⟨wb,0,none⟩),v,.func (.func P) #[] #[]] w (fun e w'=>e=.returned (.tuple #[])∧WW w0 wb (os++(uN (els.length:Nat)++els.flatMap pf)) Y w'):=by
 have hcl:∀(args:Array Value) (w:World),(callFunc P args).run Tryz.prog w=.ok (.enter P args) w:=hP
 have hw:IntKind.u32.wrap (els.length:Int)=(els.length:Int):=wrap_u32 (by omega)
 obtain⟨pv,cv,rfl⟩:=Row.shape (h.row hr hs)
 have H:=hide h
 have HN:=hide hn
 have HPut:=hide hput
 have HLen:=hide hlen
 have HR:=hide hr
 have HS:=hide hs
 clear h hn hput hlen hr hs hP
 go_enter Tryz.func57,Tryz.ntmps57
 go_wp2_with fail
 refine(wrU_all (n:=(els.length:Int)) (by omega) (by omega) H.out (by have:=HN.out;omega)).mono ?_
 rintro e w1 ⟨rfl,h1⟩
 have H1:=hide h1
 clear h1 H
 go_wp2_with fail
 go_loopw [15] (fun q W9=>∃(j:Nat) (os':List Nat),j≤els.length∧q=.int .i64 (j:Nat)∧os'.length+(els.length - j)*M≤os.length+6+els.length*M∧os++(uN (els.length:Nat)++els.flatMap pf)=os'++(els.drop j).flatMap pf∧WW w0 wb os' Y W9) (fun q _=>els.length - (intOf q).toNat)
 case atStart=>
  refine⟨0,_,Nat.zero_le _,rfl,?_,?_,H1.out⟩
  ·rw[List.length_append];have:=uN_len (els.length:Nat);simp only[Nat.sub_zero];omega
  ·simp
 case round=>
  obtain⟨j,os',hj,rfl,hb,hL,hW⟩:=hrel
  clear H1
  have HL:=hide hL
  have HW:=hide hW
  have HB:=hide hb
  clear hL hW hb
  by_cases hlt:j<els.length
  ·have hlt':(j:Int)<(els.length:Int):=by omega
   obtain⟨x,hx⟩:∃x,els[j]?=some x:=⟨_,List.getElem?_eq_getElem hlt⟩
   have hxm:=List.mem_of_getElem? hx
   have HXM:=hide hxm
   obtain⟨gT,cpT,hvT,-,hgl,-,hcell⟩:=Row.cells (HW.out.row HR.out HS.out) (by omega)
   cases hvT
   have k0:wr.cell? ⟨gT,j*5,none⟩=some (.int .i64 0):=(hcell (j*5) (by omega)).trans (by have:=flat_get (f:=(fun x:(Cst×List Nat)×Value=>([.int .i64 0,.int .i64 (x.1.1.at_:Nat),.int .u8 (x.1.1.kind:Nat),.int .i64 x.1.1.val,x.2]:List Value))) (m:=5) (o:=0) (fun _=>rfl) hx (by omega);simpa using this)
   have k1:wr.cell? ⟨gT,j*5+1,none⟩=some (.int .i64 (x.1.1.at_:Nat)):=(hcell (j*5+1) (by omega)).trans (by have:=flat_get (f:=(fun x:(Cst×List Nat)×Value=>([.int .i64 0,.int .i64 (x.1.1.at_:Nat),.int .u8 (x.1.1.kind:Nat),.int .i64 x.1.1.val,x.2]:List Value))) (m:=5) (o:=1) (fun _=>rfl) hx (by omega);simpa using this)
   have k2:wr.cell? ⟨gT,j*5+2,none⟩=some (.int .u8 (x.1.1.kind:Nat)):=(hcell (j*5+2) (by omega)).trans (by have:=flat_get (f:=(fun x:(Cst×List Nat)×Value=>([.int .i64 0,.int .i64 (x.1.1.at_:Nat),.int .u8 (x.1.1.kind:Nat),.int .i64 x.1.1.val,x.2]:List Value))) (m:=5) (o:=2) (fun _=>rfl) hx (by omega);simpa using this)
   have k3:wr.cell? ⟨gT,j*5+3,none⟩=some (.int .i64 x.1.1.val):=(hcell (j*5+3) (by omega)).trans (by have:=flat_get (f:=(fun x:(Cst×List Nat)×Value=>([.int .i64 0,.int .i64 (x.1.1.at_:Nat),.int .u8 (x.1.1.kind:Nat),.int .i64 x.1.1.val,x.2]:List Value))) (m:=5) (o:=3) (fun _=>rfl) hx (by omega);simpa using this)
   have k4:wr.cell? ⟨gT,j*5+4,none⟩=some (x.2):=(hcell (j*5+4) (by omega)).trans (by have:=flat_get (f:=(fun x:(Cst×List Nat)×Value=>([.int .i64 0,.int .i64 (x.1.1.at_:Nat),.int .u8 (x.1.1.kind:Nat),.int .i64 x.1.1.val,x.2]:List Value))) (m:=5) (o:=4) (fun _=>rfl) hx (by omega);simpa using this)
   obtain⟨p1,q1,s1⟩:=hsh x hxm
   rw[s1] at k4
   have HD:Hid (os++(uN (els.length:Nat)++els.flatMap pf)=(os'++pf x)++(els.drop (j+1)).flatMap pf):=by
    show _=_
    rw[HL.out,List.drop_eq_getElem_cons hlt]
    have e:els[j]=x:=by rw[List.getElem?_eq_getElem hlt] at hx;exact Option.some.inj hx
    rw[e]
    simp
   have HC:Hid (os'.length+M≤1000000000000∧(os'++pf x).length+(els.length - (j+1))*M≤os.length+6+els.length*M):=by
    have g1:=HB.out
    have g2:=HLen.out x hxm
    have g3:=HN.out
    have g4:(els.length - j)*M=(els.length - (j+1))*M+M:=by
     have:els.length - j=(els.length - (j+1))+1:=by omega
     rw[this,Nat.add_mul,Nat.one_mul]
    have g5:els.length*M≤1000*M:=Nat.mul_le_mul_right _ hm
    rw[List.length_append]
    exact⟨by omega,by omega⟩
   have HP:=HPut.out x hxm
   rw[s1] at HP
   clear s1
   have HP2:=hide HP
   have HNW:=hide (HW.out.new #[.int .i64 0,.int .i64 (x.1.1.at_:Nat),.int .u8 (x.1.1.kind:Nat),.int .i64 x.1.1.val,.slice p1 x.1.2.length q1] 86)
   clear hcell hx hxm HL HB HP
   go_wp2_with fail
   refine(HP2.out os' _ _ HC.out.1 (fun p hp=>List.mem_cons_of_mem _ (HS.out p hp)) HNW.out).mono ?_
   rintro e w3 ⟨rfl,h3⟩
   have H3:=hide h3.pop
   clear h3 HNW HW HP2 k0 k1 k2 k3 k4
   go_wp2
   go_roundw
   case rel=>exact⟨j+1,_,by omega,by go_num,HC.out.2,HD.out,H3.out⟩
   case measure=>simp[intOf];omega
  ·have HD:Hid (os++(uN (els.length:Nat)++els.flatMap pf)=os'):=by
    show _=_
    rw[HL.out,List.drop_eq_nil_of_le (by omega)]
    simp
   clear HL HB
   go_wp2
   go_end0
   exact⟨rfl,by rw[HD.out];exact HW.out⟩
set_option maxRecDepth 100000 in
set_option maxHeartbeats 1600000 in
theorem liLocalNames_all {P M:Nat} {els:List ((Nat×List Nam)×Value)} {pf:(Nat×List Nam)×Value→List Nat} {v:Value} (hP:Enters P) (hsh:∀x∈els,∃p1 q1,x.2=.slice p1 x.1.2.length q1) (hput:∀x∈els,∀os Y' w',os.length+M≤1000000000000→(∀p∈R,p∈Y')→WW w0 wb os Y' w'→Calls Tryz.prog P #[.pointer (some ⟨wb,0,none⟩),.agg #[.int .i64 (x.1.1:Nat),x.2]] w' (fun e w2=>e=.returned (.tuple #[])∧WW w0 wb (os++pf x) Y' w2))
  (hlen:∀x∈els,(pf x).length≤M) (hr:HasR R 139 2 v els.length (els.flatMap (fun x:(Nat×List Nam)×Value=>([.int .i64 (x.1.1:Nat),x.2]:List Value)))) (hs:∀p∈R,p∈Y) (hm:els.length≤1000) (hM:M≤100000000) (h:WW w0 wb os Y w) (hn:os.length+6+1000*M≤1000000000000):
  Calls Tryz.prog 81 #[.pointer (some ⟨wb,0,none⟩),v,.func (.func P) #[] #[]] w (fun e w'=>e=.returned (.tuple #[])∧WW w0 wb (os++(uN (els.length:Nat)++els.flatMap pf)) Y w'):=by
 have hcl:∀(args:Array Value) (w:World),(callFunc P args).run Tryz.prog w=.ok (.enter P args) w:=hP
 have hw:IntKind.u32.wrap (els.length:Int)=(els.length:Int):=wrap_u32 (by omega)
 obtain⟨pv,cv,rfl⟩:=Row.shape (h.row hr hs)
 have H:=hide h
 have HN:=hide hn
 have HPut:=hide hput
 have HLen:=hide hlen
 have HR:=hide hr
 have HS:=hide hs
 clear h hn hput hlen hr hs hP
 go_enter Tryz.func81,Tryz.ntmps81
 go_wp2_with fail
 refine(wrU_all (n:=(els.length:Int)) (by omega) (by omega) H.out (by have:=HN.out;omega)).mono ?_
 rintro e w1 ⟨rfl,h1⟩
 have H1:=hide h1
 clear h1 H
 go_wp2_with fail
 go_loopw [15] (fun q W9=>∃(j:Nat) (os':List Nat),j≤els.length∧q=.int .i64 (j:Nat)∧os'.length+(els.length - j)*M≤os.length+6+els.length*M∧os++(uN (els.length:Nat)++els.flatMap pf)=os'++(els.drop j).flatMap pf∧WW w0 wb os' Y W9) (fun q _=>els.length - (intOf q).toNat)
 case atStart=>
  refine⟨0,_,Nat.zero_le _,rfl,?_,?_,H1.out⟩
  ·rw[List.length_append];have:=uN_len (els.length:Nat);simp only[Nat.sub_zero];omega
  ·simp
 case round=>
  obtain⟨j,os',hj,rfl,hb,hL,hW⟩:=hrel
  clear H1
  have HL:=hide hL
  have HW:=hide hW
  have HB:=hide hb
  clear hL hW hb
  by_cases hlt:j<els.length
  ·have hlt':(j:Int)<(els.length:Int):=by omega
   obtain⟨x,hx⟩:∃x,els[j]?=some x:=⟨_,List.getElem?_eq_getElem hlt⟩
   have hxm:=List.mem_of_getElem? hx
   have HXM:=hide hxm
   obtain⟨gT,cpT,hvT,-,hgl,-,hcell⟩:=Row.cells (HW.out.row HR.out HS.out) (by omega)
   cases hvT
   have k0:wr.cell? ⟨gT,j*2,none⟩=some (.int .i64 (x.1.1:Nat)):=(hcell (j*2) (by omega)).trans (by have:=flat_get (f:=(fun x:(Nat×List Nam)×Value=>([.int .i64 (x.1.1:Nat),x.2]:List Value))) (m:=2) (o:=0) (fun _=>rfl) hx (by omega);simpa using this)
   have k1:wr.cell? ⟨gT,j*2+1,none⟩=some (x.2):=(hcell (j*2+1) (by omega)).trans (by have:=flat_get (f:=(fun x:(Nat×List Nam)×Value=>([.int .i64 (x.1.1:Nat),x.2]:List Value))) (m:=2) (o:=1) (fun _=>rfl) hx (by omega);simpa using this)
   obtain⟨p1,q1,s1⟩:=hsh x hxm
   rw[s1] at k1
   have HD:Hid (os++(uN (els.length:Nat)++els.flatMap pf)=(os'++pf x)++(els.drop (j+1)).flatMap pf):=by
    show _=_
    rw[HL.out,List.drop_eq_getElem_cons hlt]
    have e:els[j]=x:=by rw[List.getElem?_eq_getElem hlt] at hx;exact Option.some.inj hx
    rw[e]
    simp
   have HC:Hid (os'.length+M≤1000000000000∧(os'++pf x).length+(els.length - (j+1))*M≤os.length+6+els.length*M):=by
    have g1:=HB.out
    have g2:=HLen.out x hxm
    have g3:=HN.out
    have g4:(els.length - j)*M=(els.length - (j+1))*M+M:=by
     have:els.length - j=(els.length - (j+1))+1:=by omega
     rw[this,Nat.add_mul,Nat.one_mul]
    have g5:els.length*M≤1000*M:=Nat.mul_le_mul_right _ hm
    rw[List.length_append]
    exact⟨by omega,by omega⟩
   have HP:=HPut.out x hxm
   rw[s1] at HP
   clear s1
   have HP2:=hide HP
   have HNW:=hide (HW.out.new #[.int .i64 (x.1.1:Nat),.slice p1 x.1.2.length q1] 139)
   clear hcell hx hxm HL HB HP
   go_wp2_with fail
   refine(HP2.out os' _ _ HC.out.1 (fun p hp=>List.mem_cons_of_mem _ (HS.out p hp)) HNW.out).mono ?_
   rintro e w3 ⟨rfl,h3⟩
   have H3:=hide h3.pop
   clear h3 HNW HW HP2 k0 k1
   go_wp2
   go_roundw
   case rel=>exact⟨j+1,_,by omega,by go_num,HC.out.2,HD.out,H3.out⟩
   case measure=>simp[intOf];omega
  ·have HD:Hid (os++(uN (els.length:Nat)++els.flatMap pf)=os'):=by
    show _=_
    rw[HL.out,List.drop_eq_nil_of_le (by omega)]
    simp
   clear HL HB
   go_wp2
   go_end0
   exact⟨rfl,by rw[HD.out];exact HW.out⟩
set_option maxRecDepth 100000 in
set_option maxHeartbeats 1600000 in
theorem liCode_all {P M:Nat} {els:List (CoG)} {pf:CoG→List Nat} {v:Value} (hP:Enters P) (hsh:∀x∈els,∃p1 q1,x.2.1=.slice p1 x.1.1.length q1) (hput:∀x∈els,∀os Y' w',os.length+M≤1000000000000→(∀p∈R,p∈Y')→WW w0 wb os Y' w'→Calls Tryz.prog P #[.pointer (some ⟨wb,0,none⟩),.agg #[x.2.1,.func (.func 137) #[] #[.pointer (some ⟨x.2.2.1,0,none⟩)]]] w' (fun e w2=>e=.returned (.tuple #[])∧WW w0 wb (os++pf x) Y' w2))
  (hlen:∀x∈els,(pf x).length≤M) (hr:HasR R 92 2 v els.length (els.flatMap (fun x:CoG=>([x.2.1,.func (.func 137) #[] #[.pointer (some ⟨x.2.2.1,0,none⟩)]]:List Value)))) (hs:∀p∈R,p∈Y) (hm:els.length≤1000) (hM:M≤100000000) (h:WW w0 wb os Y w) (hn:os.length+6+1000*M≤1000000000000):
  Calls Tryz.prog 59 #[.pointer (some ⟨wb,0,none⟩),v,.func (.func P) #[] #[]] w (fun e w'=>e=.returned (.tuple #[])∧WW w0 wb (os++(uN (els.length:Nat)++els.flatMap pf)) Y w'):=by
 have hcl:∀(args:Array Value) (w:World),(callFunc P args).run Tryz.prog w=.ok (.enter P args) w:=hP
 have hw:IntKind.u32.wrap (els.length:Int)=(els.length:Int):=wrap_u32 (by omega)
 obtain⟨pv,cv,rfl⟩:=Row.shape (h.row hr hs)
 have H:=hide h
 have HN:=hide hn
 have HPut:=hide hput
 have HLen:=hide hlen
 have HR:=hide hr
 have HS:=hide hs
 clear h hn hput hlen hr hs hP
 go_enter Tryz.func59,Tryz.ntmps59
 go_wp2_with fail
 refine(wrU_all (n:=(els.length:Int)) (by omega) (by omega) H.out (by have:=HN.out;omega)).mono ?_
 rintro e w1 ⟨rfl,h1⟩
 have H1:=hide h1
 clear h1 H
 go_wp2_with fail
 go_loopw [15] (fun q W9=>∃(j:Nat) (os':List Nat),j≤els.length∧q=.int .i64 (j:Nat)∧os'.length+(els.length - j)*M≤os.length+6+els.length*M∧os++(uN (els.length:Nat)++els.flatMap pf)=os'++(els.drop j).flatMap pf∧WW w0 wb os' Y W9) (fun q _=>els.length - (intOf q).toNat)
 case atStart=>
  refine⟨0,_,Nat.zero_le _,rfl,?_,?_,H1.out⟩
  ·rw[List.length_append];have:=uN_len (els.length:Nat);simp only[Nat.sub_zero];omega
  ·simp
 case round=>
  obtain⟨j,os',hj,rfl,hb,hL,hW⟩:=hrel
  clear H1
  have HL:=hide hL
  have HW:=hide hW
  have HB:=hide hb
  clear hL hW hb
  by_cases hlt:j<els.length
  ·have hlt':(j:Int)<(els.length:Int):=by omega
   obtain⟨x,hx⟩:∃x,els[j]?=some x:=⟨_,List.getElem?_eq_getElem hlt⟩
   have hxm:=List.mem_of_getElem? hx
   have HXM:=hide hxm
   obtain⟨gT,cpT,hvT,-,hgl,-,hcell⟩:=Row.cells (HW.out.row HR.out HS.out) (by omega)
   cases hvT
   have k0:wr.cell? ⟨gT,j*2,none⟩=some (x.2.1):=(hcell (j*2) (by omega)).trans (by have:=flat_get (f:=(fun x:CoG=>([x.2.1,.func (.func 137) #[] #[.pointer (some ⟨x.2.2.1,0,none⟩)]]:List Value))) (m:=2) (o:=0) (fun _=>rfl) hx (by omega);simpa using this)
   have k1:wr.cell? ⟨gT,j*2+1,none⟩=some (.func (.func 137) #[] #[.pointer (some ⟨x.2.2.1,0,none⟩)]):=(hcell (j*2+1) (by omega)).trans (by have:=flat_get (f:=(fun x:CoG=>([x.2.1,.func (.func 137) #[] #[.pointer (some ⟨x.2.2.1,0,none⟩)]]:List Value))) (m:=2) (o:=1) (fun _=>rfl) hx (by omega);simpa using this)
   obtain⟨p1,q1,s1⟩:=hsh x hxm
   rw[s1] at k0
   have HD:Hid (os++(uN (els.length:Nat)++els.flatMap pf)=(os'++pf x)++(els.drop (j+1)).flatMap pf):=by
    show _=_
    rw[HL.out,List.drop_eq_getElem_cons hlt]
    have e:els[j]=x:=by rw[List.getElem?_eq_getElem hlt] at hx;exact Option.some.inj hx
    rw[e]
    simp
   have HC:Hid (os'.length+M≤1000000000000∧(os'++pf x).length+(els.length - (j+1))*M≤os.length+6+els.length*M):=by
    have g1:=HB.out
    have g2:=HLen.out x hxm
    have g3:=HN.out
    have g4:(els.length - j)*M=(els.length - (j+1))*M+M:=by
     have:els.length - j=(els.length - (j+1))+1:=by omega
     rw[this,Nat.add_mul,Nat.one_mul]
    have g5:els.length*M≤1000*M:=Nat.mul_le_mul_right _ hm
    rw[List.length_append]
    exact⟨by omega,by omega⟩
   have HP:=HPut.out x hxm
   rw[s1] at HP
   clear s1
   have HP2:=hide HP
   have HNW:=hide (HW.out.new #[.slice p1 x.1.1.length q1,.func (.func 137) #[] #[.pointer (some ⟨x.2.2.1,0,none⟩)]] 92)
   clear hcell hx hxm HL HB HP
   go_wp2_with fail
   refine(HP2.out os' _ _ HC.out.1 (fun p hp=>List.mem_cons_of_mem _ (HS.out p hp)) HNW.out).mono ?_
   rintro e w3 ⟨rfl,h3⟩
   have H3:=hide h3.pop
   clear h3 HNW HW HP2 k0 k1
   go_wp2
   go_roundw
   case rel=>exact⟨j+1,_,by omega,by go_num,HC.out.2,HD.out,H3.out⟩
   case measure=>simp[intOf];omega
  ·have HD:Hid (os++(uN (els.length:Nat)++els.flatMap pf)=os'):=by
    show _=_
    rw[HL.out,List.drop_eq_nil_of_le (by omega)]
    simp
   clear HL HB
   go_wp2
   go_end0
   exact⟨rfl,by rw[HD.out];exact HW.out⟩
end
end
end Go.Proofs.YtkmofapihggjgaaGreatDoor
