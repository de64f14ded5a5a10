import Derived.Test.YtkmofapihggjgaaGreatDoorX27
import Derived.Test.YtkmofapihggjgaaGreatDoorX28
namespace Go.Proofs.YtkmofapihggjgaaGreatDoor
section
open Go.RowKit
set_option linter.unusedSimpArgs false
set_option linter.unusedVariables false
def partsN (fs:List Nam) (ls:List (Nat×List Nam)):List Nat:=
 partN 1 fs.length (uN (fs.length:Nat)++fs.flatMap nameN)++partN 2 (ls.filter fun x=>decide (0<x.2.length)).length (uN ((ls.filter fun x=>decide (0<x.2.length)).length:Nat)++(ls.filter fun x=>decide (0<x.2.length)).flatMap locN)
def secN (fs:List Nam) (ls:List (Nat×List Nam)):List Nat:=if partsN fs ls=[] then[] else[0]++sizedN (⟨#[4,110,97,109,101]⟩++strN (partsN fs ls))
theorem strN_nil (xs:List Nat):(strN xs).toList.isEmpty=decide (xs=[]):=by
 rw[ByteArray.toList_eq]
 cases xs with
 | nil=>rfl
 | cons a l=>rfl
theorem partN_len (k n:Nat) (xs:List Nat):(partN k n xs).length≤xs.length+7:=by
 unfold partN
 split
 ·simp
 ·have:=withinN_len xs
  simp
  omega
theorem filter_map_fst (l:List ((Nat×List Nam)×Value)):(l.filter tellsT).map (·.1)=(l.map (·.1)).filter fun x=>decide (0<x.2.length):=by
 induction l with
 | nil=>rfl
 | cons a l ih=>
  rw[List.map_cons]
  by_cases h:0<a.1.2.length
  ·rw[List.filter_cons_of_pos (by simp[tellsT,h]),List.filter_cons_of_pos (by simp[h]),List.map_cons,ih]
  ·rw[List.filter_cons_of_neg (by simp[tellsT,h]),List.filter_cons_of_neg (by simp[h]),ih]
theorem locN_len {x:Nat×List Nam} (h:∀y∈x.2,y.2.size≤1000) (hm:x.2.length≤1000):(locN x).length≤2000100:=by
 unfold locN
 rw[List.length_append]
 have:=uN_len (x.1:Nat)
 have:=namesN_len h
 have:x.2.length*1012≤1000*1012:=Nat.mul_le_mul_right _ hm
 omega
section
variable {w0 w w':World} {wb:Nat} {os:List Nat} {Y R:List It}
theorem WW.swap {vB:Value} {b:Nat} {xs:List Nat} (h:WW w0 b xs (.b wb [vB]::.r 5 1 vB os.length (byteCells os)::Y) w):∃vI,WW w0 wb os (.b b [vI]::.r 5 1 vI xs.length (byteCells xs)::Y) w:=by
 obtain⟨vI,h⟩:=h
 exact⟨vI,vB,h.perm (List.perm_append_comm (l₁:=[_,_]) (l₂:=[_,_]) |>.append_right Y)⟩
set_option maxRecDepth 100000 in
set_option maxHeartbeats 1600000 in
theorem wrNames_all {fs:List Nam} {els:List ((Nat×List Nam)×Value)} {vf vl:Value} (hf:∀x∈fs,x.1≤4294967295∧x.2.size≤1000) (hfm:fs.length≤1000)
  (hl:∀x∈els,x.1.1≤4294967295∧(∀y∈x.1.2,y.1≤4294967295∧y.2.size≤1000)∧HasR R 135 2 x.2 x.1.2.length (x.1.2.flatMap namCells)∧x.1.2.length≤1000) (hlm:els.length≤1000)
  (hr1:HasR R 135 2 vf fs.length (fs.flatMap namCells)) (hr2:HasR R 139 2 vl els.length (els.flatMap loV)) (hs:∀p∈R,p∈Y) (h:WW w0 wb os Y w) (hn:os.length+10000000000≤1000000000000):
  Calls Tryz.prog 32 #[.agg #[vf,vl],.pointer (some ⟨wb,0,none⟩)] w (fun e w'=>e=.returned (.tuple #[])∧WW w0 wb (os++secN fs (els.map (·.1))) Y w'):=by
 obtain⟨p1,q1,rfl⟩:=Row.shape (h.row hr1 hs)
 obtain⟨p2,q2,rfl⟩:=Row.shape (h.row hr2 hs)
 have HSH:Hid (∀x∈els,∃p1 q1,x.2=.slice p1 x.1.2.length q1):=fun x hx=>by
  obtain⟨p,q,e⟩:=Row.shape (h.row (hl x hx).2.2.1 hs)
  exact⟨p,q,e⟩
 have H:=hide (h.new #[.slice p1 fs.length q1,.slice p2 els.length q2] 59)
 have HN:=hide hn
 have HF:=hide hf
 have HLl:=hide hl
 have HR1:=hide hr1
 have HR2:=hide hr2
 have HS:=hide hs
 obtain⟨es,hes⟩:∃es,es=els.filter tellsT:=⟨_,rfl⟩
 have HES:=hide hes
 have HEM:Hid (∀x∈es,x∈els):=fun x hx=>by rw[hes] at hx;exact(List.mem_filter.1 hx).1
 have hel:es.length≤1000:=by
  have:=List.length_filter_le tellsT els
  rw[←hes] at this
  omega
 have HPT:Hid (partsN fs (els.map (·.1))=partN 1 fs.length (uN (fs.length:Nat)++fs.flatMap nameN)++partN 2 es.length (uN (es.length:Nat)++es.flatMap fun x=>locN x.1)):=by
  show _=_
  have e1:(els.map (·.1)).filter (fun x=>decide (0<x.2.length))=es.map (·.1):=by rw[hes,filter_map_fst]
  unfold partsN
  rw[e1,List.length_map,List.flatMap_map]
 have HPL:Hid ((partN 1 fs.length (uN (fs.length:Nat)++fs.flatMap nameN)).length≤1100000∧(partN 2 es.length (uN (es.length:Nat)++es.flatMap fun x=>locN x.1)).length≤2001000000):=by
  have g1:=partN_len 1 fs.length (uN (fs.length:Nat)++fs.flatMap nameN)
  have g2:=partN_len 2 es.length (uN (es.length:Nat)++es.flatMap fun x=>locN x.1)
  have g3:=flat_len (f:=nameN) (M:=1012) fs (fun x hx=>nameN_len (hf x hx).2)
  have g4:=flat_len (f:=fun x:(Nat×List Nam)×Value=>locN x.1) (M:=2000100) es (fun x hx=>locN_len (fun y hy=>((hl x (HEM.out x hx)).2.1 y hy).2) (hl x (HEM.out x hx)).2.2.2)
  have g5:=uN_len (fs.length:Nat)
  have g6:=uN_len (es.length:Nat)
  rw[List.length_append] at g1 g2
  have g7:es.length*2000100≤1000*2000100:=Nat.mul_le_mul_right _ hel
  exact⟨by omega,by omega⟩
 clear h hn hf hl hr1 hr2 hs hes
 go_enter Tryz.func32,Tryz.ntmps32
 go_upto_region 1 with fail
 generalize w.alloc (.cells #[.slice p1 fs.length q1,.slice p2 els.length q2] 59)=w1 at*
 generalize w.heap.size=b at*
 obtain⟨vB,h1⟩:=H.out.inner 42
 have H1:=hide h1
 clear h1 H
 go_upto_region 2 with fail
 generalize w1.alloc (.cells #[.slice none 0 0] 42)=w2 at*
 generalize w1.heap.size=b2 at*
 obtain⟨c0,-⟩:=H1.out.cl 2 0
 obtain⟨c1,-⟩:=H1.out.cl 2 1
 have l0:=H1.out.lt 2
 go_wp2_with fail
 have hsub:∀p∈R,p∈(It.b wb [vB]::It.r 5 1 vB os.length (byteCells os)::It.b b [.slice p1 fs.length q1,.slice p2 els.length q2]::Y):=fun p hp=>by simp[HS.out p hp]
 have HSub:=hide hsub
 clear hsub
 refine(ptName_all (P:=68) (M:=1012) (pf:=nameN) (els:=fs) 1 (enters_of Tryz.func68 (by kernel_rfl) (by kernel_rfl)) (fun x hx wb os Y' w' hn _ hW=>wrName_all x (HF.out x hx).1 (by have:=(HF.out x hx).2;omega) hW (by have:=(HF.out x hx).2;omega)) (fun x hx=>nameN_len (HF.out x hx).2) HR1.out HSub.out hfm (by omega) H1.out (by simp)).mono ?_
 rintro e w3 ⟨rfl,h3⟩
 clear c0 c1 l0
 obtain⟨c0,-⟩:=h3.cl 2 0
 obtain⟨c1,-⟩:=h3.cl 2 1
 have l0:=h3.lt 2
 have H3:=hide h3
 clear h3 H1
 go_wp2_with fail
 refine(wrTelling_all HSH.out HR2.out HSub.out hlm H3.out).mono ?_
 rintro e w4 ⟨u,rfl,h4⟩
 rw[←HES.out] at h4
 clear c0 c1 l0
 have H4:=hide h4
 clear h4 H3
 go_wp2_with fail
 refine(ptLocalNames_all (R:=.r 139 2 u es.length (es.flatMap loV)::R) (P:=71) (M:=2000100) (pf:=fun x=>locN x.1) (els:=es) 2 (enters_of Tryz.func71 (by kernel_rfl) (by kernel_rfl)) (fun x hx=>HSH.out x (HEM.out x hx)) (fun x hx wb os Y' w' hn hR hW=>wrLocalNames_all (R:=R) x.1 (HLl.out x (HEM.out x hx)).1 (HLl.out x (HEM.out x hx)).2.1 (HLl.out x (HEM.out x hx)).2.2.1 (fun p hp=>hR p (List.mem_cons_of_mem _ hp)) (HLl.out x (HEM.out x hx)).2.2.2 hW hn) (fun x hx=>locN_len (fun y hy=>((HLl.out x (HEM.out x hx)).2.1 y hy).2) (HLl.out x (HEM.out x hx)).2.2.2) (.inr (List.mem_cons_self ..)) (fun p hp=>by
  rcases List.mem_cons.1 hp with rfl | hp
  ·exact List.mem_cons_self ..
  ·exact List.mem_cons_of_mem _ (HSub.out p hp)) hel (by omega) H4.out (by have:=HPL.out.1;simp only[List.nil_append];omega)).mono ?_
 rintro e w5 ⟨rfl,h5⟩
 have h6:=h5.pop
 rw[List.nil_append,←HPT.out] at h6
 have HXL:Hid ((partsN fs (els.map (·.1))).length≤2010000000):=by
  show _≤_
  rw[HPT.out,List.length_append]
  have:=HPL.out
  omega
 have H6:=hide h6
 clear h5 h6 H4 HPT HPL
 go_wp2_with fail
 refine(wrAll_all H6.out).mono ?_
 rintro e w6 ⟨rfl,h7⟩
 have hE:=strN_nil (partsN fs (els.map (·.1)))
 by_cases hz:partsN fs (els.map (·.1))=[]
 ·have HZ:Hid (secN fs (els.map (·.1))=[]):=by show _=_;unfold secN;rw[if_pos hz]
  rw[decide_eq_true hz] at hE
  have H7:=hide h7.outer.pop
  clear hz h7 H6
  go_wp2
  (try simp only[Exit.inBlock,Exit.then])
  refine bodyPost_ret (results_none rfl _ _ _) rfl ?_
  exact⟨rfl,by rw[HZ.out,List.append_nil];exact H7.out⟩
 ·have HZ:Hid (secN fs (els.map (·.1))=[0]++sizedN (⟨#[4,110,97,109,101]⟩++strN (partsN fs (els.map (·.1))))):=by show _=_;unfold secN;rw[if_neg hz]
  rw[decide_eq_false hz] at hE
  obtain⟨vI,h8⟩:=h7.swap
  have H8:=hide h8
  clear hz h7 h8 H6
  go_wp2_with fail
  refine(wr1 (x:=0) (by omega) H8.out (by have:=HN.out;omega) _).mono ?_
  rintro e w7 ⟨rfl,h9⟩
  obtain⟨vB2,h10⟩:=h9.swap
  have H10:=hide h10
  clear h9 h10 H8
  go_wp2_with fail
  refine(wrAll_all H10.out).mono ?_
  rintro e w8 ⟨rfl,h11⟩
  have H11:=hide h11.outer.pop
  have hsz:(⟨#[4,110,97,109,101]⟩++strN (partsN fs (els.map (·.1))):ByteArray).size=5+(partsN fs (els.map (·.1))).length:=by
   rw[ByteArray.size_append,strN_size]
   rfl
  have HSZ:=hide hsz
  have hcat:¬9223372036854775807<5+(strN (partsN fs (els.map (·.1)))).size:=by rw[strN_size];have:=HXL.out;omega
  clear h11 H10 hsz
  go_wp2_with fail
  generalize hS:(⟨#[4,110,97,109,101]⟩++strN (partsN fs (els.map (·.1))):ByteArray)=S at HSZ HZ ⊢
  have HB:Hid (S.size≤4000000000∧(os++[Int.toNat 0]).length+(S.size+6)≤1000000000000):=by
   have g1:=HSZ.out
   have g2:=HXL.out
   have g3:=HN.out
   refine⟨by omega,?_⟩
   rw[List.length_append,List.length_singleton]
   omega
  clear hS HSZ hcat
  refine(wrSized_all S HB.out.1 H11.out HB.out.2).mono ?_
  rintro e w9 ⟨rfl,h12⟩
  have H12:=hide h12
  clear h12 H11
  go_wp2
  go_end0
  refine⟨rfl,?_⟩
  rw[HZ.out]
  simpa [List.append_assoc] using H12.out
end
end
end Go.Proofs.YtkmofapihggjgaaGreatDoor
