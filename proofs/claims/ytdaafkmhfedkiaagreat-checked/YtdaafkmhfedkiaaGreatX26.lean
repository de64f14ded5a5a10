import Derived.Test.YtdaafkmhfedkiaaGreatX25
namespace Go.Proofs.YtdaafkmhfedkiaaGreat
set_option maxHeartbeats 12800000
set_option maxRecDepth 100000
open Go.RowKit Go.Proofs.Tryz
def Nv:Option zA->Nat
 | none=>0
 | some l=>l.at_
def wG(m:RM)(e:Nat×Nat):Nat×Nat:=match m.start with
 | none=>e
 | some r=>if e.1≠0 then e else if m.tys.length<=r.1 then(3,r.2) else if(gy m.dm (m.tys.getD r.1 (0,0)).1).1.size≠0\/(gy m.dm (m.tys.getD r.1 (0,0)).1).2.size≠0 then(4,r.2) else(0,0)
def NL(m:RM):Nat×Nat:=match m.dB.find? (fun g=>decide (g.init.kind≠g.kind)) with
 | some g=>(4,g.init.at_)
 | none=>wG m (jP m.tys.length m.dB.length m.table.isSome m.memory.isSome m.dw)
def Rh(m:RM):Nat×Nat:=if jM 20 m.table=true then(5,Nv m.table) else if jM 16 m.memory=true then(5,Nv m.memory) else NL m
def mq(m:RM):Nat×Nat:=match m.tys.find? (fun t=>decide (m.dm.length<=t.1)) with
 | some t=>(3,t.2)
 | none=>Rh m
theorem pK(o:Option zA):∃b c d e,wh o=[.bool o.isSome,b,c,d,e]/\e=qJ (Nv o:Nat):=by
 cases o with
 | none=>exact⟨_,_,_,_,rfl,rfl⟩
 | some l=>exact⟨_,_,_,_,rfl,rfl⟩
section
variable {S ok:qD} {w w':qW} {x Y fb:Nat} {ms cs:qV} {p:qO} {A nx:Nat} {m:RM}
theorem Wq:∀(l:List sJ) (k o:Nat),o<5->(l.flatMap sJ.cells)[k*5+o]?=(l[k]?).bind (fun r=>(sJ.cells r)[o]?)
 | [],k,o,_=>qs
 | r::l,0,o,h=>by
  rw[List.flatMap_cons,List.getElem?_append_left (by simp[sJ.cells];omega)];simp
 | r::l,k+1,o,h=>by
  rw[List.flatMap_cons,List.getElem?_append_right (by simp[sJ.cells];omega)];have:(k+1)*5+o - (sJ.cells r).length=k*5+o:=by simp[sJ.cells];omega
  rw[this,Wq l k o h];simp
theorem D7{l:List sJ}{v:qv}(h:isRow 85 5 sJ.cells ok l w v):∃p c,v=.slice p l.length c/\∀k e,l[k]?=some e->∃g,p=some (qA g 0)/\g<w.heap.size/\l.length<=c/\w.cell? ⟨g,k*5,none⟩=some (qB (e.kind:Nat))/\w.cell? ⟨g,k*5+1,none⟩=some (.bool e.chg)/\w.cell? ⟨g,k*5+2,none⟩=some (qB (e.init.kind:Nat))/\w.cell? ⟨g,k*5+4,none⟩=some (qJ (e.init.at_:Nat)):=by
 obtain⟨p,c,rfl⟩:=Row.form h;refine⟨p,c,rfl,fun k r b=>?_⟩;have X:=(List.getElem?_eq_some_iff.1 b).1;obtain⟨a,d,i,t,j,n,q⟩:=Row.cells h qo;obtain⟨rfl,rfl⟩:p=some (qA a 0)/\c=d:=by cases i;exact⟨rfl,rfl⟩
 have f:∀o,o<5->w.cell? ⟨a,k*5+o,none⟩=(sJ.cells r)[o]?:=fun o s=>by
  rw[q _ qo,Wq _ _ _ s,b];rfl
 exact⟨a,rfl,j,n,f 0 qo,f 1 qo,f 2 qo,f 4 qo⟩
theorem oU.cell(h:oU w x Y fb ms cs p A m nx){k:Nat}(X:k<19):w.cell? (qA Y k)=some (ms.getD k undef):=(h.ob.cell (by rw[h.len];exact X) rfl).1
theorem xy(a:qS):a.toList.isEmpty=decide (a.size=0):=by
 rw[ByteArray.toList_eq,Bool.eq_iff_iff,List.isEmpty_iff,decide_eq_true_iff,<-List.length_eq_zero_iff,Array.length_toList];rfl
theorem drop_cons{a:Type}{l:List a}{k:Nat}{e:a}(h:l[k]?=some e):l.drop k=e::l.drop (k+1):=by
 have b:=(List.getElem?_eq_some_iff.1 h).1;have:e=l[k]:=by rw[List.getElem?_eq_getElem b] at h;exact(Option.some.inj h).symm
 rw[this];exact List.drop_eq_getElem_cons b
theorem Yd(h:oU w x Y fb ms cs p A m nx)(h9:m.dw.length<=1000/\m.dB.length<=1000)(hw:∀e∈m.dw,e.what<=3):
  qC 63 #[qP Y] w fun e w'=>e=.returned (.tuple #[qJ ((mq m).1:Nat),qJ ((mq m).2:Nat)])/\qK w w':=by
 have v:qh (∀W,qK w W->oU W x Y fb ms cs p A m nx):=fun W O=>h.kept' O (fun _ c=>c.elim);have aZ:=h.f20;have HW:=hide hw;obtain⟨tp,tc,ay,-⟩:=yI h.c.dm;obtain⟨gp,gc,az,-⟩:=D7 h.c.dB;have aQ:=hide ay;have aA:=hide az;have ab:=hide h.fv;clear h hw ay az;go_enter func63,ntmps63;go_wp2;go_loopw [4] (fun q wr=>∃k:Nat,k<=m.tys.length/\q=qJ k/\m.tys.find? (fun t=>decide (m.dm.length<=t.1))=(m.tys.drop k).find? (fun t=>decide (m.dm.length<=t.1))/\qK w wr) (fun q _=>m.tys.length - (intOf q).toNat)
 case atStart=>exact⟨0,qZ,rfl,rfl,Kept.refl _ _⟩
 obtain⟨k,X,rfl,Q,b⟩:=hrel;have d:=hide Q;clear Q;have a:=v.o wr b;have M1:=(a.cell (k:=1) qo).trans (congrArg some ab.o);have M0:=(a.cell (k:=0) qo).trans (congrArg some aQ.o);have lM:=a.ob.lt;by_cases R:k<m.tys.length
 .have aj:(k:Int)<(m.tys.length:Int):=qo;have J:m.tys≠[]:=by intro c;rw[c] at R;simp at R
  obtain⟨rfl,G,a0⟩:=a.fp J;obtain⟨t,ht⟩:∃t,m.tys[k]?=some t:=⟨_,List.getElem?_eq_getElem R⟩;have ak:=a.fc.each k t ht;have am:=a.fc.len;have Q0:=(G.cell (k:=k*7) qo ak.1).1;have Q1:=(G.cell (k:=k*7+1) qo ak.2.1).1;have lF:=G.lt;have y:=hide (drop_cons ht);clear ak ht G a am;by_cases hb:m.dm.length<=t.1
  .have T:(m.dm.length:Int)<=(t.1:Int):=qo;have B:qh (mq m=(3,t.2)):=by show _=_;unfold mq;rw[d.o,y.o];simp[hb]
   clear d y hb J;go_wp2_with fail
   go_quiet (fail)
   go_wp2_with fail
   go_quiet (fail)
   go_wp2;go_ret2
   rw[B.o];exact⟨rfl,(b.drewN _).drewN _⟩
  have T:¬(m.dm.length:Int)<=(t.1:Int):=qo;have an:qh (m.tys.find? (fun t=>decide (m.dm.length<=t.1))=(m.tys.drop (k+1)).find? (fun t=>decide (m.dm.length<=t.1))):=by show _=_;rw[d.o,y.o];simp[hb]
  clear d y hb J;go_wp2_with fail
  go_quiet (fail)
  have C:=b.drewN nq;go_wp2;go_roundw
  case rel=>exact⟨k+1,qo,by go_num,an.o,C⟩
  simp[intOf];omega
 have aj:¬(k:Int)<(m.tys.length:Int):=qo;have B:qh (mq m=Rh m):=by show _=_;unfold mq;rw[d.o,List.drop_eq_nil_of_le qo];rfl
 obtain⟨b1,b2,b3,b4,ao,aR⟩:=pK m.table;obtain⟨d1,d2,d3,d4,aB,aS⟩:=pK m.memory;have aT:=hide ao;have aC:=hide aB;have hT:∀W,qK w W->W.cell? (qA Y 2)=some (.bool m.table.isSome)/\W.cell? (qA Y 3)=some b1/\W.cell? (qA Y 4)=some b2/\W.cell? (qA Y 5)=some b3/\W.cell? (qA Y 6)=some b4:=by
  intro W O;have i:=v.o W O;have j:=i.c.table;rw[aT.o] at j;exact⟨(i.cell (k:=2) qo).trans (congrArg some (j 0 qs)),(i.cell (k:=3) qo).trans (congrArg some (j 1 qs)),(i.cell (k:=4) qo).trans (congrArg some (j 2 qs)),(i.cell (k:=5) qo).trans (congrArg some (j 3 qs)),(i.cell (k:=6) qo).trans (congrArg some (j 4 qs))⟩
 have hD:∀W,qK w W->W.cell? (qA Y 7)=some (.bool m.memory.isSome)/\W.cell? (qA Y 8)=some d1/\W.cell? (qA Y 9)=some d2/\W.cell? (qA Y 10)=some d3/\W.cell? (qA Y 11)=some d4:=by
  intro W O;have i:=v.o W O;have j:=i.c.memory;rw[aC.o] at j;exact⟨(i.cell (k:=7) qo).trans (congrArg some (j 0 qs)),(i.cell (k:=8) qo).trans (congrArg some (j 1 qs)),(i.cell (k:=9) qo).trans (congrArg some (j 2 qs)),(i.cell (k:=10) qo).trans (congrArg some (j 3 qs)),(i.cell (k:=11) qo).trans (congrArg some (j 4 qs))⟩
 have aD:=hide hT;have ap:=hide hD;obtain⟨T0,T1,T2,T3,T4⟩:=hT wr b;have l:=Ea (w:=wr) m.table 20;rw[ao] at l;have s:=hide l;subst aR;clear hT hD ao aB d a l M0;go_wp2_with fail
 refine s.o.mono ?_;rintro e U ⟨rfl,aE⟩;have C:=b.trans aE;clear s T0 T1 T2 T3 T4 M1 b aE;obtain⟨-,-,-,-,T4⟩:=aD.o U C;have aU:Y<U.heap.size:=(v.o U C).ob.lt;obtain⟨tl,V⟩:=qF (jM 20 m.table);rw[V];cases tl with
 | true=>
  have D:qh (mq m=(5,Nv m.table)):=by show _=_;rw[B.o,Rh,if_pos V]
  clear B V;go_wp2_with fail
  go_quiet (fail)
  go_wp2;go_ret2
  rw[D.o];exact⟨rfl,C.drewN _⟩
 | false=>
  have aq:=hide V;obtain⟨D0,D1,D2,D3,D4⟩:=ap.o U C;have l:=Ea (w:=U) m.memory 16;rw[aC.o] at l;have s:=hide l;subst aS;clear V l T4;go_wp2_with fail
  refine s.o.mono ?_;rintro e w3 ⟨rfl,aF⟩;have Z:=C.trans aF;clear s D0 D1 D2 D3 D4 C aF aU;obtain⟨-,-,-,-,D4⟩:=ap.o w3 Z;have aV:Y<w3.heap.size:=(v.o w3 Z).ob.lt;obtain⟨ml,aa⟩:=qF (jM 16 m.memory);rw[aa];cases ml with
  | true=>
   have D:qh (mq m=(5,Nv m.memory)):=by show _=_;rw[B.o,Rh,aq.o,if_neg qs,if_pos aa]
   clear B aa;go_wp2_with fail
   go_quiet (fail)
   go_wp2;go_ret2
   rw[D.o];exact⟨rfl,Z.drewN _⟩
  | false=>
   have D:qh (mq m=NL m):=by show _=_;rw[B.o,Rh,aq.o,if_neg qs,aa,if_neg qs]
   clear B aa D4 aq;go_wp2;go_loopw [7] (fun q wr=>∃k:Nat,k<=m.dB.length/\q=qJ k/\m.dB.find? (fun g=>decide (g.init.kind≠g.kind))=(m.dB.drop k).find? (fun g=>decide (g.init.kind≠g.kind))/\qK w wr) (fun q _=>m.dB.length - (intOf q).toNat)
   case atStart=>exact⟨0,qZ,rfl,rfl,Z⟩
   obtain⟨k,X,rfl,Q,b⟩:=hrel;have d:=hide Q;have a1:=h9.2;have a:=v.o wr b;have aG:=(a.cell (k:=12) qo).trans (congrArg some aA.o);have lM:=a.ob.lt;have ac:=a.c.dB;rw[aA.o] at ac;clear Q Z aV a;by_cases R:k<m.dB.length
   .have aj:(k:Int)<(m.dB.length:Int):=qo;obtain⟨u,ar⟩:∃u,m.dB[k]?=some u:=⟨_,List.getElem?_eq_getElem R⟩;obtain⟨p',c',aH,aI⟩:=D7 ac;obtain⟨g,hp,hg,a2,Q0,Q1,Q2,Q4⟩:=aI k u ar;subst hp;obtain⟨rfl,rfl⟩:gp=some (qA g 0)/\gc=c':=by cases aH;exact⟨rfl,rfl⟩
    have y:=hide (drop_cons ar);clear aH aI ac ar;by_cases hb:u.init.kind=u.kind
    .have T:(((u.init.kind:Nat):Int) !=((u.kind:Nat):Int))=false:=by rw[hb];simp
     have an:qh (m.dB.find? (fun g=>decide (g.init.kind≠g.kind))=(m.dB.drop (k+1)).find? (fun g=>decide (g.init.kind≠g.kind))):=by show _=_;rw[d.o,y.o];simp[hb]
     clear d y hb;go_wp2_with fail
     go_quiet (fail)
     have E:=b.drewN nq;go_wp2;go_roundw
     case rel=>exact⟨k+1,qo,by go_num,an.o,E⟩
     simp[intOf];omega
    have T:(((u.init.kind:Nat):Int) !=((u.kind:Nat):Int))=true:=by simp only[bne_iff_ne,ne_eq];omega
    have ad:qh (mq m=(4,u.init.at_)):=by show _=_;rw[D.o];unfold NL;rw[d.o,y.o];simp[hb]
    clear d y hb D;go_wp2_with fail
    go_quiet (fail)
    go_wp2_with fail
    go_quiet (fail)
    go_wp2;go_ret2
    rw[ad.o];exact⟨rfl,(b.drewN _).drewN _⟩
   have aj:¬(k:Int)<(m.dB.length:Int):=qo;have ad:qh (mq m=wG m (jP m.tys.length m.dB.length m.table.isSome m.memory.isSome m.dw)):=by show _=_;rw[D.o];unfold NL;rw[d.o,List.drop_eq_nil_of_le qo];rfl
   have a:=v.o wr b;have l:=LJ (w:=wr) (Y:=Y) m.table.isSome m.memory.isSome a.c.dw (a.cell (k:=13) qo) ((a.cell (k:=1) qo).trans (congrArg some ab.o)) aG (aD.o wr b).1 (ap.o wr b).1 h9.1 HW.o;have s:=hide l;clear l a d D ac;go_wp2_with fail
   refine s.o.mono ?_;rintro e w4 ⟨rfl,aJ⟩;have E:=b.trans aJ;clear s aG b aJ lM;obtain⟨⟨H,e2⟩,au⟩:=qF (jP m.tys.length m.dB.length m.table.isSome m.memory.isSome m.dw);rw[au];have K:qh (mq m=wG m (H,e2)):=by show _=_;rw[ad.o,au]
   simp only;clear au ad;have a:=v.o w4 E;have aK:=a.ob.lt;have z:=a.c.start;have M1:=(a.cell (k:=1) qo).trans (congrArg some ab.o);by_cases L:H=0
   .have he1:((H:Nat):Int)=0:=qo;have aW:(((H:Nat):Int) !=0)=false:=by rw[L];rfl
    cases M:m.start with
    | none=>
     rw[M] at z;have ae:=(a.cell (k:=14) qo).trans (congrArg some (z 0 qx));simp only[qm,List.getD_cons_zero] at ae;have F:qh (mq m=(H,e2)):=by show _=_;rw[K.o];unfold wG;rw[M]
     clear K M L he1 a z;go_wp2;go_ret2
     rw[F.o];exact⟨rfl,E⟩
    | some r=>
     rw[M] at z;have ae:=(a.cell (k:=14) qo).trans (congrArg some (z 0 (by simp[qm])));have aL:=(a.cell (k:=15) qo).trans (congrArg some (z 1 (by simp[qm])));have av:=(a.cell (k:=16) qo).trans (congrArg some (z 2 (by simp[qm])));simp only[qm,List.getD_cons_zero,List.getD_cons_succ] at ae aL av;have F:qh (mq m=if m.tys.length<=r.1 then(3,r.2) else if(gy m.dm (m.tys.getD r.1 (0,0)).1).1.size≠0\/(gy m.dm (m.tys.getD r.1 (0,0)).1).2.size≠0 then(4,r.2) else(0,0)):=by show _=_;rw[K.o];unfold wG;rw[M];simp only;rw[if_neg (by simp[L])]
     clear K M L he1 z;by_cases hb:m.tys.length<=r.1
     .have T:(m.tys.length:Int)<=(r.1:Int):=qo;have af:qh (mq m=(3,r.2)):=by show _=_;rw[F.o,if_pos hb]
      clear F hb a;go_wp2_with fail
      go_quiet (fail)
      go_wp2_with fail
      go_quiet (fail)
      go_wp2;go_ret2
      rw[af.o];exact⟨rfl,(E.drewN _).drewN _⟩
     have T:¬(m.tys.length:Int)<=(r.1:Int):=qo;have ag:r.1<m.tys.length:=qo;have J:m.tys≠[]:=by intro c;rw[c] at ag;simp at ag
     obtain⟨ty,aw⟩:∃ty,m.tys[r.1]?=some ty:=⟨_,List.getElem?_eq_getElem ag⟩;have af:qh (mq m=if(gy m.dm ty.1).1.size≠0\/(gy m.dm ty.1).2.size≠0 then(4,r.2) else(0,0)):=by show _=_;rw[F.o,if_neg hb];simp only[List.getD_eq_getElem?_getD,aw,Option.getD_some]
     clear F hb;go_wp2_with fail
     go_quiet (fail)
     have aM:=E.drewN nq;have I:=v.o _ aM;obtain⟨aN,G,-⟩:=I.fp J;have am:=I.fc.len;have l:=yh (w:=w4.drewN nq) (Y:=Y) (fb:=fb) (f:=r.1) (nf:=m.tys.length) (A:=A) (n:=ty.1) (I.cell (k:=0) qo) I.c.dm ((I.cell (k:=1) qo).trans (congrArg some (ab.o.trans (by rw[aN])))) ag (G.cell (k:=r.1*7) qo (I.fc.each r.1 ty aw).1).1;have s:=hide l;have aO:(w4.drewN nq).cell? (qA Y 16)=some (qJ r.2):=av;have aP:Y<(w4.drewN nq).heap.size:=aK;clear l I G am J aw aN a E;go_wp2_with fail
     refine s.o.mono ?_;rintro e w6 ⟨rfl,ah⟩;have afZ:=aM.trans ah;have a3:=(ah.cell (p:=(qA Y 16)) aP (fun c=>c)).trans aO;have a4:Y<w6.heap.size:=Nat.lt_of_lt_of_le aP ah.size;clear s ae aL av aO M1 aK ah;obtain⟨⟨ta,tb⟩,ax⟩:=qF (gy m.dm ty.1);rw[ax];have N:qh (mq m=if ta.size≠0\/tb.size≠0 then(4,r.2) else(0,0)):=by show _=_;rw[af.o,ax]
     simp only;clear ax af;by_cases ha:ta.size=0
     .have aX:ta.toList.isEmpty=true:=by rw[xy];simp[ha]
      by_cases ai:tb.size=0
      .have aY:tb.toList.isEmpty=true:=by rw[xy];simp[ai]
       have HR8:qh (mq m=(0,0)):=by show _=_;rw[N.o,if_neg qo]
       clear N ha ai;go_wp2;go_ret2
       rw[HR8.o];exact⟨rfl,afZ.alloc _⟩
      have aY:tb.toList.isEmpty=false:=by rw[xy];simp[ai]
      have HR8:qh (mq m=(4,r.2)):=by show _=_;rw[N.o,if_pos qo]
      clear N ha ai;exact adN
     have aX:ta.toList.isEmpty=false:=by rw[xy];simp[ha]
     have HR8:qh (mq m=(4,r.2)):=by show _=_;rw[N.o,if_pos qo]
     clear N ha;exact adN
   have aW:(((H:Nat):Int) !=0)=true:=by simp only[bne_iff_ne,ne_eq];omega
   have F:qh (mq m=(H,e2)):=by
    show _=_;rw[K.o];unfold wG;split
    .rfl
    rw[if_pos L]
   clear K L a z;go_wp2;go_ret2
   rw[F.o];exact⟨rfl,E⟩
end
def uK(op:Nat):Nat:=if op=41\/op=55 then 3 else if op=44\/op=45\/op=58 then 0 else 2
theorem QF(w:qW)(op:Nat):qC 182 #[qJ op] w fun e w'=>e=.returned (.bool (decide (54<=op/\op<=58)))/\w'=w:=by
 by_cases U:54<=op
 .by_cases L:op<=58
  .have a:(54:Int)<=(op:Int):=qo;have b:(op:Int)<=58:=qo;go_enter func182,ntmps182;go_wp2;go_ret;exact⟨by simp[U,L],rfl⟩
  have a:(54:Int)<=(op:Int):=qo;have b:¬(op:Int)<=58:=qo;exact ad3
 have a:¬(54:Int)<=(op:Int):=qo;exact ad3
theorem O1(w:qW)(op:Nat):qC 183 #[qJ op] w fun e w'=>e=.returned (qJ (uK op:Nat))/\w'=w:=by
 by_cases U:op=41
 .subst U;exact aaX
 by_cases L:op=55
 .subst L;exact aaX
 by_cases h3:op=44
 .subst h3;exact aaX
 by_cases h4:op=45
 .subst h4;exact aaX
 by_cases h5:op=58
 .subst h5;exact aaX
 have a:qh (uK op=2):=by show _=_;unfold uK;rw[if_neg qo,if_neg qo]
 have b:¬(op:Int)=41:=qo;have d:¬(op:Int)=55:=qo;have f:¬(op:Int)=44:=qo;have g:¬(op:Int)=45:=qo;have j:¬(op:Int)=58:=qo;clear U L h3 h4 h5;go_enter func183,ntmps183;go_wp2;go_ret;exact⟨by rw[a.o];rfl,rfl⟩
def kS(b64:Bool):qS:=if b64=true then⟨#[108]⟩ else⟨#[105]⟩
def sumT(kk:qS)(op:Nat)(Sv b32 Qe Oi L9 KW KA:Bool):qS×qS:=
 if 54<=op/\op<=58 then(⟨#[105]⟩++kk,⟨#[]⟩)
 else if 40<=op/\op<=58 then(⟨#[105]⟩,kk)
 else if Sv=true\/b32=true\/Qe=true then(⟨#[]⟩,kk)
 else if Oi=true then(⟨#[105]⟩,kk)
 else if L9=true then(⟨#[108]⟩,kk)
 else if KW=true\/KA=true then(⟨#[105]⟩,kk)
 else if op=69\/op=80 then(kk,⟨#[105]⟩)
 else if 69<op/\op<=90 then(kk++kk,⟨#[105]⟩)
 else if(103<=op/\op<=105)\/(121<=op/\op<=123) then(kk,kk)
 else(kk++kk,kk)
def pG(i:fA)(Z:Bk):Bk:=if(40<=i.op/\i.op<=58)/\(uK i.op:Int)<i.xn then fF 4 Z.now Z else Z
def iF(g:qS)(Z:Bk):Bk:={Z with di:=Z.di++g}
def yf(i:fA)(T:qS×qS)(Z:Bk):Bk:=iF T.2 (dS T.1 (pG i Z)).2
section
variable {S okT:qD} {w w':qW} {x A:Nat} {c:FC} {p:qO} {Z:Bk} {lv:qv} {i:fA} {W:qS} {b64 Sv b32 Qe Oi L9 KW KA:Bool}
theorem ab5:(kS b64).size=1:=by cases b64<;>rfl
theorem Xa{kk:qS}(h:kk.size=1):(sumT kk i.op Sv b32 Qe Oi L9 KW KA).1.size<=2/\(sumT kk i.op Sv b32 Qe Oi L9 KW KA).2.size<=1:=by
 have a:(⟨#[105]⟩:qS).size=1:=rfl;have b:(⟨#[108]⟩:qS).size=1:=rfl;have d:(⟨#[]⟩:qS).size=0:=rfl;unfold sumT;repeat(first | (constructor<;>simp only[ByteArray.size_append,h,d,a,b]<;>omega) | split)
theorem Md:(pG i Z).opn=Z.opn/\(pG i Z).now=Z.now:=by
 unfold pG;split
 .exact⟨vD _ _,Bi _ _⟩
 exact⟨rfl,rfl⟩
theorem JK:∀{l:List kX} {n k:Nat},n<=k->NI n l->NI k l
 | [],_,_,_,_=>trivial
 | _::_,_,_,h,hh=>⟨Nat.le_trans hh.1 h,hh.2⟩
theorem Dq(ks:qS):∀(k:Nat) (a:qS) (Z:Bk),(jE ks k a Z).2.di.size<=Z.di.size
 | 0,_,_=>qR
 | k+1,a,Z=>by
  have hp:(jg Z).2.di.size<=Z.di.size:=by
   unfold jg;split
   .exact qR
   split
   .split
    .exact qR
    rw[uf];exact qR
   simp only[ByteArray.size_extract];omega
  unfold jE;refine Nat.le_trans (Dq ks k _ _) ?_;split
  .rw[uf];exact hp
  exact hp
theorem l8(ks:qS):(dS ks Z).2.di.size<=Z.di.size:=Dq ks _ _ _
theorem Yc(h:dZ w x c p A Z)(hn:Z.opn≠[])(aw:0<=i.xn)(ax:∃p n c,lv=.slice p n c)(hW:3<W.size)(ay:((W.extract 0 3).toList==[105,54,52])=b64)(aY:(W.toList==[109,101,109,111,114,121,46,115,105,122,101])=Sv)(aZ:(W.toList==[105,51,50,46,99,111,110,115,116])=b32)(a0:(W.toList==[105,54,52,46,99,111,110,115,116])=Qe)(a1:(W.toList==[109,101,109,111,114,121,46,103,114,111,119])=Oi)(a2:(W.toList==[105,51,50,46,119,114,97,112,95,105,54,52])=L9)(a3:(W.toList==[105,54,52,46,101,120,116,101,110,100,95,105,51,50,95,115])=KW)(a4:(W.toList==[105,54,52,46,101,120,116,101,110,100,95,105,51,50,95,117])=KA)(ah:Z.di.size<=900000)(ai:i.op<100000000000):
  qC 143 #[qP x,.agg (i.cells lv).toArray,.string W] w fun e w'=>qU e/\dZ w' x c p A (yf i (sumT (kS b64) i.op Sv b32 Qe Oi L9 KW KA) Z)/\Kept (only x) w w':=by
 obtain⟨pl,nl,cl,rfl⟩:=ax;obtain⟨d,K⟩:∃d:Nat,i.xn=(d:Int):=⟨i.xn.toNat,qo⟩;have hx:=h.lt;have HI:=hide h;have HN:=hide hn;unfold fA.cells;rw[K];have az:=hide K;have aA:(3:Int)<(W.size:Int):=qo;have aB:(3:Int)<=(W.size:Int):=qo;clear h hn aw K;go_enter func143,ntmps143;go_upto_if 18 with fail
 go_cut [6] from 11 to 18 (fun v j=>v=.string (kS b64)/\(w.alloc (.cells (iC i d (.slice pl nl cl)).toArray 79))=j)
 case first=>
  cases b64 with
  | true=>go_wp2;go_meet;exact⟨rfl,rfl⟩
  | false=>go_wp2;go_meet;exact⟨rfl,rfl⟩
 case rest=>
 obtain⟨rfl,rfl⟩:=hcut;have y:OB (w.alloc (.cells (iC i d (.slice pl nl cl)).toArray 79)) x w.heap.size (iC i d (.slice pl nl cl)):=OB.new (c:=(iC i d (.slice pl nl cl)).toArray) (t:=79) hx rfl;have D:=HI.o.alloc (.cells (iC i d (.slice pl nl cl)).toArray 79);have aj:Kept (only x) w (w.alloc (.cells (iC i d (.slice pl nl cl)).toArray 79)):=qr.alloc _;obtain⟨ib,ak⟩:=qE w.heap.size;rw[<-ak] at y ⊢;clear HI ak hx aA aB ay;generalize (w.alloc (.cells (iC i d (.slice pl nl cl)).toArray 79))=W1 at*;obtain⟨⟨L,-⟩,-,⟨A2,-⟩,-⟩:=y.blk.nine;have M:=y.lt;have aC:=D.lt;obtain⟨-,-,-,-,-,-,⟨N,O⟩,-,-⟩:=D.blk.gI;obtain⟨kk,Q⟩:=qF (kS b64);have R:=ab5 (b64:=b64);have aD:=hide Q;rw[Q] at R ⊢;clear Q;go_wp2_with fail
 refine(jF _ i.op).mono ?_;rintro e w2 ⟨rfl,rfl⟩;obtain⟨E,T⟩:=qF (decide (40<=i.op/\i.op<=58));rw[T];have U:=hide T;clear T;go_wp2_with fail
 refine(QF _ i.op).mono ?_;rintro e w2 ⟨rfl,rfl⟩;obtain⟨bs,V⟩:=qF (decide (54<=i.op/\i.op<=58));rw[V];have am:=hide V;clear V;go_wp2_with fail
 go_cut [34] from 25 to 34 (fun u j=>u=.bool (E&&decide (uK i.op<d))/\qK w2 j)
 case first=>
  cases E with
  | false=>
   go_quiet (fail)
   go_wp2;go_meet;exact⟨rfl,qr.drewN _⟩
  | true=>
   by_cases ha:uK i.op<d
   .have aE:(uK i.op:Int)<(d:Int):=qo;have HO:qh ((true&&decide (uK i.op<d))=true):=by show _=_;simp[ha]
    exact ad7
   have aE:¬(uK i.op:Int)<(d:Int):=qo;have HO:qh ((true&&decide (uK i.op<d))=false):=by show _=_;simp[ha]
   exact ad7
 case rest=>
 obtain⟨rfl,F⟩:=hcut;obtain⟨w3,aF⟩:=qE wc;subst aF;have z:=D.kept F (fun c=>c) (fun _ _ c=>c);have X:=y.kept F (fun c=>c);have Y:Kept (only x) w w3:=aj.trans (F.mono (fun _ _ c=>c.elim));obtain⟨ob,aa⟩:=qF ((E&&decide (uK i.op<d)));rw[aa];have ab:qh (pG i Z=if ob=true then fF 4 Z.now Z else Z):=by
  show _=_;unfold pG;rw[<-aa,<-U.o,az.o];simp only[Bool.and_eq_true,decide_eq_true_eq,Int.ofNat_lt]
 clear aa F D y aj L A2 M aC N O;obtain⟨-,-,-,-,-,-,⟨N,O⟩,-,-⟩:=z.blk.gI;have aG:=z.lt;go_upto_if 34 with fail
 go_cut [] from 34 to 40 (fun j=>∃st1,pG i Z=st1/\dZ j x c p A st1/\OB j x ib (iC i d (.slice pl nl cl))/\Kept (only x) w j)
 case first=>
  cases ob with
  | true=>
   go_wp2_with fail
   refine(nW z 4 Z.now qx).mono ?_;rintro e w4 ⟨rfl,G,B⟩;go_wp2;go_meet;exact⟨fF 4 Z.now Z,ab.o,G,X.call B,Y.trans B⟩
  | false=>go_wp2;go_meet;exact⟨Z,ab.o,z,X,Y⟩
 case rest=>
 obtain⟨st1,H,G,ac,B⟩:=hcut;obtain⟨w4,aH⟩:=qE wc;subst aH;have an:st1.opn≠[]:=by rw[<-H,Md.1];exact HN.o
 have ao:st1.di=Z.di:=by
  rw[<-H];unfold pG;split
  .exact uf _ _
  rfl
 have aI:=hide H;have aJ:=hide an;have a5:st1.di.size<=900000:=by rw[ao];exact ah
 clear ab N O aG z X Y H an ao ah HN;obtain⟨⟨L,-⟩,-⟩:=ac.blk.nine;have M:=ac.lt;have aK:¬9223372036854775807<kk.size+kk.size:=qo;have aL:¬9223372036854775807<(⟨#[105]⟩:qS).size+kk.size:=by rw[show(⟨#[105]⟩:qS).size=1 from rfl];omega
 have aM:=Xa (i:=i) (Sv:=Sv) (b32:=b32) (Qe:=Qe) (Oi:=Oi) (L9:=L9) (KW:=KW) (KA:=KA) R;go_upto_block 0 with fail
 go_cut [9,10] from 41 to 113 (fun tv gv j=>tv=.string (sumT kk i.op Sv b32 Qe Oi L9 KW KA).1/\gv=.string (sumT kk i.op Sv b32 Qe Oi L9 KW KA).2/\w4=j)
 case first=>
  cases bs with
  | true=>
   have a:54<=i.op/\i.op<=58:=of_decide_eq_true am.o;have HO:qh (sumT kk i.op Sv b32 Qe Oi L9 KW KA=(⟨#[105]⟩++kk,⟨#[]⟩)):=by show _=_;unfold sumT;rw[if_pos a]
   clear a;exact zL
  | false=>
  have a:¬(54<=i.op/\i.op<=58):=of_decide_eq_false am.o;cases E with
  | true=>
   have b:40<=i.op/\i.op<=58:=of_decide_eq_true U.o;have HO:qh (sumT kk i.op Sv b32 Qe Oi L9 KW KA=(⟨#[105]⟩,kk)):=by show _=_;unfold sumT;rw[if_neg a,if_pos b]
   clear a b;exact zL
  | false=>
  have b:¬(40<=i.op/\i.op<=58):=of_decide_eq_false U.o;cases Sv with
  | true=>
   have HO:qh (sumT kk i.op true b32 Qe Oi L9 KW KA=(⟨#[]⟩,kk)):=by show _=_;unfold sumT;rw[if_neg a,if_neg b,if_pos qs]
   clear a b;exact zL
  | false=>
  cases b32 with
  | true=>
   have HO:qh (sumT kk i.op false true Qe Oi L9 KW KA=(⟨#[]⟩,kk)):=by show _=_;unfold sumT;rw[if_neg a,if_neg b,if_pos qs]
   clear a b;exact zL
  | false=>
  cases Qe with
  | true=>
   have HO:qh (sumT kk i.op false false true Oi L9 KW KA=(⟨#[]⟩,kk)):=by show _=_;unfold sumT;rw[if_neg a,if_neg b,if_pos qs]
   clear a b;exact zL
  | false=>
  cases Oi with
  | true=>
   have HO:qh (sumT kk i.op false false false true L9 KW KA=(⟨#[105]⟩,kk)):=by show _=_;unfold sumT;rw[if_neg a,if_neg b,if_neg qs,if_pos rfl]
   clear a b;exact zL
  | false=>
  cases L9 with
  | true=>
   have HO:qh (sumT kk i.op false false false false true KW KA=(⟨#[108]⟩,kk)):=by show _=_;unfold sumT;rw[if_neg a,if_neg b,if_neg qs,if_neg qs,if_pos rfl]
   clear a b;exact zL
  | false=>
  cases KW with
  | true=>
   have HO:qh (sumT kk i.op false false false false false true KA=(⟨#[105]⟩,kk)):=by show _=_;unfold sumT;rw[if_neg a,if_neg b,if_neg qs,if_neg qs,if_neg qs,if_pos qs]
   clear a b;exact zL
  | false=>
  cases KA with
  | true=>
   have HO:qh (sumT kk i.op false false false false false false true=(⟨#[105]⟩,kk)):=by show _=_;unfold sumT;rw[if_neg a,if_neg b,if_neg qs,if_neg qs,if_neg qs,if_pos qs]
   clear a b;exact zL
  | false=>
  have ai:i.op<100000000000:=ai;by_cases g:i.op=69
  .have o1':(i.op:Int)=69:=qo;have aN:((i.op:Int)==69)=true:=by rw[o1'];rfl
   have HO:qh (sumT kk i.op false false false false false false false=(kk,⟨#[105]⟩)):=by show _=_;unfold sumT;rw[if_neg a,if_neg b,if_neg qs,if_neg qs,if_neg qs,if_neg qs,if_pos (.inl g)]
   clear a b g o1';exact zL
  have aN:((i.op:Int)==69)=false:=by rw[beq_eq_false_iff_ne];omega
  by_cases k:i.op=80
  .have o2':(i.op:Int)=80:=qo;have aO:((i.op:Int)==80)=true:=by rw[o2'];rfl
   have HO:qh (sumT kk i.op false false false false false false false=(kk,⟨#[105]⟩)):=by show _=_;unfold sumT;rw[if_neg a,if_neg b,if_neg qs,if_neg qs,if_neg qs,if_neg qs,if_pos (.inr k)]
   clear a b g k o2';exact zL
  have aO:((i.op:Int)==80)=false:=by rw[beq_eq_false_iff_ne];omega
  by_cases m:69<i.op
  .have aP:(69:Int)<(i.op:Int):=qo;by_cases r:i.op<=90
   .have aQ:(i.op:Int)<=90:=qo;have HO:qh (sumT kk i.op false false false false false false false=(kk++kk,⟨#[105]⟩)):=by show _=_;unfold sumT;rw[if_neg a,if_neg b,if_neg qs,if_neg qs,if_neg qs,if_neg qs,if_neg qo,if_pos ⟨m,r⟩]
    clear a b g k m r;exact zL
   have aQ:¬(i.op:Int)<=90:=qo;by_cases s:103<=i.op
   .have ap:(103:Int)<=(i.op:Int):=qo;by_cases C:i.op<=105
    .have aR:(i.op:Int)<=105:=qo;have HO:qh (sumT kk i.op false false false false false false false=(kk,kk)):=by show _=_;unfold sumT;rw[if_neg a,if_neg b,if_neg qs,if_neg qs,if_neg qs,if_neg qs,if_neg qo,if_neg qo,if_pos (.inl ⟨s,C⟩)]
     clear a b g k m r s C;exact zL
    have aR:¬(i.op:Int)<=105:=qo;by_cases I:121<=i.op
    .have ad:(121:Int)<=(i.op:Int):=qo;by_cases o8:i.op<=123
     .have aS:(i.op:Int)<=123:=qo;have HO:qh (sumT kk i.op false false false false false false false=(kk,kk)):=by show _=_;unfold sumT;rw[if_neg a,if_neg b,if_neg qs,if_neg qs,if_neg qs,if_neg qs,if_neg qo,if_neg qo,if_pos (.inr ⟨I,o8⟩)]
      clear a b g k m r s C I o8;exact zL
     have aS:¬(i.op:Int)<=123:=qo;have HO:qh (sumT kk i.op false false false false false false false=(kk++kk,kk)):=by show _=_;unfold sumT;rw[if_neg a,if_neg b,if_neg qs,if_neg qs,if_neg qs,if_neg qs,if_neg qo,if_neg qo,if_neg qo]
     clear a b g k m r s C I o8;exact zL
    have ad:¬(121:Int)<=(i.op:Int):=qo;have HO:qh (sumT kk i.op false false false false false false false=(kk++kk,kk)):=by show _=_;unfold sumT;rw[if_neg a,if_neg b,if_neg qs,if_neg qs,if_neg qs,if_neg qs,if_neg qo,if_neg qo,if_neg qo]
    clear a b g k m r s C I;exact zL
   have ap:¬(103:Int)<=(i.op:Int):=qo;have ad:¬(121:Int)<=(i.op:Int):=qo;have HO:qh (sumT kk i.op false false false false false false false=(kk++kk,kk)):=by show _=_;unfold sumT;rw[if_neg a,if_neg b,if_neg qs,if_neg qs,if_neg qs,if_neg qs,if_neg qo,if_neg qo,if_neg qo]
   clear a b g k m r s;exact zL
  have aP:¬(69:Int)<(i.op:Int):=qo;have ap:¬(103:Int)<=(i.op:Int):=qo;have ad:¬(121:Int)<=(i.op:Int):=qo;have HO:qh (sumT kk i.op false false false false false false false=(kk++kk,kk)):=by show _=_;unfold sumT;rw[if_neg a,if_neg b,if_neg qs,if_neg qs,if_neg qs,if_neg qs,if_neg qo,if_neg qo,if_neg qo]
  clear a b g k m;exact zL
 case rest=>
 obtain⟨rfl,rfl,rfl⟩:=hcut;have ae:qh (yf i (sumT kk i.op Sv b32 Qe Oi L9 KW KA) Z=iF (sumT kk i.op Sv b32 Qe Oi L9 KW KA).2 (dS (sumT kk i.op Sv b32 Qe Oi L9 KW KA).1 st1).2):=by show _=_;unfold yf;rw[aI.o]
 obtain⟨f,af⟩:=qF (sumT kk i.op Sv b32 Qe Oi L9 KW KA);have aT:=hide af;rw[af] at ae aM ⊢;clear af;clear L M ac aK aL R;go_wp2_with fail
 refine(iV G aJ.o f.1 qo).mono ?_;rintro e w5 ⟨rfl,q,aq⟩;have aU:=B.trans aq;have ar:=l8 (Z:=st1) f.1;obtain⟨⟨a6,⟨l,opn,er,now⟩⟩,ag⟩:=qF (dS f.1 st1);rw[ag] at q ar ⊢;have aV:qh (yf i f Z=⟨l++f.2,opn,er,now⟩):=by show _=_;rw[ae.o,ag];rfl
 simp only at q ar ⊢;clear ag ae G B aq;obtain⟨-,-,⟨I2,J2⟩,-,-,-,-,-,-⟩:=q.blk.gI;simp only at I2;have a7:=q.lt;have a8:¬9223372036854775807<l.size+f.2.size:=qo;have au:dZ (w5.setCell (qA x 2) (.string (l++f.2))) x c p A ⟨l++f.2,opn,er,now⟩:=by
  have av:(l++f.2).size=l.size+f.2.size:=ByteArray.size_append;refine q.EX (J:=⟨l++f.2,opn,er,now⟩) (qr.own _) (q.blk.set 2 (.string (l++f.2))) rfl ?_ ?_ q.code
  .simp only[av];exact JK (Nat.le_add_right _ _) q.hi
  simp only[av];omega
 have aW:=hide au;have aX:=hide (aU.own (o:=2) (.string (l++f.2)));clear au;go_wp2;go_end0;rw[aD.o,aT.o,aV.o];exact⟨rfl,aW.o,aX.o⟩
end
def lS(m:RM)(c:FC)(i:fA)(Z:Bk):Bk:=
 if i.op=2\/i.op=3\/i.op=4 then(if i.dH=2 then fu (i.xn.toNat,i.pX) m.dm.length Z else Z)
 else if i.op=12\/i.op=13\/i.op=14 then fu (i.xn.toNat,i.pX) Z.opn.length (i.dF.foldl (fun s r=>fu r Z.opn.length s) Z)
 else if i.op=16 then fu (i.xn.toNat,i.pX) m.tys.length Z
 else if i.op=32\/i.op=33\/i.op=34 then fu (i.xn.toNat,i.pX) c.kinds.size Z
 else if i.op=35\/i.op=36 then fu (i.xn.toNat,i.pX) m.dB.length Z
 else if i.op=17 then fu (i.xn.toNat,i.pX) m.dm.length (if m.table.isSome=true then Z else fF 3 i.at_ Z)
 else Z
def eY(m:RM)(c:FC)(i:fA)(Z:Bk):Bk:=
 if m.memory.isSome=false/\((40<=i.op/\i.op<=58)\/i.op=63\/i.op=64) then fF 3 i.at_ (lS m c i Z) else lS m c i Z
section
variable {S ok Gy:qD} {w w':qW} {x A:Nat} {c:FC} {p:qO} {Z:Bk} {lv:qv} {i:fA} {W:qS} {xx fb:Nat} {ms cs:qV} {pm:qO} {qb nx:Nat} {m:RM}
theorem Pz(h:dZ w x c p A Z)(hm:oU w xx c.Y fb ms cs pm qb m nx)(aO:0<=i.xn)(hL:isRow 37 2 fU Gy i.dF w lv)(aq:∀g,Gy g->g≠x)(a0:i.dF.length<=1000)(F:(W.toList==[98,108,111,99,107])=decide (i.op=2))(G:(W.toList==[108,111,111,112])=decide (i.op=3))(H:(W.toList==[105,102])=decide (i.op=4))(I:(W.toList==[98,114])=decide (i.op=12))(L:(W.toList==[98,114,95,105,102])=decide (i.op=13))(M:(W.toList==[98,114,95,116,97,98,108,101])=decide (i.op=14))(N:(W.toList==[99,97,108,108])=decide (i.op=16))(O:(W.toList==[108,111,99,97,108,46,103,101,116])=decide (i.op=32))(R:(W.toList==[108,111,99,97,108,46,115,101,116])=decide (i.op=33))(T:(W.toList==[108,111,99,97,108,46,116,101,101])=decide (i.op=34))(U:(W.toList==[103,108,111,98,97,108,46,103,101,116])=decide (i.op=35))(aa:(W.toList==[103,108,111,98,97,108,46,115,101,116])=decide (i.op=36))(ab:(W.toList==[99,97,108,108,95,105,110,100,105,114,101,99,116])=decide (i.op=17))(ar:(W.toList==[109,101,109,111,114,121,46,115,105,122,101])=decide (i.op=63))(au:(W.toList==[109,101,109,111,114,121,46,103,114,111,119])=decide (i.op=64))(aP:x≠c.Y):
  qC 108 #[qP x,.agg (i.cells lv).toArray,.string W] w fun e w'=>qU e/\dZ w' x c p A (eY m c i Z)/\Kept (only x) w w':=by
 obtain⟨pl,cl,rfl,-⟩:=tO hL;obtain⟨b,av⟩:∃b:Nat,i.xn=(b:Int):=⟨i.xn.toNat,qo⟩;have aQ:i.xn.toNat=b:=qo;have hx:=h.lt;have HI:=hide h;have af:=hide aQ;obtain⟨tp,tc,aw,-⟩:=yI hm.c.dm;obtain⟨gp,gc,ax,-⟩:=D7 hm.c.dB;have lm:c.Y<w.heap.size:=hm.ob.lt;have m0:=(hm.cell (k:=0) qo).trans (congrArg some aw);have m1:=(hm.cell (k:=1) qo).trans (congrArg some hm.fv);have ay:=(hm.cell (k:=12) qo).trans (congrArg some ax);obtain⟨b1,b2,b3,b4,az,-⟩:=pK m.table;obtain⟨d1,d2,d3,d4,aA,-⟩:=pK m.memory;have m2:w.cell? (qA c.Y 2)=some (.bool m.table.isSome):=(hm.cell (k:=2) qo).trans (congrArg some (by have C:=hm.c.table;rw[az] at C;exact C 0 qs));have m7:w.cell? (qA c.Y 7)=some (.bool m.memory.isSome):=(hm.cell (k:=7) qo).trans (congrArg some (by have C:=hm.c.memory;rw[aA] at C;exact C 0 qs));have am:qh (∀V:qW,Kept (only x) w V->V.cell? (qA c.Y 0)=some (.slice tp m.dm.length tc)/\V.cell? (qA c.Y 1)=some (.slice pm m.tys.length qb)/\V.cell? (qA c.Y 12)=some (.slice gp m.dB.length gc)/\V.cell? (qA c.Y 2)=some (.bool m.table.isSome)/\V.cell? (qA c.Y 7)=some (.bool m.memory.isSome)/\c.Y<V.heap.size):=fun V hV=>by
  have e:∀k,V.cell? (qA c.Y k)=w.cell? (qA c.Y k):=fun k=>hV.cell (p:=(qA c.Y k)) lm (fun(c:c.Y=x)=>aP c.symm);exact⟨(e 0).trans m0,(e 1).trans m1,(e 12).trans ay,(e 2).trans m2,(e 7).trans m7,Nat.lt_of_lt_of_le lm hV.size⟩
 have HL:qh (∀V:qW,Kept (only x) w V->isRow 37 2 fU Gy i.dF V (.slice pl i.dF.length cl)):=fun V hV=>Row.kept hL hV (fun g _ hg (e:g=x)=>aq g hg e);unfold fA.cells;rw[av];clear h hm hL aw ax m0 m1 ay m2 m7 az aA aO av aq;go_enter func108,ntmps108;obtain⟨-,-,-,-,-,-,-,-,-⟩:=HI.o.blk.gI;have oI:OB (w.alloc (.cells (iC i b (.slice pl i.dF.length cl)).toArray 79)) x w.heap.size (iC i b (.slice pl i.dF.length cl)):=OB.new (c:=(iC i b (.slice pl i.dF.length cl)).toArray) (t:=79) hx rfl;have v:=HI.o.alloc (.cells (iC i b (.slice pl i.dF.length cl)).toArray 79);have hk1:Kept (only x) w (w.alloc (.cells (iC i b (.slice pl i.dF.length cl)).toArray 79)):=qr.alloc _;obtain⟨⟨X0,-⟩,-⟩:=v.blk.gI;have aB:=v.lt;clear HI;obtain⟨ib,an⟩:=qE w.heap.size;rw[<-an] at oI;clear hx;go_upto_block 0 with fail
 rw[<-an];clear an X0;generalize (w.alloc (.cells (iC i b (.slice pl i.dF.length cl)).toArray 79))=u at*;go_cut [] from 14 to 118 (fun V=>∃st1,lS m c i Z=st1/\dZ V x c p A st1/\OB V x ib (iC i b (.slice pl i.dF.length cl))/\Kept (only x) w V)
 case first=>
  obtain⟨-,-,-,⟨X3,-⟩,-,-,-,⟨X7,-⟩,-⟩:=v.blk.gI;obtain⟨⟨A0,-⟩,⟨A1,-⟩,⟨y,-⟩,⟨z,-⟩,-,-,⟨A6,-⟩,⟨A7,-⟩,-⟩:=oI.blk.nine;have j:=oI.lt;obtain⟨M0,M1,ai,M2,-,D⟩:=am.o u hk1;by_cases e:i.op=2\/i.op=3\/i.op=4
  .rcases e with e | e | e;all_goals
    have E:=fun k:Nat=>congrArg (fun n:Nat=>decide (n=k)) e;simp only[E,Nat.reduceEqDiff,decide_true,decide_false] at F G H I L M N O R T U aa ab;clear E;by_cases hg:i.dH=2
    .have hg':((i.dH:Nat):Int)=2:=qo;have aR:(((i.dH:Nat):Int)==2)=true:=by rw[hg'];rfl
     have HO:qh (lS m c i Z=fu (b,i.pX) m.dm.length Z):=by show _=_;unfold lS;rw[af.o];simp[e,hg]
     clear e hg hg';go_wp2_with fail
     have nk:=dX j y;have ru:=dX j z;have uE:=dX D M0;have hS0:qK u u.drew:=qr.drew;refine kQ (qK u) 8 ?_;iterate 8 refine pQ hS0 ?_
     refine dx (i:=8) qk (dn rfl (fun K hK=>?_));refine eG (f:=136) (args:= #[qP x,.agg #[qJ b,qJ i.pX],qJ m.dm.length]) (by rfl) (by go_simp) (ry v.drew (b,i.pX) (m.dm.length)) ?_;rintro e5 w5 ⟨rfl,HY,hk5⟩;refine⟨_,rfl,hK _ _ ⟨.inl rfl,?_⟩⟩;clear hK K;refine dM qk ?_ _;simp only[Act.put,qy,qz,qw];clear nk ru uE hS0;have XC:=oI.drew.call hk5;have Fg:=hk1.drew.trans hk5;go_wp2;go_meet;exact⟨_,HO.o,HY,XC,Fg⟩
    have aR:(((i.dH:Nat):Int)==2)=false:=by rw[beq_eq_false_iff_ne];omega
    have HO:qh (lS m c i Z=Z):=by show _=_;unfold lS;simp[e,hg]
    clear e hg;go_wp2;go_meet;exact⟨_,HO.o,v,oI,hk1⟩
  by_cases e:i.op=16
  .have E:=fun k:Nat=>congrArg (fun n:Nat=>decide (n=k)) e;simp only[E,Nat.reduceEqDiff,decide_true,decide_false] at F G H I L M N O R T U aa ab;clear E;have HO:qh (lS m c i Z=fu (b,i.pX) (m.tys.length) Z):=by show _=_;unfold lS;rw[af.o];simp[e]
   clear e;go_wp2_with fail
   have nk:=dX j y;have ru:=dX j z;have uE:=dX D M1;have hS0:qK u u.drew:=qr.drew;refine kQ (qK u) 8 ?_;iterate 8 refine pQ hS0 ?_
   refine dx (i:=8) qk (dn rfl (fun K hK=>?_));refine eG (f:=136) (args:= #[qP x,.agg #[qJ b,qJ i.pX],qJ m.tys.length]) (by rfl) (by go_simp) (ry v.drew (b,i.pX) (m.tys.length)) ?_;exact agD
  by_cases e:i.op=32\/i.op=33\/i.op=34
  .rcases e with e | e | e;all_goals
    have E:=fun k:Nat=>congrArg (fun n:Nat=>decide (n=k)) e;simp only[E,Nat.reduceEqDiff,decide_true,decide_false] at F G H I L M N O R T U aa ab;clear E;have HO:qh (lS m c i Z=fu (b,i.pX) (c.kinds.size) Z):=by show _=_;unfold lS;rw[af.o];simp[e]
    clear e;go_wp2_with fail
    have nk:=dX j y;have ru:=dX j z;have uE:=dX aB X7;have hS0:qK u u.drew:=qr.drew;refine kQ (qK u) 8 ?_;iterate 8 refine pQ hS0 ?_
    refine dx (i:=8) qk (dn rfl (fun K hK=>?_));refine eG (f:=136) (args:= #[qP x,.agg #[qJ b,qJ i.pX],qJ c.kinds.size]) (by rfl) (by go_simp) (ry v.drew (b,i.pX) (c.kinds.size)) ?_;rintro e5 w5 ⟨rfl,HY,hk5⟩;refine⟨_,rfl,hK _ _ ⟨.inl rfl,?_⟩⟩;clear hK K;refine dM qk ?_ _;simp only[Act.put,qy,qz,qw];clear nk ru uE hS0;have XC:=oI.drew.call hk5;have Fg:=hk1.drew.trans hk5;go_wp2;go_meet;exact⟨_,HO.o,HY,XC,Fg⟩
  by_cases e:i.op=35\/i.op=36
  .rcases e with e | e;all_goals
    have E:=fun k:Nat=>congrArg (fun n:Nat=>decide (n=k)) e;simp only[E,Nat.reduceEqDiff,decide_true,decide_false] at F G H I L M N O R T U aa ab;clear E;have HO:qh (lS m c i Z=fu (b,i.pX) (m.dB.length) Z):=by show _=_;unfold lS;rw[af.o];simp[e]
    clear e;go_wp2_with fail
    have nk:=dX j y;have ru:=dX j z;have uE:=dX D ai;have hS0:qK u u.drew:=qr.drew;refine kQ (qK u) 8 ?_;iterate 8 refine pQ hS0 ?_
    refine dx (i:=8) qk (dn rfl (fun K hK=>?_));refine eG (f:=136) (args:= #[qP x,.agg #[qJ b,qJ i.pX],qJ m.dB.length]) (by rfl) (by go_simp) (ry v.drew (b,i.pX) (m.dB.length)) ?_;rintro e5 w5 ⟨rfl,HY,hk5⟩;refine⟨_,rfl,hK _ _ ⟨.inl rfl,?_⟩⟩;clear hK K;refine dM qk ?_ _;simp only[Act.put,qy,qz,qw];clear nk ru uE hS0;have XC:=oI.drew.call hk5;have Fg:=hk1.drew.trans hk5;go_wp2;go_meet;exact⟨_,HO.o,HY,XC,Fg⟩
  by_cases e:i.op=17
  .have E:=fun k:Nat=>congrArg (fun n:Nat=>decide (n=k)) e;simp only[E,Nat.reduceEqDiff,decide_true,decide_false] at F G H I L M N O R T U aa ab;clear E;obtain⟨tt,aj⟩:=qF m.table.isSome;rw[aj] at M2;have a1:=hide aj;have aC:qh (lS m c i Z=fu (b,i.pX) m.dm.length (if tt=true then Z else fF 3 i.at_ Z)):=by show _=_;unfold lS;rw[af.o,aj];simp[e]
   clear e aj;cases tt with
   | true=>
    have HO:qh (lS m c i Z=fu (b,i.pX) m.dm.length Z):=aC.o;go_wp2_with fail
    have nk:=dX j y;have ru:=dX j z;have uE:=dX D M0;have hS0:qK u u.drew:=qr.drew;refine kQ (qK u) 8 ?_;iterate 8 refine pQ hS0 ?_
    refine dx (i:=8) qk (dn rfl (fun K hK=>?_));refine eG (f:=136) (args:= #[qP x,.agg #[qJ b,qJ i.pX],qJ m.dm.length]) (by rfl) (by go_simp) (ry v.drew (b,i.pX) (m.dm.length)) ?_;exact agD
   | false=>
    have HO:qh (lS m c i Z=fu (b,i.pX) m.dm.length (fF 3 i.at_ Z)):=aC.o;go_wp2_with fail
    refine(nW v 3 i.at_ qx).mono ?_;rintro e4 w4 ⟨rfl,aS,aD⟩;have ao:=oI.call aD;have aE:=hk1.trans aD;clear A0 A1 y z A6 A7 j M0 M1 ai M2 D;obtain⟨-,-,⟨y,-⟩,⟨z,-⟩,-⟩:=ao.blk.nine;have j:=ao.lt;obtain⟨M0,-,-,-,-,D⟩:=am.o w4 aE;go_wp2_with fail
    have nk:=dX j y;have ru:=dX j z;have uE:=dX D M0;have hS0:qK w4 w4.drew:=qr.drew;refine kQ (qK w4) 8 ?_;iterate 8 refine pQ hS0 ?_
    refine dx (i:=8) qk (dn rfl (fun K hK=>?_));refine eG (f:=136) (args:= #[qP x,.agg #[qJ b,qJ i.pX],qJ m.dm.length]) (by rfl) (by go_simp) (ry aS.drew (b,i.pX) (m.dm.length)) ?_;rintro e5 w5 ⟨rfl,HY,hk5⟩;refine⟨_,rfl,hK _ _ ⟨.inl rfl,?_⟩⟩;clear hK K;refine dM qk ?_ _;simp only[Act.put,qy,qz,qw];clear nk ru uE hS0;have XC:=ao.drew.call hk5;have Fg:=aE.drew.trans hk5;go_wp2;go_meet;exact⟨_,HO.o,HY,XC,Fg⟩
  by_cases e:i.op=12\/i.op=13\/i.op=14
  .rcases e with e | e | e;all_goals
    have E:=fun k:Nat=>congrArg (fun n:Nat=>decide (n=k)) e;simp only[E,Nat.reduceEqDiff,decide_true,decide_false] at F G H I L M N O R T U aa ab;clear E;have aF:qh (lS m c i Z=fu (b,i.pX) Z.opn.length (i.dF.foldl (fun s r=>fu r Z.opn.length s) Z)):=by show _=_;unfold lS;rw[af.o];simp[e]
    clear e;go_wp2;go_loopw [7] (fun q wr=>∃(k:Nat) (J:Bk),k<=i.dF.length/\q=qJ k/\dZ wr x c p A J/\J.opn=Z.opn/\OB wr x ib (iC i b (.slice pl i.dF.length cl))/\Kept (only x) w wr/\i.dF.foldl (fun s r=>fu r Z.opn.length s) Z=(i.dF.drop k).foldl (fun s r=>fu r Z.opn.length s) J) (fun q _=>i.dF.length - (intOf q).toNat)
    case atStart=>exact⟨0,Z,qZ,rfl,v,rfl,oI,hk1,rfl⟩
    obtain⟨k,J,X,rfl,hI2,ap,ad,hk2,aG⟩:=hrel;have ak:=hide aG;have aH:=hide ap;clear aG A0 A1 y z A6 A7 j M0 M1 ai M2 D X3 X7;obtain⟨-,-,⟨y,-⟩,⟨z,-⟩,-,-,⟨A6,-⟩,-⟩:=ad.blk.nine;have j:=ad.lt;obtain⟨-,-,-,⟨X3,-⟩,-⟩:=hI2.blk.gI;rw[ap] at X3;have aI:=hI2.lt;clear ap;by_cases aT:k<i.dF.length
    .have aU:(k:Int)<(i.dF.length:Int):=qo;obtain⟨r,C⟩:∃r,i.dF[k]?=some r:=⟨_,List.getElem?_eq_getElem aT⟩;obtain⟨p3,c3,aJ,aK⟩:=tO (HL.o wr hk2);obtain⟨g3,aV,aL,a2,R0,R1⟩:=aK k r C;subst aV;obtain⟨rfl,rfl⟩:pl=some (qA g3 0)/\cl=c3:=by cases aJ;exact⟨rfl,rfl⟩
     have aM:=hide (drop_cons C);clear aJ aK C;go_wp2_with fail
     have nk:=dX j A6;have ru:=dX aL R0;have uE:=dX aL R1;have aW:=dX aI X3;have hS0:qK wr wr.drew:=qr.drew;refine kQ (qK wr) 11 ?_;iterate 11 refine pQ hS0 ?_
     refine dx (i:=11) qk (dn rfl (fun K hK=>?_));refine eG (f:=136) (args:= #[qP x,.agg #[qJ r.1,qJ r.2],qJ Z.opn.length]) (by rfl) (by go_simp) (ry hI2.drew r Z.opn.length) ?_;rintro e5 w5 ⟨rfl,HY,hk5⟩;refine⟨_,rfl,hK _ _ ⟨.inl rfl,?_⟩⟩;clear hK K;refine dM qk ?_ _;simp only[Act.put,qy,qz,qw];clear nk ru uE aW hS0;have XC:=ad.drew.call hk5;have Fg:=hk2.drew.trans hk5;have aX:qh ((fu r Z.opn.length J).opn=Z.opn):=by
      show _=_;unfold fu;split
      .rw[vD];exact aH.o
      exact aH.o
     have aY:qh (i.dF.foldl (fun s r=>fu r Z.opn.length s) Z=(i.dF.drop (k+1)).foldl (fun s r=>fu r Z.opn.length s) (fu r Z.opn.length J)):=by show _=_;rw[ak.o,aM.o];rfl
     clear ak aM;go_wp2;go_roundw
     case rel=>exact⟨k+1,_,qo,by go_num,HY,aX.o,XC,Fg,aY.o⟩
     simp[intOf];omega
    have aU:¬(k:Int)<(i.dF.length:Int):=qo;have HO:qh (lS m c i Z=fu (b,i.pX) Z.opn.length J):=by
     show _=_;rw[aF.o,ak.o,List.drop_eq_nil_of_le qo];rfl
    clear ak aF;go_wp2_with fail
    have nk:=dX j y;have ru:=dX j z;have uE:=dX aI X3;have hS0:qK wr wr.drew:=qr.drew;refine kQ (qK wr) 8 ?_;iterate 8 refine pQ hS0 ?_
    refine dx (i:=8) qk (dn rfl (fun K hK=>?_));refine eG (f:=136) (args:= #[qP x,.agg #[qJ b,qJ i.pX],qJ Z.opn.length]) (by rfl) (by go_simp) (ry hI2.drew (b,i.pX) (Z.opn.length)) ?_;rintro e5 w5 ⟨rfl,HY,hk5⟩;refine⟨_,rfl,hK _ _ ⟨.inl rfl,?_⟩⟩;clear hK K;refine dM qk ?_ _;simp only[Act.put,qy,qz,qw];clear nk ru uE hS0;have XC:=ad.drew.call hk5;have Fg:=hk2.drew.trans hk5;go_wp2;go_meet;exact⟨_,HO.o,HY,XC,Fg⟩
  rw[qd] at F;rw[qd] at G;rw[qd] at H;rw[qd] at I;rw[qd] at L;rw[qd] at M;rw[qd] at N;rw[qd] at O;rw[qd] at R;rw[qd] at T;rw[qd] at U;rw[qd] at aa;rw[qd] at ab;have HO:qh (lS m c i Z=Z):=by show _=_;unfold lS;rw[if_neg qo,if_neg qo,if_neg qo,if_neg qo,if_neg qo,if_neg qo]
  clear A0 A1 y z A6 A7 M0 M1 ai M2 X3 X7;go_wp2;go_meet;exact⟨_,HO.o,v,oI,hk1⟩
 case rest=>
 obtain⟨st1,aN,hI2,ad,hk2⟩:=hcut;obtain⟨w2,aZ⟩:=qE wc;subst aZ;have ah:=hide aN;clear aN v oI hk1 aB F G H I L M N O R T U aa ab;obtain⟨⟨A0,-⟩,⟨A1,-⟩,-⟩:=ad.blk.nine;have j:=ad.lt;obtain⟨-,-,-,-,M7,D⟩:=am.o w2 hk2;go_wp2_with fail
 refine(jF _ i.op).mono ?_;rintro e w3 ⟨rfl,rfl⟩;obtain⟨br,ac⟩:=qF (decide (40<=i.op/\i.op<=58));rw[ac];obtain⟨tm,B⟩:=qF m.memory.isSome;rw[B] at M7;cases tm with
 | true=>
  have HR:qh (eY m c i Z=st1):=by show _=_;unfold eY;rw[ah.o,if_neg (by simp[B])]
  clear ac B;go_wp2;go_end0;rw[HR.o];exact⟨rfl,hI2,hk2⟩
 | false=>
  cases br with
  | true=>
   have hb:=of_decide_eq_true ac;have HR:qh (eY m c i Z=fF 3 i.at_ st1):=by show _=_;unfold eY;rw[ah.o,if_pos ⟨B,.inl hb⟩]
   clear ac B hb;exact afb
  | false=>
   have hb:=of_decide_eq_false ac;by_cases ae:i.op=63
   .have HR:qh (eY m c i Z=fF 3 i.at_ st1):=by show _=_;unfold eY;rw[ah.o,if_pos ⟨B,.inr (.inl ae)⟩]
    rw[decide_eq_true ae] at ar;clear ac B hb ae;exact afb
   rw[decide_eq_false ae] at ar;by_cases ag:i.op=64
   .have HR:qh (eY m c i Z=fF 3 i.at_ st1):=by show _=_;unfold eY;rw[ah.o,if_pos ⟨B,.inr (.inr ag)⟩]
    rw[decide_eq_true ag] at au;clear ac B hb ae ag;exact afb
   rw[decide_eq_false ag] at au;have HR:qh (eY m c i Z=st1):=by show _=_;unfold eY;rw[ah.o,if_neg (fun c=>c.2.elim hb (fun d=>d.elim ae ag))]
   clear ac B hb ae ag;go_wp2;go_end0;rw[HR.o];exact⟨rfl,hI2,hk2⟩
end
def iS:qS:=⟨#[105]⟩
def YT:qS:=⟨#[105,102]⟩
def Wu:qS:=⟨#[101,108,115,101]⟩
def Sj:qS:=⟨#[99,111,100,101]⟩
def zU(last:qS):List (Nat×Nat)->Bk->Bk×Bool
 | [],Z=>(Z,true)
 | r::rs,Z=>if(ji r.1 Z).size≠last.size then(fF 4 Z.now Z,false) else zU last rs (iF (dS (ji r.1 Z) Z).1 (dS (ji r.1 Z) Z).2)
def EH(last:qS)(q:Bk×Bool):Bk:=if q.2=true then sG (dS last q.1).2 else q.1
def vF:List Nat:=[0,1,2,3,4,5,11,12,13,14,15]
def ifF(i:fA)(Z:Bk):Bk:=if i.op=4 then(dS iS Z).2 else Z
def zC(m:RM)(i:fA)(Z:Bk):Bk:=nZ (dN i.op) (jU m.dm i).1 (jU m.dm i).2 (dS (jU m.dm i).1 (ifF i Z)).2
def NS(Z:Bk):Bk:=match Z.opn with
 | []=>Z
 | b::_=>nZ Wu b.l7 b.fo (iq Z)
def LM(Z:Bk):Bk:=match Z.opn with
 | []=>Z
 | b::_=>iF b.fo (if b.word=YT/\b.l7≠b.fo then fF 4 Z.now (iq Z) else iq Z)
def Og(n:Nat)(Z:Bk):Bk:=iF (ji n (dS iS Z).2) (dS (ji n (dS iS Z).2) (dS iS Z).2).2
def uJ(i:fA)(Z:Bk):Bk:=EH (ji i.xn.toNat (dS iS Z).2) (zU (ji i.xn.toNat (dS iS Z).2) i.dF (dS iS Z).2)
def jw(m:RM)(c:FC)(i:fA)(Z:Bk):Bk:=
 if i.op=0 then sG Z
 else if i.op=1 then Z
 else if i.op=2\/i.op=3\/i.op=4 then zC m i Z
 else if i.op=5 then NS Z
 else if i.op=11 then LM Z
 else if i.op=12 then sG (dS (ji i.xn.toNat Z) Z).2
 else if i.op=13 then Og i.xn.toNat Z
 else if i.op=14 then uJ i Z
 else sG (dS c.dH Z).2
def yt(t:qS×qS)(Z:Bk):Bk:=iF t.2 (dS t.1 Z).2
def aeu(now:Nat)(b a:Nat×Bk):Bk:=iF (strOfNums [((if a.1=63 then b.1 else a.1:Nat):Int)]) (if a.1≠b.1/\a.1≠63/\b.1≠63 then fF 4 now a.2 else a.2)
def uo(Z:Bk):Bk:=aeu Z.now (jg (dS iS Z).2) (jg (jg (dS iS Z).2).2)
def yR(c:FC)(i:fA):qS:=c.kinds.extract i.xn.toNat (i.xn.toNat+1)
def yV(m:RM)(i:fA):sJ:=m.dB.getD i.xn.toNat ⟨0,false,⟨0,0,0⟩⟩
def Dy(g:sJ)(Z:Bk):Bk:=(dS (strOfNums [(g.kind:Int)]) (if g.chg=true then Z else fF 4 Z.now Z)).2
def aac(op:Nat):Bool:=((dN op).extract 0 3).toList==[105,54,52]
def kD(m:RM)(c:FC)(i:fA)(Z:Bk):Bk:=
 if i.op=16 then yt (gy m.dm (m.tys.getD i.xn.toNat (0,0)).1) Z
 else if i.op=17 then yt (gy m.dm i.xn.toNat) (dS iS Z).2
 else if i.op=26 then(jg Z).2
 else if i.op=27 then uo Z
 else if i.op=32 then iF (yR c i) Z
 else if i.op=33 then(dS (yR c i) Z).2
 else if i.op=34 then iF (yR c i) (dS (yR c i) Z).2
 else if i.op=35 then iF (strOfNums [((yV m i).kind:Int)]) Z
 else if i.op=36 then Dy (yV m i) Z
 else yf i (sumT (kS (aac i.op)) i.op (decide (i.op=63)) (decide (i.op=65)) (decide (i.op=66)) (decide (i.op=64)) (decide (i.op=167)) (decide (i.op=172)) (decide (i.op=173))) Z
def oq(m:RM)(c:FC)(i:fA)(Z:Bk):Bk:=
 if(eY m c i {Z with now:=i.at_}).err≠none then eY m c i {Z with now:=i.at_}
 else if i.op∈vF then jw m c i (eY m c i {Z with now:=i.at_})
 else kD m c i (eY m c i {Z with now:=i.at_})
def lX(m:RM)(c:FC):List fA->Bk->Bk
 | [],Z=>Z
 | i::is,Z=>if Z.err≠none then Z else lX m c is (oq m c i Z)
def oL(en:Nat)(Z:Bk):Bk:=if Z.err=none then iq {Z with now:=en} else Z
def yE(m:RM)(Y f:Nat):FC:=⟨Y,f,(gy m.dm (m.tys.getD f (0,0)).1).1++(m.ds.getD f ⟨⟨#[]⟩,[],0⟩).locals,(gy m.dm (m.tys.getD f (0,0)).1).2⟩
def Ki(m:RM)(Y f:Nat):Bk:=oL (m.ds.getD f ⟨⟨#[]⟩,[],0⟩).end_ (lX m (yE m Y f) (m.ds.getD f ⟨⟨#[]⟩,[],0⟩).code (nZ Sj ⟨#[]⟩ (yE m Y f).dH ⟨⟨#[]⟩,[],none,0⟩))
def codeF(m:RM)(Y f:Nat):Nat×Nat:=(lu (Ki m Y f).err,pz (Ki m Y f).err)
def r9(m:RM)(Y:Nat):Nat->Nat->Nat×Nat->Nat×Nat
 | 0,_,e=>e
 | k+1,f,e=>if e.1≠0 then e else r9 m Y k (f+1) (codeF m Y f)
def xU(m:RM)(Y:Nat):Nat×Nat:=
 if(mq m).1≠0 then mq m
 else if(r9 m Y m.tys.length 0 (iU m.tys.length m.table.isSome m.elems)).1≠0 then r9 m Y m.tys.length 0 (iU m.tys.length m.table.isSome m.elems)
 else iU m.tys.length m.memory.isSome m.data
def DJ(s:qS)(Y:Nat):Nat×Nat:=
 if 5000<s.size then(1,0) else match(dR s).2.bad with
 | some p=>(2,p)
 | none=>if(xU (dR s).1 Y).1≠0 then xU (dR s).1 Y else(0,0)
section
variable {S ok Gy:qD} {w w':qW} {x A:Nat} {c:FC} {p:qO} {Z:Bk} {lv:qv} {i:fA} {W:qS} {xx fb:Nat} {ms cs:qV} {pm:qO} {qb nx:Nat} {m:RM}
theorem dZ.dH(h:dZ w x c p A Z)(g:qS)(b:Z.di.size+g.size<=1000000):dZ (w.setCell (qA x 2) (.string (Z.di++g))) x c p A (iF g Z):=by
 have a:(Z.di++g).size=Z.di.size+g.size:=ByteArray.size_append;refine h.EX (J:=iF g Z) (qr.own _) (h.blk.set 2 (.string (Z.di++g))) rfl ?_ ?_ h.code
 .show NI (Z.di++g).size Z.opn;rw[a];exact JK (Nat.le_add_right _ _) h.hi
 show(Z.di++g).size<=1000000;omega
end
end Go.Proofs.YtdaafkmhfedkiaaGreat
