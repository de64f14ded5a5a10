import Derived.Test.YtdaafkmhfedkiaaGreatX2
namespace Go.Proofs.YtdaafkmhfedkiaaGreat
set_option maxHeartbeats 6400000
set_option maxRecDepth 100000
open Go.RowKit Go.Proofs.Tryz
theorem kY.ZQ{w:qW}{g:Nat}{a:qv}(h:kY w g [a]):w.cell? (qA g 0)=some a/\w.frozen? (qA g 0)=false:=h 0 qs
theorem catch_idle(p q:Addr)(w:qW):
  CallsD prog 77 #[.pointer (some p),.pointer (some q)] .returning w fun e a w'=>qU e/\a=.returning/\w'=w:=by
 refine callsD_of_wpS func77 rfl fun b cs c=>?_;apply wpS_seq;apply wpS_region;simp[wpOpsS,go_sem,recoverD,c,ntmps77,Exit.thenS];apply wpS_seq;apply wpS_seq;apply wpS_region;simp[wpOpsS,go_sem,Exit.thenS];refine wpS_cond (t:=true) (by simp[Act.eval,Array.replicate]) ?_;simp only[if_true];refine wpS_of_wp (wp_ret ?_);cases b;simp_all [bodyPostS,results,results77,Exit.thenS]
theorem Sr(a pa q p:Nat)(f:List PanicEntry)(w:qW)(x y:qv)(g:kY w a [x])(h:kY w pa [y])(b:a≠pa):
  CallsD prog 77 #[qP a,qP pa] (.panicking ({v:=.iface 128 (.agg #[qJ q,qJ p]),recovered:=false}::f)) w fun e m w'=>
   qU e/\m=.panicking ({v:=.iface 128 (.agg #[qJ q,qJ p]),recovered:=true}::f)/\w'.cell? (qA a 0)=some (qJ q)/\w'.cell? (qA pa 0)=some (qJ p)/\Kept (fun k=>k=a\/k=pa) w w':=by
 have n:=g.lt;have r:=h.lt;obtain⟨i,s⟩:=g 0 qs;obtain⟨j,z⟩:=h 0 qs;simp at i j;refine callsD_of_wpS func77 rfl fun A cs d=>?_;apply wpS_seq;apply wpS_region;simp[wpOpsS,go_sem,recoverD,d,ntmps77,Exit.thenS];apply wpS_seq;apply wpS_seq;apply wpS_region;simp[wpOpsS,go_sem,Exit.thenS];refine wpS_cond (t:=false) (by simp[Act.eval,Array.replicate]) ?_;simp only[Bool.false_eq_true,if_false];refine wpS_of_wp (wp_skip ?_);simp only[Exit.thenS];simp only[Array.replicate_succ,Array.replicate_zero,List.push_toArray,List.append_toArray,List.nil_append,List.cons_append,qy,qz,qw];refine wpS_of_wp ?_;have B:=hide d;have C:∀(w:qW),(Instr.typeAssert (.iface 128 (.agg #[qJ q,qJ p])) 20 128 true).run prog w=.ok (.tuple #[.agg #[qJ q,qJ p],.bool true]) w:=fun _=>qk;have D:∀(x:Bool) (w:qW),(Op.unary .not (.bool x)).run prog w=.ok (.bool (!x)) w:=fun _ _=>rfl;clear d;go_wp2_with fail
 have E:¬w.heap.size=a:=qo;have F:¬w.heap.size=pa:=qo;have G:¬pa=a:=fun e=>b e.symm;go_region
 have l:∀(W:qW) (o:Obj),qK W (W.alloc o).drew:=fun W o=>(qr.alloc o).drew;refine⟨rfl,_,rfl,_,results_none rfl _ _ _,rfl,rfl,?_,?_,?_⟩
 .rw[(l _ _).cell (p:=(qA a 0)) (by simpa using n) (fun c=>c),World.cell?_setCell_other _ _ _ _ (fun c=>b (congrArg Addr.block c).symm)];exact World.cell?_setCell_same _ _ _ i
 .rw[(l _ _).cell (p:=(qA pa 0)) (by simpa using r) (fun c=>c)];refine World.cell?_setCell_same _ _ _ (u:=y) ?_;rw[World.cell?_setCell_other _ _ _ _ (fun c=>b (congrArg Addr.block c))];exact j
 exact((((Kept.refl _ w).setCell (p:=(qA a 0)) (fun _=>.inl rfl) _).setCell (p:=(qA pa 0)) (fun _=>.inr rfl) _).alloc _).drew
theorem Rw{F:Nat}{A:Array qv}{w:qW}{S:qD}{V:qW->Prop}{r:Except Err Unit}(I:Enters F)(t:∀k,S k->k<w.heap.size)
  (u:∀W,qK w W->qC F A W fun e b=>Kept S W b/\V b/\(∀x,r=.ok x->qU e)/\∀q p,r=.error (q,p)->e=iK q p)
  (v:∀W b,V W->Kept (fun k=>w.heap.size<=k) W b->V b):
  qC 53 #[.func (.func F) #[] A] w fun e w'=>Kept S w w'/\V w'/\(∀x,r=.ok x->e=.returned (.tuple #[qJ 0,qJ 0]))/\∀q p:Nat,r=.error (q,p)->e=.returned (.tuple #[qJ q,qJ p]):=by
 have ac:∀(fn:Fn) (first A:Array qv) (w:qW),(Instr.makeFunc fn first A).run prog w=.ok (.func fn first A) w:=fun _ _ _ _=>rfl;have ad:∀(args:Array qv) (w:qW),(callFunc F args).run prog w=.ok (.enter F args) w:=I;have y:∀J K,qK w ((w.alloc J).alloc K):=fun _ _=>(qr.alloc _).alloc _;have z:=kY.new w #[qJ 0] 47;have g:=kY.new (w.alloc (.cells #[qJ 0] 47)) #[qJ 0] 3;have B:=z.alloc qs (.cells #[qJ 0] 3);rw[World.size_alloc] at g;have L:=hide (u _ (y (.cells #[qJ 0] 47) (.cells #[qJ 0] 3)));have C:=hide v;have M:=hide B;have N:=hide g;clear u v z B g;go_enter_defers func53,ntmps53
 go_wp2_with fail
 refine L.o.mono ?_;rintro e W ⟨X,j,D,E⟩;have O:=X.size;simp at O;have l:Kept S w W:=((y _ _).mono (fun _ _ c=>c.elim)).trans X;have P:¬S w.heap.size:=fun c=>Nat.lt_irrefl _ (t _ c);have Q:¬S (w.heap.size+1):=fun c=>by have:=t _ c;omega
 have G:=M.o.kept X qt P;have H:=N.o.kept X qs Q;rcases a:r with⟨q,p⟩|x
 .obtain rfl:=E q p a;refine leaves_cons (f:=77) (args:= #[qP w.heap.size,.pointer (some ⟨w.heap.size+1,0,none⟩)]) qs (by simp[go_sem]) ?_;refine(Sr w.heap.size (w.heap.size+1) q p [] W _ _ G H qo).mono ?_;rintro e R m ⟨rfl,rfl,c1,c2,d⟩;have n:Kept S w m:=l.fresh d (fun i T c=>qo);have s:V m:=C.o _ _ j (d.mono (fun k _ c=>qo));simp[Leaves,settle,results,results53,go_sem,c1,c2];exact⟨n,s,fun x h=>by(rw[a] at h;cases h),fun U Y h=>by rw[a] at h;cases h;exact⟨rfl,rfl⟩⟩
 obtain rfl:=D x a;obtain⟨Z,A2⟩:=G.ZQ;obtain⟨B1,B2⟩:=H.ZQ;have HR:=hide a;have aa:=hide j;have ab:=hide l;clear a D E j l;go_wp2;refine leaves_cons (f:=77) (args:= #[qP w.heap.size,.pointer (some ⟨w.heap.size+1,0,none⟩)]) qs (by simp[go_sem]) ?_;refine(catch_idle ⟨w.heap.size,0,none⟩ ⟨w.heap.size+1,0,none⟩ _).mono ?_;rintro e R m ⟨rfl,rfl,rfl⟩;have d:Kept (fun k=>w.heap.size<=k) W ((W.setCell (qA w.heap.size 0) (qJ 0)).setCell ⟨w.heap.size+1,0,none⟩ (qJ 0)):=((Kept.refl _ W).setCell (p:=(qA w.heap.size 0)) (fun _=>qR) _).setCell (p:=⟨w.heap.size+1,0,none⟩) (fun _=>Nat.le_succ _) _;have n:=ab.o.fresh d (fun i T c=>absurd c qo);have s:=C.o _ _ aa.o d;simp[Leaves,settle,results,results53,go_sem,Z,B1];exact⟨n,s,fun U Y h=>by(rw[HR.o] at h;cases h)⟩
structure RS where
 at_:Nat
 end_:Nat
 bad:Option Nat
def gX:Option Nat->Int
 | none=> -1
 | some p=>(p:Int)
def dL(Z:RS)(p:Nat):RS:=match Z.bad with
 | none=>{Z with bad:=some p}
 | some _=>Z
def dO(s:qS)(Z:RS):Nat×RS:=match Z.bad with
 | some _=>(0,Z)
 | none=>if Z.at_<Z.end_ then(bt s Z.at_,{Z with at_:=Z.at_+1}) else(0,{Z with bad:=some Z.end_})
def gY(s:qS)(b:Nat)(Z:RS):RS:=if(dO s Z).1=b then(dO s Z).2 else dL (dO s Z).2 Z.at_
structure eu(w:World)(x:Nat)(s:qS)(Z:RS)(Y:Nat):Prop where
 blk:kY w x [.string s,qJ Z.at_,qJ Z.end_,qJ (gX Z.bad),qP Y]
 le:Z.at_<=Z.end_
 big:Z.end_<=s.size
 sz:s.size<=5000
 bd:∀p,Z.bad=some p->p<=5000
section
variable {S:qD} {w w':qW} {x Y:Nat} {s:qS} {Z:RS}
theorem eu.lt(h:eu w x s Z Y):x<w.heap.size:=h.blk.lt
theorem eu.kept(h:eu w x s Z Y)(X:Kept S w w')(a:¬S x):eu w' x s Z Y:=⟨h.blk.kept X h.lt a,h.le,h.big,h.sz,h.bd⟩
theorem eu.alloc(h:eu w x s Z Y)(o:Obj):eu (w.alloc o) x s Z Y:=h.kept (S:=fun _=>False) (qr.alloc o) (fun c=>c)
theorem eu.drew(h:eu w x s Z Y):eu w.drew x s Z Y:=h.kept (S:=fun _=>False) (qr.drew) (fun c=>c)
theorem eu.drewN(h:eu w x s Z Y)(k:Nat):eu (w.drewN k) x s Z Y:=h.kept (S:=fun _=>False) (qr.drewN k) (fun c=>c)
theorem eu.other(h:eu w x s Z Y){g o:Nat}(a:g≠x)(u:qv):eu (w.setCell (qA g o) u) x s Z Y:=⟨h.blk.dA a u,h.le,h.big,h.sz,h.bd⟩
theorem aat(p:Nat):(dL Z p).at_=Z.at_:=by unfold dL;split<;>rfl
theorem tZ(p:Nat):(dL Z p).end_=Z.end_:=by unfold dL;split<;>rfl
theorem jO(p:Nat):(dL Z p).bad≠none:=by
 obtain⟨a,e,bad⟩:=Z;cases bad<;>simp[dL]
theorem fO{o:Option Nat}(h:o≠none):0<=gX o:=by
 cases o with
 | none=>exact absurd rfl h
 | some p=>exact Int.natCast_nonneg p
theorem vX:(dO s Z).2.end_=Z.end_:=by unfold dO;split<;>(try split)<;>rfl
theorem gH(h:eu w x s Z Y)(p:Nat)(hp:p<=5000):qC 59 #[qP x,qJ p] w fun e w'=>qU e/\eu w' x s (dL Z p) Y/\Kept (only x) w w':=by
 obtain⟨⟨d,f⟩,⟨g,i⟩,⟨j,k⟩,⟨c,l⟩,⟨m,n⟩⟩:=h.blk.five;have b:=hide h;have hx:=h.lt;obtain⟨a,e,bad⟩:=Z;cases bad with
 | none=>simp only[gX] at c;clear h;go_enter func59,ntmps59;go_wp2;go_end0;have hb:=b.o.blk.set 3 (qJ p);exact⟨rfl,⟨hb,b.o.le,b.o.big,b.o.sz,fun q hq=>by cases hq;exact hp⟩,qr.own _⟩
 | some q=>simp only[gX] at c;have hq:¬(q:Int)<0:=qo;clear h;go_enter func59,ntmps59;go_wp2;go_end0;exact⟨rfl,b.o,Kept.refl _ _⟩
theorem o5(h:eu w x s Z Y):qC 58 #[qP x] w fun e w'=>e=.returned (qJ ((dO s Z).1:Nat))/\eu w' x s (dO s Z).2 Y/\Kept (only x) w w':=by
 obtain⟨⟨r,t⟩,⟨i,u⟩,⟨j,v⟩,⟨d,y⟩,⟨z,A⟩⟩:=h.blk.five;have b:=hide h;have hx:=h.lt;have k:=h.le;have f:=h.big;have l:=h.sz;obtain⟨a,e,bad⟩:=Z;simp only at i j k f;cases bad with
 | some q=>simp only[gX] at d;have hq:(0:Int)<=(q:Int):=qo;clear h;go_enter func58,ntmps58;go_wp2;go_ret;exact⟨rfl,b.o,Kept.refl _ _⟩
 | none=>
  simp only[gX] at d;clear h;by_cases g:a<e
  .have m:¬e<=a:=qo;have c:qh (dO s ⟨a,e,none⟩=(bt s a,⟨a+1,e,none⟩)):=by show _=_;simp[dO,g]
   have n:a<s.size:=qo;have B:(a:Int)<(s.size:Int):=qo;go_enter func58,ntmps58;go_wp2;go_quiet (fail)
   go_wp2;go_quiet (fail)
   go_wp2;go_ret;rw[c.o];have p:wrap64 ((s[a].toNat:Nat):Int)=((s[a].toNat:Nat):Int):=by have:=UInt8.toNat_lt s[a];unfold wrap64;omega
   refine⟨?_,⟨((b.o.drewN _).blk.set 1 (qJ ((a:Int)+1))).drewN _,by simp only;omega,f,l,fun q hq=>by cases hq⟩,((qr.drewN _).own _).drewN _⟩;show Ending.returned (Value.int .i64 (wrap64 ((s[a].toNat:Nat):Int)))=_;rw[p,zH n]
  have m:e<=a:=qo;have c:qh (dO s ⟨a,e,none⟩=(0,⟨a,e,some e⟩)):=by show _=_;simp[dO,g]
  go_enter func58,ntmps58;go_wp2;go_quiet (fail)
  go_wp2_with fail
  refine(gH (b.o.drewN _) e qo).mono ?_;rintro C D ⟨rfl,hI,X⟩;go_wp2;go_ret;rw[c.o];exact⟨rfl,hI,(qr.drewN _).trans X⟩
theorem fP(h:eu w x s Z Y):Z.at_<=5000:=Nat.le_trans h.le (Nat.le_trans h.big h.sz)
theorem nP(h:eu w x s Z Y)(b:Nat):qC 57 #[qP x,qJ b] w fun e w'=>qU e/\eu w' x s (gY s b Z) Y/\Kept (only x) w w':=by
 obtain⟨⟨c,d⟩,⟨t,u⟩,⟨f,g⟩,⟨i,j⟩,⟨k,l⟩⟩:=h.blk.five;have m:=hide h;have hx:=h.lt;have n:=fP h;clear h c d f g i j k l;go_enter func57,ntmps57;go_wp2_with fail
 refine(o5 m.o).mono ?_;rintro e v ⟨rfl,hI,X⟩;by_cases hc:(dO s Z).1=b
 .have p:(((dO s Z).1:Int) !=(b:Int))=false:=by rw[hc];simp
  have a:qh (gY s b Z=(dO s Z).2):=by show _=_;unfold gY;rw[if_pos hc]
  clear hc;go_wp2;go_end0;rw[a.o];exact⟨rfl,hI,X⟩
 have p:(((dO s Z).1:Int) !=(b:Int))=true:=by simp;omega
 have a:qh (gY s b Z=dL (dO s Z).2 Z.at_):=by show _=_;unfold gY;rw[if_neg hc]
 clear hc;go_wp2_with fail
 refine(gH hI Z.at_ n).mono ?_;rintro e y ⟨rfl,q,r⟩;go_wp2;go_end0;rw[a.o];exact⟨rfl,q,X.trans r⟩
end
def vv(s:qS):Nat->Nat->Nat->Nat->RS->Nat×RS
 | 0,_,n,_,Z=>(n,Z)
 | k+1,i,n,worth,Z=>
  let st2:=if i=4/\15<(dO s Z).1 then dL (dO s Z).2 Z.at_ else(dO s Z).2
  if(dO s Z).1<128\/st2.bad≠none then(n+(dO s Z).1%128*worth,st2)
  else vv s k (i+1) (n+(dO s Z).1%128*worth) (worth*128) st2
def uS(s:qS)(Z:RS):Nat×RS:=vv s 5 0 0 1 Z
theorem aej{n b a N':Nat}(d:N'=n+b%128*a)(e:n<=268435456)(hw:a<=268435456):wrap64 ((n:Int)+wrap64 ((b:Int)%128*(a:Int)))=(N':Int)/\N'<=34359738368:=by
 have f:b%128*a<=127*268435456:=Nat.mul_le_mul qo hw;have c:(b:Int)%128*(a:Int)=((b%128*a:Nat):Int):=qs;rw[c];generalize b%128*a=P at*;unfold wrap64;omega
theorem afA{k:Nat}(h:k<5):128 ^ k<=268435456:=by
 exact acX
theorem YZ{k n b a N':Nat}(c:N'=n+b%128*a)(hw:a=128 ^ k)(d:n<a):a*128=128 ^ (k+1)/\N'<a*128:=by
 have e:b%128*a<=127*a:=Nat.mul_le_mul qo qR;refine⟨by rw[hw,Nat.pow_succ],?_⟩;generalize b%128*a=P at*;omega
section
variable {S:qD} {w w':qW} {x Y:Nat} {s:qS} {Z:RS}
theorem Hw:(dO s Z).1<256:=by
 unfold dO;split
 .exact Nat.zero_lt_succ _
 split
 .exact xg _ _
 exact Nat.zero_lt_succ _
theorem ou(h:eu w x s Z Y):qC 92 #[qP x] w fun e w'=>e=.returned (.agg #[qJ ((uS s Z).1:Nat),qJ Z.at_])/\eu w' x s (uS s Z).2 Y/\Kept (only x) w w':=by
 obtain⟨⟨I0,J0⟩,⟨M,N⟩,⟨I2,J2⟩,⟨l,A⟩,⟨I4,J4⟩⟩:=h.blk.five;have HI:=hide h;have hx:=h.lt;have aj:=fP h;clear h I0 J0 I2 J2 l A I4 J4;have O:qh (uS s Z=vv s 5 0 0 1 Z):=rfl;have ab:∀o1 o2,Kept (only x) w ((w.alloc o1).alloc o2):=fun _ _=>(qr.alloc _).alloc _;go_enter func92,ntmps92;go_wp2;go_loopw [4,5] (fun q p wr=>∃(k n a:Nat) (J:RS),k<=5/\q=qJ a/\p=qJ k/\a=128 ^ k/\n<a/\eu wr x s J Y/\OB wr x w.heap.size [qJ 0,qJ 0]/\OB wr x (w.heap.size+1) [qJ n,qJ Z.at_]/\Kept (only x) w wr/\uS s Z=vv s (5 - k) k n a J) (fun _ p _=>5 - (intOf p).toNat)
 case atStart=>exact⟨0,0,1,Z,qo,rfl,rfl,rfl,qo,(HI.o.alloc _).alloc _,(OB.new (c:= #[qJ 0,qJ 0]) hx rfl).alloc _,OB.new (w:=w.alloc (.cells #[qJ 0,qJ 0] 37)) (c:= #[qJ 0,qJ Z.at_]) qt qs,ab _ _,O.o⟩
 obtain⟨k,n,a,J,X,rfl,rfl,m,ac,hI,f,r,B,Q⟩:=hrel;have t:=hide Q;clear Q O;have ad:=fP hI;obtain⟨⟨R0,C⟩,⟨R1,D⟩⟩:=f.blk.two;obtain⟨⟨E,F⟩,⟨G,H⟩⟩:=r.blk.two;by_cases ae:k<5
 .have hws:a<=268435456:=by rw[m];exact afA ae
  have af:n<=268435456:=qo;have ak:(k:Int)<5:=qo;have R:qh (vv s (5 - k) k n a J=vv s (4 - k+1) k n a J):=by show _=_;rw[show 5 - k=4 - k+1 by omega]
  obtain⟨-,⟨M,N⟩,-,-,-⟩:=hI.blk.five;have am:=hI.lt;clear R0 C R1 D E F G H;go_wp2_with fail
  refine(o5 hI).mono ?_;rintro e w1 ⟨rfl,hI1,u⟩;have oR1:=f.call u;have oL1:=r.call u;have GH:=B.trans u;have ag:=Hw (s:=s) (Z:=J);have g:qh (uS s Z=(let I:=if k=4/\15<(dO s J).1 then dL (dO s J).2 J.at_ else(dO s J).2
   if(dO s J).1<128\/I.bad≠none then(n+(dO s J).1%128*a,I) else vv s (4 - k) (k+1) (n+(dO s J).1%128*a) (a*128) I)):=t.o.trans (R.o.trans rfl)
  clear t R M N f r B u hI;generalize dO s J=os at*;obtain⟨b,st1⟩:=os;simp only at hI1 ag g;obtain⟨N',y⟩:=qE (n+b%128*a);obtain⟨hw,ah⟩:=aej y af hws;rw[<-y] at g;have T:=YZ y m ac;have i:=hide T;clear y ah T;have an:(a:Int)<=268435456:=qo;clear m;have lL:=oL1.lt;have lR:=oR1.lt;obtain⟨⟨R0,C⟩,⟨R1,D⟩⟩:=oR1.blk.two;obtain⟨⟨E,F⟩,⟨G,H⟩⟩:=oL1.blk.two;obtain⟨-,-,-,⟨l,A⟩,-⟩:=hI1.blk.five;have ao:¬w.heap.size+1=x:=oL1.ne;have ap:¬w.heap.size=x:=oR1.ne;by_cases hf:k=4/\15<b
  .obtain⟨hf4,ahu⟩:=hf;subst hf4;have aq:(15:Int)<(b:Int):=qo;have HN:qh (uS s Z=(N',dL st1 J.at_)):=by
    show _=_;rw[g.o];simp only[ahu,and_self,if_true];rw[if_pos (.inr (jO _))]
   clear g i;go_wp2_with fail
   refine(gH hI1 J.at_ ad).mono ?_;rintro e w2 ⟨rfl,hI2,K⟩;have U:=oL1.call K;have V:=oR1.call K;have ar:=U.lt;have au:=V.lt;obtain⟨⟨R0',av⟩,⟨R1',aw⟩⟩:=V.blk.two;obtain⟨⟨ax,ay⟩,⟨az,aA⟩⟩:=U.blk.two;have aB:=fO (jO (Z:=st1) J.at_);obtain⟨-,-,-,⟨aC,aD⟩,-⟩:=hI2.blk.five;clear R0 C R1 D E F G H l A;have JJ:=GH.trans K;generalize gX (dL st1 J.at_).bad=z at*;by_cases hb:b<128
   .exact agy
   have W:¬(b:Int)<128:=qo;exact agy
  have j:¬(k=4/\15<b):=hf;have d:qh (uS s Z=if b<128\/st1.bad≠none then(N',st1) else vv s (4 - k) (k+1) N' (a*128) st1):=by
   show _=_;rw[g.o];simp only[if_neg j]
  clear g;by_cases hb:b<128
  .have HN:qh (uS s Z=(N',st1)):=by show _=_;rw[d.o,if_pos (.inl hb)]
   have W:(b:Int)<128:=qo;by_cases h4:k=4
   .subst h4;have aE:¬(15:Int)<(b:Int):=fun c=>hf ⟨rfl,qo⟩;clear d i hf j;exact afe
   have aa:¬(k:Int)=4:=qo;clear d i hf j;exact afe
  have W:¬(b:Int)<128:=qo;by_cases hbad:st1.bad=none
  .have L:gX st1.bad= -1:=by rw[hbad];rfl
   have HN:qh (uS s Z=vv s (5 - (k+1)) (k+1) N' (a*128) st1):=by
    show _=_;rw[d.o,if_neg (by simp[hb,hbad]),show 5 - (k+1)=4 - k by omega]
   rw[L] at l;by_cases h4:k=4
   .exact(hf ⟨h4,qo⟩).elim
   have aa:¬(k:Int)=4:=qo;clear d hf j hbad L;go_wp2;go_roundw
   case rel=>exact⟨_,N',a*128,st1,qo,by go_num,by go_num,i.o.1,i.o.2,hI1.other oL1.ne _,oR1.other qo _,oL1.set 0 (qJ N'),GH.new qo _,HN.o⟩
   simp[intOf];omega
  have HN:qh (uS s Z=(N',st1)):=by show _=_;rw[d.o,if_pos (.inr hbad)]
  have L:=fO hbad;generalize gX st1.bad=z at*;by_cases h4:k=4
  .exact(hf ⟨h4,qo⟩).elim
  have aa:¬(k:Int)=4:=qo;clear d i hf j hbad;exact afe
 have ai:k=5:=qo;subst ai;have HN:qh (uS s Z=(n,J)):=by show _=_;rw[t.o];rfl
 have lL:=r.lt;have lR:=f.lt;clear t m;go_wp2;refine bodyPost_ret (v:=.agg #[qJ n,qJ Z.at_]) ?_ rfl ⟨by rw[HN.o],by rw[HN.o];exact(hI.other f.ne _).other f.ne _,(B.new qo _).new qo _⟩;simp[results,results92,go_sem,R0,R1]
end
def dU(s:qS)(most:Nat)(Z:RS):Nat×RS:=
 let st2:=if most<(uS s Z).1 then dL (uS s Z).2 Z.at_ else(uS s Z).2
 (if st2.bad≠none then 0 else(uS s Z).1,st2)
def eP(s:qS)(Z:RS):(Nat×Nat)×RS:=
 (((uS s Z).2.end_,(uS s Z).2.at_+(uS s Z).1),if(uS s Z).2.at_+(uS s Z).1<(uS s Z).2.end_ then {(uS s Z).2 with end_:=(uS s Z).2.at_+(uS s Z).1} else(uS s Z).2)
def gV(outer end_:Nat)(Z:RS):RS:={(if Z.at_=end_ then Z else dL Z Z.at_) with end_:=outer}
def jq(s:qS)(Z:RS):Nat×RS:=
 if(dO s Z).1=127 then(105,(dO s Z).2) else if(dO s Z).1=126 then(108,(dO s Z).2) else(105,dL (dO s Z).2 Z.at_)
section
variable {S:qD} {w w':qW} {x Y:Nat} {s:qS} {Z:RS}
theorem abm:∀(k i n a:Nat) (Z:RS),a<=34359738368->n<=34359738368*128->i+k=5->a=128 ^ i->n<128 ^ i->(vv s k i n a Z).1<34359738368:=by
 intro k;induction k with
 | zero=>intro i n a Z _ _ c hw d;simp only[Nat.add_zero] at c;subst c;simpa [vv] using d
 | succ k e=>
  intro i n a Z U L c hw d;have hx:=YZ (k:=i) (b:=(dO s Z).1) (N':=n+(dO s Z).1%128*a) rfl hw qo;have hp:128 ^ (i+1)<=34359738368:=by
   have:i=0\/i=1\/i=2\/i=3\/i=4:=qo;rcases this with rfl | rfl | rfl | rfl | rfl<;>decide
  unfold vv;simp only;generalize (if i=4/\15<(dO s Z).1 then dL (dO s Z).2 Z.at_ else(dO s Z).2)=f;split
  .exact Nat.lt_of_lt_of_le hx.2 qo
  exact e _ _ _ _ qo qo qo hx.1 (by rw[<-hx.1];exact hx.2)
theorem Qo:(uS s Z).1<34359738368:=abm 5 0 0 1 Z qx qx rfl rfl qx
theorem mQ(h:eu w x s Z Y)(most:Nat):qC 93 #[qP x,qJ most] w fun e w'=>e=.returned (qJ ((dU s most Z).1:Nat))/\eu w' x s (dU s most Z).2 Y/\Kept (only x) w w':=by
 have c:=fP h;have hx:=h.lt;go_enter func93,ntmps93;go_wp2_with fail
 refine(ou h).mono ?_;rintro e i ⟨rfl,hI,X⟩;have a:qh (dU s most Z=(if(if most<(uS s Z).1 then dL (uS s Z).2 Z.at_ else(uS s Z).2).bad≠none then 0 else(uS s Z).1,if most<(uS s Z).1 then dL (uS s Z).2 Z.at_ else(uS s Z).2)):=rfl;have d:=Qo (s:=s) (Z:=Z);generalize uS s Z=us at*;obtain⟨n,st1⟩:=us;simp only at hI a d ⊢;have j:=hI.lt;by_cases hc:most<n
 .have f:(most:Int)<(n:Int):=qo;have b:=jO (Z:=st1) Z.at_;have vK:qh (dU s most Z=(0,dL st1 Z.at_)):=by show _=_;rw[a.o];simp[hc,b]
  clear a;go_wp2_with fail
  refine(gH (hI.alloc _) Z.at_ c).mono ?_;rintro e k ⟨rfl,hI2,hk2⟩;have g:=fO b;exact afc
 have f:¬(most:Int)<(n:Int):=qo;by_cases hb:st1.bad=none
 .have vK:qh (dU s most Z=(n,st1)):=by show _=_;rw[a.o];simp[hc,hb]
  obtain⟨-,-,-,⟨I3,J3⟩,-⟩:=hI.blk.five;rw[show gX st1.bad= -1 by rw[hb];rfl] at I3;clear a hb;go_wp2;go_ret;rw[vK.o];exact⟨rfl,hI.alloc _,X.alloc _⟩
 have vK:qh (dU s most Z=(0,st1)):=by show _=_;rw[a.o];simp[hc,hb]
 obtain⟨-,-,-,⟨I3,J3⟩,-⟩:=hI.blk.five;have g:=fO hb;generalize gX st1.bad=z at*;clear a hb;go_wp2;go_ret;rw[vK.o];exact⟨rfl,hI.alloc _,X.alloc _⟩
theorem ze(h:eu w x s Z Y):qC 60 #[qP x] w fun e w'=>e=.returned (.tuple #[qJ ((eP s Z).1.1:Nat),qJ ((eP s Z).1.2:Nat)])/\eu w' x s (eP s Z).2 Y/\Kept (only x) w w':=by
 have hx:=h.lt;go_enter func60,ntmps60;go_wp2_with fail
 refine(ou h).mono ?_;rintro e p ⟨rfl,hI,X⟩;have b:qh (eP s Z=(((uS s Z).2.end_,(uS s Z).2.at_+(uS s Z).1),if(uS s Z).2.at_+(uS s Z).1<(uS s Z).2.end_ then {(uS s Z).2 with end_:=(uS s Z).2.at_+(uS s Z).1} else(uS s Z).2)):=rfl;have f:=Qo (s:=s) (Z:=Z);generalize uS s Z=us at*;obtain⟨n,⟨a,e,bad⟩⟩:=us;have c:=hide hI;obtain⟨-,⟨g,q⟩,⟨i,r⟩,-,-⟩:=hI.blk.five;have j:=hI.le;have k:=hI.big;have l:=hI.sz;have t:=hI.lt;simp only at b f g i j k;clear hI;by_cases hc:a+n<e
 .have m:(a:Int)+(n:Int)<(e:Int):=qo;have d:qh (eP s Z=((e,a+n),⟨a,a+n,bad⟩)):=by show _=_;rw[b.o];simp[hc]
  clear b;go_wp2;go_quiet (fail)
  go_wp2;go_ret2
  rw[d.o];refine⟨qs,⟨(((c.o.alloc (.cells #[qJ n,qJ Z.at_] 37)).drewN nq).blk.set 2 (qJ ((a:Int)+(n:Int)))),qs,by simp only;omega,l,c.o.bd⟩,((X.alloc _).drewN _).own _⟩
 have m:¬(a:Int)+(n:Int)<(e:Int):=qo;have d:qh (eP s Z=((e,a+n),⟨a,e,bad⟩)):=by show _=_;rw[b.o];simp[hc]
 clear b;go_wp2;go_quiet (fail)
 go_wp2;go_ret2
 rw[d.o];exact⟨qs,(c.o.alloc _).drewN _,(X.alloc _).drewN _⟩
theorem vW(h:eu w x s Z Y)(a end_:Nat)(U:Z.at_<=a)(L:a<=s.size):qC 62 #[qP x,qJ a,qJ end_] w fun e w'=>qU e/\eu w' x s (gV a end_ Z) Y/\Kept (only x) w w':=by
 have g:=fP h;have hx:=h.lt;have c:=hide h;have f:=h.sz;obtain⟨-,⟨k,l⟩,⟨m,n⟩,-,-⟩:=h.blk.five;clear h;by_cases hc:Z.at_=end_
 .have i:((Z.at_:Int) !=(end_:Int))=false:=by simp[hc]
  have d:qh (gV a end_ Z={Z with end_:=a}):=by show _=_;simp[gV,hc]
  clear hc;go_enter func62,ntmps62;go_wp2;go_end0;rw[d.o];exact⟨rfl,⟨c.o.blk.set 2 (qJ a),U,L,f,c.o.bd⟩,qr.own _⟩
 have i:((Z.at_:Int) !=(end_:Int))=true:=by simp;omega
 have d:qh (gV a end_ Z={dL Z Z.at_ with end_:=a}):=by show _=_;simp[gV,hc]
 clear hc;go_enter func62,ntmps62;go_wp2_with fail
 refine(gH c.o Z.at_ g).mono ?_;rintro e p ⟨rfl,b,j⟩;have q:=b.lt;obtain⟨-,-,⟨r,t⟩,-,-⟩:=b.blk.five;go_wp2;go_end0;rw[d.o];exact⟨rfl,⟨b.blk.set 2 (qJ a),by rw[aat];exact U,L,f,b.bd⟩,j.own _⟩
theorem A9(h:eu w x s Z Y):qC 132 #[qP x] w fun e w'=>e=.returned (qB ((jq s Z).1:Nat))/\eu w' x s (jq s Z).2 Y/\Kept (only x) w w':=by
 have d:=fP h;have hx:=h.lt;obtain⟨-,⟨k,l⟩,-,-,-⟩:=h.blk.five;go_enter func132,ntmps132;go_wp2_with fail
 refine(o5 h).mono ?_;rintro e m ⟨rfl,hI,X⟩;have a:qh (jq s Z=if(dO s Z).1=127 then(105,(dO s Z).2) else if(dO s Z).1=126 then(108,(dO s Z).2) else(105,dL (dO s Z).2 Z.at_)):=rfl;generalize dO s Z=os at*;obtain⟨b,st1⟩:=os;simp only at hI a ⊢;by_cases U:b=127
 .have f:((b:Int)==127)=true:=by simp;omega
  have c:qh (jq s Z=(105,st1)):=by show _=_;rw[a.o,if_pos U]
  clear a U;go_wp2;go_ret;rw[c.o];exact⟨rfl,hI,X⟩
 have f:((b:Int)==127)=false:=by simp;omega
 by_cases L:b=126
 .have g:((b:Int)==126)=true:=by simp;omega
  have c:qh (jq s Z=(108,st1)):=by show _=_;rw[a.o,if_neg U,if_pos L]
  clear a U L;go_wp2;go_ret;rw[c.o];exact⟨rfl,hI,X⟩
 have g:((b:Int)==126)=false:=by simp;omega
 have c:qh (jq s Z=(105,dL st1 Z.at_)):=by show _=_;rw[a.o,if_neg U,if_neg L]
 clear a U L;go_wp2_with fail
 refine(gH hI Z.at_ d).mono ?_;rintro e n ⟨rfl,i,j⟩;go_wp2;go_ret;rw[c.o];exact⟨rfl,i,X.trans j⟩
end
def kI(s:qS):Nat->qS->RS->qS×RS
 | 0,M,Z=>(M,Z)
 | k+1,M,Z=>if Z.bad≠none then(M,Z) else kI s k (M++strOfNums [((jq s Z).1:Int)]) (jq s Z).2
def nU(s:qS)(most:Nat)(Z:RS):qS×RS:=kI s (dU s most Z).1 ⟨#[]⟩ (dU s most Z).2
def fH(s:qS)(least most:Nat)(Z:RS):qS×RS:=
 let st2:=if(uS s Z).1<least\/most<(uS s Z).1 then dL (uS s Z).2 Z.at_ else(uS s Z).2
 if st2.bad≠none then(⟨#[]⟩,st2)
 else if st2.end_<st2.at_+(uS s Z).1 then(⟨#[]⟩,dL st2 st2.end_)
 else(s.extract st2.at_ (st2.at_+(uS s Z).1),{st2 with at_:=st2.at_+(uS s Z).1})
section
variable {S:qD} {w w':qW} {x Y:Nat} {s:qS} {Z:RS}
theorem qX(most:Nat):(dU s most Z).1<=most:=by
 unfold dU;simp only;by_cases h:most<(uS s Z).1
 .simp[h,jO]
 simp only[if_neg h];split
 .exact qZ
 omega
theorem Ar(W:qW)(z:Int):(convert 86 9 (.slice (some (qA W.heap.size 0)) 1 1)).run prog (W.alloc (.cells #[qB z] 5))=.ok (.string (strOfNums [z])) (W.alloc (.cells #[qB z] 5)):=by
 refine run_convert_bytes_arg (P:=prog) (W.alloc (.cells #[qB z] 5)) 86 5 underlying86 underlying5 W.heap.size 0 1 1 [z] rfl (fun i a=>?_) 9 underlying9;obtain rfl:i=0:=qo;simp
theorem Jo(h:eu w x s Z Y)(most:Nat)(B:most<=50):qC 94 #[qP x,qJ most] w fun e w'=>e=.returned (.string (nU s most Z).1)/\eu w' x s (nU s most Z).2 Y/\Kept (only x) w w':=by
 have C:=Ar;have hx:=h.lt;go_enter func94,ntmps94;go_wp2_with fail
 refine(mQ h most).mono ?_;rintro e D ⟨rfl,hI,X⟩;have m:=qX (s:=s) (Z:=Z) most;have d:qh (nU s most Z=kI s (dU s most Z).1 ⟨#[]⟩ (dU s most Z).2):=rfl;generalize dU s most Z=r at*;obtain⟨n,st1⟩:=r;simp only at hI m d ⊢;go_wp2;go_loopw [5,7] (fun q p wr=>∃(k:Nat) (M:qS) (J:RS),k<=n/\q=.string M/\p=qJ k/\M.size=k/\eu wr x s J Y/\Kept (only x) w wr/\nU s most Z=kI s (n - k) M J) (fun _ p _=>n - (intOf p).toNat)
 case atStart=>exact⟨0,⟨#[]⟩,st1,qZ,rfl,rfl,rfl,hI,X,d.o⟩
 obtain⟨k,M,J,E,rfl,rfl,f,c,g,j⟩:=hrel;have a:=hide j;clear j d;have F:=c.lt;obtain⟨-,-,-,⟨t,G⟩,-⟩:=c.blk.five;by_cases H:k<n
 .have u:(k:Int)<(n:Int):=qo;by_cases hb:J.bad=none
  .rw[show gX J.bad= -1 by rw[hb];rfl] at t;have b:qh (nU s most Z=kI s (n - (k+1)) (M++strOfNums [((jq s J).1:Int)]) (jq s J).2):=by
    show _=_;rw[a.o,show n - k=n - (k+1)+1 by omega];simp[kI,hb]
   clear a hb;go_wp2_with fail
   refine(A9 c).mono ?_;rintro e I ⟨rfl,l,v⟩;generalize jq s J=ks at*;obtain⟨i,y⟩:=ks;simp only at l b ⊢;have K:¬9223372036854775807<M.size+(strOfNums [(i:Int)]).size:=by rw[strOfNums_size,f];simp;omega
   have A:qh ((M++strOfNums [(i:Int)]).size=k+1):=by show _=_;rw[ByteArray.size_append,strOfNums_size,f];rfl
   clear f;go_wp2;go_roundw
   case rel=>exact⟨k+1,M++strOfNums [(i:Int)],y,qo,rfl,by go_num,A.o,l.alloc _,(g.trans v).alloc _,b.o⟩
   simp[intOf];omega
  have L:=fO hb;have b:qh (nU s most Z=(M,J)):=by
   show _=_;rw[a.o,show n - k=n - (k+1)+1 by omega];simp[kI,hb]
  generalize gX J.bad=z at*;have N:¬z<0:=qo;clear a hb;go_wp2;go_ret;rw[b.o];exact⟨rfl,c,g⟩
 have b:qh (nU s most Z=(M,J)):=by show _=_;rw[a.o,show n - k=0 by omega];rfl
 have u:¬(k:Int)<(n:Int):=qo;clear a;go_wp2;go_ret;rw[b.o];exact⟨rfl,c,g⟩
theorem ER(h:eu w x s Z Y)(b most:Nat)(B:most<=5000):qC 101 #[qP x,qJ b,qJ most] w fun e w'=>e=.returned (.string (fH s b most Z).1)/\eu w' x s (fH s b most Z).2 Y/\Kept (only x) w w':=by
 have g:=fP h;have hx:=h.lt;go_enter func101,ntmps101;go_wp2_with fail
 refine(ou h).mono ?_;rintro e l ⟨rfl,hI,X⟩;have d:qh (fH s b most Z=(let c:=if(uS s Z).1<b\/most<(uS s Z).1 then dL (uS s Z).2 Z.at_ else(uS s Z).2
  if c.bad≠none then(⟨#[]⟩,c) else if c.end_<c.at_+(uS s Z).1 then(⟨#[]⟩,dL c c.end_) else(s.extract c.at_ (c.at_+(uS s Z).1),{c with at_:=c.at_+(uS s Z).1}))):=rfl
 have m:=Qo (s:=s) (Z:=Z);generalize uS s Z=us at*;obtain⟨n,st1⟩:=us;simp only at hI d m ⊢;have C:=hI.lt;by_cases hc:n<b\/most<n
 .have hbd:=jO (Z:=st1) Z.at_;have vK:qh (fH s b most Z=(⟨#[]⟩,dL st1 Z.at_)):=by show _=_;rw[d.o];simp[hc,hbd]
  clear d;have p:=fO hbd;by_cases U:n<b
  .have i:(n:Int)<(b:Int):=qo;clear hc;go_wp2_with fail
   refine(gH (hI.alloc _) Z.at_ g).mono ?_;rintro e j ⟨rfl,hI2,hk2⟩;exact afc
  have i:¬(n:Int)<(b:Int):=qo;have r:(most:Int)<(n:Int):=qo;clear hc;go_wp2_with fail
  refine(gH (hI.alloc _) Z.at_ g).mono ?_;rintro e j ⟨rfl,hI2,hk2⟩;exact afc
 have i:¬(n:Int)<(b:Int):=qo;have r:¬(most:Int)<(n:Int):=qo;have f:=hide hI;have t:=hI.le;have k:=hI.big;have u:=hI.sz;obtain⟨a,e,bad⟩:=st1;obtain⟨⟨D,E⟩,⟨v,F⟩,⟨y,G⟩,⟨I3,J3⟩,-⟩:=hI.blk.five;simp only at t k v y I3;clear hI;cases bad with
 | some q=>
  have vK:qh (fH s b most Z=(⟨#[]⟩,⟨a,e,some q⟩)):=by show _=_;rw[d.o];simp[hc]
  have p:(0:Int)<=gX (some q):=fO qs;generalize gX (some q)=z at*;clear d hc;go_wp2;go_ret;rw[vK.o];exact⟨rfl,f.o.alloc _,X.alloc _⟩
 | none=>
  simp only[gX] at I3;by_cases h3:e<a+n
  .have A:(e:Int)<(a:Int)+(n:Int):=qo;have vK:qh (fH s b most Z=(⟨#[]⟩,dL ⟨a,e,none⟩ e)):=by show _=_;rw[d.o];simp[hc,h3]
   clear d hc;go_wp2;go_quiet (fail)
   go_wp2_with fail
   refine(gH ((f.o.alloc _).drewN _) e qo).mono ?_;rintro e j ⟨rfl,hI2,hk2⟩;go_wp2;go_ret;rw[vK.o];exact⟨rfl,hI2,((X.alloc _).drewN _).trans hk2⟩
  have A:¬(e:Int)<(a:Int)+(n:Int):=qo;have vK:qh (fH s b most Z=(s.extract a (a+n),⟨a+n,e,none⟩)):=by show _=_;rw[d.o];simp[hc,h3]
  have H:¬l.heap.size=x:=qo;clear d hc;go_wp2;go_quiet (fail)
  go_wp2_with fail
  go_region
  all_goals
   go_wp2;go_quiet (fail)
   go_wp2;go_ret;rw[vK.o];exact⟨rfl,⟨(((f.o.alloc _).drewN _).blk.set 1 (qJ ((a:Int)+(n:Int)))).drewN _,by simp only;omega,k,u,fun q hq=>by cases hq⟩,(((X.alloc _).drewN _).own _).drewN _⟩
end
structure zA where
 has:Bool
 min:Nat
 max:Nat
 at_:Nat
def zA.cells(l:zA):List Value:=[.bool true,.bool l.has,qJ l.min,qJ l.max,qJ l.at_]
def jG(s:qS)(Z:RS):zA×RS:=
 let st2:=if 1<(dO s Z).1 then dL (dO s Z).2 Z.at_ else(dO s Z).2
 if(dO s Z).1=1 then(⟨true,(uS s st2).1,(uS s (uS s st2).2).1,Z.at_⟩,(uS s (uS s st2).2).2)
 else(⟨false,(uS s st2).1,0,Z.at_⟩,(uS s st2).2)
def fU(r:Nat×Nat):List Value:=[qJ r.1,qJ r.2]
def rM(s:qS):Nat->List (Nat×Nat)->RS->List (Nat×Nat)×RS
 | 0,M,Z=>(M,Z)
 | k+1,M,Z=>if Z.bad≠none then(M,Z) else rM s k (M++[((uS s Z).1,Z.at_)]) (uS s Z).2
def lQ(s:qS)(most:Nat)(Z:RS):List (Nat×Nat)×RS:=rM s (dU s most Z).1 [] (dU s most Z).2
section
variable {S:qD} {w w':qW} {x Y:Nat} {s:qS} {Z:RS}
theorem FR(h:eu w x s Z Y):qC 96 #[qP x] w fun e w'=>e=.returned (.agg (jG s Z).1.cells.toArray)/\eu w' x s (jG s Z).2 Y/\Kept (only x) w w':=by
 have A:=fP h;have hx:=h.lt;obtain⟨-,⟨B,C⟩,-,-,-⟩:=h.blk.five;have D:=hide h;clear h;go_enter func96,ntmps96;go_wp2_with fail
 refine(o5 ((D.o.alloc _).alloc _)).mono ?_;rintro e q ⟨rfl,hI,X⟩;have j:OB q x w.heap.size [.bool false,.bool false,qJ 0,qJ 0,qJ 0]:=((OB.new (c:= #[.bool false,.bool false,qJ 0,qJ 0,qJ 0]) (t:=33) hx rfl).alloc _).call X;have d:OB q x (w.heap.size+1) [.bool true,.bool false,qJ 0,qJ 0,qJ Z.at_]:=(OB.new (w:=w.alloc (.cells #[.bool false,.bool false,qJ 0,qJ 0,qJ 0] 33)) (g:=w.heap.size+1) (c:= #[.bool true,.bool false,qJ 0,qJ 0,qJ Z.at_]) (t:=33) qt qs).call X;have k:Kept (only x) w q:=((qr.alloc _).alloc _).trans X;have f:qh (jG s Z=(let l:=if 1<(dO s Z).1 then dL (dO s Z).2 Z.at_ else(dO s Z).2
  if(dO s Z).1=1 then(⟨true,(uS s l).1,(uS s (uS s l).2).1,Z.at_⟩,(uS s (uS s l).2).2) else(⟨false,(uS s l).1,0,Z.at_⟩,(uS s l).2))):=rfl
 clear X B C;generalize dO s Z=os at*;obtain⟨b,st1⟩:=os;simp only at hI f ⊢;by_cases hc:1<b
 .have E:(1:Int)<(b:Int):=qo;have u:((b:Int)==1)=false:=by simp;omega
  have vK:qh (jG s Z=(⟨false,(uS s (dL st1 Z.at_)).1,0,Z.at_⟩,(uS s (dL st1 Z.at_)).2)):=by show _=_;rw[f.o];simp[hc,show ¬b=1 by omega]
  obtain⟨⟨L0,K0⟩,⟨L1,K1⟩,⟨L2,K2⟩,⟨L3,K3⟩,⟨L4,K4⟩⟩:=d.blk.five;have lL:=d.lt;clear f hc;go_wp2_with fail
  refine(gH hI Z.at_ A).mono ?_;rintro e L ⟨rfl,F,m⟩;have G:=d.call m;have H:=j.call m;have I:=k.trans m;clear L0 K0 L1 K1 L2 K2 L3 K3 L4 K4 lL d j k m;go_wp2_with fail
  refine(ou F).mono ?_;rintro e y ⟨rfl,Td,a⟩;have YS:=G.call a;have XB:=H.call a;have XZ:=I.trans a;generalize uS s (dL st1 Z.at_)=us at*;exact agN
 have E:¬(1:Int)<(b:Int):=qo;by_cases hb:b=1
 .have u:((b:Int)==1)=true:=by simp;omega
  have vK:qh (jG s Z=(⟨true,(uS s st1).1,(uS s (uS s st1).2).1,Z.at_⟩,(uS s (uS s st1).2).2)):=by show _=_;rw[f.o];simp[hb]
  obtain⟨⟨L0,K0⟩,⟨L1,K1⟩,⟨L2,K2⟩,⟨L3,K3⟩,⟨L4,K4⟩⟩:=d.blk.five;have lL:=d.lt;clear f hc hb;go_wp2_with fail
  refine(ou hI).mono ?_;rintro e y ⟨rfl,Td,a⟩;have YS:=d.call a;have XB:=j.call a;have XZ:=k.trans a;clear L0 K0 L1 K1 L2 K2 L3 K3 L4 K4 lL d j k a;generalize uS s st1=us at*;obtain⟨n,st3⟩:=us;simp only at Td vK ⊢;have lL:=YS.lt;have lR:=XB.lt;obtain⟨⟨L0,K0⟩,⟨L1,K1⟩,⟨L2,K2⟩,⟨L3,K3⟩,⟨L4,K4⟩⟩:=YS.blk.five;obtain⟨⟨R0,Q0⟩,⟨R1,Q1⟩,⟨R2,Q2⟩,⟨R3,Q3⟩,⟨R4,Q4⟩⟩:=XB.blk.five;have M:=XZ.size;go_wp2_with fail
  refine(ou (((Td.other YS.ne _).other YS.ne _).alloc _)).mono ?_;rintro e N ⟨rfl,z,p⟩;have r:=(((YS.set 2 (qJ n)).set 1 (.bool true)).alloc (.cells #[qJ n,qJ st1.at_] 37)).call p;have i:=(((XB.other (o:=2) (g':=w.heap.size+1) qo (qJ n)).other (o:=1) (g':=w.heap.size+1) qo (.bool true)).alloc (.cells #[qJ n,qJ st1.at_] 37)).call p;have J:=(((XZ.new (g:=w.heap.size+1) (o:=2) qo (qJ n)).new (g:=w.heap.size+1) (o:=1) qo (.bool true)).alloc (.cells #[qJ n,qJ st1.at_] 37)).trans p;clear L0 K0 L1 K1 L2 K2 L3 K3 L4 K4 R0 Q0 R1 Q1 R2 Q2 R3 Q3 R4 Q4 lL lR YS XB XZ p;generalize uS s st3=us at*;obtain⟨K,O⟩:=us;simp only at z vK ⊢;have lL:=r.lt;have lR:=i.lt;obtain⟨⟨L0,K0⟩,⟨L1,K1⟩,⟨L2,K2⟩,⟨L3,K3⟩,⟨L4,K4⟩⟩:=r.blk.five;obtain⟨⟨R0,Q0⟩,⟨R1,Q1⟩,⟨R2,Q2⟩,⟨R3,Q3⟩,⟨R4,Q4⟩⟩:=i.blk.five;go_wp2;refine bodyPost_ret (v:=.agg #[.bool true,.bool true,qJ n,qJ K,qJ Z.at_]) ?_ rfl ⟨by rw[vK.o];rfl,by rw[vK.o];exact(((((((z).other r.ne _).other i.ne _).other i.ne _).other i.ne _).other i.ne _).other i.ne _).alloc _,(((((((J).new qo _).new qo _).new qo _).new qo _).new qo _).new qo _).alloc _⟩;simp[results,results96,go_sem,R0,R1,R2,R3,R4,lR]
 have u:((b:Int)==1)=false:=by simp;omega
 have vK:qh (jG s Z=(⟨false,(uS s st1).1,0,Z.at_⟩,(uS s st1).2)):=by show _=_;rw[f.o];simp[hb,hc]
 obtain⟨⟨L0,K0⟩,⟨L1,K1⟩,⟨L2,K2⟩,⟨L3,K3⟩,⟨L4,K4⟩⟩:=d.blk.five;have lL:=d.lt;clear f hc hb;go_wp2_with fail
 refine(ou hI).mono ?_;rintro e y ⟨rfl,Td,a⟩;have YS:=d.call a;have XB:=j.call a;have XZ:=k.trans a;clear L0 K0 L1 K1 L2 K2 L3 K3 L4 K4 lL d j k a;generalize uS s st1=us at*;exact agN
theorem Tryz.aeO:(prog.info? 37).map (fun i=>(i.zero,i.size,i.bytes))=some (some (.agg #[qJ 0,qJ 0]),2,16):=qk
theorem EU(h:eu w x s Z Y)(most:Nat)(hm:most<=50):qC 95 #[qP x,qJ most] w fun e w'=>(∃v,e=.returned v/\isRow 37 2 fU (fun g=>w.heap.size<=g) (lQ s most Z).1 w' v)/\eu w' x s (lQ s most Z).2 Y/\Kept (only x) w w':=by
 obtain⟨F,G,H,I,K⟩:=info_parts Tryz.aeO;have hx:=h.lt;go_enter func95,ntmps95;go_wp2_with fail
 refine(mQ h most).mono ?_;rintro e w1 ⟨rfl,hI,X⟩;have L:=qX (s:=s) (Z:=Z) most;have c:qh (lQ s most Z=rM s (dU s most Z).1 [] (dU s most Z).2):=rfl;generalize dU s most Z=N at*;obtain⟨n,st1⟩:=N;simp only at hI L c ⊢;go_wp2;go_loopw [5,7] (fun q p wr=>∃(k:Nat) (M:List (Nat×Nat)) (J:RS),k<=n/\p=qJ k/\M.length=k/\eu wr x s J Y/\Kept (only x) w wr/\isRow 37 2 fU (fun g=>w.heap.size<=g) M wr q/\lQ s most Z=rM s (n - k) M J) (fun _ p _=>n - (intOf p).toNat)
 case atStart=>exact⟨0,[],st1,qZ,rfl,rfl,hI,X,Row.nil _ _ _ _,c.o⟩
 obtain⟨k,M,J,aa,rfl,O,hI2,hkp,d,l⟩:=hrel;subst O;obtain⟨pl,cl,rfl⟩:=Row.shape d;have a:=hide l;clear l c;have ab:=hI2.lt;have ac:=hkp.size;obtain⟨-,-,-,⟨Q,J3⟩,-⟩:=hI2.blk.five;have YN:=hide d;clear d;by_cases ad:M.length<n
 .have R:(M.length:Int)<(n:Int):=qo;by_cases hb:J.bad=none
  .rw[show gX J.bad= -1 by rw[hb];rfl] at Q;have HN:qh (lQ s most Z=rM s (n - (M.length+1)) (M++[((uS s J).1,J.at_)]) (uS s J).2):=by
    show _=_;rw[a.o,show n - M.length=n - (M.length+1)+1 by omega];simp[rM,hb]
   clear a hb;go_wp2_with fail
   refine(ou hI2).mono ?_;rintro e T ⟨rfl,m,f⟩;have r:=Row.call YN.o f (fun k X=>qo);have t:=hkp.trans f;generalize uS s J=us at*;obtain⟨v,y⟩:=us;simp only at m HN ⊢;have A:=((r.pO (fun g i=>i)).alloc (.cells #[qJ v,qJ J.at_] 37)).alloc (.cells #[qJ v,qJ J.at_] 37);have b:=hide A;have ae:=t.size;clear A r YN f;go_wp2_with (at_builtin;refine wpList_append_own _ rfl _ _ 75 rfl w.heap.size 37 F (.agg #[qJ 0,qJ 0]) 2 16 underlying75 G H I K rfl qx _ _ _ rfl b.o ⟨T.heap.size+1,0,none⟩ 1 1 [qJ v,qJ J.at_] rfl rfl ?c1 ?c2 ?c3 ?c4 ?c5 ?_)
   case c1=>exact cells_at qs rfl
   case c2=>intro u B;simp at B;rcases B with rfl | rfl<;>rfl
   case c3=>unfold maxLen;omega
   case c4=>omega
   case c5=>simp;omega
   intro U C D j _;have V:=iP ((t.alloc _).alloc _) b.o qR j;have W:eu C x s y Y:=((m.alloc _).alloc _).kept (Kept.iB j) (fun hr=>absurd (b.o.lt x hr).1 qo);have E:isRow 37 2 fU (fun g=>w.heap.size<=g) (M++[(v,J.at_)]) C U:=by
    have:=Row.nS (ok:=fun g=>w.heap.size<=g) D (fun g i _=>i);simpa [isRow,fU] using this
   have HR:=hide E;clear D j E b;go_wp2;go_roundw
   case rel=>exact⟨M.length+1,M++[(v,J.at_)],y,qo,by go_num,qs,W,V,HR.o,HN.o⟩
   simp[intOf];omega
  have hz:=fO hb;have HN:qh (lQ s most Z=(M,J)):=by
   show _=_;rw[a.o,show n - M.length=n - (M.length+1)+1 by omega];simp[rM,hb]
  generalize gX J.bad=z at*;have af:¬z<0:=qo;clear a hb;exact acT
 have HN:qh (lQ s most Z=(M,J)):=by show _=_;rw[a.o,show n - M.length=0 by omega];rfl
 have R:¬(M.length:Int)<(n:Int):=qo;clear a;exact acT
end
def qI(p1 p2 top b:Nat):Bool:=decide ((b / p1%2=0/\b / p2≠0)\/(b / p1%2=1/\(127<b\/b / p2≠top)))
def gm(z:Int)(b k:Nat):Int:=wrap64 (z+wrap64 ((b:Int)%128*2 ^ (7*k)))
def zN(z:Int)(b k:Nat):Int:=if 64<=b/\7*k+7<64 then wrap64 (z - wrap64 (2 ^ (7*k+7))) else z
def rX(s:qS)(K p1 p2 top:Nat):Nat->Nat->Int->RS->Int×RS
 | 0,_,_,Z=>(0,Z)
 | m+1,k,z,Z=>
  if(dO s Z).2.bad≠none then(0,(dO s Z).2)
  else if k=K/\qI p1 p2 top (dO s Z).1=true then(0,dL (dO s Z).2 Z.at_)
  else if(dO s Z).1<128 then(zN (gm z (dO s Z).1 k) (dO s Z).1 k,(dO s Z).2)
  else rX s K p1 p2 top m (k+1) (gm z (dO s Z).1 k) (dO s Z).2
def sS(s:qS)(K p1 p2 top:Nat)(Z:RS):Int×RS:=rX s K p1 p2 top (K+1) 0 0 Z
theorem VI{z:Int}{b:Nat}:gm z b 4=wrap64 (z+(b:Int)%128*268435456):=by
 have e:wrap64 ((b:Int)%128*2 ^ (7*4))=(b:Int)%128*268435456:=by
  show wrap64 ((b:Int)%128*268435456)=_;unfold wrap64;omega
 unfold gm;rw[e]
theorem afE{z:Int}{b:Nat}:gm z b 9=wrap64 (z+wrap64 ((b:Int)%128*9223372036854775808)):=rfl
theorem aeq{z:Int}{b:Nat}(h:b=0):gm z b 9=wrap64 (z+(b:Int)%128*9223372036854775808):=by
 subst h;have e:wrap64 (((0:Nat):Int)%128*2 ^ (7*9))=((0:Nat):Int)%128*9223372036854775808:=by
  show wrap64 0=0;unfold wrap64;omega
 unfold gm;rw[e]
theorem ws4:wrap64 ((2:Int) ^ 35)=34359738368:=by
 rw[show(2:Int) ^ 35=34359738368 from rfl];unfold wrap64;omega
section
variable {S:qD} {w w':qW} {x Y:Nat} {s:qS} {Z:RS}
theorem QH(h:eu w x s Z Y):qC 133 #[qP x,qJ 32] w fun e w'=>e=.returned (qJ (sS s 4 8 16 7 Z).1)/\eu w' x s (sS s 4 8 16 7 Z).2 Y/\Kept (only x) w w':=by
 have hx:=h.lt;have d:qh (sS s 4 8 16 7 Z=rX s 4 8 16 7 (4+1 - 0) 0 0 Z):=rfl;go_enter func133,ntmps133;go_wp2;go_loopw [5,6] (fun q p wr=>∃(k:Nat) (z:Int) (J:RS),k<=4/\q=qJ z/\p=qJ k/\eu wr x s J Y/\Kept (only x) w wr/\sS s 4 8 16 7 Z=rX s 4 8 16 7 (4+1 - k) k z J) (fun _ p _=>100 - (intOf p).toNat)
 case atStart=>exact⟨0,0,Z,qZ,rfl,rfl,h,Kept.refl _ _,d.o⟩
 obtain⟨k,z,J,X,rfl,rfl,hI,f,g⟩:=hrel;have i:qh (sS s 4 8 16 7 Z=rX s 4 8 16 7 (4 - k+1) k z J):=by show _=_;rw[g,show 4+1 - k=4 - k+1 by omega]
 clear g d;have hat':=fP hI;obtain⟨-,⟨n,r⟩,-,-,-⟩:=hI.blk.five;have A:=hI.lt;go_wp2_with fail
 refine(o5 hI).mono ?_;rintro e B ⟨rfl,hI1,j⟩;have t:=Hw (s:=s) (Z:=J);have VC:qh (sS s 4 8 16 7 Z=if(dO s J).2.bad≠none then(0,(dO s J).2) else if k=4/\qI 8 16 7 (dO s J).1=true then(0,dL (dO s J).2 J.at_)
  else if(dO s J).1<128 then(zN (gm z (dO s J).1 k) (dO s J).1 k,(dO s J).2) else rX s 4 8 16 7 (4 - k) (k+1) (gm z (dO s J).1 k) (dO s J).2):=i.o.trans rfl
 have GH:=f.trans j;clear i hI n r f j;generalize dO s J=os at*;obtain⟨b,st1⟩:=os;simp only at hI1 t VC ⊢;obtain⟨-,-,-,⟨u,C⟩,-⟩:=hI1.blk.five;have D:=hI1.lt;by_cases hb:st1.bad=none
 .rw[show gX st1.bad= -1 by rw[hb];rfl] at u;have Ez:qh (sS s 4 8 16 7 Z=if k=4/\qI 8 16 7 b=true then(0,dL st1 J.at_) else if b<128 then(zN (gm z b k) b k,st1) else rX s 4 8 16 7 (4 - k) (k+1) (gm z b k) st1):=by show _=_;rw[VC.o];simp[hb]
  clear VC hb;by_cases l:k=4
  .subst l;by_cases E:(b:Int) / 8%2=0
   .by_cases a:(b:Int) / 16=0
    .have hoff:¬(4=4/\qI 8 16 7 b=true):=fun c=>absurd c.2 (by simp only[qI,decide_eq_true_eq];omega);have HN:qh (sS s 4 8 16 7 Z=(zN (gm z b 4) b 4,st1)):=by show _=_;rw[Ez.o,if_neg (hoff),if_pos qo]
     have NJ:(b:Int)<128:=qo;have h64:¬64<=b:=qo;have UF:¬(64:Int)<=(b:Int):=qo;have HW:qh (zN (gm z b 4) b 4=wrap64 (z+(b:Int)%128*268435456)):=by show _=_;simp only[zN,VI,h64,false_and,if_false]
     exact YJ
    have v:¬(b:Int) / 16=0:=a;have HN:qh (sS s 4 8 16 7 Z=(0,dL st1 J.at_)):=by show _=_;rw[Ez.o,if_pos ⟨rfl,by simp only[qI,decide_eq_true_eq];omega⟩]
    exact Zz9
   have F:(b:Int) / 8%2=1:=qo;by_cases G:(127:Int)<(b:Int)
   .have HN:qh (sS s 4 8 16 7 Z=(0,dL st1 J.at_)):=by show _=_;rw[Ez.o,if_pos ⟨rfl,by simp only[qI,decide_eq_true_eq];omega⟩]
    exact Zz9
   by_cases a:(b:Int) / 16=7
   .have hoff:¬(4=4/\qI 8 16 7 b=true):=fun c=>absurd c.2 (by simp only[qI,decide_eq_true_eq];omega);have HN:qh (sS s 4 8 16 7 Z=(zN (gm z b 4) b 4,st1)):=by show _=_;rw[Ez.o,if_neg (hoff),if_pos qo]
    have NJ:(b:Int)<128:=qo;have h64:64<=b:=qo;have UF:(64:Int)<=(b:Int):=qo;have HW:qh (zN (gm z b 4) b 4=wrap64 (wrap64 (z+(b:Int)%128*268435456) - 34359738368)):=by show _=_;simp only[zN,VI,h64,and_self,if_true,Nat.reduceMul,Nat.reduceAdd,Nat.reduceLT,ws4]
    exact YJ
   have v:¬(b:Int) / 16=7:=a;have HN:qh (sS s 4 8 16 7 Z=(0,dL st1 J.at_)):=by show _=_;rw[Ez.o,if_pos ⟨rfl,by simp only[qI,decide_eq_true_eq];omega⟩]
   exact Zz9
  have H:¬(32:Int) - 7*(k:Int)<=7:=qo;have I:¬(32:Int)<=7+7*(k:Int):=qo;have hoff:¬(k=4/\qI 8 16 7 b=true):=fun c=>l c.1;by_cases m:b<128
  .have hx0:b<128:=m;have HN:qh (sS s 4 8 16 7 Z=(zN (gm z b k) b k,st1)):=by show _=_;rw[Ez.o,if_neg (hoff),if_pos qo]
   exact Zz8
  have K:¬(b:Int)<128:=qo;have HN:qh (sS s 4 8 16 7 Z=rX s 4 8 16 7 (4+1 - (k+1)) (k+1) (gm z b k) st1):=by show _=_;rw[Ez.o,if_neg hoff,if_neg m,show 4+1 - (k+1)=4 - k by omega]
  exact ae8
 have L:=fO hb;have HN:qh (sS s 4 8 16 7 Z=(0,st1)):=by show _=_;rw[VC.o];simp[hb]
 exact ae2
theorem ZI(h:eu w x s Z Y):qC 133 #[qP x,qJ 33] w fun e w'=>e=.returned (qJ (sS s 4 16 32 3 Z).1)/\eu w' x s (sS s 4 16 32 3 Z).2 Y/\Kept (only x) w w':=by
 have hx:=h.lt;have d:qh (sS s 4 16 32 3 Z=rX s 4 16 32 3 (4+1 - 0) 0 0 Z):=rfl;go_enter func133,ntmps133;go_wp2;go_loopw [5,6] (fun q p wr=>∃(k:Nat) (z:Int) (J:RS),k<=4/\q=qJ z/\p=qJ k/\eu wr x s J Y/\Kept (only x) w wr/\sS s 4 16 32 3 Z=rX s 4 16 32 3 (4+1 - k) k z J) (fun _ p _=>100 - (intOf p).toNat)
 case atStart=>exact⟨0,0,Z,qZ,rfl,rfl,h,Kept.refl _ _,d.o⟩
 obtain⟨k,z,J,X,rfl,rfl,hI,f,g⟩:=hrel;have i:qh (sS s 4 16 32 3 Z=rX s 4 16 32 3 (4 - k+1) k z J):=by show _=_;rw[g,show 4+1 - k=4 - k+1 by omega]
 clear g d;have hat':=fP hI;obtain⟨-,⟨n,r⟩,-,-,-⟩:=hI.blk.five;have A:=hI.lt;go_wp2_with fail
 refine(o5 hI).mono ?_;rintro e B ⟨rfl,hI1,j⟩;have t:=Hw (s:=s) (Z:=J);have VC:qh (sS s 4 16 32 3 Z=if(dO s J).2.bad≠none then(0,(dO s J).2) else if k=4/\qI 16 32 3 (dO s J).1=true then(0,dL (dO s J).2 J.at_)
  else if(dO s J).1<128 then(zN (gm z (dO s J).1 k) (dO s J).1 k,(dO s J).2) else rX s 4 16 32 3 (4 - k) (k+1) (gm z (dO s J).1 k) (dO s J).2):=i.o.trans rfl
 have GH:=f.trans j;clear i hI n r f j;generalize dO s J=os at*;obtain⟨b,st1⟩:=os;simp only at hI1 t VC ⊢;obtain⟨-,-,-,⟨u,C⟩,-⟩:=hI1.blk.five;have D:=hI1.lt;by_cases hb:st1.bad=none
 .rw[show gX st1.bad= -1 by rw[hb];rfl] at u;have Ez:qh (sS s 4 16 32 3 Z=if k=4/\qI 16 32 3 b=true then(0,dL st1 J.at_) else if b<128 then(zN (gm z b k) b k,st1) else rX s 4 16 32 3 (4 - k) (k+1) (gm z b k) st1):=by show _=_;rw[VC.o];simp[hb]
  clear VC hb;by_cases l:k=4
  .subst l;by_cases E:(b:Int) / 16%2=0
   .by_cases a:(b:Int) / 32=0
    .have hoff:¬(4=4/\qI 16 32 3 b=true):=fun c=>absurd c.2 (by simp only[qI,decide_eq_true_eq];omega);have HN:qh (sS s 4 16 32 3 Z=(zN (gm z b 4) b 4,st1)):=by show _=_;rw[Ez.o,if_neg (hoff),if_pos qo]
     have NJ:(b:Int)<128:=qo;have h64:¬64<=b:=qo;have UF:¬(64:Int)<=(b:Int):=qo;have HW:qh (zN (gm z b 4) b 4=wrap64 (z+(b:Int)%128*268435456)):=by show _=_;simp only[zN,VI,h64,false_and,if_false]
     exact YJ
    have v:¬(b:Int) / 32=0:=a;have HN:qh (sS s 4 16 32 3 Z=(0,dL st1 J.at_)):=by show _=_;rw[Ez.o,if_pos ⟨rfl,by simp only[qI,decide_eq_true_eq];omega⟩]
    exact Zz9
   have F:(b:Int) / 16%2=1:=qo;by_cases G:(127:Int)<(b:Int)
   .have HN:qh (sS s 4 16 32 3 Z=(0,dL st1 J.at_)):=by show _=_;rw[Ez.o,if_pos ⟨rfl,by simp only[qI,decide_eq_true_eq];omega⟩]
    exact Zz9
   by_cases a:(b:Int) / 32=3
   .have hoff:¬(4=4/\qI 16 32 3 b=true):=fun c=>absurd c.2 (by simp only[qI,decide_eq_true_eq];omega);have HN:qh (sS s 4 16 32 3 Z=(zN (gm z b 4) b 4,st1)):=by show _=_;rw[Ez.o,if_neg (hoff),if_pos qo]
    have NJ:(b:Int)<128:=qo;have h64:64<=b:=qo;have UF:(64:Int)<=(b:Int):=qo;have HW:qh (zN (gm z b 4) b 4=wrap64 (wrap64 (z+(b:Int)%128*268435456) - 34359738368)):=by show _=_;simp only[zN,VI,h64,and_self,if_true,Nat.reduceMul,Nat.reduceAdd,Nat.reduceLT,ws4]
    exact YJ
   have v:¬(b:Int) / 32=3:=a;have HN:qh (sS s 4 16 32 3 Z=(0,dL st1 J.at_)):=by show _=_;rw[Ez.o,if_pos ⟨rfl,by simp only[qI,decide_eq_true_eq];omega⟩]
   exact Zz9
  have H:¬(33:Int) - 7*(k:Int)<=7:=qo;have I:¬(33:Int)<=7+7*(k:Int):=qo;have hoff:¬(k=4/\qI 16 32 3 b=true):=fun c=>l c.1;by_cases m:b<128
  .have hx0:b<128:=m;have HN:qh (sS s 4 16 32 3 Z=(zN (gm z b k) b k,st1)):=by show _=_;rw[Ez.o,if_neg (hoff),if_pos qo]
   exact Zz8
  have K:¬(b:Int)<128:=qo;have HN:qh (sS s 4 16 32 3 Z=rX s 4 16 32 3 (4+1 - (k+1)) (k+1) (gm z b k) st1):=by show _=_;rw[Ez.o,if_neg hoff,if_neg m,show 4+1 - (k+1)=4 - k by omega]
  exact ae8
 have L:=fO hb;have HN:qh (sS s 4 16 32 3 Z=(0,st1)):=by show _=_;rw[VC.o];simp[hb]
 exact ae2
theorem QG(h:eu w x s Z Y):qC 133 #[qP x,qJ 64] w fun e w'=>e=.returned (qJ (sS s 9 1 2 63 Z).1)/\eu w' x s (sS s 9 1 2 63 Z).2 Y/\Kept (only x) w w':=by
 have hx:=h.lt;have d:qh (sS s 9 1 2 63 Z=rX s 9 1 2 63 (9+1 - 0) 0 0 Z):=rfl;go_enter func133,ntmps133;go_wp2;go_loopw [5,6] (fun q p wr=>∃(k:Nat) (z:Int) (J:RS),k<=9/\q=qJ z/\p=qJ k/\eu wr x s J Y/\Kept (only x) w wr/\sS s 9 1 2 63 Z=rX s 9 1 2 63 (9+1 - k) k z J) (fun _ p _=>100 - (intOf p).toNat)
 case atStart=>exact⟨0,0,Z,qZ,rfl,rfl,h,Kept.refl _ _,d.o⟩
 obtain⟨k,z,J,X,rfl,rfl,hI,f,g⟩:=hrel;have i:qh (sS s 9 1 2 63 Z=rX s 9 1 2 63 (9 - k+1) k z J):=by show _=_;rw[g,show 9+1 - k=9 - k+1 by omega]
 clear g d;have hat':=fP hI;obtain⟨-,⟨n,r⟩,-,-,-⟩:=hI.blk.five;have A:=hI.lt;go_wp2_with fail
 refine(o5 hI).mono ?_;rintro e B ⟨rfl,hI1,j⟩;have t:=Hw (s:=s) (Z:=J);have VC:qh (sS s 9 1 2 63 Z=if(dO s J).2.bad≠none then(0,(dO s J).2) else if k=9/\qI 1 2 63 (dO s J).1=true then(0,dL (dO s J).2 J.at_)
  else if(dO s J).1<128 then(zN (gm z (dO s J).1 k) (dO s J).1 k,(dO s J).2) else rX s 9 1 2 63 (9 - k) (k+1) (gm z (dO s J).1 k) (dO s J).2):=i.o.trans rfl
 have GH:=f.trans j;clear i hI n r f j;generalize dO s J=os at*;obtain⟨b,st1⟩:=os;simp only at hI1 t VC ⊢;obtain⟨-,-,-,⟨u,C⟩,-⟩:=hI1.blk.five;have D:=hI1.lt;by_cases hb:st1.bad=none
 .rw[show gX st1.bad= -1 by rw[hb];rfl] at u;have Ez:qh (sS s 9 1 2 63 Z=if k=9/\qI 1 2 63 b=true then(0,dL st1 J.at_) else if b<128 then(zN (gm z b k) b k,st1) else rX s 9 1 2 63 (9 - k) (k+1) (gm z b k) st1):=by show _=_;rw[VC.o];simp[hb]
  clear VC hb;by_cases l:k=9
  .subst l;by_cases E:(b:Int)%2=0
   .by_cases a:(b:Int) / 2=0
    .have hoff:¬(9=9/\qI 1 2 63 b=true):=fun c=>absurd c.2 (by simp only[qI,decide_eq_true_eq];omega);have HN:qh (sS s 9 1 2 63 Z=(zN (gm z b 9) b 9,st1)):=by show _=_;rw[Ez.o,if_neg (hoff),if_pos qo]
     have NJ:(b:Int)<128:=qo;have h64:¬64<=b:=qo;have UF:¬(64:Int)<=(b:Int):=qo;have HW:qh (zN (gm z b 9) b 9=wrap64 (z+(b:Int)%128*9223372036854775808)):=by
      show _=_;simp only[zN,h64,false_and,if_false];exact aeq qo
     exact YJ
    have v:¬(b:Int) / 2=0:=a;have HN:qh (sS s 9 1 2 63 Z=(0,dL st1 J.at_)):=by show _=_;rw[Ez.o,if_pos ⟨rfl,by simp only[qI,decide_eq_true_eq];omega⟩]
    exact Zz9
   have F:(b:Int)%2=1:=qo;by_cases G:(127:Int)<(b:Int)
   .have HN:qh (sS s 9 1 2 63 Z=(0,dL st1 J.at_)):=by show _=_;rw[Ez.o,if_pos ⟨rfl,by simp only[qI,decide_eq_true_eq];omega⟩]
    exact Zz9
   by_cases a:(b:Int) / 2=63
   .have hoff:¬(9=9/\qI 1 2 63 b=true):=fun c=>absurd c.2 (by simp only[qI,decide_eq_true_eq];omega);have HN:qh (sS s 9 1 2 63 Z=(zN (gm z b 9) b 9,st1)):=by show _=_;rw[Ez.o,if_neg (hoff),if_pos qo]
    have NJ:(b:Int)<128:=qo;have h64:64<=b:=qo;have UF:(64:Int)<=(b:Int):=qo;have HW:qh (zN (gm z b 9) b 9=wrap64 (z+wrap64 ((b:Int)%128*9223372036854775808))):=by show _=_;simp only[zN,afE,Nat.reduceMul,Nat.reduceAdd,Nat.reduceLT,and_false,if_false]
    exact YJ
   have v:¬(b:Int) / 2=63:=a;have HN:qh (sS s 9 1 2 63 Z=(0,dL st1 J.at_)):=by show _=_;rw[Ez.o,if_pos ⟨rfl,by simp only[qI,decide_eq_true_eq];omega⟩]
   exact Zz9
  have H:¬(64:Int) - 7*(k:Int)<=7:=qo;have I:¬(64:Int)<=7+7*(k:Int):=qo;have hoff:¬(k=9/\qI 1 2 63 b=true):=fun c=>l c.1;by_cases m:b<128
  .have hx0:b<128:=m;have HN:qh (sS s 9 1 2 63 Z=(zN (gm z b k) b k,st1)):=by show _=_;rw[Ez.o,if_neg (hoff),if_pos qo]
   exact Zz8
  have K:¬(b:Int)<128:=qo;have HN:qh (sS s 9 1 2 63 Z=rX s 9 1 2 63 (9+1 - (k+1)) (k+1) (gm z b k) st1):=by show _=_;rw[Ez.o,if_neg hoff,if_neg m,show 9+1 - (k+1)=9 - k by omega]
  exact ae8
 have L:=fO hb;have HN:qh (sS s 9 1 2 63 Z=(0,st1)):=by show _=_;rw[VC.o];simp[hb]
 exact ae2
end
def jf:List (Nat×List qS):=
 [(0,[⟨#[117,110,114,101,97,99,104,97,98,108,101]⟩,⟨#[110,111,112]⟩,⟨#[98,108,111,99,107]⟩,⟨#[108,111,111,112]⟩,⟨#[105,102]⟩,⟨#[101,108,115,101]⟩]),
  (11,[⟨#[101,110,100]⟩,⟨#[98,114]⟩,⟨#[98,114,95,105,102]⟩,⟨#[98,114,95,116,97,98,108,101]⟩,⟨#[114,101,116,117,114,110]⟩,⟨#[99,97,108,108]⟩,⟨#[99,97,108,108,95,105,110,100,105,114,101,99,116]⟩]),
  (26,[⟨#[100,114,111,112]⟩,⟨#[115,101,108,101,99,116]⟩]),
  (32,[⟨#[108,111,99,97,108,46,103,101,116]⟩,⟨#[108,111,99,97,108,46,115,101,116]⟩,⟨#[108,111,99,97,108,46,116,101,101]⟩,⟨#[103,108,111,98,97,108,46,103,101,116]⟩,⟨#[103,108,111,98,97,108,46,115,101,116]⟩]),
  (40,[⟨#[105,51,50,46,108,111,97,100]⟩,⟨#[105,54,52,46,108,111,97,100]⟩]),
  (44,[⟨#[105,51,50,46,108,111,97,100,56,95,115]⟩,⟨#[105,51,50,46,108,111,97,100,56,95,117]⟩]),
  (54,[⟨#[105,51,50,46,115,116,111,114,101]⟩,⟨#[105,54,52,46,115,116,111,114,101]⟩]),
  (58,[⟨#[105,51,50,46,115,116,111,114,101,56]⟩]),
  (63,[⟨#[109,101,109,111,114,121,46,115,105,122,101]⟩,⟨#[109,101,109,111,114,121,46,103,114,111,119]⟩,⟨#[105,51,50,46,99,111,110,115,116]⟩,⟨#[105,54,52,46,99,111,110,115,116]⟩]),
  (69,[⟨#[105,51,50,46,101,113,122]⟩,⟨#[105,51,50,46,101,113]⟩,⟨#[105,51,50,46,110,101]⟩,⟨#[105,51,50,46,108,116,95,115]⟩,⟨#[105,51,50,46,108,116,95,117]⟩,⟨#[105,51,50,46,103,116,95,115]⟩,⟨#[105,51,50,46,103,116,95,117]⟩,⟨#[105,51,50,46,108,101,95,115]⟩,⟨#[105,51,50,46,108,101,95,117]⟩,⟨#[105,51,50,46,103,101,95,115]⟩,⟨#[105,51,50,46,103,101,95,117]⟩]),
  (80,[⟨#[105,54,52,46,101,113,122]⟩,⟨#[105,54,52,46,101,113]⟩,⟨#[105,54,52,46,110,101]⟩,⟨#[105,54,52,46,108,116,95,115]⟩,⟨#[105,54,52,46,108,116,95,117]⟩,⟨#[105,54,52,46,103,116,95,115]⟩,⟨#[105,54,52,46,103,116,95,117]⟩,⟨#[105,54,52,46,108,101,95,115]⟩,⟨#[105,54,52,46,108,101,95,117]⟩,⟨#[105,54,52,46,103,101,95,115]⟩,⟨#[105,54,52,46,103,101,95,117]⟩]),
  (103,[⟨#[105,51,50,46,99,108,122]⟩,⟨#[105,51,50,46,99,116,122]⟩,⟨#[105,51,50,46,112,111,112,99,110,116]⟩,⟨#[105,51,50,46,97,100,100]⟩,⟨#[105,51,50,46,115,117,98]⟩,⟨#[105,51,50,46,109,117,108]⟩,⟨#[105,51,50,46,100,105,118,95,115]⟩,⟨#[105,51,50,46,100,105,118,95,117]⟩,⟨#[105,51,50,46,114,101,109,95,115]⟩,⟨#[105,51,50,46,114,101,109,95,117]⟩,⟨#[105,51,50,46,97,110,100]⟩,⟨#[105,51,50,46,111,114]⟩,⟨#[105,51,50,46,120,111,114]⟩,⟨#[105,51,50,46,115,104,108]⟩,⟨#[105,51,50,46,115,104,114,95,115]⟩,⟨#[105,51,50,46,115,104,114,95,117]⟩,⟨#[105,51,50,46,114,111,116,108]⟩,⟨#[105,51,50,46,114,111,116,114]⟩]),
  (121,[⟨#[105,54,52,46,99,108,122]⟩,⟨#[105,54,52,46,99,116,122]⟩,⟨#[105,54,52,46,112,111,112,99,110,116]⟩,⟨#[105,54,52,46,97,100,100]⟩,⟨#[105,54,52,46,115,117,98]⟩,⟨#[105,54,52,46,109,117,108]⟩,⟨#[105,54,52,46,100,105,118,95,115]⟩,⟨#[105,54,52,46,100,105,118,95,117]⟩,⟨#[105,54,52,46,114,101,109,95,115]⟩,⟨#[105,54,52,46,114,101,109,95,117]⟩,⟨#[105,54,52,46,97,110,100]⟩,⟨#[105,54,52,46,111,114]⟩,⟨#[105,54,52,46,120,111,114]⟩,⟨#[105,54,52,46,115,104,108]⟩,⟨#[105,54,52,46,115,104,114,95,115]⟩,⟨#[105,54,52,46,115,104,114,95,117]⟩,⟨#[105,54,52,46,114,111,116,108]⟩,⟨#[105,54,52,46,114,111,116,114]⟩]),
  (167,[⟨#[105,51,50,46,119,114,97,112,95,105,54,52]⟩]),
  (172,[⟨#[105,54,52,46,101,120,116,101,110,100,95,105,51,50,95,115]⟩,⟨#[105,54,52,46,101,120,116,101,110,100,95,105,51,50,95,117]⟩])]
def BP(op:Nat):List (Nat×List qS)->qS
 | []=>⟨#[]⟩
 | r::rs=>if r.1<=op/\op - r.1<r.2.length then r.2.getD (op - r.1) ⟨#[]⟩ else BP op rs
def dN(op:Nat):qS:=BP op jf
theorem Io:∀op:Fin 256,((dN op.val).data.toList==(⟨#[98,108,111,99,107]⟩:qS).data.toList)=(op.val==2):=by decide+kernel
theorem MG:∀op:Fin 256,((dN op.val).data.toList==(⟨#[108,111,111,112]⟩:qS).data.toList)=(op.val==3):=by decide+kernel
theorem VD:∀op:Fin 256,((dN op.val).data.toList==(⟨#[105,102]⟩:qS).data.toList)=(op.val==4):=by decide+kernel
theorem Il:∀op:Fin 256,((dN op.val).data.toList==(⟨#[105,51,50,46,99,111,110,115,116]⟩:qS).data.toList)=(op.val==65):=by decide+kernel
theorem Ik:∀op:Fin 256,((dN op.val).data.toList==(⟨#[105,54,52,46,99,111,110,115,116]⟩:qS).data.toList)=(op.val==66):=by decide+kernel
theorem EC:∀op:Fin 256,((dN op.val).data.toList==(⟨#[109,101,109,111,114,121,46,115,105,122,101]⟩:qS).data.toList)=(op.val==63):=by decide+kernel
theorem ED:∀op:Fin 256,((dN op.val).data.toList==(⟨#[109,101,109,111,114,121,46,103,114,111,119]⟩:qS).data.toList)=(op.val==64):=by decide+kernel
theorem BO:∀op:Fin 256,((dN op.val).data.toList==(⟨#[99,97,108,108,95,105,110,100,105,114,101,99,116]⟩:qS).data.toList)=(op.val==17):=by decide+kernel
theorem KY:∀op:Fin 256,((dN op.val).data.toList==(⟨#[98,114,95,116,97,98,108,101]⟩:qS).data.toList)=(op.val==14):=by decide+kernel
theorem abh:∀op:Fin 256,((dN op.val).data.toList==(⟨#[98,114]⟩:qS).data.toList)=(op.val==12):=by decide+kernel
theorem Tp:∀op:Fin 256,((dN op.val).data.toList==(⟨#[98,114,95,105,102]⟩:qS).data.toList)=(op.val==13):=by decide+kernel
theorem WS:∀op:Fin 256,((dN op.val).data.toList==(⟨#[99,97,108,108]⟩:qS).data.toList)=(op.val==16):=by decide+kernel
theorem Ij:∀op:Fin 256,((dN op.val).data.toList==(⟨#[108,111,99,97,108,46,103,101,116]⟩:qS).data.toList)=(op.val==32):=by decide+kernel
theorem Ii:∀op:Fin 256,((dN op.val).data.toList==(⟨#[108,111,99,97,108,46,115,101,116]⟩:qS).data.toList)=(op.val==33):=by decide+kernel
theorem Ih:∀op:Fin 256,((dN op.val).data.toList==(⟨#[108,111,99,97,108,46,116,101,101]⟩:qS).data.toList)=(op.val==34):=by decide+kernel
theorem Gq:∀op:Fin 256,((dN op.val).data.toList==(⟨#[103,108,111,98,97,108,46,103,101,116]⟩:qS).data.toList)=(op.val==35):=by decide+kernel
theorem Gp:∀op:Fin 256,((dN op.val).data.toList==(⟨#[103,108,111,98,97,108,46,115,101,116]⟩:qS).data.toList)=(op.val==36):=by decide+kernel
theorem WR:∀op:Fin 256,((dN op.val).data.toList==(⟨#[101,108,115,101]⟩:qS).data.toList)=(op.val==5):=by decide+kernel
theorem YX:∀op:Fin 256,((dN op.val).data.toList==(⟨#[101,110,100]⟩:qS).data.toList)=(op.val==11):=by decide+kernel
theorem afi:∀op:Fin 256,(dN op.val).data.toList.isEmpty=decide (op.val∈[6,7,8,9,10,18,19,20,21,22,23,24,25,28,29,30,31,37,38,39,42,43,46,47,48,49,50,51,52,53,56,57,59,60,61,62,67,68,91,92,93,94,95,96,97,98,99,100,101,102,139,140,141,142,143,144,145,146,147,148,149,150,151,152,153,154,155,156,157,158,159,160,161,162,163,164,165,166,168,169,170,171,174,175,176,177,178,179,180,181,182,183,184,185,186,187,188,189,190,191,192,193,194,195,196,197,198,199,200,201,202,203,204,205,206,207,208,209,210,211,212,213,214,215,216,217,218,219,220,221,222,223,224,225,226,227,228,229,230,231,232,233,234,235,236,237,238,239,240,241,242,243,244,245,246,247,248,249,250,251,252,253,254,255]):=by decide+kernel
end Go.Proofs.YtdaafkmhfedkiaaGreat
