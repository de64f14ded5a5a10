import Derived.Laws.AppendOwn
import Derived.Laws.BytesString
import Derived.Laws.MakeOwn
import Derived.Lib.UnsafeStr
import Derived.MapKept
import Derived.OrdersIn
import Derived.OwnWalkIn
import Derived.Test.YtfkcodlceoghpaaGreatDoorX36
namespace Go.Proofs.YtfkcodlceoghpaaGreatDoor.Zev
set_option linter.unusedSimpArgs false
set_option linter.unusedVariables false
open Go.Deep
section
variable {P:qp}{T:Tab}{e:Env}{X:Cx}{s:AS}{w:qW}{a:Act}{g:G}{o:Oper}{K:bR}
theorem rE(d:Rel X s w)(hg:GR X g a){args:Array qg}{ts:Array qT}(ho:o.op=.call ⟨.builtin .len,args,ts⟩)(h:xg args ts P T e s g K):aP P o a X s w K:=by
 obtain⟨x,h1,h2⟩:=gQ h;obtain⟨t,h3,h4⟩:=gQ h2;obtain⟨v,h5,f⟩:=aD d hg h4;have k:args= #[x]:=by apply qar;simpa using h1
 have m:ts= #[t]:=by apply qar;simpa using h3
 subst k;subst m;obtain⟨_,_,_,l,_,rfl,h7⟩ | h5:=mG h5
 .obtain⟨h8,b⟩:=aB h7;have b:=aK b;obtain⟨p,i,j⟩:=tN.1 f;have r:p.size=l.length:=by have:=j.length;simpa using this
  exact .quiet d b (u:=.int .i64 l.length) (by simp[execOp,ho,resolve,invoke,builtin,Builtin.len_,aA (cz h8),i,goInt,r]) rfl
 obtain⟨id,off,sz,len,cap,rfl,h7⟩ | ⟨n,c,rfl,h7⟩ | ⟨id,off,rfl,h7⟩ | ⟨q,rfl,h7⟩ | ⟨_,rfl,h7⟩ | ⟨_,_,_,_,_,_,rfl,h7⟩:=cu h5
 .obtain⟨h8,b⟩:=aB h7;obtain⟨y,i⟩:=eD h8;obtain⟨_,_,c,j,_⟩:=aT.1 f;exact .quiet d b (u:=.int .i64 len) (by simp[execOp,ho,resolve,invoke,builtin,Builtin.len_,aA i,j,goInt]) rfl
 .obtain⟨h8,b⟩:=aB h7;obtain⟨y,i⟩:=eD h8;obtain⟨_,_,j⟩:=bY.1 f;exact .quiet d b (u:=.int .i64 0) (by simp[execOp,ho,resolve,invoke,builtin,Builtin.len_,aA i,j,goInt]) rfl
 .exact h7.elim
 .obtain⟨h8,b⟩:=aB h7;have b:=aK b;rw[bW]at f;exact .quiet d b (u:=.int .i64 q.length) (by simp[execOp,ho,resolve,invoke,builtin,Builtin.len_,aA (cz h8),f,goInt]<;>rfl) rfl
 .exact h7.elim
 exact h7.elim
theorem ry(c:Rel X s w)(hg:GR X g a){args:Array qg}{ts:Array qT}(ho:o.op=.call ⟨.builtin .min,args,ts⟩)(h:w9 args P T e s g K):aP P o a X s w K:=by
 obtain⟨x,j,h1,h2⟩:=jg h;obtain⟨v,h3,h4⟩:=aD c hg h2;obtain⟨r,h5,f⟩:=aD c hg h3;have l:args= #[x,j]:=by apply qar;simpa using h1
 subst l;obtain⟨k,n,rfl,h7⟩:=fA h5;obtain⟨t,i,rfl,m⟩:=fA h7;obtain⟨p,q⟩:=aB m;have:=fD p;subst this;rw[dY]at h4 f;have hd:(execOp a.eval o).run P w=.ok (.value (.int k (if i<n then i else n))) w:=by
  simp[execOp,ho,resolve,invoke,builtin,Builtin.min_,Builtin.min2,h4,f]
 obtain⟨b,d⟩ | ⟨b,d⟩:=aI q
 .rw[fZ]at b;rw[qaj (by simpa using b)]at hd;exact .quiet c d hd rfl
 rw[fZ]at b;rw[qae (by simpa using b)]at hd;exact .quiet c d hd rfl
theorem sV{v:qv}{K:UInt8->Prop}(h:wm v K):∃n:Nat,v=.int .u8 (n:Int)/\n<256/\K (UInt8.ofNat n):=by
 obtain⟨k,n,rfl,h1⟩:=fA h;obtain⟨h2,h3⟩:=aB h1;have:=fD h2;subst this;cases n with
 | ofNat n=>obtain⟨h4,h5⟩:=aB (b:=Nat.blt n 256) h3;exact⟨n,rfl,aG.1 h4,h5⟩
 | negSucc n=>exact h3.elim
theorem kX:∀{l us:qV}{K:List UInt8->Prop},aO X l us->bytes l K->∃c,K c/\us=c.map (λb=>Value.int .u8 b.toNat):=by
 intro l;induction l with
 | nil=>intro us K hl h;rw[aW]at hl;subst hl;exact⟨[],h,rfl⟩
 | cons v l d=>intro us K hl h;obtain⟨n,rfl,h1,h2⟩:=sV (K:=λb=>bytes l (λc=>K (b::c))) h;obtain⟨u,us,rfl,h3,h4⟩:=dK.1 hl;obtain⟨c,h5,rfl⟩:=d h4 h2;rw[dY]at h3;refine⟨_,h5,?_⟩;subst h3;simp only[List.map_cons,UInt8.toNat_ofNat'];rw[Nat.mod_eq_of_lt h1]
theorem mX:∀{l:List UInt8}{K:qV->Prop},uE l K->K (l.map (λb=>Value.int .u8 b.toNat)):=by
 intro l;induction l with
 | nil=>intro K h;exact h
 | cons b l c=>intro K h;have h1:=aK (K:=λn=>uE l (λd=>K (.int .u8 (.ofNat n)::d))) h;exact c h1
theorem nT{t:qT}(h:eT P t=true):∃e,P.underlying t=some (.slice e)/\P.underlying e=some (.int .u8):=by
 unfold eT at h;split at h
 .split at h
  .exact⟨_,dG ‹_›,‹_›⟩
  cases h
 cases h
theorem fold_push:∀(d:List UInt8)(c:ByteArray),(d.map λb=>(b.toNat:Int)).foldl (λr n=>r.push (UInt8.ofNat n.toNat)) c=⟨⟨c.data.toList++d⟩⟩
 | [],c=>by simp
 | b::d,c=>by
  simp only[List.map_cons,List.foldl_cons,Int.toNat_natCast,UInt8.ofNat_toNat];rw[fold_push d (c.push b)];simp
theorem lG(r:bn P X.ρ T)(m:Rel X s w){id off len c:Nat}{K:KV}(h:mO T s.h id off len K):
  ∃v d,K v/\(Conv.bytesToString (.slice (some ⟨(X.j id).b,(X.j id).base+off,none⟩) len c)).run P w=.ok (.string ⟨⟨d⟩⟩) w/\VR X v (.string ⟨⟨d⟩⟩):=by
 obtain⟨n,h1,h2⟩:=dO h;obtain⟨l,h3,h4,h5⟩:=dH len h2;have hc:CR X w (X.j id) n:=(m.blk id _ h1).2;obtain⟨us,f,h7⟩:=hc.cells (l:=l) (i:=off) (by rw[h3];exact h4);have p:us.length=len:=by rw[f.length,h3]
 have k:=bG (P:=P) h7;have key:∀d:List UInt8,us=d.map (λb=>Value.int .u8 b.toNat)->(Conv.bytesToString (.slice (some ⟨(X.j id).b,(X.j id).base+off,none⟩) len c)).run P w=.ok (.string ⟨⟨d⟩⟩) w:=λd q=>by
  rw[p,q]at k;rw[run_bytesToString w _ len c (d.map λb=>(b.toNat:Int)) (by rw[k];simp[Function.comp_def])];rw[fold_push];simp
 obtain⟨_,h5⟩ | ⟨_,h5⟩:=aI h5
 .obtain⟨d,h8,h9⟩:=kX f h5;exact⟨_,d,h8,key d h9,bW.2 rfl⟩
 exact h5.elim
theorem sQ(m:bn P X.ρ T)(n:Rel X s w){b f:qT}{v u:qv}{K:KV}(i:VR X v u)(h:nJ P T s.h b f v K):∃j l,K j/\(Go.convert b f u).run P w=.ok l w/\VR X j l:=by
 unfold nJ at h;split at h
 .obtain⟨k,h1,h2⟩:=aH h;obtain⟨h3,h4⟩:=aB h2;obtain⟨d,h5⟩:=fB h3;cases i;refine⟨_,_,jv h4,?_,rfl⟩;simp only[Go.convert,qad,aA h5,aA (ji h1),Result.andThen,Conv.intToInt];rfl
 .rename_i id off sp len cap;obtain⟨h1,h2⟩:=aB h;simp only[qab]at h1;obtain⟨p,h3,h4⟩:=nT h1.1;cases sp with
  | none=>exact i.elim
  | some sz=>obtain⟨_,_,c,h5,_⟩:=aT.1 i;subst h5;obtain⟨j,t,q,h7,r⟩:=lG (P:=P) (c:=c) m n h2;refine⟨_,_,q,?_,r⟩;rw[run_convert_bytes_string w b f p _ _ _ h3 h4 (cz h1.2)];exact h7
 exact h.elim
theorem kF(c:Rel X s w)(hg:GR X g a):∀{l:List (Nat×Operand)} {K:List (Nat×Value)->Prop},parts l g K->∃b:List (Nat×Value),K b/\b.map (·.1)=l.map (·.1)/\aO X (b.map (·.2)) (l.map (λp=>a.eval p.2)):=by
 intro l;induction l with
 | nil=>intro K h;exact⟨[],h,rfl,rfl⟩
 | cons x l d=>intro K h;obtain⟨v,h1,h2⟩:=aD c hg (K:=λv=>parts l g (λb=>K ((x.1,v)::b))) h;obtain⟨b,h3,h4,h5⟩:=d h1;exact⟨(x.1,v)::b,h3,by simp[h4],_,_,rfl,h2,h5⟩
theorem bK{v u:qv}(h:VR X v u):aO X (cellsOf v) u.cells.toList:=by
 cases v with
 | agg cs=>obtain⟨cs⟩:=cs;obtain⟨c,rfl,h2⟩:=fe.1 h;exact h2
 | tuple cs=>obtain⟨cs⟩:=cs;obtain⟨c,rfl,h2⟩:=bE.1 h;exact⟨_,_,rfl,h,rfl⟩
 | _=>have h1:=h.one rfl;refine⟨u,[],?_,h,rfl⟩;cases u<;>first | rfl | cases h1
theorem iU{b:Type}:∀(l:List b)(i:Nat)(v:b),i<l.length->(l.set i v).take (i+1)=l.take i++[v]
 | _::_,0,_,_=>by simp
 | a::l,i+1,v,h=>by simpa using iU l i v (by simpa using h)
theorem jd{b:Type}:∀(l:List b)(i j:Nat)(v:b),i<j->(l.set i v).drop j=l.drop j
 | [],_,_,_,_=>by simp
 | _::_,0,j+1,_,_=>by simp
 | a::l,i+1,j+1,v,h=>by simpa using jd l i j v (by omega)
theorem foldl_set:∀(b:qV)(cs:Array qv)(k off:Nat),off+k+b.length<=cs.size->((b.zipIdx k).foldl (λcs (p:Value×Nat)=>cs.setIfInBounds (off+p.2) p.1) cs).toList=cs.toList.take (off+k)++b++cs.toList.drop (off+k+b.length)
 | [],cs,k,off,_=>by simp
 | v::b,cs,k,off,h=>by
  simp only[List.zipIdx_cons,List.foldl_cons];simp only[qbc]at h;rw[foldl_set b (cs.setIfInBounds (off+k) v) (k+1) off (by simp;omega)];simp only[Array.toList_setIfInBounds,qbc];rw[<-qbi,iU _ _ _ (by simpa using (by omega:off+k<cs.size)),jd _ _ _ _ (by omega)];simp[qbi,Nat.add_comm 1]
theorem lC(b:Array qv)(cs:Array qv)(off:Nat):b.zipIdx.foldl (λcs (p:Value×Nat)=>cs.setIfInBounds (off+p.2) p.1) cs=(b.toList.zipIdx.foldl (λcs (p:Value×Nat)=>cs.setIfInBounds (off+p.2) p.1) cs):=by
 rw[<-Array.foldl_toList];simp
theorem jI{d:Nat->Option (Nat×Nat)}:∀{l:List (Nat×Value)} {us:qV} {cs:qV} {ds:Array qv} {K:qV->Prop},aO X (l.map (·.2)) us->aO X cs ds.toList->fill l d cs K->
  ∃b c,K b/\aO X b c.toList/\Instr.fill d ds ((l.map (·.1)).zip us)=some c/\b.length=cs.length:=by
 intro l;induction l with
 | nil=>intro us cs ds K hl hc h;rw[List.map_nil,aW]at hl;subst hl;exact⟨cs,ds,h,hc,rfl,rfl⟩
 | cons p l k=>
  intro us cs ds K hl hc h;obtain⟨u,us,rfl,h1,h2⟩:=dK.1 hl;obtain⟨q,h3,h4⟩:=aH (x:=d p.1) h;obtain⟨h5,m⟩:=aB h4;have h7:=qaa h5;obtain⟨F,n⟩:=jY m;obtain⟨r,t⟩:=kW n;have v:=di t;have f:=di v;have i:=bK h1;have j:=i.length;have y:=hc.length;simp only[Array.length_toList]at j y;have z:Nat.add q.1 q.2=q.1+q.2:=rfl;rw[z]at r f;have A:(u.cells.zipIdx.foldl (λcs (p:Value×Nat)=>cs.setIfInBounds (q.1+p.2) p.1) ds).toList=ds.toList.take q.1++u.cells.toList++ds.toList.drop (q.1+q.2):=by
   rw[lC,foldl_set _ _ 0 _ (by simp;omega)];simp only[Nat.add_zero,Array.length_toList];rw[j,h7]
  obtain⟨b,c,B,C,D,E⟩:=k h2 (ds:=u.cells.zipIdx.foldl (λcs (p:Value×Nat)=>cs.setIfInBounds (q.1+p.2) p.1) ds) (by
   rw[A,List.append_assoc];exact(hc.take _).append (i.append (hc.drop _))) f
  refine⟨b,c,B,C,?_,?_⟩
  .simp only[List.map_cons,List.zip_cons_cons,Instr.fill,h3];rw[qae]
   .exact D
   simp only[qal,decide_eq_true_eq,ne_eq,not_or,Decidable.not_not];exact⟨by omega,by omega⟩
  rw[E];simp;omega
theorem nI(f:bn P X.ρ T)(b:Rel X s w){c d:qT}{x:qg}(ho:o.op=.convert c d x){v:qv}(i:VR X v (a.eval x))(h:nJ P T s.h c d v (λv=>K v s)):aP P o a X s w K:=by
 obtain⟨k,j,h1,h2,h3⟩:=sQ (P:=P) f b i h;exact .quiet b h1 (u:=j) (by simp[execOp,ho,h2]) h3
theorem fo{t:qT}{b:qv}(h:zeroV P t=some b):∃i,P.info? t=some i/\i.zero=some b/\plain b=true:=by
 unfold zeroV at h;split at h
 .split at h
  .rename_i v hz;cases hp:plain v<;>rw[hp]at h
   .cases h
   cases h;exact⟨_,‹_›,hz,hp⟩
  cases h
 cases h
theorem bV{t:qT}{b:qv}(h:zeroV P t=some b):(zeroValue t).run P w=.ok b w:=by
 obtain⟨i,h1,h2,_⟩:=fo h;simp[zeroValue,aN h1,h2]
theorem bH{t:qT}{b:qv}(X:Cx)(h:zeroV P t=some b):VR X b b:=kE X (fo h).choose_spec.2.2
theorem lS:∀{b:List Field}{c:List (Nat×Nat)},places P b=some c->(b.mapM (m:=Sem) λf=>do pure (f.offset,<-Go.sizeOf f.type)).run P w=.ok c w:=by
 intro b;induction b with
 | nil=>intro c h;cases h;rfl
 | cons f b d=>
  intro c h;unfold places at h;split at h
  .split at h
   .cases h;have h1:=aM (w:=w) ‹sizeOf P f.type=_›;have h2:=d ‹_›;simp only[List.mapM_cons,qad,h1,Result.andThen,qaz,h2]
   cases h
  cases h
theorem iT(l:List (Nat×Operand))(f:qg->qv):(l.map (·.1)).zip (l.map (λp=>f p.2))=l.map (λp=>(p.1,f p.2)):=by
 induction l with
 | nil=>rfl
 | cons p l b=>simp[b]
theorem kY(j:Rel X s w)(hg:GR X g a){t:qT}{b:Array (Nat×Operand)}(ho:o.op=.build t b)(h:jE t b P T e s g K):aP P o a X s w K:=by
 obtain⟨B,h1,h2,h3⟩:=kF j hg h;obtain⟨y,h4,h5⟩:=aH h1;have z:=bK (bH X h4);have A:(b.map λ(p:Nat×Operand)=>(p.1,a.eval p.2)).toList=(B.map (·.1)).zip (b.toList.map λp=>a.eval p.2):=by
  rw[h2,iT];simp
 cases hp:placesOf P t with
 | none=>
  rw[hp]at h5;obtain⟨D,k,h7⟩:=aH h5;obtain⟨sz,l,n⟩:=aH h7;obtain⟨C,c,q,r,v,_⟩:=jI h3 z n;refine .quiet j q (u:=.agg c) ?_ (fe.2 ⟨_,rfl,r⟩);have x:Instr.fill (λi=>some (i*sz,sz)) y.cells (b.map λ(p:Nat×Operand)=>(p.1,a.eval p.2)).toList=some c:=by rw[A];exact v
  simp only[execOp,ho,Instr.build,qad,bV h4,aA (iL k),aM l,Result.andThen,x];rfl
 | some d=>
  rw[hp]at h5;obtain⟨C,c,q,r,v,_⟩:=jI h3 z h5;refine .quiet j q (u:=.agg c) ?_ (fe.2 ⟨_,rfl,r⟩);unfold placesOf at hp;split at hp
  .obtain⟨fs,k,h7⟩:=gm ‹_›;rw[<-k]at hp;have l:=lS (w:=w) hp;have n:(fs.mapM (m:=Sem) λf=>do pure (f.offset,<-Go.sizeOf f.type)).run P w=.ok d.toArray w:=by
    rw[Array.mapM_eq_mapM_toList,Sem.run_map,l];rfl
   have x:Instr.fill (λi=>d.toArray[i]?) y.cells (b.map λ(p:Nat×Operand)=>(p.1,a.eval p.2)).toList=some c:=by
    rw[A];have:(λi=>d.toArray[i]?)=wV d:=by funext i;simp[wV]
    rw[this];exact v
   simp only[execOp,ho,Instr.build,qad,bV h4,aA h7,Result.andThen,n,x];rfl
  cases hp
theorem kL{k p f:qv}{K:Bool->Prop}{t:qT}{d:TypeDesc}(c:eP P t k=true)(hd:P.underlying t=some d)(hp:VR X p f)(h:rW k p K):∃b,K b/\Instr.sameNow d k f=some b:=by
 obtain⟨i,x,rfl,h1⟩ | ⟨l,rfl,h1⟩ | h1:=jf h
 .obtain⟨ky,y,rfl,h2⟩:=fA h1;obtain⟨h3,h4⟩:=aB h2;have:=fD h3;subst this;cases hp;refine⟨_,sW h4,?_⟩;simp only[eP]at c;cases h5:jk P t with
  | none=>rw[h5]at c;cases c
  | some j=>have:=ji h5;rw[hd]at this;cases this;simp[Instr.sameNow,l7]
 .obtain⟨l',rfl,h2⟩:=mH h1;cases hp;refine⟨_,lU h2,?_⟩;have:=cz (P:=P) (t:=t) c;rw[hd]at this;cases this;simp only[Instr.sameNow,Option.some.injEq];rw[Bool.eq_iff_iff,MapKept.bytes_beq,beq_iff_eq];constructor
  .intro h;cases h;rfl
  rintro rfl;rfl
 exact h1.elim
theorem sG{k:qv}{t:qT}{d:TypeDesc}(q:eP P t k=true)(hd:P.underlying t=some d):∀{c:List (Value×Value)} {f:List MapEntry} {i:Nat} {K:KV} {l:Prop},ER X c f->sH c k K l->
  (∃v u j,K v/\VR X v u/\Instr.findNow d k f i=some (some (j,u)))\/(l/\Instr.findNow d k f i=some none):=by
 intro c;induction c with
 | nil=>intro f i K l n h;cases n;exact .inr ⟨h,rfl⟩
 | cons p c r=>
  intro f i K l n h;obtain⟨m,f,rfl,h1,h2,h3⟩:=n;obtain⟨b,h4,h5⟩:=kL q hd h1 (K:=λb=>bF b (K p.2) (sH c k K l)) h;simp only[Instr.findNow,h5];cases b with
  | true=>exact .inl ⟨_,_,_,h4,h2,rfl⟩
  | false=>exact r h3 h4
theorem kK{t:qT}{k u:qv}(b:eP P t k=true)(h:VR X k u):u=k:=by
 cases k with
 | int=>exact h
 | string=>exact h
 | _=>cases b
theorem iE{t:qT}{k:qv}(b:eP P t k=true):∃d,P.underlying t=some d/\((∃q,d=.int q)\/d=.string):=by
 cases k with
 | int=>
  simp only[eP]at b;cases h:jk P t with
  | none=>rw[h]at b;cases b
  | some q=>exact⟨_,ji h,.inl ⟨q,rfl⟩⟩
 | string=>exact⟨_,cz b,.inr rfl⟩
 | _=>cases b
theorem fH{t:qT}{k:qv}(c:eP P t k=true){b:Bool}{n:Nat}:(Instr.checkKey b (n+1) t k).run P w=.ok () w:=by
 obtain⟨d,h1,h2⟩:=iE c;rw[Instr.checkKey];simp only[qad,aA h1,Result.andThen];obtain⟨q,rfl⟩ | rfl:=h2<;>rfl
theorem look_ok(f:Rel X s w)(hg:GR X g a){t:qT}{x E:qg}{c:Bool}(ho:o.op=.lookup t x E c)(h:rP t x E c P T e s g K):aP P o a X s w K:=by
 obtain⟨v,h1,h2⟩:=aD f hg h;obtain⟨id,rfl,h3⟩:=mI h1;obtain⟨k,h4,h5⟩:=aD f hg h3;obtain⟨y,J,h7⟩:=aH h4;obtain⟨z,L⟩:=aB h7;obtain⟨b,M,N⟩:=gy L;obtain⟨es,rfl,O⟩:=tC N;obtain⟨aa,A⟩:=jR.1 h2;obtain⟨q,Q,R,S⟩:=(f.blk id _ M).2;obtain⟨d,F,_⟩:=iE z;have B:=kK z h5;have U:(getObj (X.j id).b).run P w=.ok (.map q Q) w:=by simp[getObj,Sem.run,R]
 have V:=fH (w:=w) z (b:=q.isEmpty) (n:=9999);have H:∀r,Instr.findNow d k q.toList 0=some r->(Instr.lookup t (.map (some (X.j id).b)) k c).run P w=
   ((match r with
    | some (_,v)=>(pure (v,true):Sem (Value×Bool))
    | none=>do pure (<-zeroValue y.2,false)).run P w).andThen (λp w=>.ok (if c then .tuple #[p.1,.bool p.2] else p.1) w):=by
  intro r W;have hf:(Instr.findKey y.1 k q.toList).run P w=.ok r w:=by simp[Instr.findKey,aA F,W]
  simp only[Instr.lookup,qad,aA (gI J),Result.andThen,U,qaz];have Y:(Instr.checkKey q.isEmpty 10000 y.1 k).run P w=.ok () w:=V;simp only[Y,hf];cases r with
  | some p=>rfl
  | none=>simp only[qad,qaz];cases(zeroValue y.2).run P w<;>rfl
 obtain⟨v,u,j,C,h19,h20⟩ | ⟨C,h20⟩:=sG (X:=X) z F (i:=0) S O
 .have l:=H _ h20;simp only[qaz,Result.andThen]at l;obtain⟨rfl,m⟩ | ⟨rfl,m⟩:=aI C
  .exact .quiet f m (u:=.tuple #[u,.bool true]) (by simp[execOp,ho,A,B,l]) (bE.2 ⟨_,rfl,_,_,rfl,h19,_,_,rfl,rfl,rfl⟩)
  exact .quiet f m (u:=u) (by simp[execOp,ho,A,B,l]) h19
 have l:=H _ h20;obtain⟨I,D,Z⟩:=aH C;simp only[qad,bV D,qaz,Result.andThen]at l;obtain⟨rfl,m⟩ | ⟨rfl,m⟩:=aI Z
 .exact .quiet f m (u:=.tuple #[I,.bool false]) (by simp[execOp,ho,A,B,l]) (bE.2 ⟨_,rfl,_,_,rfl,bH X D,_,_,rfl,rfl,rfl⟩)
 exact .quiet f m (u:=I) (by simp[execOp,ho,A,B,l]) (bH X D)
theorem heap_setCell{b i:Nat}{cs:Array qv}{ty:qT}{fz:Nat×Nat}(v:qv)(h:w.heap[b]?=some (.cells cs ty fz)):(w.setCell ⟨b,i,none⟩ v).heap[b]?=some (.cells (cs.setIfInBounds i v) ty fz):=by
 have c:=(qaf.1 h).1;simp only[World.setCell];rw[qbf,qaj rfl,h];simp
theorem gD{b k:Nat}(i:Nat)(v:qv)(h:k≠b):(w.setCell ⟨b,i,none⟩ v).heap[k]?=w.heap[k]?:=by
 simp only[World.setCell];rw[qbf,qae (λe=>h e.symm)]
theorem bX:∀{us:qV}{w:qW}{b off i:Nat}{cs:Array qv}{ty:qT}{fz:Nat×Nat},(∀u∈us,u.oneCell'=true)->w.heap[b]?=some (.cells cs ty fz)->off+i+us.length<=cs.size->(∀o,o<cs.size->¬(fz.1<=o/\o<fz.2))->
  ∃w',(storeCells ⟨b,off,none⟩ us i).run P w=.ok () w'/\(w'.os=w.os/\w'.output=w.output)/\w'.heap.size=w.heap.size/\(∀k,k≠b->w'.heap[k]?=w.heap[k]?)/\
   ∃c,w'.heap[b]?=some (.cells c ty fz)/\c.size=cs.size/\∀m,c[m]?=if off+i<=m/\m<off+i+us.length then us[m - (off+i)]? else cs[m]?:=by
 intro us;induction us with
 | nil=>intro w b off i cs ty fz _ h _ _;exact⟨w,rfl,⟨rfl,rfl⟩,rfl,λ_ _=>rfl,cs,h,rfl,λm=>by rw[qae (by simp)]⟩
 | cons u us l=>
  intro w b off i cs ty fz d h hl hf;simp only[qbc]at hl;have n:w.cell? ⟨b,off+i,none⟩=some cs[off+i]:=by
   rw[cell_of_row w b _ cs ty fz h];exact qav (by omega)
  have p:w.frozen? ⟨b,off+i,none⟩=false:=by
   have q:=hf (off+i) (by omega);obtain⟨r,t⟩:=fz;simp only[World.frozen?,h];by_cases h1:r<=off+i
   .by_cases h2:off+i<t
    .exact absurd ⟨h1,h2⟩ q
    simp[h2]
   simp[h1]
  obtain⟨w',h1,lu,h2,h3,c,h4,h5,v⟩:=l (w:=w.setCell ⟨b,off+i,none⟩ u) (b:=b) (off:=off) (i:=i+1) (cs:=cs.setIfInBounds (off+i) u) (ty:=ty) (fz:=fz)
   (λx hx=>d x (qac _ hx)) (heap_setCell u h) (by simp;omega) (by simpa using hf)
  refine⟨w',?_,lu,by rw[h2];simp,λk f=>by rw[h3 k f,gD _ _ f],c,h4,by rw[h5];simp,λm=>?_⟩
  .rw[storeCells];simp only[qad,addr_add,run_store P w _ u .plain (d u (qag ..)),n,p,Result.andThen];exact h1
  rw[v m];simp only[qbc];by_cases j:m=off+i
  .subst j;rw[qae (by omega),qaj (by omega),qas (by omega)];simp
  by_cases h7:off+i<=m/\m<off+i+(us.length+1)
  .rw[qaj (by omega),qaj h7];have:m - (off+i)=(m - (off+(i+1)))+1:=by omega
   rw[this];rfl
  rw[qae (by omega),qae h7,qam (λe=>j e.symm)]
theorem aO.jP:∀{l us:qV},aO X l us->(∀v∈l,one v=true)->∀u∈us,u.oneCell'=true
 | [],_,hl,_=>by rw[aW]at hl;subst hl;simp
 | v::l,_,⟨u,us,h1,h2,h3⟩,ho=>by
  subst h1;intro x hx;obtain rfl | hx:=qan.1 hx
  .have:=VR.one h2 (ho v (qag ..));cases x<;>first | rfl | cases this
  exact aO.jP h3 (λv b=>ho v (qac _ b)) x hx
theorem oN(m:Rel X s w){id off:Nat}{c:CB}{l us:qV}{K:KS}(hc:aC s.h id=some (.inl c))(hl:aO X l us)(h:wr s id c off l K):
  ∃s' w',K s'/\(storeCells ⟨(X.j id).b,(X.j id).base+off,none⟩ us).run P w=.ok () w'/\Rel X s' w'/\Ext X s w X s' w':=by
 obtain⟨h1,h2⟩:=aB h;obtain⟨p,h3,h4,h5⟩:=bT h2;obtain⟨y,z,h7⟩:=bC h5;simp only[qab,qau]at h1;have R:off+l.length<=c.n:=qay h1.2;obtain⟨cs,fz,A,B,C,q,D⟩:=(m.blk id _ hc).2;have S:=hl.length;obtain⟨w',E,lu,F,H,I,J,r,L⟩:=bX (P:=P) (w:=w) (b:=(X.j id).b) (off:=(X.j id).base+off) (i:=0) (cs:=cs) (ty:=c.ty) (fz:=fz) (hl.jP h4) A (by omega) (q h1.1);obtain⟨M,N⟩:=m.upd (w':=w') hc (by simp[yh,h1.1]) z H F (lu:=lu) (b':=.inl ⟨p,c.d,c.n,c.ty,false⟩) (by
  refine⟨I,fz,J,B,by rw[r];exact C,λ_=>by rw[r];exact q h1.1,λi v f=>?_⟩;have t:i<c.n:=by
   unfold bO at f;split at f
   .assumption
   cases f
  have k:(match aC p i with | some v=>some v | none=>c.d)=some v:=by
   unfold bO at f;rw[qaj t]at f;exact f
  rw[h3 i]at k;rw[L];by_cases x:off<=i/\i<off+l.length
  .rw[qaj x]at k;have hx:l[i - off]?=some l[i - off]:=qak (by omega);rw[hx]at k;cases k;obtain⟨u,O,Q⟩:=hl.get hx;rw[qaj (by omega)];refine⟨h4 _ (qbb _),u,?_,Q⟩;rw[<-O];congr 1;omega
  rw[qae x]at k;rw[qae (by omega)];exact D i v (by unfold bO;rw[qaj t];exact k))
 exact⟨⟨y,s.nx⟩,w',h7,E,M,N⟩
theorem nU(d:Rel X s w){t:qT}{id off:Nat}{v u:qv}{K:KS}(f:VR X v u)(h:oZ P s t id off v K):
  ∃s' w',K s'/\(storeVar t ⟨(X.j id).b,(X.j id).base+off,none⟩ u).run P w=.ok () w'/\Rel X s' w'/\Ext X s w X s' w':=by
 obtain⟨c,h1,h2⟩:=dO h;obtain⟨k,h3,h4⟩:=aH h2;obtain⟨h5,i⟩:=aB h4;have h7:=qaa h5;have hc:=bK f;obtain⟨s',w',l,m,n,p⟩:=oN (P:=P) d h1 hc i;refine⟨s',w',l,?_,n,p⟩;have q:u.cells.size=k:=by rw[<-h7,<-hc.length];simp
 simp[storeVar,aM h3,q,m]
theorem oW(b:Rel X s w)(hg:GR X g a){t:qT}{x c:qg}(ho:o.op=.store t x c)(h:rH t x c P T e s g K):aP P o a X s w K:=by
 obtain⟨v,h1,h2⟩:=aD b hg h;obtain⟨id,off,rfl,h3⟩:=fu h1;obtain⟨v,h4,h5⟩:=aD b hg h3;obtain⟨_,d⟩:=bf.1 h2;obtain⟨s',w',h7,f,i,j⟩:=nU (P:=P) b h5 h4;exact⟨_,s',X,undef,w',h7,.inr ⟨by simp[execOp,ho,Instr.storeAt,Instr.sureAddr,d,f],rfl⟩,i,j,bE.2 ⟨_,rfl,rfl⟩⟩
theorem jy(d:Rel X s w){ty:qT}{l:qV}{us rest:qV}{K:KS}(hl:aO X l us)(h:oh s ty l K):
  ∃s' lim,K s'/\Rel (X.put ⟨w.heap.size,0,lim⟩) s' (w.alloc (.cells (us++rest).toArray ty))/\Ext X s w (X.put ⟨w.heap.size,0,lim⟩) s' (w.alloc (.cells (us++rest).toArray ty))/\lim=us.length+rest.length:=by
 obtain⟨f,h1,h2,h3⟩:=bT h;have h3:=aK h3;obtain⟨p,h4,h5⟩:=bC h3;have h5:=aK h5;have q:=hl.length;obtain⟨j,k⟩:=d.new (o:=.cells (us++rest).toArray ty) (L:=⟨w.heap.size,0,us.length+rest.length⟩) rfl h4 (b:=.inl ⟨f,none,l.length,ty,false⟩) (by
  refine⟨(us++rest).toArray,(0,0),heap_alloc_new w _,by simp;omega,by simp,λ_ o _=>by simp,λi v c=>?_⟩;unfold bO at c;split at c
  .rename_i hi';have m:i<l.length:=hi';rw[h1 i,qaj (by omega)]at c;simp only[Nat.sub_zero]at c;have hx:l[i]?=some l[i]:=qak m;rw[hx]at c;cases c;obtain⟨u,n,h7⟩:=hl.get hx;refine⟨h2 _ (qbb _),u,?_,VR.mono (X.bD _) h7⟩;simp only[qbj,List.getElem?_toArray];rw[qba (by omega)];exact n
  cases c)
 exact⟨_,_,h5,j,k,rfl⟩
theorem mZ(b:Rel X s w){ty:qT}{l:qV}{us:qV}(hl:aO X l us)(h:wX s ty l K)(hd:(execOp a.eval o).run P w=.ok (.value (.pointer (some ⟨w.heap.size,0,none⟩))) (w.alloc (.cells us.toArray ty))):aP P o a X s w K:=by
 obtain⟨s',lim,h1,h2,h3,_⟩:=jy b (rest:=[]) hl h;rw[List.append_nil]at h2 h3;refine⟨_,s',_,_,_,h1,.inl hd,h2,h3,bf.2 ⟨?_,?_⟩⟩
 .rw[<-b.nx];simp[Cx.put]
 rw[<-b.nx,X.aQ]
theorem tF(b:Rel X s w){t:qT}(ho:o.op=.alloc t)(h:l5 t P T e s g K):aP P o a X s w K:=by
 obtain⟨c,h1,h2⟩:=aH h;refine mZ b (bK (bH X h1)) h2 ?_;simp[execOp,ho,Instr.alloc,bV h1,newVar,newRow]
theorem xM(b:Rel X s w)(hg:GR X g a){t:qT}{x:qg}(ho:o.op=.box t x)(h:yJ t x P T e s g K):aP P o a X s w K:=by
 obtain⟨v,h1,h2⟩:=aD b hg h;refine mZ b (bK h2) h1 ?_;simp[execOp,ho,Instr.box,newVar,newRow]
end
def dV:Nat->List Value->List Value
 | 0,_=>[]
 | n+1,l=>l++dV n l
theorem wO:∀{n:Nat}{l:qV}{K:qV->Prop},rep n l K->K (dV n l):=by
 intro n;induction n with
 | zero=>intro l K h;exact h
 | succ n b=>intro l K h;exact di (b (K:=λr=>iR l r K) h)
theorem dU:∀(n:Nat)(l:qV),(dV n l).length=n*l.length
 | 0,_=>by simp[dV]
 | n+1,l=>by simp[dV,dU n l,Nat.succ_mul,Nat.add_comm]
theorem kz:∀(n:Nat)(l:qV)(i:Nat),i<n*l.length->(dV n l)[i]?=l[i%l.length]?
 | 0,_,_,h=>by simp at h
 | n+1,l,i,h=>by
  simp only[dV];by_cases b:i<l.length
  .rw[qba b,Nat.mod_eq_of_lt b]
  rw[List.getElem?_append_right (by omega),kz n l _ (by rw[Nat.succ_mul]at h;omega)];rw[<-Nat.mod_eq_sub_mod (by omega)]
theorem iW(b:Array qv)(len:Nat)(d:0<b.size):((Array.range (len*b.size)).map (λi=>b[i%b.size]!)).toList=dV len b.toList:=by
 apply List.ext_getElem?;intro i;by_cases c:i<len*b.size
 .rw[kz _ _ _ (by simpa using c)];have:=Nat.mod_lt i d;simp[c,this]
 rw[qbe (by simpa using c),qbe (by rw[dU];simpa using c)]
section
variable {P:qp}{T:Tab}{e:Env}{X:Cx}{s:AS}{w:qW}{a:Act}{g:G}{o:Oper}{K:bR}
theorem aO.dV{l us:qV}(h:aO X l us):∀n,aO X (dV n l) (Zev.dV n us)
 | 0=>rfl
 | n+1=>h.append (aO.dV h n)
theorem eF{b:AB}{K:KS}(h:iP s b K):∃c,Put s.h c s.nx (some b)/\K ⟨c,Nat.succ s.nx⟩:=by
 obtain⟨c,h1,h2⟩:=bC h;exact⟨c,h1,aK h2⟩
theorem fC(b:Rel X s w){lim sz len cap:Nat}(hs:0<sz)(h1:len<=cap)(h2:cap*sz<=lim){k:Nat}(c:0<k->k=cap+1):VR (X.put ⟨w.heap.size,0,lim⟩) (mkS s.nx 0 sz len k) (.slice (some ⟨w.heap.size,0,none⟩) len cap):=by
 refine aT.2 ⟨?_,hs,cap,?_,h1,?_,c⟩
 .rw[<-b.nx];simp[Cx.put]
 .rw[<-b.nx,X.aQ]
 rw[<-b.nx,X.aQ];simpa using h2
theorem oJ(j:Rel X s w)(hg:GR X g a){t:qT}{len:Nat}{b:Array (Nat×Operand)}(ho:o.op=.buildSlice t len b)(h:rV t len b P T e s g K):aP P o a X s w K:=by
 obtain⟨O,h1,h2⟩:=aH h;obtain⟨x,h3,h4,h5⟩:=kF j hg h2;obtain⟨sz,y,h7⟩:=aH h3;obtain⟨d,k,z⟩:=aH h7;obtain⟨f,A⟩:=aB z;simp only[qab]at f;have l:(cellsOf d).length=sz:=qaa f.1.1;have Q:len*sz<=16777216:=qay f.1.2;have hp:0<len*sz:=aG.1 f.2;have B:0<sz:=Nat.pos_of_ne_zero λc=>by subst c;simp at hp
 have C:=wO A;have m:=bK (bH X k);have n:d.cells.size=sz:=by rw[<-l,<-m.length];simp
 have q:=m.dV len;rw[<-iW d.cells len (by omega),n]at q;obtain⟨R,D,E,r,F,H⟩:=jI h5 q C;obtain⟨s',lim,I,u,v,J⟩:=jy j (rest:=[]) r E;rw[List.append_nil]at u v;refine⟨_,s',_,.slice (some ⟨w.heap.size,0,none⟩) len len,_,I,.inl ?_,u,v,fC j B (qbd _) ?_ (λ_=>rfl)⟩
 .have hps:(b.map λ(p:Nat×Operand)=>(p.1,a.eval p.2)).toList=(x.map (·.1)).zip (b.toList.map λp=>a.eval p.2):=by
   rw[h4,iT];simp
  have L:Instr.fill (λi=>some (i*sz,sz)) ((Array.range (len*sz)).map (λi=>d.cells[i%sz]!)) (b.map λ(p:Nat×Operand)=>(p.1,a.eval p.2)).toList=some D:=by rw[hps];exact F
  have M:¬len*sz>2 ^ 24:=by omega
  have N:¬len*sz=0:=by omega
  simp only[execOp,ho,Instr.buildSlice,qad,aA (dG h1),aM y,Result.andThen,M,if_false,N,bV k,qaz,n,L,newRow,run_newObj];simp
 rw[J,r.length,H,dU,l];simp
theorem map_ok(c:Rel X s w)(hg:GR X g a){t:qT}{r:Option qg}(ho:o.op=.makeMap t r)(h:yG t r P T e s g K):aP P o a X s w K:=by
 have key:rO s K->(execOp a.eval o).run P w=.ok (.value (.map (some w.heap.size))) (w.alloc (.map #[] 0))->aP P o a X s w K:=λh hd=>by
  obtain⟨i,h4,h5⟩:=eF (K:=λs'=>K (.map (some s.nx)) s') h;obtain⟨d,f⟩:=c.new (o:=.map #[] 0) (L:=⟨w.heap.size,0,0⟩) rfl h4 (b:=.inr (.inl [])) ⟨#[],0,heap_alloc_new w _,rfl⟩;exact⟨_,_,_,_,_,h5,.inl hd,d,f,jR.2 ⟨by rw[<-c.nx];simp[Cx.put],by rw[<-c.nx,X.aQ]⟩⟩
 cases r with
 | none=>exact key h (by simp[execOp,ho,Instr.makeMap])
 | some x=>obtain⟨j,h1,h2⟩:=aH h;obtain⟨v,h3,h4⟩:=aD c hg h2;obtain⟨k,n,rfl,h5⟩:=fA h3;rw[dY]at h4;exact key h5 (by simp[execOp,ho,Instr.makeMap,aA (gI h1),h4,asInt,asIntOf])
theorem jl{d:TypeDesc}{k m:qv}(h:Instr.sameNow d k m=some true):Instr.sameBits 10000 m k=true:=by
 unfold Instr.sameNow at h;split at h
 .split at h
  .rename_i e;subst e;simp only[Option.some.injEq,beq_iff_eq]at h;subst h;simp[Instr.sameBits]
  cases h
 .simp only[Option.some.injEq]at h;have:=(MapKept.bytes_beq _ _).1 h;subst this;simp[Instr.sameBits,(MapKept.bytes_beq _ _).2 rfl]
 .simp only[Option.some.injEq,beq_iff_eq]at h;subst h;simp[Instr.sameBits]
 cases h
theorem uf{k v u:qv}{t:qT}{d:TypeDesc}(z:eP P t k=true)(hd:P.underlying t=some d)(x:VR X k k)(y:VR X v u):∀{f:List (Value×Value)} {c:List MapEntry} {i:Nat} {K:List (Value×Value)->Prop},ER X f c->wG f k v K->
  (∃n j q m,K n/\Instr.findNow d k c i=some (some (i+j,q))/\c[j]?=some m/\Instr.sameNow d k m.key=some true/\ER X n (c.modify j λe=>{e with key:=k,val:=u}))\/
  (∃n,K n/\Instr.findNow d k c i=some none/\∀b,ER X n (c++[{key:=k,val:=u,born:=b}])):=by
 intro f;induction f with
 | nil=>intro c i K r h;cases r;exact .inr ⟨_,h,rfl,λb=>⟨_,_,rfl,x,y,rfl⟩⟩
 | cons p f A=>
  intro c i K r h;obtain⟨m,c,rfl,h1,h2,h3⟩:=r;obtain⟨b,h4,h5⟩:=kL z hd h1 (K:=λb=>bF b (K ((k,v)::f)) (wG f k v (λl=>K (p::l)))) h;cases b with
  | true=>refine .inl ⟨_,0,m.val,m,h4,by simp[Instr.findNow,h5],rfl,h5,?_⟩;exact⟨{m with key:=k,val:=u},c,rfl,x,y,h3⟩
  | false=>
   obtain⟨n,j,q,m',h6,h7,h8,h9,h10⟩ | ⟨n,h6,h7,h8⟩:=A (i:=i+1) h3 h4
   .refine .inl ⟨_,j+1,q,m',h6,?_,by simpa using h8,h9,⟨m,_,rfl,h1,h2,h10⟩⟩;simp only[Instr.findNow,h5,h7];congr 3;omega
   refine .inr ⟨_,h6,by simp[Instr.findNow,h5,h7],λb=>⟨m,_,rfl,h1,h2,h8 b⟩⟩
theorem wF(p:Rel X s w)(hg:GR X g a){t:qT}{m k x:qg}(ho:o.op=.mapUpdate t m k x)(h:yE t m k x P T e s g K):aP P o a X s w K:=by
 obtain⟨v,h1,h2⟩:=aD p hg h;obtain⟨id,rfl,h3⟩:=mI h1;obtain⟨c,h4,h5⟩:=aD p hg h3;obtain⟨xv,O,h7⟩:=aD p hg h4;obtain⟨C,H,Q⟩:=aH O;obtain⟨A,R⟩:=aB Q;obtain⟨b,I,S⟩:=gy R;obtain⟨es,rfl,U⟩:=tC S;obtain⟨_,V⟩:=jR.1 h2;obtain⟨l,r,D,W⟩:=(p.blk id _ I).2;obtain⟨d,E,_⟩:=iE A;have J:=kK A h5;have Y:VR X c c:=by rw[J]at h5;exact h5
 have L:(getObj (X.j id).b).run P w=.ok (.map l r) w:=by simp[getObj,Sem.run,D]
 have M:(Instr.checkKey false 10000 C.1 c).run P w=.ok () w:=fH (w:=w) A (b:=false) (n:=9999);have N:∀F,(setObj (X.j id).b F).run P w=.ok () {w with heap:=w.heap.setIfInBounds (X.j id).b F}:=λF=>by simp[setObj,Sem.run,D]
 have Z:=(qaf.1 D).1;have fin:∀f u B,(setB s.h id (.inr (.inl f)) (λh=>K (.tuple #[]) ⟨h,s.nx⟩))->ER X f u.toList->(Instr.mapUpdate t (.map (some (X.j id).b)) c (a.eval x)).run P w=.ok () {w with heap:=w.heap.setIfInBounds (X.j id).b (.map u B)}->aP P o a X s w K:=λf u B hs he hr=>by
  obtain⟨h',y,z⟩:=bC hs;obtain⟨r1,r2⟩:=p.upd (w':={w with heap:=w.heap.setIfInBounds (X.j id).b (.map u B)}) I rfl y (λq hq=>by simp[qam (λe=>hq e.symm)]) (by simp) (b':=.inr (.inl f)) ⟨u,B,by simp[Z],he⟩;exact⟨_,_,X,undef,_,z,.inr ⟨by simp[execOp,ho,V,J,hr],rfl⟩,r1,r2,bE.2 ⟨_,rfl,rfl⟩⟩
 obtain⟨f,j,u0,m',y,z,h21,h22,aa⟩ | ⟨f,y,z,h21⟩:=uf (X:=X) A E Y h7 (i:=0) W U
 .refine fin f (l.modify j λe=>{e with key:=c,val:=a.eval x}) r y (by simpa using aa) ?_;have hf:(Instr.findKey C.1 c l.toList).run P w=.ok (some (0+j,u0)) w:=by simp only[Instr.findKey,qad,aA E,Result.andThen,z];rfl
  have hm:l[j]?=some m':=by simpa using h21
  simp only[Instr.mapUpdate,qad,aA (gI H),Result.andThen,L,M,hf,qbj,hm,Option.map_some,Option.getD_some,Instr.keyThatStays,jl h22,if_true,qaz,N]
 refine fin f (l.push {key:=c,val:=a.eval x,born:=r}) (r+1) y (by simpa using h21 r) ?_;have hf:(Instr.findKey C.1 c l.toList).run P w=.ok none w:=by simp only[Instr.findKey,qad,aA E,Result.andThen,z];rfl
 simp only[Instr.mapUpdate,qad,aA (gI H),Result.andThen,L,M,hf,N]
structure Src(P:Program)(w:World)(t' el:TypeId)(i:TypeInfo)(y:Value)(m:Nat)(us:List Value):Prop where
 run:∀(ts:Array TypeId)(ty:TypeId)(t:TypeId)(base:Option Addr)(sLen sCap:Nat),ts[0]?=some t->ts[1]?=some t'->P.underlying t=some (.slice el)->P.info? el=some i->
  (sLen+m<=sCap->(Builtin.append_ ts ty #[.slice base sLen sCap,y]).run P w=(((match base with | some a=>storeCells (a.add (sLen*i.size)) us | none=>pure ():Sem Unit)).run P w).andThen λ_ w'=>.ok (.slice base (sLen+m) sCap) w')/\
  (¬sLen+m<=sCap->((sLen+m:Nat):Int)<=9223372036854775807->Builtin.nextslicecap (sLen+m) sCap*i.bytes<=281474976710656->∀z,i.zero=some z->∀olds:List Value,(Builtin.firstCells i.size sLen (.slice base sLen sCap)).run P w.drew=.ok olds.toArray w.drew->
   (Builtin.append_ ts ty #[.slice base sLen sCap,y]).run P w=.ok (.slice (some ⟨w.heap.size,0,none⟩) (sLen+m) (grownCap w (sLen+m) sCap el))
    (w.drew.alloc (.cells (olds.toArray++us.toArray++Builtin.zeroCells z.cells (grownCap w (sLen+m) sCap el - (sLen+m))) el)))
theorem nV{c f:qT}{i:TypeInfo}{d:TypeDesc}{b:qv}{m:Nat}{us:qV}(hd:P.underlying c=some d)(hn:∀k,d≠.int k)(l:(Builtin.lenOf b).run P w=.ok m w)
  (hc:(Builtin.firstCells i.size m b).run P w=.ok us.toArray w) (u:(Builtin.firstCells i.size m b).run P w.drew=.ok us.toArray w.drew):Src P w c f i b m us:=by
 have n:((underlying c:Sem TypeDesc).run P w)=.ok d w:=aA hd;refine⟨λts ty t base p v h0 h1 q r=>⟨λh=>?_,λh B C D x E y=>?_⟩⟩
 .have j:((underlying t:Sem TypeDesc).run P w)=.ok (.slice f) w:=aA q;simp[Builtin.append_,h0,h1,j,Go.sizeOf,aN r,n,l,h,hc];cases base<;>simp
 have j:((underlying t:Sem TypeDesc).run P w)=.ok (.slice f) w:=aA q;have z:¬(281474976710656<Builtin.nextslicecap (p+m) v*i.bytes):=by omega
 have A:¬(9223372036854775807<((p:Int)+(m:Int))):=by omega
 simp[Builtin.append_,h0,h1,j,Go.sizeOf,aN r,n,l,h,u,y,A,z,zeroValue,x,Question.forced,newRow,grownCap];congr 2
 apply qar;simp[List.append_assoc]
end
def oM(len:Nat):Option Nat->Nat
 | none=>len
 | some n=>Nat.min len n
theorem ni{len:Nat}{m:Option Nat}{K:Nat->Prop}(h:most len m K):K (oM len m):=by
 cases m with
 | none=>exact h
 | some n=>
  obtain⟨e,h1⟩ | ⟨e,h1⟩:=aI h
  .have:=qay e;simp only[oM];rw[show Nat.min len n=len from Nat.min_eq_left this];exact h1
  have:¬len<=n:=λc=>by rw[Nat.ble_eq_true_of_le c]at e;cases e
  simp only[oM];rw[show Nat.min len n=n from Nat.min_eq_right (by omega)];exact h1
section
variable {P:qp}{T:Tab}{e:Env}{X:Cx}{s:AS}{w:qW}{a:Act}{g:G}{o:Oper}{K:bR}
theorem oF{w w':qW}{a:Addr}(h:w'.heap=w.heap):w'.cell? a=w.cell? a:=by simp[World.cell?,h]
theorem gJ(A:Rel X s w){sz:Nat}{m:Option Nat}{x u:qv}{K:Nat->qV->Prop}(k:VR X x u)(h:o7 s sz m x K):
  ∃l us len,K (oM len m) l/\aO X l us/\(∀w',(Builtin.lenOf u).run P w'=.ok len w')/\(∀w',w'.heap=w.heap->(Builtin.firstCells sz (oM len m) u).run P w'=.ok us.toArray w')/\l.length=oM len m*sz:=by
 have h0:oM 0 m=0:=by cases m with | none=>rfl | some n=>exact Nat.min_eq_left (Nat.zero_le _)
 obtain⟨id,off,J,len,cap,rfl,d⟩ | ⟨n,c,rfl,d⟩ | ⟨id,off,rfl,d⟩ | ⟨q,rfl,d⟩ | ⟨_,rfl,d⟩ | ⟨_,_,_,_,_,_,rfl,d⟩:=cu h
 .have h7:=ni d;obtain⟨r,t⟩:=aB h7;have:=qaa r;subst this;obtain⟨c,y,v⟩:=dO t;obtain⟨l,f,B,C⟩:=dH _ v;obtain⟨_,_,M,rfl,_⟩:=aT.1 k;have hc:CR X w (X.j id) c:=(A.blk id _ y).2;obtain⟨us,z,D⟩:=hc.cells (l:=l) (i:=off) (by rw[f];exact B);have hl:us.length=oM len m*sz:=by rw[z.length,f];rfl
  refine⟨l,us,len,C,z,λw'=>by simp[Builtin.lenOf],λw' E=>?_,f⟩;have:=bG (P:=P) (w:=w') (us:=us) (L:=X.j id) (i:=off) (λm u F=>by rw[oF E];exact D m u F);rw[hl]at this;simp only[Builtin.firstCells];exact this
 .obtain⟨_,_,rfl⟩:=bY.1 k;refine⟨[],[],0,by rw[h0];exact d,rfl,λw'=>by simp[Builtin.lenOf],λw' _=>by simp[Builtin.firstCells],by rw[h0];simp⟩
 .exact d.elim
 .have h7:=ni d;obtain⟨r,t⟩:=aB h7;have:=qaa r;subst this;obtain⟨y,v⟩:=mJ t;have f:=mX v;have f:=aK f;rw[bW]at k;subst k;have H:∀l:List UInt8,aO X (l.map (λb=>Value.int .u8 b.toNat)) (l.map (λb=>Value.int .u8 b.toNat)):=λl=>by
   induction l with
   | nil=>rfl
   | cons b l I=>exact⟨_,_,rfl,rfl,I⟩
  refine⟨_,_,q.length,f,H _,λw'=>by simp[Builtin.lenOf];rfl,λw' _=>?_,by simp;omega⟩;simp only[Builtin.firstCells];have:((⟨⟨q⟩⟩:ByteArray).extract 0 (oM q.length m)).data.map (λb=>Value.int .u8 b.toNat)=((q.take (oM q.length m)).map (λb=>Value.int .u8 b.toNat)).toArray:=by
   apply qar;simp[ByteArray.data_extract,List.extract]
  rw[this];rfl
 .exact d.elim
 obtain⟨p,n,rfl⟩:=tK.1 k;refine⟨[],[],0,by rw[h0];exact d,rfl,λw'=>by simp[Builtin.lenOf],λw' _=>?_,by rw[h0];simp⟩;rw[h0];simp[Builtin.firstCells,loadCells,loadCellsFrom]
theorem CR.old{L:Loc}{c:CB}(h:CR X w L c){off n:Nat}(hn:off+n<=c.n):∃d:qV,d.length=n/\(∀m u,d[m]?=some u->w.cell? ⟨L.b,L.base+off+m,none⟩=some u)/\∀i v,i<n->bO c (off+i)=some v->one v=true/\∃u,d[i]?=some u/\VR X v u:=by
 obtain⟨cs,fz,h1,h2,h3,_,h5⟩:=h;refine⟨(cs.toList.drop (L.base+off)).take n,by simp;omega,λm u f=>?_,λi v j k=>?_⟩
 .rw[cell_of_row w L.b _ cs c.ty fz h1];have l:m<n:=by
   have:=(qax.1 f).1;simp at this;omega
  rw[List.getElem?_take_of_lt l,List.getElem?_drop]at f;simpa using f
 obtain⟨p,u,h7,q⟩:=h5 _ _ k;refine⟨p,u,?_,q⟩;rw[List.getElem?_take_of_lt j,List.getElem?_drop];rw[qbi];simpa using h7
def Grown(c:CB)(off n:Nat)(new:List Value)(vs:TV):Prop:=
 ∀i v,i<n+new.length->(match aC vs i with | some v=>some v | none=>c.d)=some v->(i<n/\bO c (off+i)=some v)\/(n<=i/\new[i - n]?=some v/\one v=true)
theorem r9{c:CB}{off n:Nat}{d:qV}{K:TV->Prop}(hn:off+n<=c.n)
  (h:bF (Nat.beq off 0) (ku d c.vs n K) (cells n c off (λj=>iR j d (λl=>ku l .nil 0 K)))):∃f,Grown c off n d f/\K f:=by
 obtain⟨e,h1⟩ | ⟨e,h1⟩:=aI h
 .have:=qaa e;subst this;obtain⟨f,h2,h3,h4⟩:=bT h1;refine⟨f,λi v m b=>?_,h4⟩;rw[h2 i]at b;by_cases k:n<=i
  .rw[qaj ⟨k,m⟩]at b;have hx:d[i - n]?=some d[i - n]:=qak (by omega);rw[hx]at b;cases b;exact .inr ⟨k,hx,h3 _ (qbb _)⟩
  rw[qae (by omega)]at b;exact .inl ⟨by omega,by unfold bO;rw[qbj,qaj (by omega)];exact b⟩
 obtain⟨j,h2,h3,h4⟩:=dH n h1;have h5:=di h4;obtain⟨f,p,h7,q⟩:=bT h5;refine⟨f,λi v m b=>?_,q⟩;rw[p i,qaj ⟨by omega,by simp;omega⟩]at b;have r:i<(j++d).length:=by simp;omega
 have hx:(j++d)[i]?=some (j++d)[i]:=qak r;rw[Nat.sub_zero,hx]at b;cases b;by_cases k:n<=i
 .refine .inr ⟨k,?_,h7 _ (qbb _)⟩;rw[List.getElem?_append_right (by omega),h2]at hx;exact hx
 refine .inl ⟨by omega,?_⟩;rw[<-h3 i (by omega),<-hx,qba (by omega)]
theorem l9{c:CB}{off n:Nat}{f us h:qV}{j:TV}(hg:Grown c off n f j)(hl:aO X f us)(k:h.length=n)(l:∀i v,i<n->bO c (off+i)=some v->one v=true/\∃u,h[i]?=some u/\VR X v u)
  {ty:qT} {i:Nat} {v:qv} (b:bO ⟨j,c.d,n+f.length,ty,false⟩ i=some v):one v=true/\∃u,(h++us)[i]?=some u/\VR X v u:=by
 unfold bO at b;split at b
 .rename_i m;obtain⟨h1,h2⟩ | ⟨h1,h2,h3⟩:=hg i v m b
  .obtain⟨h4,u,h5,h6⟩:=l i v h1 h2;exact⟨h4,u,by rw[qba (by omega)];exact h5,h6⟩
  obtain⟨u,h4,h5⟩:=hl.get h2;exact⟨h3,u,by rw[List.getElem?_append_right (by omega),k];exact h4,h5⟩
 cases b
theorem uW(m:Rel X s w){h1 f:TB}{off n:Nat}{c:CB}{j us b:qV}{rest:Array qv}{p:TV}{ty:qT}(q:∀i c,aC h1 i=some c->aC s.h i=some c)(hp:Put h1 f s.nx (some (.inl ⟨p,c.d,n+j.length,ty,false⟩)))
  (hg:Grown c off n j p) (hl:aO X j us) (r:b.length=n) (t:∀i v,i<n->bO c (off+i)=some v->one v=true/\∃u,b[i]?=some u/\VR X v u):
  Rel (X.put ⟨w.heap.size,0,n+us.length+rest.size⟩) ⟨f,Nat.succ s.nx⟩ (w.drew.alloc (.cells (b.toArray++us.toArray++rest) ty))/\
  Ext X s w (X.put ⟨w.heap.size,0,n+us.length+rest.size⟩) ⟨f,Nat.succ s.nx⟩ (w.drew.alloc (.cells (b.toArray++us.toArray++rest) ty)):=by
 have z:=hl.length;have:=m.drew.vG (w':=w.drew.alloc (.cells (b.toArray++us.toArray++rest) ty)) (L:=⟨w.heap.size,0,n+us.length+rest.size⟩) q hp (λk l _=>heap_alloc_old w.drew _ k l) (by simp)
  (λi c hc e=>by have:=(m.blk i c (q i c hc)).2.lt;simp only at e;omega) (λk l _ e=>by simp only[World.size_drew]at l;simp only at e;omega) (by
   refine⟨_,(0,0),heap_alloc_new w.drew _,by simp;omega,by simp;omega,λ_ o _=>by simp,λi v x=>?_⟩;obtain⟨h2,u,h3,h4⟩:=l9 hg hl r t x;refine⟨h2,u,?_,VR.mono (X.bD _) h4⟩;have y:=(qax.1 h3).1;simp only[qbj];rw[qbh (by simp at y ⊢;omega)];simpa using h3)
 exact⟨this.1,(Ext.drew X s w).trans this.2⟩
theorem xD(m:Rel X s w){h1 p:TB}{id off n:Nat}{c:CB}{f us:qV}{t:TV}{w':qW}(hid:aC s.h id=some (.inl c))(q:c.ro=false)(hd:Put s.h h1 id none)(hp:Put h1 p s.nx (some (.inl ⟨t,c.d,n+f.length,c.ty,false⟩)))
  (hg:Grown c off n f t) (hl:aO X f us) (O:off<=(X.j id).lim) (Q:off+n+us.length<=(X.j id).lim) (D:(storeCells ⟨(X.j id).b,(X.j id).base+off+n,none⟩ us).run P w=.ok () w') (E:∀u∈us,u.oneCell'=true):
  Rel (X.put ⟨(X.j id).b,(X.j id).base+off,(X.j id).lim - off⟩) ⟨p,Nat.succ s.nx⟩ w'/\Ext X s w (X.put ⟨(X.j id).b,(X.j id).base+off,(X.j id).lim - off⟩) ⟨p,Nat.succ s.nx⟩ w':=by
 have hc:CR X w (X.j id) c:=(m.blk id _ hid).2;have R:=hc;obtain⟨cs,fz,F,S,U,x,H⟩:=hc;obtain⟨V,y,lu,W,I,J,L,z,A⟩:=bX (P:=P) (w:=w) (b:=(X.j id).b) (off:=(X.j id).base+off+n) (i:=0) (cs:=cs) (ty:=c.ty) (fz:=fz) E F (by omega) (x q);rw[D]at y;cases y;have B:∀i c,aC h1 i=some c->aC s.h i=some c:=λi c hc=>by
  rw[hd i]at hc;split at hc
  .cases hc
  exact hc
 refine m.vG B hp (λk _ C=>I k C) (by omega) (λi M r e=>?_) (λk C hf e=>hf id _ hid (by simp[yh,q]) e) ?_ lu
 .obtain rfl:=m.sep _ _ _ _ (B i M r) hid e;rw[hd i,qaj rfl]at r;cases r
 have Y:=hl.length;refine⟨J,fz,L,by simp;omega,by rw[z];simp;omega,λ_=>by rw[z];exact x q,λi v l=>?_⟩;unfold bO at l;split at l
 .rename_i hi;have N:i<n+f.length:=hi;obtain⟨h1,h2⟩ | ⟨h1,h2,h3⟩:=hg i v N l
  .obtain⟨h4,u,h5,h6⟩:=H _ _ h2;refine⟨h4,u,?_,VR.mono (X.bD _) h6⟩;rw[A,qae (by simp;omega)];simp only at*;rw[qbi];exact h5
  obtain⟨u,h4,h5⟩:=hl.get h2;refine⟨h3,u,?_,VR.mono (X.bD _) h5⟩;rw[A,qaj (by simp;omega),<-h4];congr 1;simp;omega
 cases l
def nN(P:Program)(X:Cx)(s:AS)(w:World)(ts:Array TypeId)(ty:TypeId)(ux uy:Value)(K:bR):Prop:=
 ∃v s' Y u w',K v s'/\(Builtin.append_ ts ty #[ux,uy]).run P w=.ok u w'/\Rel Y s' w'/\Ext X s w Y s' w'/\VR Y v u
theorem iY{need c b:Nat}(h:c<need)(d:need*b<1000000000):Builtin.nextslicecap need c*b<=281474976710656:=by
 have h1:=nextslicecap_le h;have h2:=Nat.mul_le_mul_right b h1;have h3:2*need*b=2*(need*b):=Nat.mul_assoc _ _ _;omega
theorem uD{L:Loc}{off n len c:Nat}{sz:Nat}{d:qV}(hn:n=len*sz)(f:d.length=n)(h:∀m u,d[m]?=some u->w.cell? ⟨L.b,L.base+off+m,none⟩=some u):
  (Builtin.firstCells sz len (.slice (some ⟨L.b,L.base+off,none⟩) len c)).run P w.drew=.ok d.toArray w.drew:=by
 simp only[Builtin.firstCells];have:=bG (P:=P) (w:=w.drew) (us:=d) (L:=L) (i:=off) (λm u j=>h m u j);rw[f,hn]at this;exact this
theorem kQ{need:Nat}{d:Array qv}{sz:Nat}(f:d.size=sz)(b:Nat)(c:qT):need*sz+(Builtin.zeroCells d (grownCap w need b c - need)).size=grownCap w need b c*sz:=by
 rw[size_zeroCells,f,Nat.sub_mul];have:=Nat.mul_le_mul_right sz (grownCap_ge w need b c);omega
theorem nD(l:Rel X s w){ts:Array qT}{ty t F k:qT}{i:TypeInfo}{q A:qv}{B sz id off len f m:Nat}{c:CB}{r us:qV}{v:Bool}(V:ts[0]?=some t)(W:ts[1]?=some F)(Y:P.underlying t=some (.slice k))(Z:P.info? k=some i)
  (H:i.size=sz) (aa:i.bytes=B) (hz:i.zero=some q) (ab:q.cells.size=sz) (I:0<sz) (ac:Src P w F k i A m us) (hl:aO X r us) (ad:r.length=m*sz) (hid:aC s.h id=some (.inl c))
  (J:v=true->∀u∈us,u.oneCell'=true) (an:off+f*sz<=(X.j id).lim) (ae:v=false->¬len+m<=f) (h:grow s k B id c off sz len m r v K):
  nN P X s w ts ty (.slice (some ⟨(X.j id).b,(X.j id).base+off,none⟩) len f) A K:=by
 obtain⟨h1,h2⟩:=aB h;have h2:=aK h2;have h2:=aK h2;simp only[qab,qau]at h1;have L:off+len*sz<=c.n:=qay h1.1.1.1.1;have M:=h1.1.1.1.2;have af:c.ty=k:=qaa h1.1.1.2;have hb1:(len+m)*B<1000000000:=aG.1 h1.1.2;have hb2:len+m<1000000000:=aG.1 h1.2;obtain⟨N,h3,h4⟩:=r9 L h2;have hc:CR X w (X.j id) c:=(l.blk id _ hid).2;obtain⟨ag,O,ah,ai⟩:=hc.old L;have ao:=hl.length;have Q:Nat.mul (Nat.add len m) sz=len*sz+r.length:=by rw[ad];exact Nat.add_mul len m sz
 have R:=ac.run ts ty t (some ⟨(X.j id).b,(X.j id).base+off,none⟩) len f V W Y Z;have S:∀p:TB,(∀i c,aC p i=some c->aC s.h i=some c)->¬len+m<=f->iP ⟨p,s.nx⟩ (.inl ⟨N,c.d,Nat.mul (Nat.add len m) sz,k,false⟩) (λs'=>K (mkS s.nx 0 sz (Nat.add len m) 0) s')->nN P X s w ts ty (.slice (some ⟨(X.j id).b,(X.j id).base+off,none⟩) len f) A K:=λp C aj ak=>by
  obtain⟨h',h5,x⟩:=eF ak;rw[Q]at h5;have y:=R.2 aj (by omega) (by rw[aa];exact iY (by omega) hb1) q hz ag (by rw[H];exact uD rfl O ah);obtain⟨D,E⟩:=uW l (rest:=Builtin.zeroCells q.cells (grownCap w (len+m) f k - (len+m))) (us:=us) C h5 h3 hl O ai;refine⟨_,_,_,_,_,x,y,D,E,?_⟩;refine fC l I (by have:=grownCap_ge w (len+m) f k;exact this) ?_ (λh=>by cases h);have h7:=kQ (w:=w) ab f k (need:=len+m);rw[Nat.add_mul]at h7;omega
 cases v with
 | false=>exact S s.h (λ_ _ hc=>hc) (ae rfl) h4
 | true=>
  obtain⟨p,h5,x⟩:=vk (K:=λh=>iP ⟨h,s.nx⟩ (.inl ⟨N,c.d,Nat.mul (Nat.add len m) sz,k,false⟩) (λs'=>K (mkS s.nx 0 sz (Nat.add len m) 0) s')) h4;have C:∀i c,aC p i=some c->aC s.h i=some c:=λi c hc=>by
   rw[h5 i]at hc;split at hc
   .cases hc
   exact hc
  by_cases z:len+m<=f
  .obtain⟨h',h7,h8⟩:=eF x;rw[Q]at h7;have al:(len+m)*sz<=f*sz:=Nat.mul_le_mul_right sz z;rw[Nat.add_mul]at al;obtain⟨cs,fz,h9,ap,aq,am,ar⟩:=hc;obtain⟨w2,U,_⟩:=bX (P:=P) (w:=w) (b:=(X.j id).b) (off:=(X.j id).base+off+len*sz) (i:=0) (cs:=cs) (ty:=c.ty) (fz:=fz) (J rfl) h9 (by omega) (am M);obtain⟨D,E⟩:=xD (P:=P) l hid M h5 (by rw[af];exact h7) h3 hl (by omega) (by omega) U (J rfl);have y:=R.1 z;simp only[H,addr_add,U,Result.andThen]at y;refine⟨_,_,_,_,_,h8,y,D,E,aT.2 ⟨?_,I,f,?_,z,?_,λh=>by cases h⟩⟩
   .rw[<-l.nx];simp[Cx.put]
   .rw[<-l.nx,X.aQ];rfl
   rw[<-l.nx,X.aQ];simp only;omega
  exact S p C z x
theorem su{ty:qT}{d id off sz len m:Nat}{c:CB}{b:qV}{f:Bool}(h:grow s ty d id c off sz len m b f K):∀v∈b,one v=true:=by
 obtain⟨_,h2⟩:=aB h;have h2:=aK h2;have h2:=aK h2;obtain⟨_,h1⟩ | ⟨_,h1⟩:=aI h2
 .obtain⟨_,_,h3,_⟩:=bT h1;exact h3
 obtain⟨j,_,_,h4⟩:=dH _ h1;obtain⟨_,_,h3,_⟩:=bT (di h4);exact λv i=>h3 v (qap _ i)
theorem vF(p:Rel X s w){ts:Array qT}{ty t Y f:qT}{i:TypeInfo}{r x Z uy:qv}{L sz m:Nat}{M us:qV}(v:ts[0]?=some t)(y:ts[1]?=some Y)(z:P.underlying t=some (.slice f))(A:P.info? f=some i)
  (N:i.size=sz) (O:i.bytes=L) (Q:i.zero=some r) (R:r.cells.size=sz) (B:Src P w Y f i uy m us) (hl:aO X M us) (hx:VR X x Z) (h:yU s f L sz x m M K):
  nN P X s w ts ty Z uy K:=by
 obtain⟨h1,h2⟩:=aB h;simp only[qab]at h1;have S:M.length=m*sz:=qaa h1.1;have H:=aG.1 h1.2;obtain⟨id,off,ah,len,cap,rfl,d⟩ | ⟨n,c,rfl,d⟩ | ⟨id,off,rfl,d⟩ | ⟨q,rfl,d⟩ | ⟨_,rfl,d⟩ | ⟨_,_,_,_,_,_,rfl,d⟩:=cu h2
 .obtain⟨h7,C⟩:=aB d;have:=qaa h7;subst this;obtain⟨c,D,E⟩:=dO C;obtain⟨I,_,c0,rfl,U,F,aa⟩:=aT.1 hx;cases cap with
  | zero=>have ab:=hl.jP (su E);exact nD p v y z A N O Q R H B hl S D (λ_=>ab) F (λe=>by cases e) E
  | succ k=>
   have hk:k=c0:=by have:=aa (by omega);omega
   subst hk;obtain⟨l,V⟩ | ⟨l,V⟩:=aI E
   .have J:len+m<=k:=qay l;obtain⟨s',w',W,ac,ad,ae⟩:=oN (P:=P) p D hl V;have W:=aK W;have u:=(B.run ts ty t (some ⟨(X.j id).b,(X.j id).base+off,none⟩) len k v y z A).1 J;have af:(storeCells ⟨(X.j id).b,(X.j id).base+off+len*sz,none⟩ us).run P w=.ok () w':=by rw[qbi];exact ac
    simp only[N,addr_add,af,Result.andThen]at u;exact⟨_,_,X,_,_,W,u,ad,ae,aT.2 ⟨I,H,k,rfl,J,F,λ_=>rfl⟩⟩
   have J:¬len+m<=k:=λc=>by rw[show Nat.ble (Nat.add len m) k=true from Nat.ble_eq_true_of_le c]at l;cases l
   exact nD p v y z A N O Q R H B hl S D (λe=>by cases e) F (λ_=>J) V
 .obtain⟨_,_,rfl⟩:=bY.1 hx;obtain⟨l,h7⟩ | ⟨l,h7⟩:=aI d
  .have:=qaa l;subst this;have u:=(B.run ts ty t none 0 0 v y z A).1 (qbd _);exact⟨_,_,X,_,_,h7,u,p,Ext.refl X s w,⟨rfl,rfl,rfl⟩⟩
  obtain⟨C,D⟩:=aB h7;simp only[qab]at C;have hb1:m*L<1000000000:=aG.1 C.1;have hb2:m<1000000000:=aG.1 C.2;have hm:¬m=0:=λc=>by subst c;cases l
  have u:=(B.run ts ty t none 0 0 v y z A).2 (by omega) (by omega) (by rw[O];exact iY (by omega) (by simpa using hb1)) r Q [] (by simp[Builtin.firstCells]);obtain⟨s',lim,E,I,U,F⟩:=jy p.drew (rest:=(Builtin.zeroCells r.cells (grownCap w (0+m) 0 f - (0+m))).toList) hl D;have ag:((us++(Builtin.zeroCells r.cells (grownCap w (0+m) 0 f - (0+m))).toList).toArray)=(([]:qV).toArray++us.toArray++Builtin.zeroCells r.cells (grownCap w (0+m) 0 f - (0+m))):=by
   apply qar;simp
  rw[ag]at I U;refine⟨_,_,_,_,_,E,u,I,(Ext.drew X s w).trans U,?_⟩;rw[qbj];refine fC p H (by have:=grownCap_ge w m 0 f;exact this) ?_ (λh=>by cases h);have aa:=kQ (w:=w) R 0 f (need:=m);rw[F,hl.length,S];simp only[Array.length_toList,qbj];omega
 .exact d.elim
 .exact d.elim
 .exact d.elim
 exact d.elim
theorem oK(b:Rel X s w)(hg:GR X g a){args:Array qg}{ts:Array qT}(ho:o.op=.call ⟨.builtin .append,args,ts⟩)(h:nC args ts P T e s g K):aP P o a X s w K:=by
 obtain⟨y,z,h1,h2⟩:=jg h;obtain⟨t,E,r,h3,h4⟩:=jG h2;obtain⟨x,h5,F⟩:=aD b hg h4;obtain⟨ag,h7,H⟩:=aD b hg h5;obtain⟨el,I,J⟩:=aH h7;obtain⟨sz,j,L⟩:=aH J;obtain⟨M,m,N⟩:=aH L;obtain⟨A,B,O⟩:=aH N;obtain⟨Q,R⟩:=aB O;have S:(cellsOf A).length=sz:=qaa Q;obtain⟨i,n,U,ah⟩:=fo B;have V:i.bytes=M:=by unfold bytesOf at m;rw[n]at m;exact Option.some.inj m
 have p:i.size=sz:=by unfold sizeOf at j;rw[n]at j;exact Option.some.inj j
 have W:A.cells.size=sz:=by rw[<-S,<-(bK (bH X B)).length];simp
 have Y:args= #[y,z]:=by apply qar;simpa using h1
 have Z:ts[0]?=some t:=by rw[<-Array.getElem?_toList,h3];rfl
 have e3:ts[1]?=some E:=by rw[<-Array.getElem?_toList,h3];rfl
 subst Y;have key:nN P X s w ts o.type (a.eval y) (a.eval z) K->aP P o a X s w K:=λ⟨v,s',aa,u,w',k1,k2,k3,k4,k5⟩=>by
  refine⟨v,s',aa,u,w',k1,.inl ?_,k3,k4,k5⟩;simp[execOp,ho,resolve,invoke,builtin,k2]
 obtain⟨f,q⟩ | ⟨f,q⟩:=aI R
 .exact q.elim
 obtain⟨ab,ac⟩:=aB q;obtain⟨d,C⟩:=fB ab;obtain⟨l,us,len,ad,ae,af,D,ai⟩:=gJ (P:=P) b H ac;have hd:∀k,d≠.int k:=λk c=>by
  subst c;unfold jk at f;rw[C]at f;cases f
 exact key (vF b Z e3 (dG I) n p V U W (nV C hd (af w) (by rw[p];exact D w rfl) (by rw[p];exact D w.drew rfl)) ae F ad)
end
def Fw(r:Option Nat):Fence:={Fence.wide with round:=r}
structure dZ(P:Program):Prop where
 mixed:P.follows .mixedOrders=true
 names:∀(f:Nat) fn,P.funcs[f]?=some fn->(fn.name== "runtime.NumGoroutine")=false
def Post(X:Cx)(s:AS)(w:World)(K:bR)(e:Ending)(w':World):Prop:=∃v s' Y u,e=.returned u/\K v s'/\Rel Y s' w'/\Ext X s w Y s' w'/\VR Y v u
def jT(P:Program)(ρ:Nat->Int)(iK:AS->FuncId->List Value->bR->Prop):Prop:=
 ∀(s:AS)(f:FuncId)(args:List Value)(K:bR)(X:Cx)(w:World)(us:List Value),X.ρ=ρ->iK s f args K->Rel X s w->aO X args us->
  (∃fn c,P.funcs[f]?=some fn/\fn.body=some c)/\CallsIn Fence.wide 0 P f us.toArray w (Post X s w K)
def gY(P:Program)(ρ:Nat->Int)(fP:AS->Nat->List Value->bR->Prop):Prop:=
 ∀(s:AS)(l:Nat)(args:List Value)(K:bR)(X:Cx)(w:World)(us:List Value),X.ρ=ρ->fP s l args K->Rel X s w->aO X args us->
  ∃lp:Loop,w.heap[(X.j l).b]?=some (.loop lp)/\lp.params.size=us.length/\
   RoundIn Fence.wide 0 P (X.j l).b lp.fn ((lp.params.zip us.toArray).foldl (λtmps (p:Tmp×Value)=>tmps.setIfInBounds p.1 p.2) lp.tmps) lp.assign lp.body w (Post X s w K)
section
variable {P:qp}{T:Tab}{e:Env}{X:Cx}{s:AS}{w:qW}{a:Act}{g:G}{o:Oper}{K:bR}{r:Option Nat}{next:Act->qW->Prop}{Q:Exit->Act->qW->Prop}
theorem aF(hd:∀c,o.op≠.defer c)(h:aP P o a X s w K)(hn:∀v s' b u w',K v s'->Rel b s' w'->Ext X s w b s' w'->VR b v u->next (a.put o.dst u) w'):o.wpIn (Fw r) 0 P a w next Q:=by
 obtain⟨v,s',b,u,w',h1,h2,h3,h4,h5⟩:=h;refine⟨λ_ _=>trivial,?_⟩;rw[Oper.semAt_eq _ _ _ hd];obtain h2 | ⟨h2,rfl⟩:=h2
 .rw[h2];exact hn v s' b u w' h1 h3 h4 h5
 rw[h2];exact hn v s' b undef w' h1 h3 h4 h5
theorem dQ(b:dZ P){f:FuncId}{fn:Func}{c:Code}{args:Array qv}(hf:P.funcs[f]?=some fn)(d:fn.body=some c):(callFunc f args).run P w=.ok (.enter f args) w:=by
 have h:¬fn.name= "runtime.NumGoroutine" :=by simpa using b.names f fn hf
 simp[callFunc,hf,d,h]
theorem vz(F:dZ P)(k:Rel X s w)(hg:GR X g a)(H:jT P X.ρ e.iK)(I:gY P X.ρ e.fP){f:qg}{args:Array qg}{ts:Array qT}(ho:o.op=.call ⟨.value f,args,ts⟩)(h:rU f args P T e s g K)
  (hn:∀v s' d u w',K v s'->Rel d s' w'->Ext X s w d s' w'->VR d v u->next (a.put o.dst u) w'):o.wpIn (Fw r) 0 P a w next Q:=by
 obtain⟨v,h1,h2⟩:=aD k hg h;obtain⟨a9,h3,h4⟩:=gK k hg h1;refine⟨λ_ _=>trivial,?_⟩;rw[Oper.semAt_eq _ _ _ (by rw[ho];intro c hc;cases hc)];obtain⟨q,x,J,rfl,h5⟩ | ⟨l,x,J,rfl,h5⟩:=oQ h3
 .have h6:=di h5;have h7:=di h6;obtain⟨m,n,t,y,z⟩:=eO.1 h2;obtain⟨⟨fn,c,hf,L⟩,M⟩:=H s q _ K X w (m.toList++(args.toList.map a.eval++n.toList)) rfl h7 k (y.append (h4.append z));have A:(execOp a.eval o).run P w=.ok (.enter q (m.toList++(args.toList.map a.eval++n.toList)).toArray) w:=by
   have S:(m++args.map a.eval)++n=(m.toList++(args.toList.map a.eval++n.toList)).toArray:=by
    apply qar;simp
   simp[execOp,ho,resolve,t,Deferred.ofValue,invoke,dQ F hf L]
  rw[A];refine⟨(λh=>by cases h),?_⟩;exact CallsIn.mono M (λe' w' ⟨v,s',d,u,k1,B,C,D,E⟩=>by subst k1;exact hn v s' d u w' B C D E)
 obtain⟨_,t⟩:=lq.1 h2;obtain⟨i,y,z,N⟩:=I s l a9 K X w (args.toList.map a.eval) rfl h5 k h4;have A:(execOp a.eval o).run P w=.ok (.round (X.j l).b i.fn ((i.params.zip (args.toList.map a.eval).toArray).foldl (λtmps (p:Tmp×Value)=>tmps.setIfInBounds p.1 p.2) i.tmps) i.assign i.body) w:=by
  have O:(getObj (X.j l).b).run P w=.ok (.loop i) w:=by simp[getObj,Sem.run,y]
  have R:args.size=i.params.size:=by rw[z];simp
  simp[execOp,ho,resolve,t,Deferred.ofValue,invoke,Instr.yield,Instr.getLoop,O,R];rw[show Array.map a.eval args=(List.map a.eval args.toList).toArray from by apply qar;simp]
 rw[A];refine⟨(λh=>by cases h),?_⟩;exact RoundIn.mono N (λe' w' ⟨v,s',d,u,k1,B,C,D,E⟩=>by subst k1;exact hn v s' d u w' B C D E)
theorem rM(k:dZ P)(i:bn P X.ρ T)(d:Rel X s w)(hg:GR X g a)(l:jT P X.ρ e.iK)(m:gY P X.ρ e.fP)(h:nA o.op P T e s g K)
  (hn:∀v s' j u w',K v s'->Rel j s' w'->Ext X s w j s' w'->VR j v u->next (a.put o.dst u) w'):o.wpIn (Fw r) 0 P a w next Q:=by
 cases ho:o.op<;>rw[ho]at h
 case move x=>exact aF (by simp[ho]) (gU d hg (.inl ho) h) hn
 case assign x=>exact aF (by simp[ho]) (gU d hg (.inr ho) h) hn
 case pick=>exact aF (by simp[ho]) (mU (T:=T) (e:=e) d hg ho h) hn
 case alloc=>exact aF (by simp[ho]) (tF (T:=T) (e:=e) (g:=g) d ho h) hn
 case box=>exact aF (by simp[ho]) (xM (T:=T) (e:=e) d hg ho h) hn
 case build=>exact aF (by simp[ho]) (kY (T:=T) (e:=e) d hg ho h) hn
 case buildSlice=>exact aF (by simp[ho]) (oJ (T:=T) (e:=e) d hg ho h) hn
 case load=>exact aF (by simp[ho]) (nk (T:=T) (e:=e) d hg ho h) hn
 case store=>exact aF (by simp[ho]) (oW (T:=T) (e:=e) d hg ho h) hn
 case nilCheck=>exact aF (by simp[ho]) (rq (T:=T) (e:=e) d hg ho h) hn
 case binOp=>exact aF (by simp[ho]) (tu (e:=e) i d hg ho h) hn
 case unOp=>exact aF (by simp[ho]) (vK (e:=e) i d hg ho h) hn
 case convert q t x=>
  obtain⟨v,h1,h2⟩:=aD d hg h;obtain⟨n,h3⟩ | ⟨n,h3⟩:=aI h1
  .exact h3.elim
  exact aF (by simp[ho]) (nI i d ho h2 h3) hn
 case makeFunc=>exact aF (by simp[ho]) (nE (T:=T) (e:=e) d hg ho h) hn
 case makeMap=>exact aF (by simp[ho]) (map_ok (T:=T) (e:=e) d hg ho h) hn
 case slice=>exact aF (by simp[ho]) (jZ (T:=T) (e:=e) d hg ho h) hn
 case fieldAddr=>exact aF (by simp[ho]) (jc (T:=T) (e:=e) d hg ho h) hn
 case field=>exact aF (by simp[ho]) (kT (T:=T) (e:=e) d hg ho h) hn
 case indexAddr=>exact aF (by simp[ho]) (ja (T:=T) (e:=e) d hg ho h) hn
 case index=>exact aF (by simp[ho]) (kM (T:=T) (e:=e) d hg ho h) hn
 case lookup=>exact aF (by simp[ho]) (look_ok (T:=T) (e:=e) d hg ho h) hn
 case mapUpdate=>exact aF (by simp[ho]) (wF (T:=T) (e:=e) d hg ho h) hn
 case extract=>exact aF (by simp[ho]) (iI (T:=T) (e:=e) d hg ho h) hn
 case call c=>
  obtain⟨p,args,ts⟩:=c;cases p with
  | value f=>exact vz (T:=T) k d hg l m ho h hn
  | invoke=>exact h.elim
  | builtin b=>
   cases b<;>first
    | exact h.elim
    | exact aF (by simp[ho]) (oK (T:=T) (e:=e) d hg ho h) hn
    | exact aF (by simp[ho]) (rE (T:=T) (e:=e) d hg ho h) hn
    | exact aF (by simp[ho]) (ry (T:=T) (e:=e) d hg ho h) hn
 all_goals exact h.elim
end
end Go.Proofs.YtfkcodlceoghpaaGreatDoor.Zev
