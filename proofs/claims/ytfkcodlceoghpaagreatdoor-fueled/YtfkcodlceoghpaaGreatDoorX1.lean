import Derived.Test.YtfkcodlceoghpaaGreatDoorX0
namespace Go.Proofs.YtfkcodlceoghpaaGreatDoor
open Go.RowKit
def jf(w:World)(g:Nat)(cs:List Value):Prop:=∀i,i<cs.length->w.cell? (qA g i)=some (cs.getD i undef)/\w.frozen? (qA g i)=false
theorem jf.new(w:qW)(c:Array qv)(t:TypeId):jf (w.alloc (.cells c t)) w.heap.size c.toList:=by
 intro i hi;have f:i<c.size:=by simpa using hi
 refine⟨?_,qs⟩;rw[qco];simp[List.getD,f]
theorem jf.kept{S:qD}{w f:qW}{g:Nat}{cs:qV}(h:jf w g cs)(X:Kept S w f)(j:g<w.heap.size)(k:¬S g):jf f g cs:=by
 intro i hi;rw[X.cell (p:=(qA g i)) j k,X.frozen (p:=(qA g i)) j k];exact h i hi
theorem jf.alloc{w:qW}{g:Nat}{cs:qV}(h:jf w g cs)(f:g<w.heap.size)(o:Obj):jf (w.alloc o) g cs:=
 h.kept (S:=λ_=>False) (qr.alloc o) f (λx=>x)
theorem jf.drewN{w:qW}{g:Nat}{cs:qV}(h:jf w g cs)(k:Nat):jf (w.drewN k) g cs:=h
theorem jf.new'{w:qW}{g:Nat}{c:Array qv}{t:TypeId}(f:g=w.heap.size):jf (w.alloc (.cells c t)) g c.toList:=by
 subst f;exact jf.new w c t
theorem jf.lt{w:qW}{g:Nat}{c:qv}{cs:qV}(h:jf w g (c::cs)):g<w.heap.size:=qdq _ _ (h 0 qs).1
theorem jf.set{w:qW}{g:Nat}{cs:qV}(h:jf w g cs)(k:Nat)(v:qv):jf (w.setCell (qA g k) v) g (cs.set k v):=by
 intro i hi;have f:i<cs.length:=by simpa using hi
 refine⟨?_,by simp[(h i f).2]⟩;by_cases e:k=i
 .subst e;rw[qce _ _ _ (h k f).1];simp[List.getD,f]
 rw[qbp _ _ ⟨g,i,none⟩ _ (λc=>e (congrArg Addr.off c)),(h i f).1];simp[List.getD,e]
theorem jf.dD{w:qW}{g f o:Nat}{cs:qV}(h:jf w g cs)(j:f≠g)(v:qv):jf (w.setCell ⟨f,o,none⟩ v) g cs:=by
 intro i hi;rw[qbp _ _ ⟨g,i,none⟩ _ (λc=>j (congrArg Addr.block c))];exact⟨(h i hi).1,by simp[(h i hi).2]⟩
section
variable {w:qW}{g:Nat}{a b c d e:qv}
theorem jf.two(h:jf w g [a,b]):(w.cell? (qA g 0)=some a/\w.frozen? (qA g 0)=false)/\(w.cell? (qA g 1)=some b/\w.frozen? (qA g 1)=false):=⟨h 0 qs,h 1 qs⟩
theorem jf.three(h:jf w g [a,b,c]):(w.cell? (qA g 0)=some a/\w.frozen? (qA g 0)=false)/\(w.cell? (qA g 1)=some b/\w.frozen? (qA g 1)=false)/\(w.cell? (qA g 2)=some c/\w.frozen? (qA g 2)=false):=⟨h 0 qs,h 1 qs,h 2 qs⟩
theorem jf.four(h:jf w g [a,b,c,d]):(w.cell? (qA g 0)=some a/\w.frozen? (qA g 0)=false)/\(w.cell? (qA g 1)=some b/\w.frozen? (qA g 1)=false)/\(w.cell? (qA g 2)=some c/\w.frozen? (qA g 2)=false)/\(w.cell? (qA g 3)=some d/\w.frozen? (qA g 3)=false):=
 ⟨h 0 qs,h 1 qs,h 2 qs,h 3 qs⟩
theorem jf.five(h:jf w g [a,b,c,d,e]):(w.cell? (qA g 0)=some a/\w.frozen? (qA g 0)=false)/\(w.cell? (qA g 1)=some b/\w.frozen? (qA g 1)=false)/\(w.cell? (qA g 2)=some c/\w.frozen? (qA g 2)=false)/\(w.cell? (qA g 3)=some d/\w.frozen? (qA g 3)=false)/\(w.cell? (qA g 4)=some e/\w.frozen? (qA g 4)=false):=
 ⟨h 0 qs,h 1 qs,h 2 qs,h 3 qs,h 4 qs⟩
end
structure OB(w:World)(b g:Nat)(cs:List Value):Prop where
 blk:jf w g cs
 lt:g<w.heap.size
 ne:g≠b
theorem OB.new{w:qW}{b g:Nat}{c:Array qv}{t:TypeId}(hb:b<w.heap.size)(f:g=w.heap.size):OB (w.alloc (.cells c t)) b g c.toList:=
 ⟨jf.new' f,by simp[f],qo⟩
theorem OB.alloc{w:qW}{b g:Nat}{cs:qV}(h:OB w b g cs)(o:Obj):OB (w.alloc o) b g cs:=
 ⟨h.blk.alloc h.lt o,by have:=h.lt;simp;omega,h.ne⟩
theorem OB.call{w f:qW}{b g:Nat}{cs:qV}(h:OB w b g cs)(X:Kept (only b) w f):OB f b g cs:=
 ⟨h.blk.kept X h.lt (λ(e:g=b)=>h.ne e),qad h.lt X.size,h.ne⟩
theorem OB.set{w:qW}{b g:Nat}{cs:qV}(h:OB w b g cs)(k:Nat)(v:qv):OB (w.setCell (qA g k) v) b g (cs.set k v):=
 ⟨h.blk.set k v,by simpa using h.lt,h.ne⟩
theorem OB.other{w:qW}{b g f o:Nat}{cs:qV}(h:OB w b g cs)(i:f≠g)(v:qv):OB (w.setCell ⟨f,o,none⟩ v) b g cs:=
 ⟨h.blk.dD i v,by simpa using h.lt,h.ne⟩
theorem OB.drewN{w:qW}{b g:Nat}{cs:qV}(h:OB w b g cs)(k:Nat):OB (w.drewN k) b g cs:=⟨h.blk,h.lt,h.ne⟩
theorem xX{w:qW}{g:Nat}(x y:Nat){t:TypeId}{a c:Int}(f:g=w.heap.size)(h:a=(x:Int))(hc:c=(y:Int)):Sq (w.alloc (.cells #[qB a,qB c] t)) g [x,y]:=by
 subst h hc f;exact TQ w x y t
theorem oq{w:qW}{g:Nat}(x:Nat){t:TypeId}{a:Int}(f:g=w.heap.size)(h:a=(x:Int)):Sq (w.alloc (.cells #[qB a] t)) g [x]:=by
 subst h f;exact LJ w x t
theorem OO{w:qW}{g:Nat}(x y z u:Nat){t:TypeId}{a c d e:Int}(f:g=w.heap.size)(h:a=(x:Int))(hc:c=(y:Int))(i:d=(z:Int))(k:e=(u:Int)):
  Sq (w.alloc (.cells #[qB a,qB c,qB d,qB e] t)) g [x,y,z,u]:=by
 subst h hc i k f;intro j l;have:j=0\/j=1\/j=2\/j=3:=by simp at l;omega
 obtain rfl | rfl | rfl | rfl:=this<;>simp
theorem nO{ts:qM}{s:qS}{n i x j:Nat}(h:iO ts s n i=.ok (x,j)):x∈ts/\j=i+1/\i<n:=by
 unfold iO at h;split at h
 .split at h
  .cases h;exact⟨by assumption,rfl,by assumption⟩
  cases h
 cases h
def jM(s:qS)(n i:Nat):Except Err (Nat×Nat):=iO [127,126] s n i
structure Cst where
 at_:Nat
 kind:Nat
 val:Int
def ja(s:qS)(n i:Nat):Except Err (Cst×Nat):=
 match iO [65,66] s n i with
 | .error e=>.error e
 | .ok (x,j)=>
  match(if x=65 then sM 4 4 s n j else sM 9 1 s n j) with
  | .error e=>.error e
  | .ok (v,j2)=>
   match iO [11] s n j2 with
   | .error e=>.error e
   | .ok (_,j3)=>.ok (⟨i,if x=65 then 127 else 126,v⟩,j3)
def Cst.cells(c:Cst):List Value:=[qJ c.at_,qB c.kind,qJ c.val]
def isConst(c:Cst)(_:World)(v:Value):Prop:=v=.agg c.cells.toArray
structure Row(ok:Nat->Prop)(w:World)(E:TypeId)(size:Nat)(v:Value)(n:Nat)(xs:List Value):Prop where
 own:w.ownsRow 0 E size v n xs
 at_:∀g,v.ownBlock=some g->ok g
theorem Row.nil(ok:qD)(w:qW)(E:TypeId)(a:Nat):Row ok w E a (qN) 0 []:=
 ⟨qdg w 0 E a,λg h=>by simp[Value.ownBlock]at h⟩
theorem Row.mono{ok ok':qD}{w:qW}{E:TypeId}{a:Nat}{v:qv}{n:Nat}{xs:qV}(h:Row ok w E a v n xs)(hm:∀g,g<w.heap.size->ok g->ok' g):Row ok' w E a v n xs:=
 ⟨h.own,λg b=>hm g (h.own.lt g b).2 (h.at_ g b)⟩
theorem Row.kept{S ok:qD}{w w':qW}{E:TypeId}{a:Nat}{v:qv}{n:Nat}{xs:qV}(h:Row ok w E a v n xs)(X:Kept S w w')(d:∀g,g<w.heap.size->ok g->¬S g):Row ok w' E a v n xs:=by
 refine⟨⟨h.own.1,?_⟩,h.at_⟩;obtain e | ⟨g,A,f,rfl,hb,b,i⟩:=h.own.2
 .exact .inl e
 have c:g<w.heap.size:=(qah.1 b).1;exact .inr ⟨g,A,f,rfl,hb,by rw[X.block g c (d g c (h.at_ g rfl))];exact b,i⟩
theorem Kept.gH{w w':qW}{row:Option Nat}(h:w.grownBy w' row):Kept (λk=>row=some k) w w':=
 ⟨h.os,h.tape,h.output,h.size,λk X a=>h.block k X (λe=>a e.symm)⟩
theorem Kept.fresh{S S':qD}{a b c:qW}(h:Kept S a b)(k:Kept S' b c)(e:∀i,i<a.heap.size->S' i->S i):Kept S a c:=
 ⟨k.os.trans h.os,k.tape.trans h.tape,k.output.trans h.output,qam h.size k.size,
  λi hi d=>(k.block i (qad hi h.size) (λx=>d (e i hi x))).trans (h.block i hi d)⟩
theorem Row.nK{ok:qD}{w:qW}{E:TypeId}{a:Nat}{v:qv}{n:Nat}{xs:qV}{B:Nat}(h:Row ok w E a v n xs)(hb:∀g,ok g->B<=g):w.ownsRow B E a v n xs:=by
 refine⟨h.own.1,?_⟩;obtain b | ⟨g,A,c,rfl,_,d⟩:=h.own.2
 .exact .inl b
 exact .inr ⟨g,A,c,rfl,hb g (h.at_ g rfl),d⟩
theorem Row.mI{ok:qD}{w:qW}{E:TypeId}{a:Nat}{v:qv}{n:Nat}{xs:qV}{B:Nat}(h:w.ownsRow B E a v n xs)(hb:∀g,B<=g->g<w.heap.size->ok g):Row ok w E a v n xs:=by
 refine⟨⟨h.1,?_⟩,λg b=>hb g (h.lt g b).1 (h.lt g b).2⟩;obtain c | ⟨g,A,d,rfl,_,e⟩:=h.2
 .exact .inl c
 exact .inr ⟨g,A,d,rfl,qZ,e⟩
theorem iD{S:qD}{a w w':qW}{E:TypeId}{b:Nat}{v:qv}{n:Nat}{xs:qV}{B:Nat}(h:Kept S a w)(ho:w.ownsRow B E b v n xs)(e:a.heap.size<=B)(c:w.grownBy w' v.ownBlock):Kept S a w':=
 h.fresh (Kept.gH c) (λi hi d=>absurd (ho.lt i d).1 qo)
theorem jk{w w':qW}{E:TypeId}{a:Nat}{v:qv}{m:Nat}{xs:qV}{B b:Nat}{s:qS}{i n:Nat}(h:Rd w b s i n)(ho:w.ownsRow B E a v m xs)(e:b<B)(c:w.grownBy w' v.ownBlock):Rd w' b s i n:=
 h.kept (Kept.gH c) (λd=>absurd (ho.lt b d).1 qo)
def eT{α:Type}(tM:qS->Nat->Nat->Except Err (α×Nat))(s:qS)(n:Nat):Nat->List α->Nat->Except Err (List α×Nat)
 | 0,M,j=>.ok (M,j)
 | k+1,M,j=>match tM s n j with
  | .error e=>.error e
  | .ok (x,j')=>eT tM s n k (M++[x]) j'
def eB{α:Type}(most:Nat)(tM:qS->Nat->Nat->Except Err (α×Nat))(s:qS)(n i:Nat):Except Err (List α×Nat):=
 match fD most s n i with
 | .error e=>.error e
 | .ok (k,j)=>eT tM s n k [] j
theorem wE{a:Type}{tM:qS->Nat->Nat->Except Err (a×Nat)}{s:qS}{n k j:Nat}{M:List a}{e:Err}(X:0<k)(h:tM s n j=.error e):eT tM s n k M j=.error e:=by
 obtain⟨m,rfl⟩:∃m,k=m+1:=⟨k - 1,qo⟩;simp[eT,h]
theorem jZ{a:Type}{tM:qS->Nat->Nat->Except Err (a×Nat)}{s:qS}{n k j b:Nat}{M:List a}{x:a}(X:0<k)(h:tM s n j=.ok (x,b)):eT tM s n k M j=eT tM s n (k - 1) (M++[x]) b:=by
 obtain⟨m,rfl⟩:∃m,k=m+1:=⟨k - 1,qo⟩;simp[eT,h]
theorem fA{most:Nat}{s:qS}{n i k j:Nat}(h:fD most s n i=.ok (k,j)):k<=most/\i<j/\j<=n:=by
 unfold fD at h;exact WG
end Go.Proofs.YtfkcodlceoghpaaGreatDoor
