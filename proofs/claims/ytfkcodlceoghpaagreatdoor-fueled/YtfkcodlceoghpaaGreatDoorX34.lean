import Derived.Deep.LoopGhost
import Derived.Test.YtfkcodlceoghpaaGreatDoorX31
namespace Go.Proofs.YtfkcodlceoghpaaGreatDoor
set_option maxHeartbeats 3200000
set_option maxRecDepth 100000
set_option linter.unusedSimpArgs false
set_option linter.unusedVariables false
open Go.RowKit Go.Proofs.Tryz
def P5(n k:Int):Nat:=((if n<0 then -(n+1) else n)%k).toNat
theorem DR(n k:Int)(h0: -9223372036854775808<=n)(U:n<=9223372036854775807)(X:k=1000\/k=3000)(w:qW):qC 6 #[qJ n,qJ k] w λe w'=>e=.returned (qJ (P5 n k:Nat))/\w'=w:=by
 have a:0<k:=qo;have f:(k==0)=false:=by simp;omega
 by_cases b:n<0
 .have hw1:IntKind.i64.wrap (n+1)=n+1:=qaf _ ⟨qo,qo⟩;have g:IntKind.i64.wrap (-(n+1))= -(n+1):=qaf _ ⟨qo,qo⟩;have c:Int.tmod (-(n+1)) k=(-(n+1))%k:=Int.tmod_eq_emod_of_nonneg qo;have hb:=qdt (-(n+1)) (show k≠0 by omega);have hb2:=Int.emod_lt_of_pos (-(n+1)) a;have d:IntKind.i64.wrap ((-(n+1))%k)=(-(n+1))%k:=qaf _ ⟨qo,qo⟩;have HP:qh (((P5 n k:Nat):Int)=(-(n+1))%k):=by show _=_;unfold P5;rw[qac b];omega
  exact Wz
 have c:Int.tmod n k=n%k:=Int.tmod_eq_emod_of_nonneg qo;have hb:=qdt n (show k≠0 by omega);have hb2:=Int.emod_lt_of_pos n a;have d:IntKind.i64.wrap (n%k)=n%k:=qaf _ ⟨qo,qo⟩;have HP:qh (((P5 n k:Nat):Int)=n%k):=by show _=_;unfold P5;rw[qaa b];omega
 exact Wz
theorem PZ{n k:Int}(X:0<k):(P5 n k:Int)<k:=by
 unfold P5;have U:=qdt (if n<0 then -(n+1) else n) (show k≠0 by omega);have a:=Int.emod_lt_of_pos (if n<0 then -(n+1) else n) X;omega
section
variable {w0 w:qW}{ok:qD}{X7 X6:qv}{rs:List Int}{y l1 l2:Nat}
theorem alike_any(U:Row ok w 2 1 X7 rs.length (eD rs))(k:Row ok w 2 1 X6 rs.length (eD rs))(hl:rs.length<=1000000):
  qC 8 #[.agg #[qJ y,X7,qJ l1],.agg #[qJ y,X6,qJ l2]] w λe w'=>e=.returned (.bool true)/\qK w w':=by
 obtain⟨r,c1,rfl⟩:=Row.shape U;obtain⟨p2,c2,rfl⟩:=Row.shape k;have m:=((Sx.start w).new #[qJ y,.slice r rs.length c1,qJ l1] 33).new #[qJ y,.slice p2 rs.length c2,qJ l2] 33;simp only[qay,qax,qbn]at m;have B:=qH U;have C:=qH k;have n:=qH m;clear U k m;go_enter func8,ntmps8;go_wp2_with fail
 obtain⟨b,hb⟩:=qE w.heap.size;rw[<-hb]at n ⊢;clear hb;go_loopg [5] rs.length (λD E wr=>∃(i:Nat),D=rs.length - i/\i<=rs.length/\E=qJ i/\Sx w wr [.b b [qJ y,.slice r rs.length c1,qJ l1],.b (b+1) [qJ y,.slice p2 rs.length c2,qJ l2]])
 case atStart=>exact⟨0,rfl,qZ,rfl,n.o⟩
 clear n;obtain⟨i,O,hi,rfl,d⟩:=hrel;obtain⟨F,-⟩:=d.c 0 1 rfl rfl;obtain⟨G,-⟩:=d.c 1 1 rfl rfl;have R:=d.lt 0 rfl;have T:=d.lt 1 rfl;by_cases j:i<rs.length
 .have H:(i:Int)<(rs.length:Int):=qo;obtain⟨f,W,I,-,J,X,s⟩:=Row.cells B.o qo;obtain⟨g,Y,L,-,M,Z,t⟩:=Row.cells C.o qo;cases I;cases L;obtain⟨v,hv⟩:=qE (rs[i]);have D1:wr.cell? (qA f i)=some (qJ v):=((d.kept.cell (p:=(qA f i)) J (λc=>c)).trans (s i qo)).trans (by rw[uH j,hv]);have N:wr.cell? (qA g i)=some (qJ v):=((d.kept.cell (p:=(qA g i)) M (λc=>c)).trans (t i qo)).trans (by rw[uH j,hv]);have q:=qH d.drew;have u:(λV:qW=>V.cell? (qA b 1)=some (qL f rs.length c1)/\V.cell? ⟨b+1,1,none⟩=some (qL g rs.length c2)/\V.cell? (qA f i)=some (qJ v)/\V.cell? (qA g i)=some (qJ v)) wr.drew:=⟨F,G,D1,N⟩;have z:=qH j;clear d s t j hv;go_wp2_with fail
  refine jU (λV:qW=>V.cell? (qA b 1)=some (qL f rs.length c1)/\V.cell? ⟨b+1,1,none⟩=some (qL g rs.length c2)/\V.cell? (qA f i)=some (qJ v)/\V.cell? (qA g i)=some (qJ v)) 10 ?_;iterate 10 refine nE u ?_ (hy:=by(refine Or.inl ⟨by rfl,?_⟩;intro _ d;obtain⟨_,_,_,_⟩:=d;go_simp;try with_reducible rfl))
  refine iU (λK A=>?_);go_simp;refine A _ _ ?_;clear A K u;go_wp2;go_roundg (rs.length - (i+1))
  case measure=>have:=z.o;omega
  exact⟨i+1,rfl,z.o,by push_cast;rfl,q.o⟩
 have H:¬(i:Int)<(rs.length:Int):=qo;have q:=qH d;clear d j;go_wp2;go_ret;exact⟨rfl,q.o.kept⟩
end
section
variable {w0 w:qW}{ib kb Yv Yu:Nat}{Yn YA YC YE Yk Yl Ym Yz YB YD XE XF:qv}{X1 X2:List It}{mem:qM}{XU XT:List Int}
theorem AA(U:Sx w0 w (MI ib Yn YA YC YE Yv Yk Yl mem XU X1))(a:Sx w0 w (MI kb Ym Yz YB YD Yu XE XF mem XT X2))(hm:mem.length<=700000)(c:mem.length%64=0):
  qC 9 #[qP ib,qP kb] w λe w'=>e=.returned (.bool true)/\w'=w:=by
 have d:=qH (Bh U hm);have f:=qH (Bh a hm);have g:=qH (Bo U hm);have i:=qH (Bo a hm);obtain⟨q,b⟩:=qE (mem.length / 64);rw[<-b]at d f;obtain⟨n,j⟩:=qE mem.length;rw[<-j]at g i hm c b;have k:IntKind.i64.wrap ((q:Int)*64)=(n:Int):=by rw[show(q:Int)*64=(n:Int) by omega];exact qaf _ ⟨qo,qo⟩
 have l:wrap64 ((q:Int)*64)=(n:Int):=by unfold wrap64;omega
 clear U a hm c b j;go_enter func9,ntmps9;go_wp2_with fail
 refine d.o.mono ?_;rintro e w1⟨rfl,rfl⟩;go_wp2_with fail
 refine f.o.mono ?_;rintro e w1⟨rfl,rfl⟩;go_wp2_with fail
 refine g.o.mono ?_;rintro e w1⟨rfl,rfl⟩;go_wp2_with fail
 refine i.o.mono ?_;exact TW
end
end Go.Proofs.YtfkcodlceoghpaaGreatDoor
