import Derived.Test.YtdaafkmhfedkiaaGreatX4
namespace Go.Proofs.YtdaafkmhfedkiaaGreat
set_option maxHeartbeats 800000
open Go.RowKit Go.Proofs.Tryz
def kT(x:Nat):Bool:=(decide (97<=x)&&decide (x<=122))||(decide (65<=x)&&decide (x<=90))||(decide (48<=x)&&decide (x<=57))||x==95||x==46
theorem JG(x:Nat)(w:qW):qC 239 #[qB x] w fun e w'=>e=.returned (.bool (kT x))/\w'=w:=by
 have a:decide ((97:Int)<=(x:Int))=decide (97<=x):=decide_eq_decide.2 qo;have b:decide ((x:Int)<=(122:Int))=decide (x<=122):=decide_eq_decide.2 qo;have c:decide ((65:Int)<=(x:Int))=decide (65<=x):=decide_eq_decide.2 qo;have d:decide ((x:Int)<=(90:Int))=decide (x<=90):=decide_eq_decide.2 qo;have f:decide ((48:Int)<=(x:Int))=decide (48<=x):=decide_eq_decide.2 qo;have g:decide ((x:Int)<=(57:Int))=decide (x<=57):=decide_eq_decide.2 qo;have h:((x:Int)==95)=(x==95):=by rw[Bool.eq_iff_iff];simp;omega
 have i:((x:Int)==46)=(x==46):=by rw[Bool.eq_iff_iff];simp;omega
 have j:qh (kT x=((decide ((97:Int)<=(x:Int))&&decide ((x:Int)<=(122:Int)))||(decide ((65:Int)<=(x:Int))&&decide ((x:Int)<=(90:Int)))||(decide ((48:Int)<=(x:Int))&&decide ((x:Int)<=(57:Int)))||(x:Int)==95||(x:Int)==46)):=by
  show _=_;rw[a,b,c,d,f,g,h,i];rfl
 clear a b c d f g h i;generalize (x:Int)=z at*;cases k:decide ((97:Int)<=z)<;>cases l:decide (z<=(122:Int))<;>cases m:decide ((65:Int)<=z)<;>cases n:decide (z<=(90:Int))<;>cases p:decide ((48:Int)<=z)<;>cases q:decide (z<=(57:Int))<;>cases r:(z==95);all_goals first
  | (exfalso;simp at k l m n p q r;omega)
  | skip
 all_goals
  have s:=hide (j.o.trans (by rw[k,l,m,n,p,q,r]));clear j;go_enter func239,ntmps239;go_wp2;go_ret;exact⟨by rw[s.o];rfl,rfl⟩
end Go.Proofs.YtdaafkmhfedkiaaGreat
