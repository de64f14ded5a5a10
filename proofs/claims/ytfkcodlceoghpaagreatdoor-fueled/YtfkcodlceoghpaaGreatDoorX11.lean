import Derived.Test.YtfkcodlceoghpaaGreatDoorX6
import Derived.Test.YtfkcodlceoghpaaGreatDoorX7
namespace Go.Proofs.YtfkcodlceoghpaaGreatDoor
set_option maxHeartbeats 1600000
set_option maxRecDepth 100000
set_option linter.unusedSimpArgs false
set_option linter.unusedVariables false
open Go.RowKit Go.Proofs.Tryz
def lU(x:Nat):Bool:=(decide (97<=x)&&decide (x<=122))||(decide (65<=x)&&decide (x<=90))||(decide (48<=x)&&decide (x<=57))||x==95||x==46
theorem Bn(x:Nat)(w:qW):qC 204 #[qB x] w λe w'=>e=.returned (.bool (lU x))/\w'=w:=by
 have a:decide ((97:Int)<=(x:Int))=decide (97<=x):=decide_eq_decide.2 qo;have b:decide ((x:Int)<=(122:Int))=decide (x<=122):=decide_eq_decide.2 qo;have c:decide ((65:Int)<=(x:Int))=decide (65<=x):=decide_eq_decide.2 qo;have d:decide ((x:Int)<=(90:Int))=decide (x<=90):=decide_eq_decide.2 qo;have f:decide ((48:Int)<=(x:Int))=decide (48<=x):=decide_eq_decide.2 qo;have g:decide ((x:Int)<=(57:Int))=decide (x<=57):=decide_eq_decide.2 qo;have h:((x:Int)==95)=(x==95):=by rw[Bool.eq_iff_iff];simp;omega
 have i:((x:Int)==46)=(x==46):=by rw[Bool.eq_iff_iff];simp;omega
 have j:qh (lU x=((decide ((97:Int)<=(x:Int))&&decide ((x:Int)<=(122:Int)))||(decide ((65:Int)<=(x:Int))&&decide ((x:Int)<=(90:Int)))||(decide ((48:Int)<=(x:Int))&&decide ((x:Int)<=(57:Int)))||(x:Int)==95||(x:Int)==46)):=by
  show _=_;rw[a,b,c,d,f,g,h,i];rfl
 clear a b c d f g h i;generalize (x:Int)=z at*;cases k:decide ((97:Int)<=z)<;>cases l:decide (z<=(122:Int))<;>cases m:decide ((65:Int)<=z)<;>cases n:decide (z<=(90:Int))<;>cases p:decide ((48:Int)<=z)<;>cases q:decide (z<=(57:Int))<;>cases r:(z==95);all_goals first
  | (exfalso;simp at k l m n p q r;omega)
  | skip
 all_goals
  have s:=qH (j.o.trans (by rw[k,l,m,n,p,q,r]));clear j;go_enter func204,ntmps204;go_wp2;go_ret;exact⟨by rw[s.o];rfl,rfl⟩
theorem Qn{a b:Int}:∃r:Int,∀w:qW,qC 321 #[qB 3,qI a,qI b] w λe w'=>e=.returned (qI r)/\w'=w:=by
 apply Exists.intro;intro w;go_enter func321,ntmps321;exact zg
theorem Qm{a b:Int}:∃r:Int,∀w:qW,qC 321 #[qB 4,qI a,qI b] w λe w'=>e=.returned (qI r)/\w'=w:=by
 apply Exists.intro;intro w;go_enter func321,ntmps321;exact zg
theorem Ql{k:Nat}{a b:Int}(c:((k:Int)==3)=false)(d:((k:Int)==4)=false):∃r:Int,∀w:qW,qC 321 #[qB k,qI a,qI b] w λe w'=>e=.returned (qI r)/\w'=w:=by
 apply Exists.intro;intro w;go_enter func321,ntmps321;exact zg
theorem MW(k:Nat)(a b:Int):∃r:Int,∀w:qW,qC 321 #[qB k,qI a,qI b] w λe w'=>e=.returned (qI r)/\w'=w:=by
 by_cases c:k=3
 .subst c;exact Qn
 by_cases d:k=4
 .subst d;exact Qm
 exact Ql qt qt
theorem Nv{a b:Int}:∃r:Int,∀w:qW,qC 323 #[qB 10,qI a,qI b] w λe w'=>e=.returned (qI r)/\w'=w:=by
 apply Exists.intro;intro w;go_enter func323,ntmps323;exact zg
theorem Nu{a b:Int}:∃r:Int,∀w:qW,qC 323 #[qB 11,qI a,qI b] w λe w'=>e=.returned (qI r)/\w'=w:=by
 apply Exists.intro;intro w;go_enter func323,ntmps323;exact zg
theorem Qr{k:Nat}{a b:Int}(c:((k:Int)==10)=false)(d:((k:Int)==11)=false):∃r:Int,∀w:qW,qC 323 #[qB k,qI a,qI b] w λe w'=>e=.returned (qI r)/\w'=w:=by
 apply Exists.intro;intro w;go_enter func323,ntmps323;exact zg
theorem Ns(k:Nat)(a b:Int):∃r:Int,∀w:qW,qC 323 #[qB k,qI a,qI b] w λe w'=>e=.returned (qI r)/\w'=w:=by
 by_cases c:k=10
 .subst c;exact Nv
 by_cases d:k=11
 .subst d;exact Nu
 exact Qr qt qt
theorem Nl{a:Int}{n:Nat}(b:n<32):∃r:Int,∀w:qW,qC 324 #[qB 13,qI a,qJ n] w λe w'=>e=.returned (qI r)/\∃q,w'=w.drewN q:=by
 apply Exists.intro;intro w;go_enter func324,ntmps324;exact OT
theorem Nk{a:Int}{n:Nat}(b:n<32):∃r:Int,∀w:qW,qC 324 #[qB 14,qI a,qJ n] w λe w'=>e=.returned (qI r)/\∃q,w'=w.drewN q:=by
 apply Exists.intro;intro w;go_enter func324,ntmps324;exact OT
theorem Nj{a:Int}{n:Nat}(b:n<32):∃r:Int,∀w:qW,qC 324 #[qB 15,qI a,qJ n] w λe w'=>e=.returned (qI r)/\∃q,w'=w.drewN q:=by
 apply Exists.intro;intro w;go_enter func324,ntmps324;exact OT
theorem Ni{a:Int}{n:Nat}(b:n<32):∃r:Int,∀w:qW,qC 324 #[qB 16,qI a,qJ n] w λe w'=>e=.returned (qI r)/\∃q,w'=w.drewN q:=by
 apply Exists.intro;intro w;have c:IntKind.i64.wrap (32 - (n:Int))=((32 - n:Nat):Int):=by rw[show(32:Int) - (n:Int)=((32 - n:Nat):Int) by omega];exact qaf _ ⟨qo,qo⟩
 go_enter func324,ntmps324;go_wp2_with fail
 refine jU (λ_=>True) 9 ?_;iterate 4 refine nE trivial ?_
 unfold jh;refine jb 5 trivial ?_;refine oJ 4 (λK hK=>?_);refine dP (f:=325) (args:= #[]) (by rfl) (by go_simp) (lX _) ?_;exact Uk
theorem Qp{k:Nat}{a:Int}{n:Nat}(b:n<32)(c:((k:Int)==13)=false)(d:((k:Int)==14)=false)(g:((k:Int)==15)=false)(i:((k:Int)==16)=false):∃r:Int,∀w:qW,qC 324 #[qB k,qI a,qJ n] w λe w'=>e=.returned (qI r)/\∃q,w'=w.drewN q:=by
 apply Exists.intro;intro w;have j:IntKind.i64.wrap (32 - (n:Int))=((32 - n:Nat):Int):=by rw[show(32:Int) - (n:Int)=((32 - n:Nat):Int) by omega];exact qaf _ ⟨qo,qo⟩
 go_enter func324,ntmps324;go_wp2_with fail
 refine jU (λ_=>True) 9 ?_;iterate 4 refine nE trivial ?_
 unfold jh;refine jb 5 trivial ?_;refine oJ 4 (λK hK=>?_);refine dP (f:=325) (args:= #[]) (by rfl) (by go_simp) (lX _) ?_;exact Uk
theorem Nh(k:Nat)(a:Int)(n:Nat)(b:n<32):∃r:Int,∀w:qW,qC 324 #[qB k,qI a,qJ n] w λe w'=>e=.returned (qI r)/\∃q,w'=w.drewN q:=by
 by_cases c:k=13
 .subst c;exact Nl b
 by_cases d:k=14
 .subst d;exact Nk b
 by_cases f:k=15
 .subst f;exact Nj b
 by_cases g:k=16
 .subst g;exact Ni b
 exact Qp b qt qt qt qt
theorem Qk{a b:Int}:∃r:Int,∀w:qW,qC 327 #[qB 3,.int .u64 a,.int .u64 b] w λe w'=>e=.returned (.int .u64 r)/\w'=w:=by
 apply Exists.intro;intro w;go_enter func327,ntmps327;exact zg
theorem Qj{a b:Int}:∃r:Int,∀w:qW,qC 327 #[qB 4,.int .u64 a,.int .u64 b] w λe w'=>e=.returned (.int .u64 r)/\w'=w:=by
 apply Exists.intro;intro w;go_enter func327,ntmps327;exact zg
theorem Qi{k:Nat}{a b:Int}(c:((k:Int)==3)=false)(d:((k:Int)==4)=false):∃r:Int,∀w:qW,qC 327 #[qB k,.int .u64 a,.int .u64 b] w λe w'=>e=.returned (.int .u64 r)/\w'=w:=by
 apply Exists.intro;intro w;go_enter func327,ntmps327;exact zg
theorem MS(k:Nat)(a b:Int):∃r:Int,∀w:qW,qC 327 #[qB k,.int .u64 a,.int .u64 b] w λe w'=>e=.returned (.int .u64 r)/\w'=w:=by
 by_cases c:k=3
 .subst c;exact Qk
 by_cases d:k=4
 .subst d;exact Qj
 exact Qi qt qt
theorem Nr{a b:Int}:∃r:Int,∀w:qW,qC 329 #[qB 10,.int .u64 a,.int .u64 b] w λe w'=>e=.returned (.int .u64 r)/\w'=w:=by
 apply Exists.intro;intro w;go_enter func329,ntmps329;exact zg
theorem Nq{a b:Int}:∃r:Int,∀w:qW,qC 329 #[qB 11,.int .u64 a,.int .u64 b] w λe w'=>e=.returned (.int .u64 r)/\w'=w:=by
 apply Exists.intro;intro w;go_enter func329,ntmps329;exact zg
theorem Qq{k:Nat}{a b:Int}(c:((k:Int)==10)=false)(d:((k:Int)==11)=false):∃r:Int,∀w:qW,qC 329 #[qB k,.int .u64 a,.int .u64 b] w λe w'=>e=.returned (.int .u64 r)/\w'=w:=by
 apply Exists.intro;intro w;go_enter func329,ntmps329;exact zg
theorem Np(k:Nat)(a b:Int):∃r:Int,∀w:qW,qC 329 #[qB k,.int .u64 a,.int .u64 b] w λe w'=>e=.returned (.int .u64 r)/\w'=w:=by
 by_cases c:k=10
 .subst c;exact Nr
 by_cases d:k=11
 .subst d;exact Nq
 exact Qq qt qt
theorem Nc{a:Int}{n:Nat}(b:n<64):∃r:Int,∀w:qW,qC 330 #[qB 13,.int .u64 a,qJ n] w λe w'=>e=.returned (.int .u64 r)/\∃q,w'=w.drewN q:=by
 apply Exists.intro;intro w;go_enter func330,ntmps330;exact OT
theorem Nb{a:Int}{n:Nat}(b:n<64):∃r:Int,∀w:qW,qC 330 #[qB 14,.int .u64 a,qJ n] w λe w'=>e=.returned (.int .u64 r)/\∃q,w'=w.drewN q:=by
 apply Exists.intro;intro w;go_enter func330,ntmps330;exact OT
theorem Na{a:Int}{n:Nat}(b:n<64):∃r:Int,∀w:qW,qC 330 #[qB 15,.int .u64 a,qJ n] w λe w'=>e=.returned (.int .u64 r)/\∃q,w'=w.drewN q:=by
 apply Exists.intro;intro w;go_enter func330,ntmps330;exact OT
theorem MZ{a:Int}{n:Nat}(b:n<64):∃r:Int,∀w:qW,qC 330 #[qB 16,.int .u64 a,qJ n] w λe w'=>e=.returned (.int .u64 r)/\∃q,w'=w.drewN q:=by
 apply Exists.intro;intro w;have c:IntKind.i64.wrap (64 - (n:Int))=((64 - n:Nat):Int):=by rw[show(64:Int) - (n:Int)=((64 - n:Nat):Int) by omega];exact qaf _ ⟨qo,qo⟩
 go_enter func330,ntmps330;go_wp2_with fail
 refine jU (λ_=>True) 9 ?_;iterate 4 refine nE trivial ?_
 unfold jh;refine jb 5 trivial ?_;refine oJ 4 (λK hK=>?_);refine dP (f:=331) (args:= #[]) (by rfl) (by go_simp) (lW _) ?_;exact Uk
theorem Qo{k:Nat}{a:Int}{n:Nat}(b:n<64)(c:((k:Int)==13)=false)(d:((k:Int)==14)=false)(g:((k:Int)==15)=false)(i:((k:Int)==16)=false):∃r:Int,∀w:qW,qC 330 #[qB k,.int .u64 a,qJ n] w λe w'=>e=.returned (.int .u64 r)/\∃q,w'=w.drewN q:=by
 apply Exists.intro;intro w;have j:IntKind.i64.wrap (64 - (n:Int))=((64 - n:Nat):Int):=by rw[show(64:Int) - (n:Int)=((64 - n:Nat):Int) by omega];exact qaf _ ⟨qo,qo⟩
 go_enter func330,ntmps330;go_wp2_with fail
 refine jU (λ_=>True) 9 ?_;iterate 4 refine nE trivial ?_
 unfold jh;refine jb 5 trivial ?_;refine oJ 4 (λK hK=>?_);refine dP (f:=331) (args:= #[]) (by rfl) (by go_simp) (lW _) ?_;exact Uk
theorem MX(k:Nat)(a:Int)(n:Nat)(b:n<64):∃r:Int,∀w:qW,qC 330 #[qB k,.int .u64 a,qJ n] w λe w'=>e=.returned (.int .u64 r)/\∃q,w'=w.drewN q:=by
 by_cases c:k=13
 .subst c;exact Nc b
 by_cases d:k=14
 .subst d;exact Nb b
 by_cases f:k=15
 .subst f;exact Na b
 by_cases g:k=16
 .subst g;exact MZ b
 exact Qo b qt qt qt qt
theorem Qz{k:Nat}{a:Int}:∃r:Int,∀w:qW,qC 322 #[qB k,qI a,qI 0] w λe w'=>e=.returned (.tuple #[qI r,qJ 2])/\w'=w:=by
 exact Vz
theorem Qy{a b:Int}(hb:(b==0)=false)(c:¬b=0):∃r:Int,∀w:qW,qC 322 #[qB 7,qI a,qI b] w λe w'=>e=.returned (.tuple #[qI r,qJ 0])/\w'=w:=by
 exact Vz
theorem Qx{a b:Int}(hb:(b==0)=false)(c:¬b=0):∃r:Int,∀w:qW,qC 322 #[qB 9,qI a,qI b] w λe w'=>e=.returned (.tuple #[qI r,qJ 0])/\w'=w:=by
 exact Vz
theorem NH{a b:Int}(hb:(b==0)=false)(c:¬b=0)(d:¬wrap32 b=0)(hc:(a==2147483648)=false):∃r:Int,∀w:qW,qC 322 #[qB 6,qI a,qI b] w λe w'=>e=.returned (.tuple #[qI r,qJ 0])/\w'=w:=by
 exact Vz
theorem NG{a b:Int}(hb:(b==0)=false)(c:¬b=0)(d:¬wrap32 b=0)(hc:(a==2147483648)=true)(f:(b==4294967295)=false):∃r:Int,∀w:qW,qC 322 #[qB 6,qI a,qI b] w λe w'=>e=.returned (.tuple #[qI r,qJ 0])/\w'=w:=by
 exact Vz
theorem NF{a b:Int}(hb:(b==0)=false)(c:¬b=0)(d:¬wrap32 b=0)(hc:(a==2147483648)=true)(f:(b==4294967295)=true):∃r:Int,∀w:qW,qC 322 #[qB 6,qI a,qI b] w λe w'=>e=.returned (.tuple #[qI r,qJ 3])/\w'=w:=by
 exact Vz
theorem Qw{k:Nat}{a b:Int}(hb:(b==0)=false)(c:¬b=0)(d:¬wrap32 b=0)(f:((k:Int)==7)=false)(g:((k:Int)==9)=false)(i:((k:Int)==6)=false):∃r:Int,∀w:qW,qC 322 #[qB k,qI a,qI b] w λe w'=>e=.returned (.tuple #[qI r,qJ 0])/\w'=w:=by
 exact Vz
theorem ND(k:Nat)(a b:Int)(h0:0<=b)(U:b<4294967296):∃(r:Int)(y:Nat),y<=7/\∀w:qW,qC 322 #[qB k,qI a,qI b] w λe w'=>e=.returned (.tuple #[qI r,qJ y])/\w'=w:=by
 by_cases d:b=0
 .subst d;obtain⟨r,c⟩:=Qz (k:=k) (a:=a);exact⟨r,2,qo,c⟩
 have hb:(b==0)=false:=by simp[d]
 have f:¬wrap32 b=0:=by unfold wrap32;omega
 by_cases h:k=7
 .subst h;obtain⟨r,c⟩:=Qy (a:=a) hb d;exact⟨r,0,qo,c⟩
 by_cases i:k=9
 .subst i;obtain⟨r,c⟩:=Qx (a:=a) hb d;exact⟨r,0,qo,c⟩
 by_cases j:k=6
 .subst j;cases hc:(a==2147483648) with
  | false=>obtain⟨r,c⟩:=NH hb d f hc;exact⟨r,0,qo,c⟩
  | true=>
   cases g:(b==4294967295) with
   | false=>obtain⟨r,c⟩:=NG hb d f hc g;exact⟨r,0,qo,c⟩
   | true=>obtain⟨r,c⟩:=NF hb d f hc g;exact⟨r,3,qo,c⟩
 obtain⟨r,c⟩:=Qw (k:=k) (a:=a) hb d f qt qt qt;exact⟨r,0,qo,c⟩
theorem QS{T:Nat->Int}{a:Int}(h0:0<=a)(U:a<4294967296):∃r:Int,∀w:qW,Gz T w->qC 320 #[qB 0,qI a] w λe w'=>e=.returned (qI r)/\w'=w:=by
 obtain⟨r,b⟩:=GZ a h0 qo;have g:IntKind.u64.wrap a=a:=by rw[qcy];omega
 have d:=qH b;clear b;apply Exists.intro;intro w i;have f:=qH (lX w);go_enter func320,ntmps320;go_wp2_with fail
 refine f.o.mono ?_;rintro e c⟨rfl,rfl⟩;go_wp2_with fail
 refine(d.o c).mono ?_;rintro e c⟨rfl,rfl⟩;exact zg
theorem QO{T:Nat->Int}{a:Int}(h0:0<=a)(U:a<4294967296):∃r:Int,∀w:qW,Gz T w->qC 320 #[qB 1,qI a] w λe w'=>e=.returned (qI r)/\w'=w:=by
 obtain⟨r,b⟩:=KZ T a;have h:IntKind.u64.wrap a=a:=by rw[qcy];omega
 have c:=qH b;clear b;rcases(by omega:r<=32\/32<r) with hm | hm;all_goals
  apply Exists.intro;intro w d;have f:=qH (lX w);go_enter func320,ntmps320;go_wp2_with fail
  refine(c.o w d).mono ?_;rintro e g⟨rfl,rfl⟩;go_wp2_with fail
  refine f.o.mono ?_;rintro e g⟨rfl,rfl⟩;go_wp2;go_ret;refine⟨?_,rfl⟩;go_simp;with_reducible rfl
theorem QN{T:Nat->Int}{k:Nat}{a:Int}(h0:0<=a)(U:a<4294967296)(d:((k:Int)==0)=false)(f:((k:Int)==1)=false):∃r:Int,∀w:qW,Gz T w->qC 320 #[qB k,qI a] w λe w'=>e=.returned (qI r)/\w'=w:=by
 obtain⟨r,b⟩:=Lp a;have g:IntKind.u64.wrap a=a:=by rw[qcy];omega
 have c:=qH b;clear b;apply Exists.intro;intro w i;have j:=qH (lX w);go_enter func320,ntmps320;go_wp2_with fail
 refine(c.o w).mono ?_;rintro e l⟨rfl,rfl⟩;exact zg
theorem NL(T:Nat->Int)(k:Nat)(a:Int)(h0:0<=a)(U:a<4294967296):∃r:Int,∀w:qW,Gz T w->qC 320 #[qB k,qI a] w λe w'=>e=.returned (qI r)/\w'=w:=by
 by_cases b:k=0
 .subst b;exact QS h0 U
 by_cases c:k=1
 .subst c;exact QO h0 U
 exact QN h0 U qt qt
theorem Qv{k:Nat}{a:Int}:∃r:Int,∀w:qW,qC 328 #[qB k,.int .u64 a,.int .u64 0] w λe w'=>e=.returned (.tuple #[.int .u64 r,qJ 2])/\w'=w:=by
 exact VC
theorem Qu{a b:Int}(hb:(b==0)=false)(c:¬b=0):∃r:Int,∀w:qW,qC 328 #[qB 7,.int .u64 a,.int .u64 b] w λe w'=>e=.returned (.tuple #[.int .u64 r,qJ 0])/\w'=w:=by
 exact VC
theorem Qt{a b:Int}(hb:(b==0)=false)(c:¬b=0):∃r:Int,∀w:qW,qC 328 #[qB 9,.int .u64 a,.int .u64 b] w λe w'=>e=.returned (.tuple #[.int .u64 r,qJ 0])/\w'=w:=by
 exact VC
theorem NC{a b:Int}(hb:(b==0)=false)(c:¬b=0)(d:¬wrap64 b=0)(hc:(a==9223372036854775808)=false):∃r:Int,∀w:qW,qC 328 #[qB 6,.int .u64 a,.int .u64 b] w λe w'=>e=.returned (.tuple #[.int .u64 r,qJ 0])/\w'=w:=by
 exact VC
theorem Nz{a b:Int}(hb:(b==0)=false)(c:¬b=0)(d:¬wrap64 b=0)(hc:(a==9223372036854775808)=true)(f:(b==18446744073709551615)=false):∃r:Int,∀w:qW,qC 328 #[qB 6,.int .u64 a,.int .u64 b] w λe w'=>e=.returned (.tuple #[.int .u64 r,qJ 0])/\w'=w:=by
 exact VC
theorem Ny{a b:Int}(hb:(b==0)=false)(c:¬b=0)(d:¬wrap64 b=0)(hc:(a==9223372036854775808)=true)(f:(b==18446744073709551615)=true):∃r:Int,∀w:qW,qC 328 #[qB 6,.int .u64 a,.int .u64 b] w λe w'=>e=.returned (.tuple #[.int .u64 r,qJ 3])/\w'=w:=by
 exact VC
theorem Qs{k:Nat}{a b:Int}(hb:(b==0)=false)(c:¬b=0)(d:¬wrap64 b=0)(f:((k:Int)==7)=false)(g:((k:Int)==9)=false)(i:((k:Int)==6)=false):∃r:Int,∀w:qW,qC 328 #[qB k,.int .u64 a,.int .u64 b] w λe w'=>e=.returned (.tuple #[.int .u64 r,qJ 0])/\w'=w:=by
 exact VC
theorem Nw(k:Nat)(a b:Int)(h0:0<=b)(U:b<18446744073709551616):∃(r:Int)(y:Nat),y<=7/\∀w:qW,qC 328 #[qB k,.int .u64 a,.int .u64 b] w λe w'=>e=.returned (.tuple #[.int .u64 r,qJ y])/\w'=w:=by
 by_cases d:b=0
 .subst d;obtain⟨r,c⟩:=Qv (k:=k) (a:=a);exact⟨r,2,qo,c⟩
 have hb:(b==0)=false:=by simp[d]
 have f:¬wrap64 b=0:=by unfold wrap64;omega
 by_cases h:k=7
 .subst h;obtain⟨r,c⟩:=Qu (a:=a) hb d;exact⟨r,0,qo,c⟩
 by_cases i:k=9
 .subst i;obtain⟨r,c⟩:=Qt (a:=a) hb d;exact⟨r,0,qo,c⟩
 by_cases j:k=6
 .subst j;cases hc:(a==9223372036854775808) with
  | false=>obtain⟨r,c⟩:=NC hb d f hc;exact⟨r,0,qo,c⟩
  | true=>
   cases g:(b==18446744073709551615) with
   | false=>obtain⟨r,c⟩:=Nz hb d f hc g;exact⟨r,0,qo,c⟩
   | true=>obtain⟨r,c⟩:=Ny hb d f hc g;exact⟨r,3,qo,c⟩
 obtain⟨r,c⟩:=Qs (k:=k) (a:=a) hb d f qt qt qt;exact⟨r,0,qo,c⟩
theorem QM{T:Nat->Int}{a:Int}(h0:0<=a)(U:a<18446744073709551616):∃r:Int,∀w:qW,Gz T w->qC 326 #[qB 0,.int .u64 a] w λe w'=>e=.returned (.int .u64 r)/\w'=w:=by
 obtain⟨r,b⟩:=GZ a h0 qo;have d:=qH b;clear b;apply Exists.intro;intro w g;have f:=qH (lW w);go_enter func326,ntmps326;go_wp2_with fail
 refine f.o.mono ?_;rintro e c⟨rfl,rfl⟩;go_wp2_with fail
 refine(d.o c).mono ?_;rintro e c⟨rfl,rfl⟩;exact zg
theorem QL{T:Nat->Int}{a:Int}(h0:0<=a)(U:a<18446744073709551616):∃r:Int,∀w:qW,Gz T w->qC 326 #[qB 1,.int .u64 a] w λe w'=>e=.returned (.int .u64 r)/\w'=w:=by
 obtain⟨r,b⟩:=KZ T a;have c:=qH b;clear b;rcases(by omega:r<=64\/64<r) with hm | hm;all_goals
  apply Exists.intro;intro w d;have f:=qH (lW w);go_enter func326,ntmps326;go_wp2_with fail
  refine(c.o w d).mono ?_;rintro e g⟨rfl,rfl⟩;go_wp2_with fail
  refine f.o.mono ?_;rintro e g⟨rfl,rfl⟩;go_wp2;go_ret;refine⟨?_,rfl⟩;go_simp;with_reducible rfl
theorem QK{T:Nat->Int}{k:Nat}{a:Int}(h0:0<=a)(U:a<18446744073709551616)(d:((k:Int)==0)=false)(f:((k:Int)==1)=false):∃r:Int,∀w:qW,Gz T w->qC 326 #[qB k,.int .u64 a] w λe w'=>e=.returned (.int .u64 r)/\w'=w:=by
 obtain⟨r,b⟩:=Lp a;have c:=qH b;clear b;apply Exists.intro;intro w g;have i:=qH (lW w);go_enter func326,ntmps326;go_wp2_with fail
 refine(c.o w).mono ?_;rintro e j⟨rfl,rfl⟩;exact zg
theorem NK(T:Nat->Int)(k:Nat)(a:Int)(h0:0<=a)(U:a<18446744073709551616):∃r:Int,∀w:qW,Gz T w->qC 326 #[qB k,.int .u64 a] w λe w'=>e=.returned (.int .u64 r)/\w'=w:=by
 by_cases b:k=0
 .subst b;exact QM h0 U
 by_cases c:k=1
 .subst c;exact QL h0 U
 exact QK h0 U qt qt
theorem QJ{T:Nat->Int}{k:Nat}{a b r:Int}(d:(k:Int)<=2)(hr:∀w:qW,Gz T w->qC 320 #[qB k,qI a] w λe w'=>e=.returned (qI r)/\w'=w):∀w:qW,Gz T w->qC 300 #[qB k,qI a,qI b] w λe w'=>e=.returned (.tuple #[qI r,qJ 0])/\∃q,w'=w.drewN q:=by
 intro w c;have HR:=qH (hr w c);exact VD
theorem QF{T:Nat->Int}{k:Nat}{a b r:Int}(c:¬(k:Int)<=2)(d:(k:Int)<=5)(hr:∀w:qW,qC 321 #[qB k,qI a,qI b] w λe w'=>e=.returned (qI r)/\w'=w):∀w:qW,Gz T w->qC 300 #[qB k,qI a,qI b] w λe w'=>e=.returned (.tuple #[qI r,qJ 0])/\∃q,w'=w.drewN q:=by
 intro w f;have HR:=qH (hr w);exact VD
theorem QI{T:Nat->Int}{k:Nat}{a b r:Int}{y:Nat}(f:¬(k:Int)<=2)(g:¬(k:Int)<=5)(h:(k:Int)<=9)(c:∀w:qW,qC 322 #[qB k,qI a,qI b] w λe w'=>e=.returned (.tuple #[qI r,qJ y])/\w'=w):∀w:qW,Gz T w->qC 300 #[qB k,qI a,qI b] w λe w'=>e=.returned (.tuple #[qI r,qJ y])/\∃q,w'=w.drewN q:=by
 intro w i;have d:=qH (c w);clear c;go_enter func300,ntmps300;go_wp2_with fail
 refine d.o.mono ?_;rintro e j⟨rfl,rfl⟩;go_wp2;refine qal (v:=.tuple #[qI r,qJ y]) ?_ rfl ⟨rfl,⟨0,rfl⟩⟩;simp[results,results300]
theorem QG{T:Nat->Int}{k:Nat}{a b r:Int}(c:¬(k:Int)<=2)(d:¬(k:Int)<=5)(f:¬(k:Int)<=9)(g:(k:Int)<=12)(hr:∀w:qW,qC 323 #[qB k,qI a,qI b] w λe w'=>e=.returned (qI r)/\w'=w):∀w:qW,Gz T w->qC 300 #[qB k,qI a,qI b] w λe w'=>e=.returned (.tuple #[qI r,qJ 0])/\∃q,w'=w.drewN q:=by
 intro w i;have HR:=qH (hr w);exact VD
theorem QH{T:Nat->Int}{k n:Nat}{a b r:Int}(g:¬(k:Int)<=2)(h:¬(k:Int)<=5)(i:¬(k:Int)<=9)(j:¬(k:Int)<=12)(hm:b.tmod 32=(n:Nat))(l:n<32)(c:∀w:qW,qC 324 #[qB k,qI a,qJ n] w λe w'=>e=.returned (qI r)/\∃q,w'=w.drewN q):∀w:qW,Gz T w->qC 300 #[qB k,qI a,qI b] w λe w'=>e=.returned (.tuple #[qI r,qJ 0])/\∃q,w'=w.drewN q:=by
 intro w m;have d:=qH (lX w);have f:=qH (c w);have p:IntKind.u32.wrap (n:Int)=(n:Int):=by rw[IntKind.wrap_u32];omega
 have s:IntKind.i64.wrap (n:Int)=(n:Int):=qaf _ ⟨qo,qo⟩;clear c;go_enter func300,ntmps300;go_wp2_with fail
 refine d.o.mono ?_;rintro e t⟨rfl,rfl⟩;go_wp2_with fail
 refine f.o.mono ?_;rintro e u⟨rfl,q,rfl⟩;go_wp2;refine qal (v:=.tuple #[qI r,qJ 0]) ?_ rfl ⟨rfl,q,rfl⟩;simp[results,results300]
theorem NJ(T:Nat->Int)(k:Nat)(a b:Int)(h0:0<=a)(U:a<4294967296)(d:0<=b)(f:b<4294967296):∃(r:Int)(y:Nat),y<=7/\∀w:qW,Gz T w->qC 300 #[qB k,qI a,qI b] w λe w'=>e=.returned (.tuple #[qI r,qJ y])/\∃q,w'=w.drewN q:=by
 by_cases c1:k<=2
 .obtain⟨r,c⟩:=NL T k a h0 U;exact⟨r,0,qo,QJ qo c⟩
 by_cases c2:k<=5
 .obtain⟨r,c⟩:=MW k a b;exact⟨r,0,qo,QF qo qo c⟩
 by_cases c3:k<=9
 .obtain⟨r,y,hy,c⟩:=ND k a b d f;exact⟨r,y,hy,QI qo qo qo c⟩
 by_cases c4:k<=12
 .obtain⟨r,c⟩:=Ns k a b;exact⟨r,0,qo,QG qo qo qo qo c⟩
 obtain⟨m,rfl⟩:∃m:Nat,b=m:=⟨b.toNat,qo⟩;obtain⟨r,c⟩:=Nh k a (m%32) qo;exact⟨r,0,qo,QH qo qo qo qo (by rfl) qo c⟩
theorem QE{T:Nat->Int}{k:Nat}{a b r:Int}(d:(k:Int)<=2)(hr:∀w:qW,Gz T w->qC 326 #[qB k,.int .u64 a] w λe w'=>e=.returned (.int .u64 r)/\w'=w):∀w:qW,Gz T w->qC 301 #[qB k,.int .u64 a,.int .u64 b] w λe w'=>e=.returned (.tuple #[.int .u64 r,qJ 0])/\∃q,w'=w.drewN q:=by
 intro w c;have HR:=qH (hr w c);exact VE
theorem QA{T:Nat->Int}{k:Nat}{a b r:Int}(c:¬(k:Int)<=2)(d:(k:Int)<=5)(hr:∀w:qW,qC 327 #[qB k,.int .u64 a,.int .u64 b] w λe w'=>e=.returned (.int .u64 r)/\w'=w):∀w:qW,Gz T w->qC 301 #[qB k,.int .u64 a,.int .u64 b] w λe w'=>e=.returned (.tuple #[.int .u64 r,qJ 0])/\∃q,w'=w.drewN q:=by
 intro w f;have HR:=qH (hr w);exact VE
theorem QD{T:Nat->Int}{k:Nat}{a b r:Int}{y:Nat}(f:¬(k:Int)<=2)(g:¬(k:Int)<=5)(h:(k:Int)<=9)(c:∀w:qW,qC 328 #[qB k,.int .u64 a,.int .u64 b] w λe w'=>e=.returned (.tuple #[.int .u64 r,qJ y])/\w'=w):∀w:qW,Gz T w->qC 301 #[qB k,.int .u64 a,.int .u64 b] w λe w'=>e=.returned (.tuple #[.int .u64 r,qJ y])/\∃q,w'=w.drewN q:=by
 intro w i;have d:=qH (c w);clear c;go_enter func301,ntmps301;go_wp2_with fail
 refine d.o.mono ?_;rintro e j⟨rfl,rfl⟩;go_wp2;refine qal (v:=.tuple #[.int .u64 r,qJ y]) ?_ rfl ⟨rfl,⟨0,rfl⟩⟩;simp[results,results301]
theorem QB{T:Nat->Int}{k:Nat}{a b r:Int}(c:¬(k:Int)<=2)(d:¬(k:Int)<=5)(f:¬(k:Int)<=9)(g:(k:Int)<=12)(hr:∀w:qW,qC 329 #[qB k,.int .u64 a,.int .u64 b] w λe w'=>e=.returned (.int .u64 r)/\w'=w):∀w:qW,Gz T w->qC 301 #[qB k,.int .u64 a,.int .u64 b] w λe w'=>e=.returned (.tuple #[.int .u64 r,qJ 0])/\∃q,w'=w.drewN q:=by
 intro w i;have HR:=qH (hr w);exact VE
theorem QC{T:Nat->Int}{k n:Nat}{a b r:Int}(g:¬(k:Int)<=2)(h:¬(k:Int)<=5)(i:¬(k:Int)<=9)(j:¬(k:Int)<=12)(hm:b.tmod 64=(n:Nat))(l:n<64)(c:∀w:qW,qC 330 #[qB k,.int .u64 a,qJ n] w λe w'=>e=.returned (.int .u64 r)/\∃q,w'=w.drewN q):∀w:qW,Gz T w->qC 301 #[qB k,.int .u64 a,.int .u64 b] w λe w'=>e=.returned (.tuple #[.int .u64 r,qJ 0])/\∃q,w'=w.drewN q:=by
 intro w m;have d:=qH (lW w);have f:=qH (c w);have p:IntKind.u64.wrap (n:Int)=(n:Int):=by rw[qcy];omega
 have s:IntKind.i64.wrap (n:Int)=(n:Int):=qaf _ ⟨qo,qo⟩;clear c;go_enter func301,ntmps301;go_wp2_with fail
 refine d.o.mono ?_;rintro e t⟨rfl,rfl⟩;go_wp2_with fail
 refine f.o.mono ?_;rintro e u⟨rfl,q,rfl⟩;go_wp2;refine qal (v:=.tuple #[.int .u64 r,qJ 0]) ?_ rfl ⟨rfl,q,rfl⟩;simp[results,results301]
theorem NI(T:Nat->Int)(k:Nat)(a b:Int)(h0:0<=a)(U:a<18446744073709551616)(d:0<=b)(f:b<18446744073709551616):∃(r:Int)(y:Nat),y<=7/\∀w:qW,Gz T w->qC 301 #[qB k,.int .u64 a,.int .u64 b] w λe w'=>e=.returned (.tuple #[.int .u64 r,qJ y])/\∃q,w'=w.drewN q:=by
 by_cases c1:k<=2
 .obtain⟨r,c⟩:=NK T k a h0 U;exact⟨r,0,qo,QE qo c⟩
 by_cases c2:k<=5
 .obtain⟨r,c⟩:=MS k a b;exact⟨r,0,qo,QA qo qo c⟩
 by_cases c3:k<=9
 .obtain⟨r,y,hy,c⟩:=Nw k a b d f;exact⟨r,y,hy,QD qo qo qo c⟩
 by_cases c4:k<=12
 .obtain⟨r,c⟩:=Np k a b;exact⟨r,0,qo,QB qo qo qo qo c⟩
 obtain⟨m,rfl⟩:∃m:Nat,b=m:=⟨b.toNat,qo⟩;obtain⟨r,c⟩:=MX k a (m%64) qo;exact⟨r,0,qo,QC qo qo qo qo (by rfl) qo c⟩
end Go.Proofs.YtfkcodlceoghpaaGreatDoor
