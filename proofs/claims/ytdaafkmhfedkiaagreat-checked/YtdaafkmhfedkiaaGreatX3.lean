import Derived.Test.YtdaafkmhfedkiaaGreatX2
namespace Go.Proofs.YtdaafkmhfedkiaaGreat
set_option maxHeartbeats 200000
open Go.RowKit Go.Proofs.Tryz
def byteCells(os:List Nat):List Value:=os.map fun(k:Nat)=>qB k
def je(os:List Nat)(a x:Nat):Except Err (List Nat):=
 if x∈[2,3,4] then(if os.length=50 then .error (2,a) else .ok (os++[x]))
 else if x=5 then(if os.getLast?=some 4 then .ok (os.dropLast++[5]) else .error (2,a))
 else if x=11 then .ok os.dropLast
 else .ok os
theorem Np{os os':qM}{a x:Nat}(h:je os a x=.ok os')(b:os.length<=50):os'.length<=50:=by
 unfold je at h;split at h
 .split at h
  .cases h
  cases h;simp;omega
 split at h
 .split at h
  .cases h;rename_i c;cases os with
   | nil=>simp at c
   | cons o os=>simp;simp at b;omega
  cases h
 split at h
 .cases h;simp;omega
 cases h;exact b
def mo(s:qS)(n:Nat):Nat->List Nat->Nat->Except Err Nat
 | 0,_,_=>.error (2,n)
 | fuel+1,os,j=>
  match lD s n j with
  | .error e=>.error e
  | .ok (x,j1)=>
   match(if x=11/\os=[] then .ok os else je os j x) with
   | .error e=>.error e
   | .ok os'=>
    match jc j x s n j1 with
    | .error e=>.error e
    | .ok (_,e)=>if x=11/\os=[] then .ok e else mo s n fuel os' e
def zk(s:qS)(n i:Nat):Except Err Nat:=mo s n (n - i) [] i
def KL(os:List Nat)(o':Option (List Nat))(j x:Nat):Prop:=x=11/\os=[]/\o'=none\/¬(x=11/\os=[])/\∃os',je os j x=.ok os'/\o'=some os'
structure Goes(P:Program)(m l:Nat)(s:qS)(n:Nat)(Hl:Nat->Nat->World->Prop)(Jq:Option (List Nat)->Nat->(Nat->Prop)->World->Prop):Prop where
 still:∀o j F W W' S,Jq o j F W->Kept S W W'->(∀k,k<W.heap.size->S k->¬F k)->Jq o j F W'
 lt:∀o j F W k,Jq o j F W->F k->k<W.heap.size
 round:∀os o' j F W e x y gv lv hand,Jq (some os) j F W->e<=n->j<e->os.length<=50->KL os o' j x->x=bt s j->j<n->jc j x s n (j+1)=.ok (y,e)->
  dG hand y.dH W gv->isRow 152 2 numCells hand y.dF W lv->(∀k,hand k->k<W.heap.size/\¬F k)->
  ∃f tmps assign body,(Instr.yield l #[.agg (uD j e x y gv lv).toArray]).run P W=.ok (.round l f tmps assign body) W/\
   RoundIn Fence.wide m P l f tmps assign body W fun ε W'=>
    (ε=.returned (.bool true)/\∃F',Jq o' e F' W'/\Kept F W W'/\∀k,F' k->F k\/hand k\/W.heap.size<=k)\/
    (∃q p:Nat,ε=iK q p/\Hl q p W'/\Kept F W W')
structure aa5(s:qS)(n i:Nat)(Hl:Nat->Nat->World->Prop)(Jq:Option (List Nat)->Nat->(Nat->Prop)->World->Prop)(F0:Nat->Prop)(W0:World)(ε:Ending)(W':World):Prop where
 kept:Kept F0 W0 W'
 how:(∃j F',zk s n i=.ok j/\ε=.returned (.tuple #[])/\Jq none j F' W'/\∀k,F' k->k<W0.heap.size->F0 k)\/
  (∃q p:Nat,zk s n i=.error (q,p)/\ε=iK q p/\∃o j F',Jq o j F' W')\/(∃q p:Nat,Hl q p W'/\ε=iK q p)
def ZH(w:World)(b:Nat):Nat:=match w.cell? (qA b 1) with | some (.int _ q)=>q.toNat | _=>0
theorem QE{w:qW}{b:Nat}{s:qS}{i n:Nat}(h:Rd w b s i n):ZH w b=i:=by unfold ZH;rw[h.c1];simp
theorem UC{s:qS}{n fuel j:Nat}{os:qM}(hf:n - j<=fuel)(h:¬j<n):mo s n fuel os j=.error (2,n):=by
 cases fuel with
 | zero=>rfl
 | succ f=>simp[mo,iW h]
theorem Uz{s:qS}{n fuel j:Nat}{os:qM}{e:Err}(hf:n - j<=fuel)(h:j<n)(a:¬(bt s j=11/\os=[]))(b:je os j (bt s j)=.error e):mo s n fuel os j=.error e:=by
 cases fuel with
 | zero=>omega
 | succ f=>simp only[mo,eB h,if_neg a,b]
theorem NH{s:qS}{n fuel j:Nat}{os os':qM}{e:Err}(hf:n - j<=fuel)(h:j<n)(a:bt s j=11/\os=[]/\os'=[]\/¬(bt s j=11/\os=[])/\je os j (bt s j)=.ok os')(hb:jc j (bt s j) s n (j+1)=.error e):
  mo s n fuel os j=.error e:=by
 cases fuel with
 | zero=>omega
 | succ f=>
  rcases a with⟨U,L,h3⟩ | ⟨U,L⟩
  .simp only[mo,eB h,if_pos (And.intro U L),hb]
  simp only[mo,eB h,if_neg U,L,hb]
theorem UB{s:qS}{n fuel j e:Nat}{os:qM}{y:ic}(hf:n - j<=fuel)(h:j<n)(a:bt s j=11/\os=[])(hb:jc j (bt s j) s n (j+1)=.ok (y,e)):mo s n fuel os j=.ok e:=by
 cases fuel with
 | zero=>omega
 | succ f=>simp only[mo,eB h,if_pos a,hb]
theorem UA{s:qS}{n fuel j e:Nat}{os os':qM}{y:ic}(hf:n - j<=fuel)(h:j<n)(a:¬(bt s j=11/\os=[]))(b:je os j (bt s j)=.ok os')(hb:jc j (bt s j) s n (j+1)=.ok (y,e)):
  mo s n fuel os j=mo s n (fuel - 1) os' e:=by
 cases fuel with
 | zero=>omega
 | succ f=>simp only[mo,eB h,if_neg a,b,hb,Nat.add_sub_cancel]
theorem Xr{K room:Nat}{s:qS}{n:Nat}:∀(m k:Nat) (z:Int) (j:Nat) {v:Int} {a:Nat},yO K room s n m k z j=.ok (v,a)->j<a/\a<=n:=by
 intro m;induction m with
 | zero=>intro k z j v a h;simp[yO] at h
 | succ m c=>
  intro k z j v a h;unfold yO at h;by_cases b:j<n
  .rw[eB b] at h;simp only at h;split at h
   .cases h
   split at h
   .cases h;omega
   have:=c _ _ _ h;omega
  rw[iW b] at h;simp at h
theorem zY{K room:Nat}{s:qS}{n i:Nat}{v:Int}{j:Nat}(h:sM K room s n i=.ok (v,j)):i<j/\j<=n:=Xr _ _ _ _ h
theorem O9{b:Type}{tM:qS->Nat->Nat->Except Err (b×Nat)}{s:qS}{n:Nat}(d:∀i x j,tM s n i=.ok (x,j)->i<=j):
  ∀(k:Nat) (M:List b) (j:Nat) {xs:List b} {a:Nat},eO tM s n k M j=.ok (xs,a)->j<=a:=by
 intro k;induction k with
 | zero=>intro M j xs a h;simp[eO] at h;omega
 | succ k f=>
  intro M j xs a h;unfold eO at h;rcases c:tM s n j with e|⟨x,g⟩
  .rw[c] at h;cases h
  rw[c] at h;have U:=d _ _ _ c;have L:=f _ _ h;omega
theorem Q9{b:Type}{most:Nat}{tM:qS->Nat->Nat->Except Err (b×Nat)}{s:qS}{n i:Nat}{xs:List b}{j:Nat}(c:∀i x j,tM s n i=.ok (x,j)->i<=j)(h:dY most tM s n i=.ok (xs,j)):i<j:=by
 unfold dY at h;rcases a:eZ most s n i with e|⟨k,d⟩
 .rw[a] at h;cases h
 rw[a] at h;have U:=gD a;have L:=O9 c _ _ _ h;omega
theorem MI{s:qS}{n:Nat}:∀i x j,uM s n i=.ok (x,j)->i<=j:=fun i x j h=>by
 obtain⟨v,a⟩:=x;have:=mW h;omega
theorem Oh{s:qS}{n i:Nat}{y:ic}{e:Nat}(h:jI s n i=.ok (y,e)):i<=e:=by
 unfold jI at h;rcases hp:o6 s n i with q|⟨x,j⟩
 .rw[hp] at h;cases h
 rw[hp] at h;simp only at h;split at h
 .cases h;omega
 split at h
 .cases h;omega
 rcases a:sM 4 5 s n i with q|⟨v,b⟩
 .rw[a] at h;cases h
 rw[a] at h;simp only at h;have:=zY a;split at h
 .cases h
 cases h;omega
theorem WE{a x:Nat}{s:qS}{n i:Nat}{y:ic}{e:Nat}(h:jc a x s n i=.ok (y,e)):i<=e:=by
 unfold jc at h;split at h
 .exact Oh h
 split at h
 .rcases ho:dY 20 uM s n i with q|⟨v,j⟩
  .rw[ho] at h;cases h
  rw[ho] at h;simp only at h;rcases b:uM s n j with q|⟨u,c⟩
  .rw[b] at h;cases h
  rw[b] at h;cases h;have:=Q9 MI ho;have:=MI _ _ _ b;omega
 split at h
 .rcases ho:uM s n i with q|⟨v,j⟩
  .rw[ho] at h;cases h
  rw[ho] at h;simp only at h;rcases b:uM s n j with q|⟨u,c⟩
  .rw[b] at h;cases h
  rw[b] at h;cases h;have:=MI _ _ _ ho;have:=MI _ _ _ b;omega
 split at h
 .rcases ho:uM s n i with q|⟨v,j⟩
  .rw[ho] at h;cases h
  rw[ho] at h;cases h;exact MI _ _ _ ho
 split at h
 .rcases ho:uM s n i with q|⟨v,j⟩
  .rw[ho] at h;cases h
  rw[ho] at h;simp only at h;rcases b:iO [0] s n j with q|⟨u,c⟩
  .rw[b] at h;cases h
  rw[b] at h;cases h;have:=MI _ _ _ ho;have:=vB b;omega
 split at h
 .rcases ho:iO [0] s n i with q|⟨v,j⟩
  .rw[ho] at h;cases h
  rw[ho] at h;cases h;have:=vB ho;omega
 split at h
 .rcases ho:sM 4 4 s n i with q|⟨v,j⟩
  .rw[ho] at h;cases h
  rw[ho] at h;cases h;have:=zY ho;omega
 split at h
 .rcases ho:sM 9 1 s n i with q|⟨v,j⟩
  .rw[ho] at h;cases h
  rw[ho] at h;cases h;have:=zY ho;omega
 split at h
 .cases h;omega
 cases h
end Go.Proofs.YtdaafkmhfedkiaaGreat
