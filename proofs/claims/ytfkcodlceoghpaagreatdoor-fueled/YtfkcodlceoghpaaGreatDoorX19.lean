import Derived.Test.YtfkcodlceoghpaaGreatDoorX17
import Derived.Test.YtfkcodlceoghpaaGreatDoorX18
namespace Go.Proofs.YtfkcodlceoghpaaGreatDoor
set_option maxHeartbeats 1600000
set_option maxRecDepth 100000
set_option linter.unusedSimpArgs false
set_option linter.unusedVariables false
open Go.RowKit Go.Proofs.Tryz
section
variable {w0 w:qW}{G:Gm}{E:Ev}{Q:Nat->Gf}{rb Y fu most:Nat}{tv fv ev bv:qv}{Xq:List It}{s s':Rn}
theorem eZ{n:Int}{a:Rn}(h:s.pop=some (n,a)):a.lab=s.lab/\a.eY=s.eY/\a.mem=s.mem/\a.dW=s.dW/\a.stk.length+1=s.stk.length:=by
 unfold Rn.pop at h;split at h
 .cases h
 rename_i q b;cases h;have:s.stk≠[]:=by rintro e;rw[e]at b;simp at b
 have:=List.length_pos_iff.2 this;exact⟨rfl,rfl,rfl,rfl,qt⟩
theorem Pz(h:RA w0 G rb Y fu tv fv ev bv most Xq s w)(hl:s.stk.length<=300000){n b a:Int}{c d g:Rn}(U:s.pop=some (n,c))(i:c.pop=some (b,d))(j:d.pop=some (a,g)){r:Int}(k:r=if n≠0 then a else b):qC 258 #[qP rb] w λe w'=>qU e/\RA w0 G rb Y fu tv fv ev bv most Xq (g.put r) w':=by
 obtain⟨-,-,-,-,l1⟩:=eZ U;obtain⟨-,-,-,-,l2⟩:=eZ i;obtain⟨-,-,-,-,y⟩:=eZ j;have H:=qH h;have l:=qH k;clear k;have f:qh (s.pop=some (n,c)/\c.pop=some (b,d)/\d.pop=some (a,g)):=⟨U,i,j⟩;clear h U i j;go_enter func258,ntmps258;go_wp2_with fail
 refine(fI H.o hl f.o.1).mono ?_;rintro e z⟨rfl,m⟩;have p:=qH m;clear m H;go_wp2_with fail
 refine(fI p.o qo f.o.2.1).mono ?_;rintro e A⟨rfl,q⟩;have t:=qH q;clear q p;go_wp2_with fail
 refine(fI t.o qo f.o.2.2).mono ?_;rintro e B⟨rfl,u⟩;have K3:=qH u;clear u t f;by_cases hn:n=0
 .have v:(n !=0)=false:=by simp[hn]
  have x:(n==0)=true:=by simp[hn]
  have HR:=qH (iw K3.o qo b);have HN:qh (r=b):=by show _=_;rw[l.o,qaa (by simp[hn])]
  exact WK
 have v:(n !=0)=true:=by simp[hn]
 have x:(n==0)=false:=by simp[hn]
 have HR:=qH (iw K3.o qo a);have HN:qh (r=a):=by show _=_;rw[l.o,qac hn]
 exact WK
theorem ny.same{a:Rn}(h:ny E s)(b:a.lab=s.lab):ny E a:=by unfold ny;rw[b];exact h
theorem GG{which:Nat}(h:oG E which s=some s'):s'.eY=s.eY/\s'.stk=s.stk/\s'.lab.length=s.lab.length+1/\(ny E s->ny E s')/\∃f b,s.eY.getLast?=some f/\(E.fs.getD f.f PF.none).bs[which]?=some b:=by
 unfold oG at h;split at h
 .cases h
 rename_i f hf;split at h
 .cases h
 rename_i b hb;split at h
 .cases h
 cases h;refine⟨rfl,rfl,qs,λc l hl=>?_,f,b,hf,hb⟩;obtain hl | hl:=qar.1 hl
 .exact c l hl
 simp at hl;subst hl;rw[qag]at hb;cases a:E.fs[f.f]? with
 | none=>rw[a]at hb;simp[PF.none]at hb
 | some F=>rw[a]at hb;exact⟨F,rfl,(qae.1 hb).1⟩
theorem SL{which:Nat}(h:RA w0 G rb Y fu tv fv ev bv most Xq s w)(t:jg Xq G E Q fv)(hL:ny E s)(hl:s.stk.length<=300000)(aj:s.lab.length<100000)(M:s.eY.length<=50)(hc:TC E which s=some s'):qC 254 #[qP rb,qJ which] w λe w'=>qU e/\RA w0 G rb Y fu tv fv ev bv most Xq s' w':=by
 unfold TC at hc;cases hp:s.pop with
 | none=>rw[hp]at hc;cases hc
 | some ns=>
  obtain⟨n,i⟩:=ns;rw[hp]at hc;simp only at hc;obtain⟨u,p2,-,-,p5⟩:=eZ hp;cases ho:oG E which i with
  | none=>rw[ho]at hc;cases hc
  | some c=>
   rw[ho]at hc;simp only at hc;obtain⟨C,N,O,R,f,b,S,T⟩:=GG ho;have ad:ny E c:=R (hL.same u);have ae:c.lab.length<=100000:=by rw[O,u];omega
   have af:c.stk.length<=300000:=by rw[N];omega
   have U:c.eY.length<=50:=by rw[C,p2];exact M
   have ag:i.stk.length<=300000:=qo;have ah:i.lab.length<=100000:=by rw[u];omega
   have ai:i.eY.length<=50:=by rw[p2];exact M
   have H:=qH h;have D:qh (s.pop=some (n,i)/\oG E which i=some c):=⟨hp,ho⟩;have j:qh (c.eY.getLast?=some f/\(E.fs.getD f.f PF.none).bs[which]?=some b):=⟨by rw[C];exact S,T⟩;have x:=qH hc;clear h hp ho C N O R S T u p2 p5 hc;go_enter func254,ntmps254;go_wp2_with fail
   refine(fI H.o hl D.o.1).mono ?_;rintro e w1⟨rfl,v1,V⟩;have W:=qH V;clear V H;go_wp2_with fail
   refine(DC W.o t ag ah ai D.o.2).mono ?_;rintro e w2⟨rfl,l⟩;have I:=qH l;clear l W D;by_cases d:n=0
   .have t1:(n !=0)=false:=by simp[d]
    have t0:(n==0)=true:=by simp[d]
    have hc:=x.o;rw[qaa (by simp[d]),j.o.1]at hc;simp only at hc;have Z:=qH hc;obtain⟨v2,l⟩:=I.o;have J:0<c.eY.length:=by
     cases hq:c.eY with
     | nil=>have:=j.o.1;rw[hq]at this;simp at this
     | cons a b=>simp
    obtain⟨gf,cf,y,-,ak,al,r⟩:=Row.cells (l.isRow 3 rfl) J;obtain⟨vs,vl,vf,vm,vg⟩:=v2;simp only at y;subst y;have K:=qH (rX l rfl U J);obtain⟨k,X⟩:=qE (c.eY.length - 1);rw[<-X]at K;have z:qh (k=c.eY.length - 1):=X;clear hc x d l I r X;go_wp2_with fail
    refine K.o.mono ?_;rintro e A⟨rfl,p⟩;obtain⟨am,an,y,-,ao,ap,r⟩:=Row.cells (p.isRow 3 rfl) J;cases y;have aa:c.eY[k]?=some f:=by rw[z.o,<-qbm];exact j.o.1
    have c1:A.cell? ⟨gf,k*3,none⟩=some (.pointer (some ⟨G.fg,f.f*5,none⟩)):=(r (k*3) (by have:=z.o;omega)).trans (flat_get (m:=3) (o:=0) (λ_=>rfl) aa qo);have c5:A.cell? ⟨gf,k*3+1,none⟩=some (qJ f.nx):=(r (k*3+1) (by have:=z.o;omega)).trans (flat_get (m:=3) (o:=1) (λ_=>rfl) aa qo);obtain⟨F,ab,ac⟩:∃F,E.fs[f.f]?=some F/\E.fs.getD f.f PF.none=F:=by
     have hb:=j.o.2;exact WA
    have hb:=j.o.2;have hc:=Z.o;rw[ac]at hb hc;have hw:which<F.bs.length:=(qae.1 hb).1;have aq:(which:Int)<(F.bs.length:Int):=qo;have L:F.bs.getD which PB.none=b:=sW hb;rw[L]at hc;obtain⟨c2,ar⟩:=t.fn p fG ab (o:=3) qo;replace c2:A.cell? ⟨G.fg,f.f*5+3,none⟩=some (.slice (some ⟨G.bg f.f,0,none⟩) F.bs.length (Q f.f).bc):=c2
    obtain⟨c3,au⟩:=t.blk p fG ab hw (o:=4) qo;replace c3:A.cell? ⟨G.bg f.f,which*5+4,none⟩=some (qJ b.el):=c3.trans (by rw[L];rfl)
    have aw:=p.vM 3 (k*3+1) rfl;have K3:=qH p;have B:=qH hc;clear K r p Z L hb hc ac;by_cases g:b.el=0
    .have u1:((b.el:Int) !=0)=false:=by simp[g]
     have u0:((b.el:Int)==0)=true:=by simp[g]
     have hc:=B.o;rw[qaa (by simp[g])]at hc;have HJ:=qH (oM K3.o t ad af ae U hc);clear hc B g;go_wp2_with fail
     refine HJ.o.mono ?_;rintro e w4⟨rfl,k4⟩;have K4:=qH k4;clear k4 HJ;go_wp2;go_end0;exact⟨rfl,K4.o⟩
    have u1:((b.el:Int) !=0)=true:=by simp[g]
    have u0:((b.el:Int)==0)=false:=by simp[g]
    have hc:=B.o;rw[qac g]at hc;have HS:=qH (Option.some.inj hc);have h5:=K3.o.EG 3 (k*3+1) (qJ b.el) rfl;have H5:=qH h5;clear hc B g h5;go_wp2;refine qal (v:=.tuple #[]) ?_ rfl ?_
    .simp[results,results254]
    refine⟨rfl,⟨vs,vl,qL gf c.eY.length cf,vm,vg⟩,?_⟩;obtain⟨f1,f2⟩:=xJ (G:=G) (s:=c) (q:=b.el) j.o.1 z.o;have:=H5.o;rw[<-HS.o];simp only[LM,qz,qw]at this ⊢;rw[f2,<-f1];exact this
   have t1:(n !=0)=true:=by simp[d]
   have t0:(n==0)=false:=by simp[d]
   have hc:=x.o;rw[qac d]at hc;cases hc;clear x d;go_wp2;refine qal (v:=.tuple #[]) ?_ rfl ?_
   .simp[results,results254]
   exact⟨rfl,I.o⟩
end
theorem Vf{x:Nat}(h:x∈[2,3,4,14,40,41,44,45,54,55,58,12,13,16,32,33,34,35,36,17,63,64,65,66]\/pV x=true):IV x=true:=by
 unfold IV;simp only[qby,qaz,qcd,qcn];obtain h | h:=h
 .simp only[qav,List.not_mem_nil,or_false]at h;omega
 unfold pV at h;simp only[qby,qaz,qcd,qcn]at h;omega
theorem FJ{a x:Nat}{s:qS}{n i:Nat}{r:fO×Nat}(h:iE a x s n i=.ok r):IV x=true:=by
 by_cases X:x∈[2,3,4,14,40,41,44,45,54,55,58,12,13,16,32,33,34,35,36,17,63,64,65,66]\/pV x=true
 .exact Vf X
 exfalso
 simp only[qav,List.not_mem_nil,or_false,not_or]at X;unfold iE at h;rw[qaa qt,qaa qt,qaa qt,qaa qt,qaa qt,qaa qt,qaa qt,qaa qt,qaa X.2]at h;cases h
def insL(s:qS)(n:Nat):Nat->List Nat->Nat->List Ins
 | 0,_,_=>[]
 | f+1,os,j=>match iW s n j with
  | .error _=>[]
  | .ok (x,j1)=>match(if x=11/\os=[] then .ok os else gp os j x) with
   | .error _=>[]
   | .ok os'=>match iE j x s n j1 with
    | .error _=>[]
    | .ok (y,e)=>(j,x,y)::(if x=11/\os=[] then[] else insL s n f os' e)
def XC(Z:Bd)(os:List Nat):Prop:=Z.dn.length=os.length+1/\(Z.dn.map (·.word)).take os.length=os.reverse
theorem XC.nest{m:dX}{ls:qM}{i:Ins}{Z J:Bd}{os os':qM}{a:Nat}(h:XC Z os)(s:nC Z.dn Z.dB.length)(hc:chk m ls i Z=.ok J)(d:gp os a i.2.1=.ok os')(u:¬(i.2.1=11/\os=[])):
  (i.2.1=5->Z.dJ.word=4/\0<os.length)/\XC J os'/\os'.length=(if dS i.2.1 then os.length+1 else if i.2.1=11 then os.length - 1 else os.length):=by
 obtain⟨U,g⟩:=h;obtain⟨v,bl,k⟩:∃a b,Z.dn=a::b:=by
  cases w:Z.dn with
  | nil=>rw[w]at U;simp at U
  | cons a b=>exact⟨a,b,rfl⟩
 have o:Z.dJ=v:=by unfold Bd.dJ;rw[k];rfl
 unfold gp at d;by_cases n:dS i.2.1=true
 .have hm:i.2.1∈[2,3,4]:=by unfold dS at n;simp at n ⊢;omega
  rw[qac hm]at d;split at d
  .cases d
  cases d;obtain⟨B,f,x,-⟩:=sU hc n;refine⟨λj=>by rw[j]at hm;simp at hm,⟨by rw[f];simp[U],?_⟩,by rw[qac n];simp⟩;rw[f];simp[x,g]
 have p:dS i.2.1=false:=by simpa using n
 have hm:i.2.1∉[2,3,4]:=by unfold dS at p;simp at p ⊢;omega
 rw[qaa hm]at d;rw[qaa n];by_cases j:i.2.1=5
 .rw[qac j]at d;split at d
  .rename_i h4;cases d;obtain⟨y,rfl⟩:∃z,os=z++[4]:=by
    have t:os≠[]:=by rintro rfl;simp at h4
    refine⟨os.dropLast,?_⟩;rw[List.getLast?_eq_some_getLast t]at h4;have:=qcx t;rw[Option.some.inj h4]at this;exact this.symm
   rw[k]at g;simp at g;have A:∀b∈Z.dn.tail.head?,b.dK<=Z.dJ.dK:=by
    rw[k,o];intro b r;rw[k]at s;cases bl with
    | nil=>simp at r
    | cons c C=>simp at r;subst r;exact s.2.1
   obtain⟨f,-⟩:=xU hc j A;rw[k]at U f;simp at U f;refine⟨λ_=>⟨by rw[o];exact g.1,qs⟩,⟨by rw[f];simp;omega,?_⟩,by rw[qaa qo];simp⟩;rw[f];simp[g.2]
  cases d
 rw[qaa j]at d;by_cases l:i.2.1=11
 .rw[qac l]at d;cases d;have ho:os≠[]:=λc=>u ⟨l,c⟩;obtain⟨y,q,rfl⟩:∃z q,os=z++[q]:=⟨os.dropLast,os.getLast ho,(qcx ho).symm⟩;obtain⟨f,-⟩:=yH hc l;rw[k]at U g f;simp at U g f;refine⟨λh=>absurd h j,⟨by rw[f];simp;omega,?_⟩,by rw[qac l];simp⟩;rw[f];simp[g.2]
 rw[qaa l]at d;cases d;refine⟨λh=>absurd h j,?_,by rw[qaa l]⟩;have hw:J.dn.map (·.word)=Z.dn.map (·.word):=by
  obtain e | e:=xw hc p j l
  .rw[e]
  rw[e,o,k];rfl
 have hl:J.dn.length=Z.dn.length:=by
  have:=congrArg List.length hw;simpa using this
 exact⟨by rw[hl];exact U,by rw[hw];exact g⟩
theorem E9{m:dX}{ls:qM}{s:qS}{n N:Nat}(hm:iX N m)(d:n<=N):∀{f:Nat}{os:qM}{j:Nat}{Z:Bd},rO m ls s n f os j Z=.ok ()->j<=n->Tidy Z->XC Z os->fits m ls (insL s n f os j) Z os.length
 | 0,os,j,Z,h,_,_,_=>by cases h
 | f+1,os,j,Z,h,g,b,hw=>by
  unfold rO at h;unfold insL;rcases hb:iW s n j with e|⟨x,q⟩
  .rw[hb]at h;cases h
  rw[hb]at h;simp only at h ⊢;have r:=(vw.ok trivial g hb).2.1;by_cases hf:x=11/\os=[]
  .simp only[qac hf]at h ⊢;rcases a:iE j x s n q with e|⟨y,e⟩
   .rw[a]at h;cases h
   rw[a]at h;simp only at h ⊢;split at h
   .cases h
   rename_i J hc;obtain⟨-,-,k⟩:=(jX j x).ok g r a;refine⟨⟨b.kR,FJ a,k.1.1⟩,λu=>by have O:x=5:=u;omega,J,hc,?_⟩;show(if x=11/\os.length=0 then([]:List Ins)=[] else _);rw[qac ⟨hf.1,by rw[hf.2];rfl⟩]
  simp only[qaa hf]at h ⊢;rcases l:gp os j x with e|os'
  .rw[l]at h;cases h
  rw[l]at h;simp only at h ⊢;rcases a:iE j x s n q with e|⟨y,e⟩
  .rw[a]at h;cases h
  rw[a]at h;simp only at h ⊢;split at h
  .cases h
  rename_i J hc;obtain⟨-,v,k⟩:=(jX j x).ok g r a;have t:chk m ls (j,x,y) Z=.ok J:=hc;obtain⟨w,A,B⟩:=hw.nest (i:=(j,x,y)) b.kR t l hf;have hy:nJ N y:=by
   obtain⟨⟨C,D,E⟩,F,o,G,H⟩:=k;exact⟨⟨C,D,qam E d⟩,F,λz p=>⟨(o z p).1,(o z p).2.1,qam (o z p).2.2 d⟩,G,H⟩
  have I:({Z with at_:=j}:Bd).dn≠[]:=by
   intro c;have:=hw.1;have K:Z.dn=[]:=c;rw[K]at this;simp at this
  obtain⟨-,L⟩:=tC (ls:=ls) hm hy x {Z with at_:=j} ⟨b.kR,b.short⟩ I (qam g d);have M:=(L J hc).1;refine⟨⟨b.kR,FJ a,k.1.1⟩,w,J,t,?_⟩;rw[qaa (λc=>hf ⟨c.1,qao c.2⟩),<-B];exact E9 hm d h v M A
def ry(s:qS)(m:dX)(f:Nat):List Ins:=insL s (m.dF.getD f ([],0,0)).2.2 ((m.dF.getD f ([],0,0)).2.2 - (m.dF.getD f ([],0,0)).2.1) [] (m.dF.getD f ([],0,0)).2.1
def wz(s:qS)(m:dX)(f:Nat):PF:=
 ⟨dM m f,(m.dF.getD f ([],0,0)).1.length,(iI m.dx (ry s m f) [0] [⟨false,0,(dM m f).outs.length,0,0⟩] []).1,(iI m.dx (ry s m f) [0] [⟨false,0,(dM m f).outs.length,0,0⟩] []).2⟩
theorem Wl{s:qS}{m:dX}{N f:Nat}(hm:iX N m)(hf:f<m.dF.length)(h:gJ s m f=.ok ()):∃ls I iB,Xo m (wz s m f) ls I iB:=by
 have g:Ed N (m.dF.getD f ([],0,0)):=hm.dF.2 _ (by rw[qag,qab hf];exact qaw hf);have p:(dM m f).outs.length<=8:=by
  unfold dM;rw[qag];cases c:m.dx[(m.funcs.getD f (0,0)).1.toNat]? with
  | none=>exact qZ
  | some t=>have:=(hm.dx.2 t (qai c)).2;simp only[qdl];omega
 unfold gJ at h;have e:=E9 hm g.2.2 h g.2.1 ⟨⟨Nat.le_refl 0,trivial⟩,λb hb=>by simp at hb;subst hb;exact⟨qZ,p⟩⟩ ⟨rfl,rfl⟩;refine⟨(dM m f).ins++(m.dF.getD f ([],0,0)).1,ry s m f,tab m ((dM m f).ins++(m.dF.getD f ([],0,0)).1) (ry s m f) ⟨[],[⟨2,[],(dM m f).outs,0,false⟩],0⟩ [0] 1,?_,?_,by simp[wz]⟩
 .have h0:AtK (m:=m) (ls:=(dM m f).ins++(m.dF.getD f ([],0,0)).1) (ry s m f) (tab m ((dM m f).ins++(m.dF.getD f ([],0,0)).1) (ry s m f) ⟨[],[⟨2,[],(dM m f).outs,0,false⟩],0⟩ [0] 1) ((wz s m f).bs,(wz s m f).ss) 0 ⟨[],[⟨2,[],(dM m f).outs,0,false⟩],0⟩ [0] [⟨false,0,(dM m f).outs.length,0,0⟩] [] 0:=by
   refine⟨rfl,e,rfl,rfl,qs,λo ho=>by simp at ho;subst ho;simp,rfl,rfl,λj o B U l=>?_⟩;cases j with
   | zero=>simp at U l;subst U l;exact⟨λ_=>⟨rfl,qs⟩,λh=>by simp at h,λh=>qo⟩
   | succ j=>simp at U
  intro k Z n X;obtain⟨q,u,d,v⟩:=FN h0 k Z n X;refine⟨?_,q,u,d,v⟩;exact GD h0 ⟨rfl,_,rfl⟩ k Z n X
 refine⟨0,?_⟩;have:∃i r,ry s m f=i::r:=by
  cases c:ry s m f with
  | nil=>unfold ry at c;rw[c]at e;exact e.elim
  | cons a b=>exact⟨a,b,rfl⟩
 obtain⟨i,r,hi⟩:=this;rw[hi];rfl
section
variable {m:dX}{E:Ev}
theorem D7:∀{e:List Fr}{lab:List Lb}{h:Nat},Sl m E e lab h->∀l∈lab,∃F,E.fs[l.f]?=some F/\l.b<F.bs.length
 | [],lab,h,hf,l,hl=>by
  cases(show lab=[] from hf);simp at hl
 | fr::r,lab,h,hf,l,hl=>by
  obtain⟨t,F,ls,I,iB,Z,g,base,U,i,j,u,k,v,n⟩:=hf;rw[<-List.take_append_drop fr.fi lab,qar]at hl;obtain hl | hl:=hl
  .exact D7 n l hl
  obtain⟨-,w,x,d,a⟩:=i.all _ _ _ j;obtain⟨y,p⟩:=k;obtain⟨q,c⟩:=qbx.1 hl;have z:=(qae.1 c).1;obtain⟨o,ho⟩:∃o,g[(lab.drop fr.fi).length - 1 - q]?=some o:=⟨_,qab qo⟩;obtain⟨B,s⟩:∃B,Z.dn[(lab.drop fr.fi).length - 1 - q]?=some B:=⟨_,qab (by have:=a.ol;have:=a.bl;omega)⟩;have:=p _ _ _ ho s;rw[show(lab.drop fr.fi).length - 1 - ((lab.drop fr.fi).length - 1 - q)=q by omega,c]at this;cases this;exact⟨F,U,qad (a.lt _ (qai ho)) a.V8⟩
theorem nT.V9{s:Rn}(h:nT m E s):∀l∈s.lab,∃F,E.fs[l.f]?=some F/\l.b<F.bs.length:=D7 h.fr
structure EvB(E:Ev):Prop where
 loc:∀(f:Nat)(F:PF),E.fs[f]?=some F->F.loc<=50/\0<F.bs.length/\∀p∈F.ss,p.num<4294967296/\IV p.wd=true
 Yo:∀(f:Nat)(F:PF),E.fs[f]?=some F->F.ss.length<=10000
 sf:∀(x:Nat)(n:Int),(x=54\/x=55\/x=58)->(E.sf x n).length=oI x
 nf:∀(x:Nat)(a b:Int),(E.nf x a b).2<=7
def wO(E:Ev)(s:Rn):Prop:=s.mem.length%64=0/\s.mem.length<=64*E.most
structure rP(E:Ev)(a:Nat)(s s':Rn):Prop where
 stk:s'.stk.length<=s.stk.length+a
 lab:s'.lab.length<=s.lab.length+1
 mem:wO E s->wO E s'
theorem rP.of{a:Nat}{s s':Rn}(U:s'.stk.length<=s.stk.length+a)(b:s'.lab.length<=s.lab.length+1)(c:s'.mem.length=s.mem.length):rP E a s s':=⟨U,b,λh=>by unfold wO at h ⊢;rw[c];exact h⟩
theorem IA{l:Lb}{s s':Rn}(h:l9 E l s=some s'):s'.stk.length<=s.stk.length/\s'.lab=s.lab/\s'.mem=s.mem/\s'.eY=s.eY:=by
 unfold l9 at h;split at h
 .cases h;exact⟨qt,rfl,rfl,rfl⟩
 cases h
theorem xD{s s':Rn}(h:jH E s=some s'):s'.stk.length<=s.stk.length/\s'.lab.length<=s.lab.length/\s'.mem=s.mem:=by
 unfold jH at h;split at h
 .cases h
 split at h
 .cases h
 split at h
 .cases h
 rename_i hc;cases h;obtain⟨U,-,a,-⟩:=IA hc;exact⟨U,qt,a⟩
theorem EU{j:Nat}{s s':Rn}(h:mQ E j s=some s'):s'.stk.length<=s.stk.length/\s'.lab.length<=s.lab.length/\s'.mem=s.mem:=by
 unfold mQ at h;split at h
 .cases h
 split at h
 .cases h
 split at h
 .exact xD h
 split at h
 .cases h
 rename_i hl;split at h
 .cases h
 rename_i hc;cases h;obtain⟨U,-,a,-⟩:=IA hc;refine⟨U,?_,a⟩;have:=(qae.1 hl).1;simp only[qaq,qca];split<;>simp<;>omega
theorem kJ{n:Int}{s s':Rn}(h:s.pop=some (n,s')):s'.stk.length+1=s.stk.length/\s'.lab=s.lab/\s'.mem=s.mem:=by
 unfold Rn.pop at h;split at h
 .cases h
 rename_i c;cases h;have d:s.stk≠[]:=by rintro e;rw[e]at c;simp at c
 have:0<s.stk.length:=by cases f:s.stk with
  | nil=>exact absurd f d
  | cons a b=>simp
 exact⟨qt,rfl,rfl⟩
theorem Lm{k:Nat}{s s':Rn}(h:oG E k s=some s'):s'.stk=s.stk/\s'.lab.length=s.lab.length+1/\s'.mem=s.mem/\s'.eY=s.eY:=by
 unfold oG at h;split at h
 .cases h
 split at h
 .cases h
 split at h
 .cases h
 cases h;exact⟨rfl,qs,rfl,rfl⟩
theorem Ie(a:EvB E){f w:Nat}{s s':Rn}(h:nS E f s=some (s',w)):rP E 50 s s'/\w<=7:=by
 unfold nS at h;split at h
 .cases h;exact⟨rP.of qo qo rfl,qo⟩
 split at h
 .cases h
 rename_i F b;split at h
 .cases h
 cases h;have:=(a.loc f F b).1;exact⟨rP.of qt qs rfl,qo⟩
theorem Km{p:PS}{w:Nat}{s s':Rn}(h:oh E p s=some (s',w)):rP E 51 s s'/\w<=7:=by
 unfold oh at h;split at h
 .cases h;exact⟨rP.of qo qo rfl,qo⟩
 split at h
 .unfold ok0 at h;cases a:oG E p.bk s with
  | none=>rw[a]at h;cases h
  | some z=>rw[a]at h;cases h;obtain⟨U,f,b,-⟩:=Lm a;exact⟨rP.of (by rw[U];omega) qo (by rw[b]),qo⟩
 split at h
 .unfold ok0 at h;cases a:TC E p.bk s with
  | none=>rw[a]at h;cases h
  | some z=>
   rw[a]at h;cases h;unfold TC at a;split at a
   .cases a
   rename_i n j hp;obtain⟨k,p2,c⟩:=kJ hp;split at a
   .cases a
   rename_i d ho;obtain⟨U,f,b,-⟩:=Lm ho;rw[p2]at f;split at a
   .cases a;exact⟨rP.of (by rw[U];omega) qo (by rw[b,c]),qo⟩
   split at a
   .cases a
   split at a
   .cases a;exact⟨rP.of (by show d.stk.length<=_;rw[U];omega) (by show d.lab.length<=_;omega) (by show d.mem.length=_;rw[b,c]),qo⟩
   obtain⟨g,i,e⟩:=EU a;rw[U]at g;exact⟨rP.of qo qo (by rw[e,b,c]),qo⟩
 split at h
 .unfold ok0 at h;cases a:mQ E 0 s with
  | none=>rw[a]at h;cases h
  | some z=>rw[a]at h;cases h;obtain⟨g,i,e⟩:=EU a;exact⟨rP.of qo qo (by rw[e]),qo⟩
 split at h
 .split at h
  .cases h
  cases h;exact⟨rP.of (by show s.stk.length<=_;omega) qt rfl,qo⟩
 cases h;exact⟨rP.of qo qo rfl,qo⟩
theorem Bf{j:Nat}{s s':Rn}{w:Nat}(h:ok0 (mQ E j s)=some (s',w)):s'.stk.length<=s.stk.length/\s'.lab.length<=s.lab.length/\s'.mem=s.mem/\w=0:=by
 unfold ok0 at h;cases a:mQ E j s with
 | none=>rw[a]at h;cases h
 | some z=>rw[a]at h;cases h;obtain⟨b,c,d⟩:=EU a;exact⟨b,c,d,rfl⟩
theorem Oz(e:EvB E){p:PS}{w:Nat}{s s':Rn}(h:rE E p s=some (s',w)):rP E 51 s s'/\w<=7:=by
 unfold rE at h;split at h
 .obtain⟨c,b,a,f⟩:=Bf h;exact⟨rP.of qo qo (by rw[a]),qo⟩
 split at h
 .split at h
  .cases h
  rename_i n i hp;obtain⟨j,p2,p3⟩:=kJ hp;split at h
  .obtain⟨c,b,a,f⟩:=Bf h;rw[p2]at b;exact⟨rP.of qo qo (by rw[a,p3]),qo⟩
  exact TY
 split at h
 .split at h
  .cases h
  rename_i n i hp;obtain⟨j,p2,p3⟩:=kJ hp;obtain⟨c,b,a,f⟩:=Bf h;rw[p2]at b;exact⟨rP.of qo qo (by rw[a,p3]),qo⟩
 split at h
 .unfold ok0 at h;cases d:jH E s with
  | none=>rw[d]at h;cases h
  | some z=>rw[d]at h;cases h;obtain⟨c,b,a⟩:=xD d;exact⟨rP.of qo qo (by rw[a]),qo⟩
 split at h
 .obtain⟨g,hw⟩:=Ie e h;exact⟨⟨by have:=g.stk;omega,g.lab,g.mem⟩,hw⟩
 split at h
 .unfold Hg at h;split at h
  .cases h
  rename_i n i hp;obtain⟨j,p2,p3⟩:=kJ hp;split at h
  .exact TY
  split at h
  .exact TY
  split at h
  .split at h
   .obtain⟨g,hw⟩:=Ie e h;exact⟨⟨by have:=g.stk;omega,by have:=g.lab;rw[p2]at this;exact this,λhm=>g.mem (by unfold wO at hm ⊢;rw[p3];exact hm)⟩,hw⟩
   exact TY
  cases h
 cases h;exact⟨rP.of qo qo rfl,qo⟩
theorem Ry{p:PS}{w:Nat}{s s':Rn}(h:tu p s=some (s',w)):rP E 51 s s'/\w<=7:=by
 unfold tu at h;split at h
 .cases hq:s.pop with
  | none=>rw[hq]at h;cases h
  | some z=>obtain⟨n,g⟩:=z;rw[hq]at h;cases h;obtain⟨b,p2,a⟩:=kJ hq;exact⟨rP.of (by simp only;omega) (by simp only[p2];omega) (by simp only[a]),qo⟩
 split at h
 .split at h
  .cases h
  rename_i hp;obtain⟨b,p2,a⟩:=kJ hp;split at h
  .cases h
  rename_i hp;obtain⟨i,c,d⟩:=kJ hp;split at h
  .cases h
  rename_i hp;obtain⟨j,e,f⟩:=kJ hp;cases h;exact⟨rP.of (by simp[Rn.put];omega) (by simp[Rn.put,e,c,p2]) (by simp[Rn.put,f,d,a]),qo⟩
 split at h
 .split at h
  .cases h
  simp only[qbd]at h;obtain⟨x,-,hx⟩:=h;cases hx;exact Ub
 split at h
 .split at h
  .cases h
  rename_i hp;obtain⟨b,p2,a⟩:=kJ hp;split at h
  .cases h
  split at h
  .cases h;exact⟨rP.of qt (by simp[p2]) (by simp[a]),qo⟩
  cases h
 split at h
 .split at h
  .split at h
   .cases h;exact⟨rP.of qs qs qs,qo⟩
   cases h
  cases h
 split at h
 .simp only[qbd]at h;obtain⟨x,-,hx⟩:=h;cases hx;exact Ub
 split at h
 .split at h
  .cases h
  rename_i hp;obtain⟨b,p2,a⟩:=kJ hp;split at h
  .cases h;exact⟨rP.of qt (by simp[p2]) (by simp[a]),qo⟩
  cases h
 cases h;exact⟨rP.of qo qo rfl,qo⟩
theorem RG(c:EvB E){p:PS}{w:Nat}{s s':Rn}(h:lD E p s=some (s',w)):rP E 51 s s'/\w<=7:=by
 unfold lD at h;split at h
 .cases h;exact Ub
 split at h
 .split at h
  .cases h
  rename_i hp;obtain⟨d,p2,a⟩:=kJ hp;split at h
  .rename_i hle;cases h;refine⟨⟨by simp[Rn.put];omega,by simp[Rn.put,p2],λhm=>?_⟩,qo⟩;unfold wO at hm ⊢;rw[a]at hle;simp only[Rn.put,qaq,qba,a];omega
  cases h;exact⟨rP.of (by simp[Rn.put];omega) (by simp[Rn.put,p2]) (by simp[Rn.put,a]),qo⟩
 split at h
 .rename_i hx;split at h
  .cases h
  rename_i hp;obtain⟨d,p2,a⟩:=kJ hp;split at h
  .cases h
  rename_i hp;obtain⟨f,e,b⟩:=kJ hp;split at h
  .rename_i hle;cases h;have hl:=c.sf p.wd ‹_› hx;refine⟨rP.of (by simp only;omega) (by simp only[e,p2];omega) ?_,qo⟩;rw[b,a]at hle;simp only[qaq,qca,qcb,c.sf p.wd _ hx,b,a];omega
  cases h;exact⟨rP.of qo (by simp[e,p2]) (by simp[b,a]),qo⟩
 split at h
 .cases h
 rename_i hp;obtain⟨d,p2,a⟩:=kJ hp;split at h
 .cases h;exact⟨rP.of (by simp[Rn.put];omega) (by simp[Rn.put,p2]) (by simp[Rn.put,a]),qo⟩
 cases h;exact⟨rP.of qo (by simp[p2]) (by simp[a]),qo⟩
theorem RD(b:EvB E){p:PS}{w:Nat}{s s':Rn}(h:ou E p s=some (s',w)):rP E 51 s s'/\w<=7:=by
 unfold ou at h;split at h
 .cases h;exact Ub
 split at h
 .cases h;exact⟨rP.of qo qo rfl,qo⟩
 split at h
 .split at h
  .cases h
  rename_i hp;obtain⟨c,p2,a⟩:=kJ hp;cases h;exact⟨rP.of (by simp[Rn.put];omega) (by simp[Rn.put,p2]) (by simp[Rn.put,a]),b.nf _ _ _⟩
 split at h
 .cases h
 rename_i hp;obtain⟨c,p2,a⟩:=kJ hp;split at h
 .cases h
 rename_i hp;obtain⟨f,d,e⟩:=kJ hp;cases h;exact⟨rP.of (by simp[Rn.put];omega) (by simp[Rn.put,d,p2]) (by simp[Rn.put,e,a]),b.nf _ _ _⟩
theorem UF(a:EvB E){p:PS}{w:Nat}{s s':Rn}(h:TK E p s=some (s',w)):rP E 51 s s'/\w<=7:=by
 unfold TK at h;split at h
 .exact Km h
 split at h
 .exact Oz a h
 split at h
 .exact Ry h
 split at h
 .exact RG a h
 exact RD a h
theorem uo(c:EvB E){w:Nat}{s s':Rn}(h:rH E s=some (s',w)):rP E 51 s s'/\w<=7/\(Ki E s=true->s'.stk.length<=s.stk.length/\s'.lab.length<=s.lab.length/\s'.mem=s.mem/\w=0):=by
 unfold rH at h;unfold Ki;split at h
 .cases h
 rename_i f hf;rw[hf];simp only;split at h
 .unfold ok0 at h;cases a:jH E s with
  | none=>rw[a]at h;cases h
  | some z=>rw[a]at h;cases h;obtain⟨d,e,b⟩:=xD a;exact⟨rP.of qo qo (by rw[b]),qo,λ_=>⟨d,e,b,rfl⟩⟩
 rename_i p hp;obtain⟨g,hw⟩:=UF c h;refine⟨⟨g.stk,g.lab,g.mem⟩,hw,λh=>?_⟩;rw[hp]at h;cases h
theorem AJ(d:EvB E):∀{n e:Nat}{s s':Rn}{w l:Nat},lI E n e s=some (s',w,l)->w<=8/\l<=e/\(w=8->l=0)
 | 0,_,_,_,_,_,h=>by cases h
 | n+1,e,s,s',w,l,h=>by
  unfold lI at h;split at h
  .cases h;exact⟨qo,qR,λh=>qo⟩
  split at h
  .split at h
   .cases h
   exact AJ d h
  split at h
  .cases h;exact⟨qo,qo,λ_=>rfl⟩
  split at h
  .cases h
  rename_i g i f;obtain⟨-,hw,-⟩:=uo d f;split at h
  .cases h;exact⟨qo,qo,λh=>qo⟩
  obtain⟨a,b,c⟩:=AJ d h;exact⟨a,qo,c⟩
end
theorem uq{P:PS->Prop}(dx:List Ty):∀(r:List Ins)(e:qM)(f:List PB)(a:List PS),(∀i∈r,∀b,P (stepOf i b))->(∀p∈a,P p)->∀p∈(iI dx r e f a).2,P p
 | [],e,f,a,_,L,p,hp=>by simp only[iI]at hp;exact L p hp
 | i::r,e,f,a,U,L,p,hp=>by
  have c:∀i∈r,∀b,P (stepOf i b):=λj g=>U j (by simp[g]);have d:∀b,∀p∈a++[stepOf i b],P p:=λb p hp=>by
   rw[qar,qak]at hp;obtain hp | rfl:=hp
   .exact L p hp
   exact U i qs b
  unfold iI at hp;split at hp
  .exact uq dx r _ _ _ c (d _) p hp
  split at hp
  .exact uq dx r _ _ _ c (d _) p hp
  split at hp
  .split at hp
   .exact L p hp
   exact uq dx r _ _ _ c (d _) p hp
  exact uq dx r _ _ _ c (d _) p hp
theorem rY(dx:List Ty):∀(r:List Ins)(a:qM)(c:List PB)(d:List PS),c.length<=(iI dx r a c d).1.length/\(iI dx r a c d).1.length<=c.length+r.length/\(iI dx r a c d).2.length<=d.length+r.length
 | [],a,c,d=>by simp[iI]
 | i::r,a,c,d=>by
  unfold iI;split
  .have:=rY dx r (c.length::a) (c++[nH dx i.2.1 i.2.2 (d.length+1)]) (d++[stepOf i c.length]);simp only[qaq,qbb,qbs]at this ⊢;omega
  split
  .have:=rY dx r a (setB c (a.headD 0) λb=>{b with el:=d.length+1}) (d++[stepOf i (a.headD 0)]);simp only[qaq,qbb,qbs,iq]at this ⊢;omega
  split
  .split
   .simp
   have:=rY dx r a.tail (setB c (a.headD 0) λb=>if b.lp then b else {b with tg:=d.length+1}) (d++[stepOf i (a.headD 0)]);simp only[qaq,qbb,qbs,iq]at this ⊢;omega
  have:=rY dx r a c (d++[stepOf i (a.headD 0)]);simp only[qaq,qbb,qbs]at this ⊢;omega
theorem Lt{s:qS}{n:Nat}:∀{f:Nat}{os:qM}{j:Nat},j<=n->∀i∈insL s n f os j,nJ n i.2.2/\IV i.2.1=true
 | 0,os,j,_,i,hi=>by simp[insL]at hi
 | f+1,os,j,hj,i,hi=>by
  unfold insL at hi;split at hi
  .simp at hi
  rename_i x g hb;have b:=(vw.ok trivial hj hb).2.1;split at hi
  .simp at hi
  split at hi
  .simp at hi
  rename_i y e a;obtain⟨-,c,d⟩:=(jX j x).ok hj b a;rw[qav]at hi;obtain rfl | hi:=hi
  .exact⟨d,FJ a⟩
  split at hi
  .simp at hi
  exact Lt c i hi
theorem Bi{s:qS}{n:Nat}:∀{f:Nat}{os:qM}{j:Nat},(insL s n f os j).length<=f
 | 0,os,j=>by simp[insL]
 | f+1,os,j=>by
  unfold insL;split
  .simp
  split
  .simp
  split
  .simp
  split
  .simp
  have:=Bi (s:=s) (n:=n) (f:=f) (os:= ‹_›) (j:= ‹_›);simp only[qbb];exact Nat.succ_le_succ Bi
section
variable {m:dX}{E:Ev}{s:Rn}
theorem U5(h:nT m E s)(hf:s.eY≠[]):∃fr F,s.eY.getLast?=some fr/\E.fs[fr.f]?=some F/\fr.nx<=F.ss.length:=by
 obtain⟨c,q,t⟩:=h;obtain⟨fr,r,e⟩:∃fr r,s.eY.reverse=fr::r:=by
  cases g:s.eY.reverse with
  | nil=>simp at g;exact absurd g hf
  | cons a b=>exact⟨a,b,rfl⟩
 rw[e]at c;obtain⟨u,F,ls,I,iB,Z,k,base,U,l,n,v,w,x,y⟩:=c;refine⟨fr,F,?_,U,?_⟩
 .have:s.eY=(fr::r).reverse:=by rw[<-e,List.reverse_reverse]
  rw[this];simp
 obtain⟨-,o,i,d,j⟩:=l.all _ _ _ n;obtain⟨z,p⟩:=uY m.dx (I.drop fr.nx) k o i;have hp:=j.pr;have:F.ss=i++z:=by rw[<-p,<-hp]
 rw[this,qaq,j.sl];omega
theorem MG(t:sI m E)(h:nT m E s){n d:Nat}{x:Rn×Nat×Nat}(a:lI E n d s=some x):∃k,n=k+1/\((s.eY=[]/\x=(s,0,d))\/
  (s.eY≠[]/\∃fr F,s.eY.getLast?=some fr/\E.fs[fr.f]?=some F/\
   ((fr.nx=F.ss.length/\∃c,jH E s=some c/\nT m E c/\lI E k d c=some x)\/
    (∃p,F.ss[fr.nx]?=some p/\((d=0/\x=(s,8,0))\/(0<d/\∃c w,TK E p (mE s (fr.nx+1))=some (c,w)/\((w≠0/\x=(c,w,d - 1))\/(w=0/\nT m E c/\lI E k (d - 1) c=some x)))))))):=by
 cases n with
 | zero=>cases a
 | succ k=>
  refine⟨k,rfl,?_⟩;unfold lI at a;by_cases U:s.eY=[]
  .rw[qac U]at a;cases a;exact .inl ⟨U,rfl⟩
  rw[qaa U]at a;obtain⟨fr,F,hl,l,u⟩:=U5 h U;obtain⟨s',w,g,o⟩:=Gi t h U;have q:E.fs.getD fr.f PF.none=F:=by rw[qag,l];rfl
  have b:=g;unfold rH at b;rw[hl]at b;simp only[q]at b;refine .inr ⟨U,fr,F,hl,l,?_⟩;have e:Ki E s=F.ss[fr.nx]?.isNone:=by unfold Ki;rw[hl];simp only[q]
  cases hp:F.ss[fr.nx]? with
  | none=>
   rw[hp]at e b;rw[qac (by rw[e];rfl),g]at a;simp only at a b;unfold ok0 at b;cases r:jH E s with
   | none=>rw[r]at b;cases b
   | some c=>rw[r]at b;cases b;exact .inl ⟨by have:=List.getElem?_eq_none_iff.1 hp;omega,s',rfl,o rfl,a⟩
  | some p=>
   rw[hp]at e b;rw[qaa (by rw[e];simp)]at a;simp only at b;refine .inr ⟨p,rfl,?_⟩;by_cases i:d=0
   .rw[qac i]at a;cases a;exact .inl ⟨i,rfl⟩
   rw[qaa i,g]at a;simp only at a;refine .inr ⟨qo,s',w,b,?_⟩;by_cases j:w≠0
   .rw[qac j]at a;cases a;exact .inl ⟨j,rfl⟩
   rw[qaa j]at a;exact .inr ⟨qo,o qo,a⟩
end
structure x9(m:dX):Prop where
 tables:∀x∈m.tables,0<=x.least/\0<=x.most
 fP:∀x∈m.fP,0<=x.least/\0<=x.most
 data:∀x∈m.data,x.bytes.size<=100
 BC:∀x∈m.dw,x.name.size<=20
theorem GX(s:qS):oC s (λx:tZ=>0<=x.least/\0<=x.most) r9:=by
 intro n i x j h;unfold r9 at h;split at h
 .cases h
 split at h
 .cases h
 rename_i U;have a:=iY U;split at h
 .split at h
  .cases h
  rename_i b;have c:=iY b;cases h;exact⟨a.1,c.1⟩
 cases h;exact⟨a.1,Int.le_refl 0⟩
theorem Jk(s:qS):oC s (λx:tZ=>0<=x.least/\0<=x.most) nM:=by
 intro n i x j h;unfold nM at h;split at h
 .cases h
 exact GX s h
theorem OA(s:qS):oC s (λx:Dat=>x.bytes.size<=100) pz:=by
 intro n i x j h;unfold pz at h;split at h
 .cases h
 split at h
 .cases h
 split at h
 .cases h
 rename_i k a hc;split at h
 .cases h
 rename_i t b ht;exact WS
theorem Rm(s:qS):oC s (λx:CB=>x.name.size<=20) jy:=by
 intro n i x j h;unfold jy at h;split at h
 .cases h
 rename_i k a hc;split at h
 .cases h
 rename_i t b ht;split at h
 .cases h
 split at h
 .cases h
 split at h
 .cases h
 exact WS
theorem sV{a:Type}{s:qS}{b:a->Prop}{f:qS->Nat->Nat->Except Err (a×Nat)}(h:oC s b f)(most:Nat):oC s (λxs:List a=>∀x∈xs,b x) (eB most f):=by
 intro n i x j hx;unfold eB at hx;split at hx
 .cases hx
 exact h.eT _ _ _ qs hx
theorem Bv{s:qS}{m:dX}(hm:x9 m):oC s x9 (gq m):=by
 intro n i x j h;unfold gq at h;exact R5
theorem zu{s:qS}{m:dX}(hm:x9 m):oC s x9 (fC m):=by
 intro n i x j h;unfold fC at h;split at h
 .cases h
 exact R5
theorem JI{s:qS}{m:dX}(hm:x9 m):oC s x9 (kL m):=by
 intro n i x j h;unfold kL at h;split at h
 .cases h
 split at h
 .cases h
 rename_i ho;have U:=uZ 1 m hm (Bv hm) ho;exact uZ 2 _ U (zu U) h
theorem OH{s:qS}{m:dX}(hm:x9 m)(which:Nat):oC s x9 (oo m which):=by
 intro n i x j h;unfold oo at h;split at h
 .exact JI hm h
 .unfold pQ at h;split at h<;>cases h;exact⟨hm.tables,hm.fP,hm.data,hm.BC⟩
 .unfold pO at h;split at h<;>cases h;exact⟨hm.tables,hm.fP,hm.data,hm.BC⟩
 .unfold pM at h;split at h
  .cases h
  rename_i ho;cases h;exact⟨sV (Jk s) 1 ho,hm.fP,hm.data,hm.BC⟩
 .unfold pK at h;split at h
  .cases h
  rename_i ho;cases h;exact⟨hm.tables,sV (GX s) 1 ho,hm.data,hm.BC⟩
 .unfold pJ at h;split at h<;>cases h;exact⟨hm.tables,hm.fP,hm.data,hm.BC⟩
 .unfold pI at h;split at h
  .cases h
  rename_i ho;cases h;exact⟨hm.tables,hm.fP,hm.data,sV (Rm s) 20 ho⟩
 .unfold pG at h;split at h<;>cases h;exact⟨hm.tables,hm.fP,hm.data,hm.BC⟩
 .unfold pF at h;split at h<;>cases h;exact⟨hm.tables,hm.fP,hm.data,hm.BC⟩
 .unfold lF at h;split at h
  .cases h
  split at h
  .exact R5
  cases h
 .unfold mY at h;split at h
  .cases h
  rename_i ho;cases h;exact⟨hm.tables,hm.fP,sV (OA s) 10 ho,hm.BC⟩
 cases h;exact hm
theorem Gs{s:qS}{n:Nat}:∀(k:Nat)(m:dX)(last i:Nat){a:dX}{j:Nat},x9 m->iJ s n k m last i=.ok (a,j)->x9 a/\a.dF.length=a.funcs.length:=by
 intro k;induction k with
 | zero=>intro m last i a j hm h;simp[iJ]at h
 | succ k b=>
  intro m last i a j hm h;unfold iJ at h;split at h
  .split at h
   .rename_i hc;cases h;exact⟨hm,hc⟩
   cases h
  split at h
  .cases h
  rename_i ho;refine b _ _ _ ?_ h;unfold lH at ho;split at ho
  .cases ho
  split at ho
  .cases ho
  split at ho
  .cases ho
  split at ho
  .cases ho
  rename_i hw;cases ho;exact(OH hm _).within hw
theorem AO{s:qS}{m:dX}{j:Nat}(h:kH s=.ok (m,j)):x9 m/\m.dF.length=m.funcs.length:=by
 unfold kH at h;split at h
 .cases h
 exact Gs _ _ _ _ ⟨by simp[dX.new],by simp[dX.new],by simp[dX.new],by simp[dX.new]⟩ h
theorem lN{b:Type}{f:b->Except Err Unit}:∀{l:List b},dV f l=.ok ()->∀x∈l,f x=.ok ()
 | [],_,x,hx=>by simp at hx
 | a::l,h,x,hx=>by
  unfold dV at h;split at h
  .cases h
  rename_i U;rw[qav]at hx;obtain rfl | hx:=hx
  .exact U
  exact lN h x hx
theorem nV{a b:Except Err Unit}(h:lq a b=.ok ()):a=.ok ()/\b=.ok ():=by
 unfold lq at h;split at h
 .cases h
 exact⟨rfl,h⟩
theorem ym{a:Nat}{x:Int×Nat}(h:gV a x=.ok ()):x.1<(a:Int):=by
 unfold gV at h;split at h
 .assumption
 cases h
theorem DV{most:Int}{x:tZ}(h:jQ most x=.ok ()):x.least<=most/\(x.has=true->x.least<=x.most/\x.most<=most):=by
 unfold jQ at h;split at h
 .cases h
 rename_i hc;refine⟨qo,λhh=>?_⟩;simp only[hh,true_and]at hc;omega
structure IP(s:qS)(m:dX):Prop where
 funcs:∀x∈m.funcs,x.1<(m.dx.length:Int)
 tables:∀x∈m.tables,x.least<=20
 fP:∀x∈m.fP,x.least<=16/\(x.has=true->x.least<=x.most/\x.most<=16)
 dw:∀e∈m.dw,e.idx.1<(mO m e.AX:Int)
 starts:∀x∈m.starts,x.1<(m.funcs.length:Int)/\(dM m x.1.toNat).ins=[]
 elems:∀e∈m.elems,0<m.tables.length/\∀y∈e.funcs,y.1<(m.funcs.length:Int)
 dF:∀f,f<m.dF.length->gJ s m f=.ok ()
 data:∀d∈m.data,0<m.fP.length
theorem D9{s:qS}{m:dX}(h:zC s m=.ok ()):IP s m:=by
 unfold zC at h;obtain⟨U,h⟩:=nV h;obtain⟨b,h⟩:=nV h;obtain⟨c,h⟩:=nV h;obtain⟨p,h⟩:=nV h;obtain⟨g,h⟩:=nV h;obtain⟨j,h⟩:=nV h;obtain⟨k,h⟩:=nV h;obtain⟨l,n⟩:=nV h;refine⟨λx hx=>ym (lN U x hx),λx hx=>(DV (lN b x hx)).1,λx hx=>DV (lN c x hx),λe a=>?_,λx hx=>?_,λe a=>?_,λf hf=>lN l f (by simpa using hf),λd o=>?_⟩
 .obtain⟨i,hi⟩:=qbx.1 a;have:=lN g i (by simpa using (qae.1 hi).1);unfold fM at this;rw[hi]at this;simp only at this;split at this
  .cases this
  exact ym this
 .have:=lN j x hx;unfold ig at this;split at this
  .cases this
  rename_i f hf;unfold fE at hf;split at hf
  .rename_i hl;cases hf;split at this
   .rename_i hc;exact⟨hl,qao hc.1⟩
   cases this
  cases hf
 .have:=lN k e a;unfold jd at this;split at this
  .cases this
  rename_i h0;split at this
  .cases this
  exact⟨qo,λy hy=>ym (lN this y hy)⟩
 have:=lN n d o;unfold jB at this;split at this
 .cases this
 omega
def IQ(kind:Nat)(n:Int):Int:=if kind=127 then wrap64 (wrap32 n) else n
def zS(F:PF)(f:Nat)(az:List Int)(mem:List Nat)(dW:List Int):Rn:=⟨List.zipWith IQ F.ty.ins az++List.replicate F.loc 0,[⟨f,0,0⟩],[⟨f,0,0⟩],mem,dW⟩
section
variable {m:dX}{E:Ev}
theorem F5(d:sI m E){f:Nat}{F:PF}{az:List Int}{mem:qM}{dW:List Int}(b:E.fs[f]?=some F)(e:az.length=F.ty.ins.length)(g:dW.length=m.dI.length):nT m E (zS F f az mem dW):=by
 obtain⟨-,ls,I,iB,c⟩:=d.ft f F b;obtain⟨a,h⟩:=c.z;refine⟨⟨by simp[zS],F,ls,I,iB,_,_,0,b,c,h,qs,⟨by simp[zS],λj o B U i=>?_⟩,by simp[zS,e],by simp[zS,Sl]⟩,g,by simp[zS]⟩;cases j with
 | zero=>simp at U i;subst U;simp[zS]
 | succ j=>simp at U
theorem F6{f:Nat}{F:PF}{az:List Int}{mem:qM}{dW:List Int}(a:E.fs[f]?=some F)(b:az.length=F.ty.ins.length):nS E f ⟨List.zipWith IQ F.ty.ins az,[],[],mem,dW⟩=some (zS F f az mem dW,0):=by
 unfold nS zS;simp[a,b]
theorem xe(a:EvB E):∀{n b:Nat}{s s':Rn}{w l:Nat},lI E n b s=some (s',w,l)->s'.stk.length<=s.stk.length+51*b
 | 0,_,_,_,_,_,h=>by cases h
 | n+1,b,s,s',w,l,h=>by
  unfold lI at h;split at h
  .cases h;omega
  split at h
  .rename_i he;split at h
   .cases h
   rename_i c;have U:=(uo a c).2.2 he;have:=xe a h;omega
  split at h
  .cases h;omega
  split at h
  .cases h
  rename_i c;have U:=(uo a c).1.stk;split at h
  .cases h;omega
  have:=xe a h;omega
theorem Aw(a:sI m E){f fuel:Nat}{F:PF}{az:List Int}{mem:qM}{dW:List Int}(b:E.fs[f]?=some F)(c:az.length=F.ty.ins.length)(d:dW.length=m.dI.length):∃x,lI E (51*fuel+2) fuel (zS F f az mem dW)=some x:=
 EF a (F5 a b c d) (by simp[zS])
end
def Lj(s:qS)(n k e:Nat):Option (List Nat)->List Ins
 | none=>[]
 | some os=>insL s n k os e
theorem DY{s:qS}{n fuel j x e:Nat}{os:qM}{o':Option (qM)}{y:fO}(hf:n - j<=fuel)(b:j<n)(hx:x=bt s j)(c:x8 os o' j x)(hb:iE j x s n (j+1)=.ok (y,e)):∃k,fuel=k+1/\insL s n fuel os j=(j,x,y)::Lj s n k e o':=by
 obtain⟨k,rfl⟩:∃k,fuel=k+1:=⟨fuel - 1,qo⟩;refine⟨k,rfl,?_⟩;subst hx;rw[insL,dY b];simp only;obtain⟨U,a,rfl⟩ | ⟨U,d,a,rfl⟩:=c
 .simp only[qac (And.intro U a),hb,Lj]
 simp only[qaa U,a,hb,Lj]
theorem Hu{m:dX}{ls:qM}:∀{I:List Ins}{Z:Bd}{d:Nat},fits m ls I Z d->∀i∈I,dS i.2.1=true->i.2.2.typed=true->i.2.2.num.1<(m.dx.length:Int)
 | [],Z,d,h,i,hi=>by simp at hi
 | a::r,Z,d,h,i,hi=>by
  obtain⟨-,-,J,hc,b⟩:=h;rw[qav]at hi;obtain rfl | hi:=hi
  .intro ho ht;simp only[dS,qby,qcn]at ho;have c:∀t,eU m i.2.2=.ok t->i.2.2.num.1<(m.dx.length:Int):=λt hb=>by
    unfold eU at hb;rw[qac ht]at hb;unfold iH fE at hb;split at hb
    .cases hb
    rename_i f;split at f
    .assumption
    cases f
   unfold chk iG at hc;rw[qac qo]at hc;unfold dR at hc;rw[qaa qo]at hc;by_cases g:i.2.1=4
   .rw[qaa qo,qac g]at hc;split at hc
    .cases hc
    rename_i hb;exact c _ hb
   rw[qac qo]at hc;split at hc
   .cases hc
   rename_i hb;exact c _ hb
  split at b
  .subst b;simp at hi
  exact Hu b i hi
def O0(dx:List Ty)(s:qS)(n:Nat)(R:List PB×List PS)(o:Option (List Nat))(j:Nat)(op:List Nat)(bs:List PB)(ss:List PS):Prop:=match o with
 | none=>(bs,ss)=R
 | some os=>∃fuel,n - j<=fuel/\iI dx (insL s n fuel os j) op bs ss=R/\op.length=os.length+1/\(∀o∈op,o<bs.length)/\(∀i∈insL s n fuel os j,dS i.2.1=true->i.2.2.typed=true->i.2.2.num.1<(dx.length:Int))/\bs.length<=j+1/\ss.length<=j
theorem xx{os os':qM}{j x:Nat}(h:gp os j x=.ok os')(f:¬(x=11/\os=[])):os'.length=if dS x then os.length+1 else if x=11 then os.length - 1 else os.length:=by
 unfold gp at h;by_cases c:dS x=true
 .have hm:x∈[2,3,4]:=by unfold dS at c;simp at c ⊢;omega
  rw[qac hm]at h;rw[qac c];split at h
  .cases h
  cases h;simp
 have hm:x∉[2,3,4]:=by unfold dS at c;simp at c ⊢;omega
 rw[qaa hm]at h;rw[qaa c];split at h
 .rename_i h5;rw[qaa qo];split at h
  .rename_i h4;cases h;have:os≠[]:=by rintro rfl;simp at h4
   have:0<os.length:=by cases os with
    | nil=>exact absurd rfl this
    | cons a b=>simp
   simp;omega
  cases h
 split at h
 .rename_i d;rw[qac d];cases h;simp
 rename_i d;rw[qaa d];cases h;rfl
section
variable {dx:List Ty}{s:qS}{n j x e:Nat}{os op:qM}{o':Option (qM)}{y:fO}{bs:List PB}{ss:List PS}{R:List PB×List PS}
theorem O0.facts(h:O0 dx s n R (some os) j op bs ss):op.length=os.length+1/\(∀o∈op,o<bs.length)/\bs.length<=j+1/\ss.length<=j:=by
 obtain⟨fuel,-,-,U,a,-,b,c⟩:=h;exact⟨U,a,b,c⟩
theorem O0.typed(h:O0 dx s n R (some os) j op bs ss)(b:j<n)(hx:x=bt s j)(c:x8 os o' j x)(hb:iE j x s n (j+1)=.ok (y,e))(d:dS x=true)(f:y.typed=true):y.num.1<(dx.length:Int):=by
 obtain⟨fuel,hf,-,-,-,a,-⟩:=h;obtain⟨k,-,X⟩:=DY hf b hx c hb;rw[X]at a;exact a (j,x,y) qs d f
theorem O0.next(h:O0 dx s n R (some os) j op bs ss)(A:j<n)(C:j+1<=e)(hx:x=bt s j)(u:x8 os o' j x)(hb:iE j x s n (j+1)=.ok (y,e)):
  (dS x=true->O0 dx s n R o' e (bs.length::op) (bs++[nH dx x y (ss.length+1)]) (ss++[stepOf (j,x,y) bs.length]))/\
  (x=5->O0 dx s n R o' e op (setB bs (op.headD 0) λb=>{b with el:=ss.length+1}) (ss++[stepOf (j,x,y) (op.headD 0)]))/\
  (x=11->op.tail=[]->o'=none/\O0 dx s n R o' e op.tail bs ss)/\
  (x=11->op.tail≠[]->O0 dx s n R o' e op.tail (setB bs (op.headD 0) λb=>if b.lp then b else {b with tg:=ss.length+1}) (ss++[stepOf (j,x,y) (op.headD 0)]))/\
  (dS x=false->x≠5->x≠11->O0 dx s n R o' e op bs (ss++[stepOf (j,x,y) (op.headD 0)])):=by
 obtain⟨fuel,hf,hp,U,p,w,D,E⟩:=h;obtain⟨k,F,X⟩:=DY hf A hx u hb;rw[X]at hp w;have r:∀os',o'=some os'->∀i∈insL s n k os' e,dS i.2.1=true->i.2.2.typed=true->i.2.2.num.1<(dx.length:Int):=λos' ho i hi=>w i (by rw[ho];simp[Lj,hi]);unfold iI at hp;have z:x=11->(op.tail=[]↔os=[]):=λ_=>by
  constructor
  .intro c;have:=congrArg List.length c;simp at this;exact qao qo
  intro c;rw[c]at U;match op,U with
  | [a],_=>rfl
 have t:¬(x=11/\os=[])->∃os',gp os j x=.ok os'/\o'=some os':=λg=>by
  obtain⟨c1,c2,-⟩ | ⟨-,q⟩:=u
  .exact absurd ⟨c1,c2⟩ g
  exact q
 refine⟨λd=>?_,λd=>?_,λd m=>?_,λd m=>?_,λd B v=>?_⟩
 .have f:¬(x=11/\os=[]):=λc=>by rw[c.1]at d;simp[dS]at d
  obtain⟨os',g,rfl⟩:=t f;have hl:=xx g f;rw[qac d]at hl hp;refine⟨k,qo,hp,qt,λo ho=>?_,r _ rfl,qt,qt⟩;rw[qav]at ho;obtain rfl | ho:=ho
  .simp
  have:=p o ho;simp;omega
 .have f:¬(x=11/\os=[]):=λc=>qo;have l:dS x=false:=by rw[d];rfl
  obtain⟨os',g,rfl⟩:=t f;have hl:=xx g f;rw[qaa (by simp[l]),qaa qo]at hl;rw[qaa (by simp[l]),qac d]at hp;exact⟨k,qo,hp,qo,λo ho=>by rw[iq];exact p o ho,r _ rfl,by rw[iq];omega,qt⟩
 .have l:dS x=false:=by rw[d];rfl
  rw[qaa (by simp[l]),qaa (by show ¬x=5;omega),qac d,qac m]at hp;obtain⟨-,-,rfl⟩ | ⟨q,-⟩:=u
  .exact⟨rfl,hp⟩
  exact absurd ⟨d,(z d).1 m⟩ q
 .have f:¬(x=11/\os=[]):=λc=>m ((z d).2 c.2);have l:dS x=false:=by rw[d];rfl
  obtain⟨os',g,rfl⟩:=t f;have hl:=xx g f;rw[qaa (by simp[l]),qac d]at hl;rw[qaa (by simp[l]),qaa (by show ¬x=5;omega),qac d,qaa m]at hp;have G:os.length≠0:=λc=>f ⟨d,qao c⟩;exact⟨k,qo,hp,qt,λo ho=>by rw[iq];exact p o (List.mem_of_mem_tail ho),r _ rfl,by rw[iq];omega,qt⟩
 have f:¬(x=11/\os=[]):=λc=>v c.1;obtain⟨os',g,rfl⟩:=t f;have hl:=xx g f;rw[qaa (by simp[d]),qaa v]at hl;rw[qaa (by simp[d]),qaa (by exact B),qaa (by exact v)]at hp;exact⟨k,qo,hp,qo,p,r _ rfl,qo,qt⟩
end
section
variable {m:dX}{E:Ev}{s s':Rn}{w:Nat}
theorem LF{l:Lb}(h:l9 E l s=some s'):s'.dW=s.dW:=by
 unfold l9 at h;split at h
 .cases h;rfl
 cases h
theorem ER(h:jH E s=some s'):s'.dW=s.dW:=by
 unfold jH at h;split at h
 .cases h
 split at h
 .cases h
 split at h
 .cases h
 rename_i hc;cases h;have:=LF hc;exact this
theorem Bg{j:Nat}(h:mQ E j s=some s'):s'.dW=s.dW:=by
 unfold mQ at h;split at h
 .cases h
 split at h
 .cases h
 split at h
 .exact ER h
 split at h
 .cases h
 split at h
 .cases h
 rename_i hc;cases h;have:=LF hc;exact this
theorem jV{n:Int}(h:s.pop=some (n,s')):s'.dW=s.dW:=by
 unfold Rn.pop at h;split at h
 .cases h
 cases h;rfl
theorem Qa{k:Nat}(h:oG E k s=some s'):s'.dW=s.dW:=by
 unfold oG at h;split at h
 .cases h
 split at h
 .cases h
 split at h
 .cases h
 cases h;rfl
theorem LC{f:Nat}(h:nS E f s=some (s',w)):s'.dW=s.dW:=by
 unfold nS at h;split at h
 .cases h;rfl
 split at h
 .cases h
 split at h
 .cases h
 cases h;rfl
theorem uy{r:Option Rn}(h:ok0 r=some (s',w)):r=some s':=by
 unfold ok0 at h;cases r with
 | none=>cases h
 | some z=>cases h;rfl
theorem XN{k:Nat}(h:TC E k s=some s'):s'.dW=s.dW:=by
 unfold TC at h;split at h
 .cases h
 rename_i hp;split at h
 .cases h
 rename_i a ho;have e:=(Qa ho).trans (jV hp);split at h
 .cases h;exact e
 split at h
 .cases h
 split at h
 .cases h;exact e
 exact(Bg h).trans e
theorem XV{p:PS}(h:TK E p s=some (s',w)):s'.dW.length=s.dW.length:=by
 unfold TK at h;split at h
 .unfold oh at h;split at h
  .cases h;rfl
  split at h
  .rw[Qa (uy h)]
  split at h
  .rw[XN (uy h)]
  split at h
  .rw[Bg (uy h)]
  split at h
  .split at h
   .cases h
   cases h;rfl
  cases h;rfl
 split at h
 .unfold rE at h;split at h
  .rw[Bg (uy h)]
  split at h
  .split at h
   .cases h
   rename_i hp;split at h
   .rw[Bg (uy h),jV hp]
   cases h;rw[jV hp]
  split at h
  .split at h
   .cases h
   rename_i hp;rw[Bg (uy h),jV hp]
  split at h
  .rw[ER (uy h)]
  split at h
  .rw[LC h]
  split at h
  .unfold Hg at h;split at h
   .cases h
   rename_i hp;split at h
   .cases h;rw[jV hp]
   split at h
   .cases h;rw[jV hp]
   split at h
   .split at h
    .rw[LC h,jV hp]
    cases h;rw[jV hp]
   cases h
  cases h;rfl
 split at h
 .unfold tu at h;split at h
  .simp only[qbd]at h;obtain⟨⟨n,c⟩,hp,hx⟩:=h;cases hx;rw[jV hp]
  split at h
  .split at h
   .cases h
   rename_i U;split at h
   .cases h
   rename_i a;split at h
   .cases h
   rename_i b;cases h;show List.length _=_;simp only[Rn.put];rw[jV b,jV a,jV U]
  split at h
  .split at h
   .cases h
   simp only[qbd]at h;obtain⟨x,-,hx⟩:=h;cases hx;rfl
  split at h
  .split at h
   .cases h
   rename_i U;split at h
   .cases h
   split at h
   .cases h;simp only;rw[jV U]
   cases h
  split at h
  .split at h
   .split at h
    .cases h;rfl
    cases h
   cases h
  split at h
  .simp only[qbd]at h;obtain⟨x,-,hx⟩:=h;cases hx;rfl
  split at h
  .split at h
   .cases h
   rename_i U;split at h
   .cases h;simp only[List.length_set];rw[jV U]
   cases h
  cases h;rfl
 split at h
 .unfold lD at h;split at h
  .cases h;rfl
  split at h
  .split at h
   .cases h
   rename_i U;split at h
   .cases h;simp only[Rn.put];rw[jV U]
   cases h;simp only[Rn.put];rw[jV U]
  split at h
  .split at h
   .cases h
   rename_i U;split at h
   .cases h
   rename_i a;split at h
   .cases h;simp only;rw[jV a,jV U]
   cases h;rw[jV a,jV U]
  split at h
  .cases h
  rename_i U;split at h
  .cases h;simp only[Rn.put];rw[jV U]
  cases h;rw[jV U]
 unfold ou at h;split at h
 .cases h;rfl
 split at h
 .cases h;rfl
 split at h
 .split at h
  .cases h
  rename_i U;cases h;simp only[Rn.put];rw[jV U]
 split at h
 .cases h
 rename_i U;split at h
 .cases h
 rename_i a;cases h;simp only[Rn.put];rw[jV a,jV U]
theorem EI(h:rH E s=some (s',w)):s'.dW.length=s.dW.length:=by
 unfold rH at h;split at h
 .cases h
 split at h
 .rw[ER (uy h)]
 exact(XV h).trans rfl
theorem rV(d:EvB E):∀{n e:Nat}{s s':Rn}{w l:Nat},lI E n e s=some (s',w,l)->(wO E s->wO E s')/\s'.dW.length=s.dW.length
 | 0,_,_,_,_,_,h=>by cases h
 | n+1,e,s,s',w,l,h=>by
  unfold lI at h;split at h
  .cases h;exact⟨id,rfl⟩
  split at h
  .split at h
   .cases h
   rename_i c;obtain⟨a,b⟩:=rV d h;obtain⟨g,-⟩:=uo d c;exact⟨λhm=>a (g.mem hm),b.trans (EI c)⟩
  split at h
  .cases h;exact⟨id,rfl⟩
  split at h
  .cases h
  rename_i f i c;obtain⟨g,-⟩:=uo d c;split at h
  .cases h;exact⟨g.mem,EI c⟩
  obtain⟨a,b⟩:=rV d h;exact⟨λhm=>a (g.mem hm),b.trans (EI c)⟩
end
end Go.Proofs.YtfkcodlceoghpaaGreatDoor
