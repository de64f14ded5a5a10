import Derived.BigQuiet
import Derived.Control
import Derived.Deep.Cut
import Derived.Deep.CutRange
import Derived.Deep.QuietTactic
import Derived.KernelRfl
import Derived.LoopTactic
import Derived.OpenShut
import Derived.TacticsIn
import Derived.WalkKit
import Derived.WalkLawsBesides
import Derived.WalkSpells
import Derived.Test.YtfkcodlceoghpaaGreatDoorProg
namespace Go.Proofs.YtfkcodlceoghpaaGreatDoor
set_option maxHeartbeats 800000
open Go.RowKit Go.Proofs.Tryz
abbrev qI (n:Int):Value:=.int .u32 n
abbrev qX {α:Type} (p:Option Addr) (l:List α) (c:Nat):Value:=.slice p l.length c
abbrev qL (a l c:Nat):Value:=.slice (some ⟨a,0,none⟩) l c
theorem qaa:type_of% @if_neg:=@if_neg
theorem qab:type_of% @List.getElem?_eq_getElem:=@List.getElem?_eq_getElem
theorem qac:type_of% @if_pos:=@if_pos
theorem qad:type_of% @Nat.lt_of_lt_of_le:=@Nat.lt_of_lt_of_le
theorem qae:type_of% @List.getElem?_eq_some_iff:=@List.getElem?_eq_some_iff
theorem qaf:type_of% @IntWalk.i64_in:=@IntWalk.i64_in
theorem qag:type_of% @List.getD_eq_getElem?_getD:=@List.getD_eq_getElem?_getD
theorem qah:type_of% @Array.getElem?_eq_some_iff:=@Array.getElem?_eq_some_iff
theorem qai:type_of% @List.mem_of_getElem?:=@List.mem_of_getElem?
theorem qaj:type_of% @List.append_assoc:=@List.append_assoc
theorem qak:type_of% @List.mem_singleton:=@List.mem_singleton
theorem qal:type_of% @bodyPost_ret:=@bodyPost_ret
theorem qam:type_of% @Nat.le_trans:=@Nat.le_trans
theorem qan:type_of% @List.drop_eq_getElem_cons:=@List.drop_eq_getElem_cons
theorem qao:type_of% @List.eq_nil_of_length_eq_zero:=@List.eq_nil_of_length_eq_zero
theorem qap:type_of% @info_parts:=@info_parts
theorem qaq:type_of% @List.length_append:=@List.length_append
theorem qar:type_of% @List.mem_append:=@List.mem_append
theorem qas:type_of% @List.getElem?_cons_zero:=@List.getElem?_cons_zero
theorem qat:type_of% @World.cell?_alloc_lt:=@World.cell?_alloc_lt
theorem qau:type_of% @List.perm_append_comm_assoc:=@List.perm_append_comm_assoc
theorem qav:type_of% @List.mem_cons:=@List.mem_cons
theorem qaw:type_of% @List.getElem_mem:=@List.getElem_mem
theorem qax:type_of% @List.cons_append:=@List.cons_append
theorem qay:type_of% @List.nil_append:=@List.nil_append
theorem qaz:type_of% @Bool.and_eq_true:=@Bool.and_eq_true
theorem qba:type_of% @List.length_replicate:=@List.length_replicate
theorem qbb:type_of% @List.length_cons:=@List.length_cons
theorem qbc:type_of% @List.perm_append_singleton:=@List.perm_append_singleton
theorem qbd:type_of% @Option.map_eq_some_iff:=@Option.map_eq_some_iff
theorem qbe:type_of% @List.getElem?_append_left:=@List.getElem?_append_left
theorem qbf:type_of% @List.Sublist.refl:=@List.Sublist.refl
theorem qbg:type_of% @List.take_succ_eq_append_getElem:=@List.take_succ_eq_append_getElem
theorem qbh:type_of% @List.getElem?_cons_succ:=@List.getElem?_cons_succ
theorem qbi:type_of% @List.perm_append_comm:=@List.perm_append_comm
theorem qbj:type_of% @List.sublist_append_left:=@List.sublist_append_left
theorem qbk:type_of% @List.getElem?_map:=@List.getElem?_map
theorem qbl:type_of% @callsIn_wide:=@callsIn_wide
theorem qbm:type_of% @List.getLast?_eq_getElem?:=@List.getLast?_eq_getElem?
theorem qbn:type_of% @World.size_alloc:=@World.size_alloc
theorem qbo:type_of% @List.take_of_length_le:=@List.take_of_length_le
theorem qbp:type_of% @World.cell?_setCell_other:=@World.cell?_setCell_other
theorem qbq:type_of% @List.drop_eq_nil_of_le:=@List.drop_eq_nil_of_le
theorem qbr:type_of% @List.getElem?_drop:=@List.getElem?_drop
theorem qbs:type_of% @List.length_nil:=@List.length_nil
theorem qbt:type_of% @List.append_nil:=@List.append_nil
theorem qbu:type_of% @Bool.false_eq_true:=@Bool.false_eq_true
theorem qbv:type_of% @wpList_append_own:=@wpList_append_own
theorem qbw:type_of% @List.Perm.append_left:=@List.Perm.append_left
theorem qbx:type_of% @List.mem_iff_getElem?:=@List.mem_iff_getElem?
theorem qby:type_of% @Bool.or_eq_true:=@Bool.or_eq_true
theorem qbz:type_of% @List.mem_cons_self:=@List.mem_cons_self
theorem qca:type_of% @List.length_take:=@List.length_take
theorem qcb:type_of% @List.length_drop:=@List.length_drop
theorem qcc:type_of% @List.mem_cons_of_mem:=@List.mem_cons_of_mem
theorem qcd:type_of% @decide_eq_true_eq:=@decide_eq_true_eq
theorem qce:type_of% @World.cell?_setCell_same:=@World.cell?_setCell_same
theorem qcf:type_of% @Nat.zero_add:=@Nat.zero_add
theorem qcg:type_of% @List.take_take:=@List.take_take
theorem qch:type_of% @World.frozen?_alloc_old:=@World.frozen?_alloc_old
theorem qci:type_of% @List.flatMap_cons:=@List.flatMap_cons
theorem qcj:type_of% @Nat.min_eq_left:=@Nat.min_eq_left
theorem qck:type_of% @Nat.mul_one:=@Nat.mul_one
theorem qcl:type_of% @StepsIn.trans:=@StepsIn.trans
theorem qcm:type_of% @bne_iff_ne:=@bne_iff_ne
theorem qcn:type_of% @beq_iff_eq:=@beq_iff_eq
theorem qco:type_of% @World.cell?_alloc_new:=@World.cell?_alloc_new
theorem qcp:type_of% @List.set_append_right:=@List.set_append_right
theorem qcq:type_of% @run_underlying:=@run_underlying
theorem qcr:type_of% @Array.getElem?_eq_getElem:=@Array.getElem?_eq_getElem
theorem qcs:type_of% @List.getElem?_take_of_lt:=@List.getElem?_take_of_lt
theorem qct:type_of% @if_false:=@if_false
theorem qcu:type_of% @List.reverse_cons:=@List.reverse_cons
theorem qcv:type_of% @Nat.lt_irrefl:=@Nat.lt_irrefl
theorem qcw:type_of% @Array.length_toList:=@Array.length_toList
theorem qcx:type_of% @List.dropLast_concat_getLast:=@List.dropLast_concat_getLast
theorem qcy:type_of% @IntKind.wrap_u64:=@IntKind.wrap_u64
theorem qcz:type_of% @List.tail_cons:=@List.tail_cons
theorem qda:type_of% @if_true:=@if_true
theorem qdb:type_of% @decide_eq_decide:=@decide_eq_decide
theorem qdc:type_of% @List.mem_filterMap:=@List.mem_filterMap
theorem qdd:type_of% @List.length_singleton:=@List.length_singleton
theorem qde:type_of% @List.dropLast_eq_take:=@List.dropLast_eq_take
theorem qdf:type_of% @List.getElem?_append_right:=@List.getElem?_append_right
theorem qdg:type_of% @World.ownsRow_nil:=@World.ownsRow_nil
theorem qdh:type_of% @Array.replicate_succ:=@Array.replicate_succ
theorem qdi:type_of% @Array.replicate_zero:=@Array.replicate_zero
theorem qdj:type_of% @List.pairwise_append:=@List.pairwise_append
theorem qdk:type_of% @List.Sublist.append_left:=@List.Sublist.append_left
theorem qdl:type_of% @Option.getD_some:=@Option.getD_some
theorem qdm:type_of% @Addr.add_lit:=@Addr.add_lit
theorem qdn:type_of% @List.perm_middle:=@List.perm_middle
theorem qdo:type_of% @List.append_toArray:=@List.append_toArray
theorem qdp:type_of% @List.take_succ_cons:=@List.take_succ_cons
theorem qdq:type_of% @World.block_lt_of_cell?:=@World.block_lt_of_cell?
theorem qdr:type_of% @List.getLast?_cons_cons:=@List.getLast?_cons_cons
theorem qds:type_of% @List.headD_cons:=@List.headD_cons
theorem qdt:type_of% @Int.emod_nonneg:=@Int.emod_nonneg
theorem qdu:type_of% @List.length_map:=@List.length_map
theorem qdv:type_of% @List.nodup_cons:=@List.nodup_cons
theorem qdw:type_of% @fenced_calm:=@fenced_calm
theorem qdx:type_of% @List.push_toArray:=@List.push_toArray
theorem qdy:type_of% @List.flatten_cons:=@List.flatten_cons
theorem qdz:type_of% @Nat.add_zero:=@Nat.add_zero
abbrev qJ (n:Int):Value:=.int .i64 n
abbrev qB (n:Int):Value:=.int .u8 n
abbrev qA (b o:Nat):Addr:=⟨b,o,none⟩
abbrev qP (b:Nat):Value:=.pointer (some ⟨b,0,none⟩)
abbrev qN:Value:=.slice none 0 0
abbrev qS:=ByteArray
theorem qo {p:Prop} (h:p:=by omega):p:=h
theorem qs {p:Prop} (h:p:=by simp):p:=h
theorem qt {p:Prop} (h:p:=by simp;omega):p:=h
theorem qk {p:Prop} (h:p:=by kernel_rfl):p:=h
theorem qx {p:Prop} (h:p:=by decide):p:=h
theorem qd {p:Prop} [Decidable p] (h:¬p:=by omega):decide p=false:=decide_eq_false h
theorem qe {α:Type} [BEq α] [LawfulBEq α] {a b:α} (h:a≠b:=by omega):(a==b)=false:=beq_eq_false_iff_ne.2 h
def qh (p:Prop):Prop:=p
theorem qh.o {p:Prop} (h:qh p):p:=h
theorem qR {n:Nat}:n<=n:=Nat.le_refl n
theorem qZ {n:Nat}:0<=n:=Nat.zero_le n
theorem qE {α:Sort _} (a:α):∃x,x=a:=⟨a,rfl⟩
theorem qF {α:Sort _} (a:α):∃x,a=x:=⟨a,rfl⟩
abbrev qW:=World
abbrev qv:=Value
abbrev qV:=List Value
abbrev qM:=List Nat
abbrev qD:=Nat->Prop
abbrev qO:=Option Addr
theorem qy {α:Type} (l:List α) (i:Nat) (a:α):l.toArray.setIfInBounds i a=(l.set i a).toArray:=List.setIfInBounds_toArray ..
theorem qz {α:Type} (a:α) (l:List α) (b:α):(a::l).set 0 b=b::l:=rfl
theorem qw {α:Type} (a:α) (l:List α) (i:Nat) (b:α):(a::l).set (i+1) b=a::l.set i b:=rfl
theorem qm {p:Prop} (h:p:=by intros;rename_i h;simp only[h]<;>rfl):p:=h
abbrev qC:=Calls Go.Proofs.Tryz.prog
abbrev qU (e:Ending):Prop:=e=.returned (.tuple #[])
structure Kept(S:Nat->Prop)(w w':World):Prop where
 os:w'.os=w.os
 tape:w'.tape=w.tape
 output:w'.output=w.output
 size:w.heap.size<=w'.heap.size
 block:∀k,k<w.heap.size->¬S k->w'.heap[k]?=w.heap[k]?
theorem Kept.refl(S:qD)(w:qW):Kept S w w:=⟨rfl,rfl,rfl,qR,λ_ _ _=>rfl⟩
theorem Kept.trans{S:qD}{a b c:qW}(h:Kept S a b)(k:Kept S b c):Kept S a c:=
 ⟨k.os.trans h.os,k.tape.trans h.tape,k.output.trans h.output,qam h.size k.size,
  λi hi d=>(k.block i (qad hi h.size) d).trans (h.block i hi d)⟩
theorem Kept.mono{S S':qD}{w w':qW}(h:Kept S w w')(a:∀k,k<w.heap.size->S k->S' k):Kept S' w w':=
 ⟨h.os,h.tape,h.output,h.size,λk X b=>h.block k X (λx=>b (a k X x))⟩
theorem Kept.drew{S:qD}{a w:qW}(h:Kept S a w):Kept S a w.drew:=⟨h.os,h.tape,h.output,h.size,h.block⟩
theorem Kept.alloc{S:qD}{a w:qW}(h:Kept S a w)(o:Obj):Kept S a (w.alloc o):=
 h.trans ⟨rfl,rfl,rfl,qs,λk X _=>Below.heap_alloc _ _ _ X⟩
theorem Kept.setCell{S:qD}{a w:qW}(h:Kept S a w){p:Addr}(hp:p.block<a.heap.size->S p.block)(u:qv):Kept S a (w.setCell p u):=by
 refine⟨h.os,h.tape,h.output,by simpa [World.setCell] using h.size,λk X b=>?_⟩;rw[Below.heap_setCell _ _ _ _ (λe=>b (by subst e;exact hp X))];exact h.block k X b
theorem Kept.cell{S:qD}{w w':qW}(h:Kept S w w'){p:Addr}(hp:p.block<w.heap.size)(a:¬S p.block):w'.cell? p=w.cell? p:=
 World.cell?_of_block (w:=w) (h.block p.block hp a)
theorem Kept.frozen{S:qD}{w w':qW}(h:Kept S w w'){p:Addr}(hp:p.block<w.heap.size)(a:¬S p.block):w'.frozen? p=w.frozen? p:=
 World.frozen?_of_block (w:=w) (h.block p.block hp a)
theorem Kept.below{w w':qW}(h:Kept (λ_=>False) w w'):Below w.heap.size w w':=
 ⟨h.os,h.tape,h.output,h.size,λk X=>h.block k X (λx=>x)⟩
def only(b:Nat):Nat->Prop:=λk=>k=b
structure Rd(w:World)(b:Nat)(s:qS)(i n:Nat):Prop where
 c0:w.cell? (qA b 0)=some (.string s)
 c1:w.cell? (qA b 1)=some (qJ i)
 c2:w.cell? (qA b 2)=some (qJ n)
 f0:w.frozen? (qA b 0)=false
 f1:w.frozen? (qA b 1)=false
 f2:w.frozen? (qA b 2)=false
 le:i<=n
 big:n<=s.size
 sz:s.size<=5000
theorem Rd.lt{w:qW}{b:Nat}{s:qS}{i n:Nat}(h:Rd w b s i n):b<w.heap.size:=qdq _ _ h.c0
theorem Rd.kept{S:qD}{w w':qW}{b:Nat}{s:qS}{i n:Nat}(h:Rd w b s i n)(k:Kept S w w')(a:¬S b):Rd w' b s i n:=by
 have hl:=h.lt;exact⟨by rw[k.cell hl a];exact h.c0,by rw[k.cell hl a];exact h.c1,by rw[k.cell hl a];exact h.c2,
  by rw[k.frozen hl a];exact h.f0,by rw[k.frozen hl a];exact h.f1,by rw[k.frozen hl a];exact h.f2,h.le,h.big,h.sz⟩
theorem Rd.drew{w:qW}{b:Nat}{s:qS}{i n:Nat}(h:Rd w b s i n):Rd w.drew b s i n:=
 ⟨h.c0,h.c1,h.c2,h.f0,h.f1,h.f2,h.le,h.big,h.sz⟩
theorem Rd.move{w:qW}{b:Nat}{s:qS}{i n:Nat}(h:Rd w b s i n)(j:Nat)(a:j<=n){z:Int}(c:z=(j:Int)):Rd (w.setCell (qA b 1) (qJ z)) b s j n:=by
 subst c;refine⟨?_,qce _ _ _ h.c1,?_,by simp[h.f0],by simp[h.f1],by simp[h.f2],a,h.big,h.sz⟩
 .rw[qbp _ _ _ _ qs];exact h.c0
 rw[qbp _ _ _ _ qs];exact h.c2
abbrev qK (w w':World):Prop:=Kept (λ_=>False) w w'
theorem qr {S:Nat->Prop} {w:World}:Kept S w w:=Kept.refl _ _
theorem Yg{P:Prop}(h:P:=by
 go_enter Tryz.func188,Tryz.ntmps188;go_wp2_with fail
 refine wp_region_held_drew (S:=λw':qW=>w'.cell? (qA W.heap.size 0)=some (qJ a)/\w'.cell? (qA W.heap.size 1)=some (qJ e)/\w'.cell? (qA W.heap.size 2)=some (qB x)/\w'.cell? (qA W.heap.size 3)=some (.bool y.typed)/\w'.cell? (qA W.heap.size 4)=some (qX pg y.dL cg)/\w'.cell? (qA W.heap.size 5)=some (qI y.align)/\w'.cell? (qA W.heap.size 6)=some (qI y.num.1)/\w'.cell? (qA W.heap.size 7)=some (qJ y.num.2)/\w'.cell? (qA W.heap.size 8)=some (.slice pl nl cl)/\w'.cell? (qA W.heap.size 9)=some (qJ y.val)) qk Cj.o (λ_=>?_);refine ic 0 Cj.o ?_;refine ic 1 Cj.o ?_;refine ic 2 Cj.o ?_;refine ic 3 Cj.o ?_;refine ic 4 Cj.o ?_;refine wpAnyH_all (rs:=[5]) qk qs ?_;intro i hi;rw[qak]at hi;subst hi;refine gY (f:=239) (args:= #[qP bb,.agg (yC a e x y (qX pg y.dL cg) (.slice pl nl cl)).toArray]) rfl rfl qk (YG.o _ ((HA.o.alloc _).drewN 1) ((qr.alloc _).drewN 1)) ?_;rintro ee w2⟨hk2,hok2,iA⟩;have hA2:=((HA.o.alloc (.cells (yC a e x y (qX pg y.dL cg) (.slice pl nl cl)).toArray 195)).drewN 1).quiet hk2;have XQ:qK W w2:=((qr.alloc _).drewN 1).trans hk2;have hl2:Kept (λk=>k<W.heap.size/\¬K k) W w2:=XQ.mono (λ_ _ c=>c.elim);rcases hm2:eU m y with⟨q,p⟩|t
 .obtain rfl:=iA _ _ hm2;exact .inr ⟨_,rfl,rfl,Ends.dG (by rw[HM.o,hm2]) hA2.kept hl2⟩
 obtain⟨v,rfl,vi,vo,rfl,k1,k2⟩:=hok2 _ hm2;obtain⟨l1,l2⟩:=Sg.o _ hm2;have HS2:qh ((λw':qW=>w'.cell? (qA W.heap.size 0)=some (qJ a)/\w'.cell? (qA W.heap.size 1)=some (qJ e)/\w'.cell? (qA W.heap.size 2)=some (qB x)/\w'.cell? (qA W.heap.size 3)=some (.bool y.typed)/\w'.cell? (qA W.heap.size 4)=some (qX pg y.dL cg)/\w'.cell? (qA W.heap.size 5)=some (qI y.align)/\w'.cell? (qA W.heap.size 6)=some (qI y.num.1)/\w'.cell? (qA W.heap.size 7)=some (qJ y.num.2)/\w'.cell? (qA W.heap.size 8)=some (.slice pl nl cl)/\w'.cell? (qA W.heap.size 9)=some (qJ y.val)) w2):=by
  show(λw':qW=>w'.cell? (qA W.heap.size 0)=some (qJ a)/\w'.cell? (qA W.heap.size 1)=some (qJ e)/\w'.cell? (qA W.heap.size 2)=some (qB x)/\w'.cell? (qA W.heap.size 3)=some (.bool y.typed)/\w'.cell? (qA W.heap.size 4)=some (qX pg y.dL cg)/\w'.cell? (qA W.heap.size 5)=some (qI y.align)/\w'.cell? (qA W.heap.size 6)=some (qI y.num.1)/\w'.cell? (qA W.heap.size 7)=some (qJ y.num.2)/\w'.cell? (qA W.heap.size 8)=some (.slice pl nl cl)/\w'.cell? (qA W.heap.size 9)=some (qJ y.val)) w2;dsimp only;have hc:=λ(i:Nat)(v:qv)(hv:((W.alloc (.cells (yC a e x y (qX pg y.dL cg) (.slice pl nl cl)).toArray 195)).drew).cell? (qA W.heap.size i)=some v)=>(hk2.cell (p:=(qA W.heap.size i)) qs (λc=>c)).trans hv;obtain⟨q0,q1,q2,q3,q4,q5,q6,q7,q8,q9⟩:=Cj.o;exact⟨hc _ _ q0,hc _ _ q1,hc _ _ q2,hc _ _ q3,hc _ _ q4,hc _ _ q5,hc _ _ q6,hc _ _ q7,hc _ _ q8,hc _ _ q9⟩
 refine .inl ⟨_,rfl,HS2.o,?_⟩;refine wpAnyH_all (rs:=[6]) qk qs ?_;intro i hi;rw[qak]at hi;subst hi;refine gY (f:=132) (args:= #[qP bb,qB x,.agg #[vi,vo]]) rfl rfl qk (enter_at x hA2 (λ_=>hb) k1 k2 l1 l2 hbl qo) ?_;rintro ee w3⟨XP,vO,hk3,UA⟩;have hl3:=hl2.fK UA rfl;rcases y8:iV x t Z with⟨q,p⟩|XH
 .obtain rfl:=vO _ _ y8;exact .inr ⟨_,rfl,rfl,Ends.dG (by rw[HM.o,hm2];exact y8) hk3 hl3⟩
 obtain⟨rfl,hA3⟩:=XP _ y8;have HE:qh (dR m x y Z=.ok XH):=by show _=_;rw[HM.o,hm2];exact y8
 have XD:=qH hA3;refine .inl ⟨_,rfl,?_,?_⟩
 .have hc:=λ(i:Nat)(v:qv)(hv:w2.cell? (qA W.heap.size i)=some v)=>(UA.cell (p:=(qA W.heap.size i)) (show W.heap.size<w2.heap.size by have h9:=hk2.size;simp at h9;omega) (λc=>qcv _ c.1)).trans hv;obtain⟨q0,q1,q2,q3,q4,q5,q6,q7,q8,q9⟩:=HS2.o;exact⟨hc _ _ q0,hc _ _ q1,hc _ _ q2,hc _ _ q3,hc _ _ q4,hc _ _ q5,hc _ _ q6,hc _ _ q7,hc _ _ q8,hc _ _ q9⟩
 refine wpAnyH_done qk ?_ _;go_end0;exact Ends.dN HE.o XD.o hl3):P:=h
theorem Sv{P:Prop}(h:P:=by
 rw[HM.o];rintro ee w1⟨hok1,UB,hk1,hlow1⟩;have Uz:Kept (λk=>k<W.heap.size/\¬K k) W w1:=((qr.alloc _).trans hlow1).mono (λk X c=>⟨X,c.2⟩);clear HM;obtain⟨q,p⟩ | st1:=m
 .obtain rfl:=UB _ _ rfl;exact⟨rfl,Ends.dG rfl hk1 Uz⟩
 obtain⟨rfl,hA1⟩:=hok1 _ rfl;have HA1:=qH hA1;clear hok1 UB hA1;go_wp2;go_end0;exact Ends.dN rfl HA1.o Uz):P:=h
theorem VC{P:Prop}(h:P:=by
 apply Exists.intro;intro w;have HS:=qH (lW w);have hx:bits BinOp.xor IntKind.u64 (if IntKind.u64.signed=true then -1 else IntKind.u64.max) 0=18446744073709551615:=qk;have hy:bits BinOp.xor IntKind.u64 IntKind.u64.max 0=18446744073709551615:=qk;go_enter Tryz.func328,Tryz.ntmps328;go_wp2_with fail
 refine HS.o.mono ?_;rintro e w1⟨rfl,rfl⟩;go_wp2;refine qal ?_ rfl ⟨rfl,rfl⟩;simp[results,Tryz.results328];rfl):P:=h
theorem Vz{P:Prop}(h:P:=by
 apply Exists.intro;intro w;have HS:=qH (lX w);have hx:bits BinOp.xor IntKind.u32 (if IntKind.u32.signed=true then -1 else IntKind.u32.max) 0=4294967295:=qk;have hy:bits BinOp.xor IntKind.u32 IntKind.u32.max 0=4294967295:=qk;go_enter Tryz.func322,Tryz.ntmps322;go_wp2_with fail
 refine HS.o.mono ?_;rintro e w1⟨rfl,rfl⟩;go_wp2;refine qal ?_ rfl ⟨rfl,rfl⟩;simp[results,Tryz.results322];rfl):P:=h
theorem Dn{P:Prop}(h:P:=by
 go_wp2_with fail
 refine HO.o.mono ?_;rintro e w2⟨rfl,L⟩;have H2:=qH L;clear L HO;go_wp2;go_ret;exact⟨rfl,H2.o⟩):P:=h
theorem Yf{P:Prop}(h:P:=by
 have hsz3:=hk3.size;clear X0 Y0 X1 Y1 X2 Y2 Xx Xv Xt FT Yj hk2 Om;obtain⟨X0,Y0⟩:=Xw.blk.rJ;obtain⟨X1,Y1⟩:=Xu.blk.rJ;obtain⟨X2,Y2⟩:=VX.blk.rJ;go_wp2_with fail
 refine(vQ (S:=both b Y) (K:=126) (A:= #[qP w.heap.size,.pointer (some ⟨w.heap.size+1,0,none⟩),qP w1.heap.size]) (oo m x)
  (λW=>OB W b w.heap.size [qP Y]/\OB W b (w.heap.size+1) [qP b]/\OB W b w1.heap.size [qB x]/\iF s (λg=>B<=g) W b Y m)
  (λy W=>iF s (λg=>B<=g) W b Y y) zA ⟨Xw,Xu,VX,O1.o⟩ yG (.inl rfl) ?_ ?_ ?_).mono ?_
 .rintro W W'⟨U,L,h3,h4⟩ X;exact⟨U.call X,L.call X,h3.call X,h4.call X qo⟩
 .rintro y W W' U X;exact U.call X qo
 .rintro W j n' hrd⟨U,L,h3,h4⟩ hsz;exact CK x hrd h4 hb hmb qo Yi.o U.blk.rJ.1 L.blk.rJ.1 h3.blk.rJ.1
 rintro e w4⟨hx4,hok,iC⟩;have hk4:=hk3.trans hx4;have Yr:=VX.kept hx4 (λhh=>hh.elim (λe=>qo) (λe=>qo));clear hx4 Xw Xu VX O1 X0 Y0 X1 Y1 X2 Y2;rcases ho:eX (oo m x) s n j with⟨q,p⟩|⟨m1,j1⟩
 .obtain rfl:=iC _ _ ho;exact⟨rfl,eP.dG (Si.o.trans (by rw[ho])) hk4⟩
 obtain⟨u,rfl,⟨rfl,Q9⟩,XO⟩:=hok _ _ ho;have HS2:=qH (Si.o.trans (by rw[ho]));have YF:=qH Q9;clear hok iC ho Q9;obtain⟨X2,Y2⟩:=Yr.blk.rJ;go_wp2_with fail
 refine(oZ _ _).mono ?_;rintro e w5⟨rfl,rfl⟩;go_wp2;go_ret;exact eP.dN (x:=(m1,iZ x)) (j:=j1) HS2.o hk4 ⟨rfl,YF.o⟩ XO):P:=h
theorem Su{P:Prop}(h:P:=by
 obtain⟨⟨I0,-⟩,⟨I1,-⟩,⟨I2,-⟩,⟨I3,-⟩,⟨I4,-⟩,⟨I5,-⟩,⟨I6,-⟩,⟨I7,-⟩,⟨I8,-⟩,⟨I9,-⟩⟩:=hB.ten;exact⟨I0,I1,I2,I3,I4,I5,I6,I7,I8,I9⟩):P:=h
theorem zg{P:Prop}(h:P:=by
 go_wp2;go_ret;refine⟨?_,rfl⟩;go_simp;with_reducible rfl):P:=h
theorem XB{P:Prop}(h:P:=by
 rintro e w2⟨rfl,L⟩;have H2:=qH L;clear L;go_wp2_with fail
 refine(HR.o _ H2.o).mono ?_;rintro e w3⟨rfl,q,rfl⟩;have H3:=qH (HP.o _ (show RA w0 G rb Y fu tv fv ev bv most Xq s2 _ from by obtain⟨v,h⟩:=H2.o;exact⟨v,h.drewN q⟩));clear H2 HP HR;go_wp2_with fail
 refine H3.o.mono ?_;rintro e w4⟨rfl,h4⟩;have H4:=qH h4;clear h4 H3;go_wp2;go_ret;exact⟨rfl,H4.o⟩):P:=h
theorem Uk{P:Prop}(h:P:=by
 rintro e w2⟨rfl,rfl⟩;refine⟨_,rfl,hK _ _ (.inr trivial) ?_⟩;clear hK K;simp only[Act.put,qy,qz,qw];refine jb 6 trivial ?_;refine jb 7 trivial ?_;refine jb 8 trivial ?_;refine xE (λK hK=>?_);go_simp;refine hK _ _ ?_;clear hK K;go_wp2;go_ret;refine⟨?_,1,rfl⟩;go_simp;with_reducible rfl):P:=h
theorem IK{P:Prop}(h:P:=by
 obtain⟨rfl,hA2⟩:=hok2 _ hm2;have HA2:=qH hA2;have HE2:=qH (HN.o.trans hm2);clear hok2 iA hA2 hm2 HN;go_wp2;go_end0;exact Ends.dN HE2.o HA2.o hlow):P:=h
theorem KW{P:Prop}(h:P:=by
 obtain⟨rfl,hA2⟩:=hok2 _ hm2;have HA2:=qH hA2;have HE2:=qH (HE.o.trans hm2);clear hok2 iA hA2 hm2 HE;go_wp2;go_end0;exact Ends.dN HE2.o HA2.o hlow):P:=h
theorem Cc{P:Prop}(h:P:=by
 apply Exists.intro;intro w;go_enter Tryz.func299,Tryz.ntmps299;go_wp2;go_ret;exact⟨rfl,rfl⟩):P:=h
theorem Cb{P:Prop}(h:P:=by
 apply Exists.intro;intro w;go_enter Tryz.func298,Tryz.ntmps298;go_wp2;go_ret;exact⟨rfl,rfl⟩):P:=h
theorem Uj{P:Prop}(h:P:=by
 rintro e w2⟨rfl,L⟩;have H2:=qH (HP.o _ L);clear L HP;go_wp2_with fail
 refine(HR.o _).mono ?_;rintro e w3⟨rfl,rfl⟩;cases r;all_goals
  go_wp2_with fail
  refine H2.o.mono ?_;rintro e w4⟨rfl,h4⟩;have H4:=qH h4;clear h4 H2;go_wp2;go_end0;exact⟨rfl,H4.o⟩):P:=h
theorem OW{P:Prop}(h:P:=by
 exact⟨_,0,rfl,λ_=>uJ T hn Aq.tb rfl rfl rfl rfl (by simp only[EK,AQ,qbb,qbs,List.length_dropLast,qca];omega)⟩):P:=h
theorem OV{P:Prop}(h:P:=by
 have HR:=qH hrow3;clear hown' hgrow hrow3 HW;go_wp2;go_roundw
 case rel=>exact⟨k+1,j2,ks++[x],qo,by simp[hl],by go_num,zA,hk4,HR.o,HH.o⟩
 simp[intOf];omega):P:=h
theorem Xl{P:Prop}(h:P:=by
 go_wp2;go_roundw
 case rel=>exact⟨k+1,j2,ks++[x],qo,by simp[hl],by go_num,zA,hk4,HR.o,HH.o⟩
 simp[intOf];omega):P:=h
theorem OU{P:Prop}(h:P:=by
 go_wp2_with fail
 refine(Eo (oW z x k) x k _ qo).mono ?_;rintro e w3⟨rfl,rfl⟩;go_wp2;go_ret;exact Out.dN HH.o TD rfl Kc):P:=h
theorem FO{P:Prop}(h:P:=by
 rw[qaj,qaj];exact qbw _ qbi):P:=h
theorem Ui{P:Prop}(h:P:=by
 rintro ee w4⟨EZ,-,-,Rb⟩;obtain⟨rfl,UC⟩:=EZ _ rfl;have Xm:=qH UC;clear EZ UC;go_wp2;go_end0;exact Ends.dN HM.o Xm.o (hl3.fK ((qr.alloc _).trans Rb) rfl)):P:=h
theorem RY{P:Prop}(h:P:=by
 have HH:qh (eB most tM s n i=.ok (ks,j)):=by show _=_;rw[HE.o,show cnt - k=0 by omega];rfl
 go_wp2;go_ret;exact Out.dN HH.o hkp hrow hrd):P:=h
theorem IJ{P:Prop}(h:P:=by
 obtain rfl:=iC _ _ ho;exact⟨rfl,Out.dG (HE.o.trans (wE qo ho)) hk3⟩):P:=h
theorem RX{P:Prop}(h:P:=by
 exact qbw _ qbi):P:=h
theorem II{P:Prop}(h:P:=by
 obtain rfl:=iA _ _ hm2;exact⟨rfl,Ends.dG (HN.o.trans hm2) hk2 hlow⟩):P:=h
theorem VE{P:Prop}(h:P:=by
 clear hr;go_enter Tryz.func301,Tryz.ntmps301;go_wp2_with fail
 refine HR.o.mono ?_;rintro e w1⟨rfl,rfl⟩;go_wp2;refine qal (v:=.tuple #[.int .u64 r,qJ 0]) ?_ rfl ⟨rfl,⟨0,rfl⟩⟩;simp[results,Tryz.results301]):P:=h
theorem VD{P:Prop}(h:P:=by
 clear hr;go_enter Tryz.func300,Tryz.ntmps300;go_wp2_with fail
 refine HR.o.mono ?_;rintro e w1⟨rfl,rfl⟩;go_wp2;refine qal (v:=.tuple #[qI r,qJ 0]) ?_ rfl ⟨rfl,⟨0,rfl⟩⟩;simp[results,Tryz.results300]):P:=h
theorem xZ{P:Prop}(h:P:=by
 go_wp2;go_ret;exact⟨by rw[HH.o];rfl,rfl⟩):P:=h
theorem IG{P:Prop}(h:P:=by
 obtain rfl:=iC _ _ ho;exact⟨rfl,Out.dG (by simp[eB,ho]) hk1⟩):P:=h
theorem VB{P:Prop}(h:P:=by
 have e:It.r 85 1 (qX pv y.dA cv) (stepOf (jj,x,y) o0).zz.length (jC (stepOf (jj,x,y) o0).zz)=It.r 85 1 (qX pv y.dA cv) y.dA.length (jC (lC y.dA)):=by simp[stepOf,lC]
 rw[e];simp):P:=h
theorem Xk{P:Prop}(h:P:=by
 have HN:qh (dV (ig m) m.starts=.error (4,xp)):=HE.o.trans (HB.o _ (by rw[O3.o,qaa qo]));have hb:(0:Int)<(b:Int)+1:=qo;clear HB HO HE O3 Sg;go_wp2_with fail
 refine(iK _ _ _).mono ?_;rintro e w9⟨rfl,rfl⟩;exact⟨rfl,Says.dG HN.o (((Ut.trans kA).setCell (p:=⟨wr.heap.size+1+1,0,none⟩) (λh=>absurd h qt) _).setCell (p:=⟨wr.heap.size+1+1,1,none⟩) (λh=>absurd h qt) _)⟩):P:=h
theorem KU{P:Prop}(h:P:=by
 obtain rfl:=iA _ _ hm2;exact⟨rfl,Ends.dG (HE.o.trans hm2) hk2 hlow⟩):P:=h
theorem VA{P:Prop}(h:P:=by
 have t3:(bits BinOp.and IntKind.u8 ((bt s j:Nat):Int) 128==0)=false:=tX;clear tX;generalize bt s j=x at*;go_wp2;go_roundw
 case rel=>exact⟨k+1,oW z x k,j+1,qo,by go_num,rfl,Kc,TD,HH.o⟩
 simp[intOf];omega):P:=h
theorem Xj{P:Prop}(h:P:=by
 have HN:qh (dV (ig m) m.starts=.error (4,xp)):=HE.o.trans (HB.o _ (by rw[O3.o,qaa qo]));have hb:(0:Int)<(b:Int)+1:=qo;clear HB HO HE O3 Sg;go_wp2_with fail
 refine(iK _ _ _).mono ?_;rintro e w9⟨rfl,rfl⟩;exact⟨rfl,Says.dG HN.o (((Ut.trans kA).setCell (p:=⟨wr.heap.size+1,0,none⟩) (λh=>absurd h qt) _).setCell (p:=⟨wr.heap.size+1,1,none⟩) (λh=>absurd h qt) _)⟩):P:=h
theorem Xi{P:Prop}(h:P:=by
 have t3:(bits BinOp.and IntKind.u8 ((bt s j:Nat):Int) 128==0)=true:=tX;clear h4 tX;generalize bt s j=x at*;go_wp2;refine qal (v:=.agg #[qI (tH z x k),qJ i]) ?_ rfl (Out.dN HH.o ((TD.new qR _).new qR _) rfl ((Kc.dD (Nat.ne_of_gt HB.o) _).dD (Nat.ne_of_gt HB.o) _));simp[results,Tryz.results168,go_sem,tH,q0,q1]):P:=h
theorem RV{P:Prop}(h:P:=by
 have HN:=qH (HE.o.trans (o9 hlt));clear HE;go_wp2;go_end0;exact Says.dN HN.o hkp rfl):P:=h
theorem Uh{P:Prop}(h:P:=by
 split at h
 .cases h
 cases h;exact⟨⟨hf.dx,hf.ins,hf.funcs,hf.nums,hf.GN⟩,λ_=>h8 qo,λ_=>h10 qo,λ_=>h12 qo⟩):P:=h
theorem Xh{P:Prop}(h:P:=by
 exfalso
 have hf:=X.fit;have ht:=X.tb;have hdr:I.drop k=i::I.drop (k+1):=by
  obtain⟨hl,he⟩:=qae.1 hi;rw[qan hl,he]
 rw[hdr]at hf ht;obtain⟨-,-,st2,hc,hr⟩:=hf;rw[qac hne]at hr;have:(iB.drop k)[1]?=some (J,op'):=by simpa using h
 rw[ht,tab,hc,hr]at this;simp[tab]at this):P:=h
theorem Ug{P:Prop}(h:P:=by
 have HV:=qH hv;have HO:=qH ho;clear hv hok iC ho;go_wp2;go_end0;exact eP.dN HO.o X ⟨rfl,HV.o⟩ hrd):P:=h
theorem Uf{P:Prop}(h:P:=by
 go_wp2_with fail
 refine(fZ _ _).mono ?_;rintro e w3⟨rfl,rfl⟩;exact⟨rfl,Out.dG HH.o TD⟩):P:=h
theorem Vy{P:Prop}(h:P:=by
 obtain⟨hl,he⟩:=qae.1 hi;rw[qan hl,he]):P:=h
theorem Xg{P:Prop}(h:P:=by
 have HN:qh (dV (ig m) m.starts=.error (4,xp)):=HE.o.trans (HB.o _ (by rw[O3.o,qaa qo]));have hb:(0:Int)<(b:Int)+1:=qo;clear HB HO HE O3 Sg;go_wp2_with fail
 refine(iK _ _ _).mono ?_;rintro e w9⟨rfl,rfl⟩;exact⟨rfl,Says.dG HN.o ((Ut.trans k3).alloc _)⟩):P:=h
theorem Ue{P:Prop}(h:P:=by
 simp only[PP,PL];rw[e1,qaq,qdd];simpa [qaj] using Vn):P:=h
theorem Xf{P:Prop}(h:P:=by
 go_enter Tryz.func198,Tryz.ntmps198;go_wp2_with fail
 refine HT.o.mono ?_;rintro e w1⟨rfl,U⟩;have H1:=qH (HP.o _ U);clear U HT HP;go_wp2_with fail
 refine H1.o.mono ?_;rintro e w2⟨rfl,L⟩;have H2:=qH L;clear L H1;go_wp2;go_ret;exact⟨rfl,H2.o⟩):P:=h
theorem OT{P:Prop}(h:P:=by
 go_wp2;go_ret;refine⟨?_,0,rfl⟩;go_simp;with_reducible rfl):P:=h
theorem Vx{P:Prop}(h:P:=by
 have:=H3.o;simp only[LM,qz,qw]at this ⊢;rw[Q8]at this;rw[List.length_set];exact this):P:=h
theorem Vw{P:Prop}(h:P:=by
 go_wp2_with fail
 refine HJ.o.mono ?_;rintro e w2⟨rfl,L⟩;have H2:=qH L;clear L HJ;go_wp2;go_ret;exact⟨rfl,H2.o⟩):P:=h
theorem Ud{P:Prop}(h:P:=by
 obtain rfl:=iA _ _ hm2;exact⟨rfl,Ends.dG (by rw[HM.o,hm2]) hA2.kept hl2⟩):P:=h
theorem Xe{P:Prop}(h:P:=by
 intro j u hj;have hjl:j<ks.length:=by
  have:=(qae.1 hj).1;simpa [kindCells] using this
 have hadd:(⟨gk,0,none⟩:Addr).add j=⟨gk,j,none⟩:=by unfold Addr.add;split<;>simp_all
 rw[hadd,hcells j qo];exact hj):P:=h
theorem Xd{P:Prop}(h:P:=by
 go_wp2_with fail
 refine(yI XD.o hb3).mono ?_;rintro ee w4⟨EZ,-,-,Rb⟩;obtain⟨rfl,UC⟩:=EZ _ rfl;have Xm:=qH UC;clear EZ UC;go_wp2;go_end0;exact Ends.dN O1.o Xm.o (hl3.fK Rb rfl)):P:=h
theorem Xc{P:Prop}(h:P:=by
 have HS:=qH hS;have LU:=qH Vm;clear hS hel Vm hlt;go_wp2;go_end0;exact⟨⟨_,HS.o,λp hp=>by simp[hp]⟩,λt' h'=>by rw[LU.o]at h';cases h';exact⟨rfl,HS.o⟩,λq p h'=>by rw[LU.o]at h';cases h'⟩):P:=h
theorem Vv{P:Prop}(h:P:=by
 go_wp2_with fail
 refine(fZ _ _).mono ?_;rintro e w3⟨rfl,rfl⟩;exact⟨rfl,Out.dG HH.o (X.alloc _)⟩):P:=h
theorem Xb{P:Prop}(h:P:=by
 go_wp2_with fail
 refine(lT (HA.o.alloc _) _).mono ?_;rintro ee w1⟨rfl,he⟩;rw[qac (by first | rfl | exact hz)]at he;subst he;exact⟨rfl,Ends.dG HM.o (HA.o.alloc _).kept (qr.alloc _)⟩):P:=h
theorem Uc{P:Prop}(h:P:=by
 obtain rfl:=vO _ _ y8;exact⟨rfl,Ends.dG (by rw[FT.o,y8]) hk3 hl3⟩):P:=h
theorem Xa{P:Prop}(h:P:=by
 go_wp2_with fail
 refine(og h').mono ?_;rintro e w'⟨rfl,k,rfl⟩;go_wp2_with fail
 refine(fZ _ _).mono ?_;rintro e w'⟨rfl,rfl⟩;exact⟨rfl,Out.dG HR.o (qr.drewN _)⟩):P:=h
theorem Vu{P:Prop}(h:P:=by
 have HZ:=qH h0;go_enter Tryz.func314,Tryz.ntmps314;go_wp2;go_ret;exact⟨by rw[HH.o,HZ.o];rfl,rfl⟩):P:=h
theorem W9{P:Prop}(h:P:=by
 clear hlt hA;go_wp2_with fail
 refine X4.o.mono ?_;rintro e w5⟨rfl,rfl⟩;go_wp2_with fail
 refine XZ.o.mono ?_;rintro e w5⟨rfl,rfl⟩;go_wp2;go_ret;exact⟨rfl,HKB.o.kept HS.o.kept⟩):P:=h
theorem WZ{P:Prop}(h:P:=by
 dsimp only;exact⟨(((Kept.refl (λ_=>False) w).alloc _).alloc _).drew.cell hbw (λc=>c) |>.trans I0,(((Kept.refl (λ_=>False) w).alloc _).alloc _).drew.cell hmw (λc=>c) |>.trans F0,qs,qs⟩):P:=h
theorem Ub{P:Prop}(h:P:=by
 exact⟨rP.of (by simp[Rn.put]) (by simp[Rn.put]) (by simp[Rn.put]),qo⟩):P:=h
theorem WY{P:Prop}(h:P:=by
 rintro e V1⟨rfl,hk1⟩;refine .inr ⟨_,rfl,⟨rfl,⟨_,H2.o.drew.to hk1,λp hp=>by simp[hp]⟩,λt' h'=>?_,λq p h'=>?_⟩⟩
 .rw[LU.o]at h';cases h'
 rw[LU.o]at h';cases h';rfl):P:=h
theorem WX{P:Prop}(h:P:=by
 refine⟨_,rfl,XE,XF,H8.o.sub ?_⟩;simp only[LM,MI,qax,qz,qw];exact .cons _ (.cons _ (.cons _ (.cons _ (.cons _ (.cons _ (qbf _))))))):P:=h
theorem Ua{P:Prop}(h:P:=by
 obtain h | h | h:=hF' _ hF
 .exact h6 h
 .exact(hh _ h).2 h4
 omega):P:=h
theorem Vt{P:Prop}(h:P:=by
 go_wp2_with fail
 refine(iK _ _ _).mono ?_;rintro e w3⟨rfl,rfl⟩;exact⟨rfl,rfl,rfl⟩):P:=h
theorem WV{P:Prop}(h:P:=by
 rintro ee w1⟨hok1,-,-,hlow1⟩;obtain⟨rfl,hA1⟩:=hok1 _ rfl;have HA1:=qH hA1;clear hok1 hA1;go_wp2;go_end0;exact Ends.dN rfl HA1.o ((qr.alloc _).trans hlow1)):P:=h
theorem OQ{P:Prop}(h:P:=by
 go_wp2;go_ret;exact⟨by rw[HR.o];rfl,rfl⟩):P:=h
theorem WU{P:Prop}(h:P:=by
 cases hq:Z.dn with
 | nil=>simp
 | cons a r=>
  intro b hb';unfold Bd.dJ;rw[hq]at hfl ⊢;cases r with
  | nil=>simp at hb'
  | cons c r'=>simp at hb';subst hb';exact hfl.2.1):P:=h
theorem Vs{P:Prop}(h:P:=by
 obtain rfl:=iC _ _ (gQ hi);exact⟨rfl,Out.dG (HM.o.trans (SH X hi)) TD⟩):P:=h
theorem WT{P:Prop}(h:P:=by
 dsimp only;exact⟨(((Kept.refl (λ_=>False) W).alloc _).drew.cell hbw (λc=>c)).trans I0,(((Kept.refl (λ_=>False) W).alloc _).drew.cell hmw (λc=>c)).trans F1,qs,qs⟩):P:=h
theorem T9{P:Prop}(h:P:=by
 cases hq:s.eY with
 | nil=>rw[hq]at hf;simp at hf
 | cons a b=>simp):P:=h
theorem WS{P:Prop}(h:P:=by
 cases h;unfold fD at hc;split at hc
 .cases hc
 split at hc
 .cases hc
 cases hc;unfold jL at ht;split at ht
 .cases ht
 cases ht;simp only[ByteArray.size_extract];omega):P:=h
theorem WR{P:Prop}(h:P:=by
 go_enter Tryz.func317,Tryz.ntmps317;go_wp2_with fail
 refine(fZ _ _).mono ?_;rintro e w3⟨rfl,rfl⟩;exact⟨rfl,jT.dG HH.o (qr.alloc _)⟩):P:=h
theorem WQ{P:Prop}(h:P:=by
 exact qdk (qdk (qdk (by rw[qaj,qaj];exact qbj _ _) _) _) _):P:=h
theorem TZ{P:Prop}(h:P:=by
 refine List.Perm.cons _ ?_;exact(qbc _ _)):P:=h
theorem WO{P:Prop}(h:P:=by
 go_enter Tryz.func196,Tryz.ntmps196;go_wp2_with fail
 refine HO.o.mono ?_;rintro e w2⟨rfl,L⟩;have H2:=qH L;clear L HO;go_wp2;go_end0;exact⟨rfl,H2.o⟩):P:=h
theorem WN{P:Prop}(h:P:=by
 obtain⟨rfl,UC⟩:=EZ _ Q9;have Xm:=qH UC;have HE:=qH (O1.o.trans Q9);clear EZ Lx Q9 UC O1;go_wp2;go_end0;exact Ends.dN HE.o Xm.o hl4):P:=h
theorem WM{P:Prop}(h:P:=by
 have:=X.fit;cases hq:I.drop k with
 | nil=>rw[hq]at this;exact this.elim
 | cons a b=>
  have L:(I.drop k)[0]?=some a:=by rw[hq];rfl
  exact⟨a,by simpa using L⟩):P:=h
theorem WL{P:Prop}(h:P:=by
 rintro ee w2⟨rfl,rfl⟩;refine⟨_,rfl,?_⟩;exact⟨rfl,Ends.dG HM.o ((((HA.o.alloc _).kept.drew).alloc _)) ((qr.alloc _).drew.alloc _)⟩):P:=h
theorem WK{P:Prop}(h:P:=by
 clear hn;go_wp2_with fail
 refine HR.o.mono ?_;rintro e w4⟨rfl,k4⟩;have K4:=qH k4;clear k4 HR K3;go_wp2;go_end0;exact⟨rfl,by rw[HN.o];exact K4.o⟩):P:=h
theorem TY{P:Prop}(h:P:=by
 cases h;exact⟨rP.of qo (by rw[p2];omega) (by rw[p3]),qo⟩):P:=h
theorem WJ{P:Prop}(h:P:=by
 rw[oP (wX hne)]at b2 b3 b4 b5 b6;rw[e1]at b1 b4 b6;rw[Sm,hbl];exact⟨B',by simpa using b1,b2,b3,by simpa using b4,b5,by simpa using b6⟩):P:=h
theorem WI{P:Prop}(h:P:=by
 rintro k (h | rfl | rfl)
 .obtain h | h | h:=hF' k h
  .exact .inl (L k h)
  .exact .inr (.inl h)
  exact .inr (.inr h)
 .exact .inl h4
 exact .inl h5):P:=h
theorem Vr{P:Prop}(h:P:=by
 go_enter Tryz.func341,Tryz.ntmps341;go_wp2;go_ret;exact⟨by rw[HF.o];rfl,rfl⟩):P:=h
theorem TW{P:Prop}(h:P:=by
 rintro e w1⟨rfl,rfl⟩;go_wp2;go_ret;exact⟨rfl,rfl⟩):P:=h
theorem Vq{P:Prop}(h:P:=by
 go_wp2;go_end0;exact Ends.dN HM.o (HA.o.alloc _) (qr.alloc _)):P:=h
theorem WH{P:Prop}(h:P:=by
 have HH:qh (eB most tM s n i=.ok (ks,j)):=by show _=_;rw[HE.o,show cnt - k=0 by omega];rfl
 go_wp2;go_ret;exact Out.dN HH.o hkp HL.o hrd):P:=h
theorem TV{P:Prop}(h:P:=by
 obtain rfl:=iC _ _ ho;exact⟨rfl,eP.dG rfl X⟩):P:=h
theorem WG{P:Prop}(h:P:=by
 rcases ho:uM s n i with e|⟨⟨v,a⟩,j2⟩
 .rw[ho]at h;cases h
 rw[ho]at h;have:=iY ho;simp only at h;split at h
 .cases h
 cases h;omega):P:=h
theorem WE{P:Prop}(h:P:=by
 refine⟨qs,.inl ⟨D,_,rfl,run_takeDeferred hdef,?_⟩⟩;exact⟨_,results_none rfl _ _ _,rfl,hfin D j F' W' hI' (by simpa using hD) hdef⟩):P:=h
theorem WC{P:Prop}(h:P:=by
 rintro e w2⟨rfl,rfl⟩;refine⟨_,rfl,?_⟩;refine⟨rfl,Says.dG HR.o ?_⟩;exact(((qr.alloc _).alloc _).drew.alloc _)):P:=h
theorem WB{P:Prop}(h:P:=by
 generalize ks.getD j 0=kj at*;go_wp2;go_roundw
 case rel=>exact⟨j,st2,qo,by go_num,⟨HS2.o,XR,hl2⟩,HB2.o,hk4,HN.o⟩
 simp[intOf]):P:=h
theorem WA{P:Prop}(h:P:=by
 rw[qag]at hb ⊢;cases hq:E.fs[f.f]? with
 | none=>rw[hq]at hb;simp[PF.none]at hb
 | some F=>exact⟨F,rfl,rfl⟩):P:=h
theorem Wz{P:Prop}(h:P:=by
 obtain rfl | rfl:=X;all_goals
  clear hb hb2;go_enter Tryz.func6,Tryz.ntmps6;go_wp2;go_ret;exact⟨by rw[HP.o];simp_all,rfl⟩):P:=h
theorem Wy{P:Prop}(h:P:=by
 split at h
 .cases h
 cases h;exact⟨⟨hf.dx,hf.ins,hf.funcs,hf.nums,hf.GN⟩,λc=>absurd c qx,λ_=>h10 qo,λ_=>h12 qo⟩):P:=h
theorem TU{P:Prop}(h:P:=by
 rintro x cs⟨a,e,c⟩;exact⟨a,e,Row.mono c hm⟩):P:=h
theorem Wx{P:Prop}(h:P:=by
 refine xE (λK' hK'=>?_);go_simp;refine hK' _ _ ?_;clear hK' K';go_wp2;go_meet;exact⟨_,_,vB,vC,rfl,rfl,H7.o.perm VT⟩):P:=h
theorem Ww{P:Prop}(h:P:=by
 refine xE (λK' hK'=>?_);go_simp;refine hK' _ _ ?_;clear hK' K';go_wp2;go_meet;exact⟨_,_,vB,vC,rfl,rfl,H7.o.perm VU⟩):P:=h
theorem Wv{P:Prop}(h:P:=by
 refine xE (λK' hK'=>?_);go_simp;refine hK' _ _ ?_;clear hK' K';go_wp2;go_meet;exact⟨_,_,vB,vC,rfl,rfl,H7.o.perm permA⟩):P:=h
theorem Wu{P:Prop}(h:P:=by
 go_wp2;go_roundg (xs.length - (i+1))
 case measure=>have:=HI.o;omega
 exact⟨i+1,rfl,HI.o,by push_cast;rfl,HF.o,HS.o _⟩):P:=h
theorem Wt{P:Prop}(h:P:=by
 refine⟨_,vm,vg,rfl,H8.o.sub ?_⟩;simp only[MI,qax,qz];exact .cons _ (qbf _)):P:=h
theorem UY{P:Prop}(h:P:=by
 obtain⟨a1,a2,a3⟩:=hmb (j+1) o B' U (by rw[hB];simpa using L);rw[hB]at a3;exact⟨a1,a2,λc=>by simpa using a3 c⟩):P:=h
theorem UX{P:Prop}(h:P:=by
 have e:=h0.tb;have hf:=h0.fit;simp only[List.drop_zero]at e hf;rw[e];cases I with
 | nil=>exact hf.elim
 | cons a b=>rfl):P:=h
theorem R5{P:Prop}(h:P:=by
 split at h<;>cases h;exact⟨hm.tables,hm.fP,hm.data,hm.BC⟩):P:=h
theorem UW{P:Prop}(h:P:=by
 simp only[qaq,qdd];obtain rfl | h:=qav.1 h
 .omega
 have:=hlt o h;omega):P:=h
theorem UU{P:Prop}(h:P:=by
 have:iB[ss.length+1]?=(iB.drop (ss.length+1))[0]?:=qs;rw[this,hn];cases r with
 | nil=>exact hr.elim
 | cons a b=>rfl):P:=h
theorem UT{P:Prop}(h:P:=by
 rw[vw.zH trivial ha hj];by_cases hjn:j<n
 .rw[dY hjn];simp only;rw[ih _ _ _ qo]
 rw[gQ hjn]):P:=h
theorem UR{P:Prop}(h:P:=by
 rintro e w3⟨rfl,rfl⟩;rw[HX.o];go_wp2;go_round
 case rel=>exact⟨k+1,qo,by go_num,HN.o⟩
 simp[intOf];omega):P:=h
theorem UQ{P:Prop}(h:P:=by
 go_wp2;go_ret;exact Out.dN HH.o (X.alloc _) (by show Value.int _ _=Value.int _ _;congr 1;omega) (hrd.alloc _)):P:=h
theorem UO{P:Prop}(h:P:=by
 clear HE HO HB ho hok iC;go_wp2;go_roundw
 case rel=>exact⟨k+1,qo,by go_num,hk3,HN.o⟩
 simp[intOf];omega):P:=h
theorem UN{P:Prop}(h:P:=by
 rename_i hc;cases h;have:=(tC (ls:=ls) hm hy (bt s j) _ hst hne qt).1 _ _ hc;exact⟨qo,qo,this.2⟩):P:=h
theorem UM{P:Prop}(h:P:=by
 refine⟨_,vB,vC,rfl,H8.o.sub ?_⟩;simp only[MI,qz];exact .cons _ (qbf _)):P:=h
theorem UL{P:Prop}(h:P:=by
 exact⟨_,_,rfl,λ_=>uJ T hn Aq.tb hbl rfl rfl rfl (by simp only[EK,List.length_dropLast];omega)⟩):P:=h
theorem UK{P:Prop}(h:P:=by
 exact⟨_,0,rfl,λ_=>uJ T hn Aq.tb hbl rfl rfl rfl (by simp only[EK,List.length_dropLast];omega)⟩):P:=h
theorem UJ{P:Prop}(h:P:=by
 have HT:=qH t3;go_enter Tryz.func201,Tryz.ntmps201;go_wp2;go_ret;exact⟨by rw[HH.o,HT.o];rfl,rfl⟩):P:=h
theorem UI{P:Prop}(h:P:=by
 obtain⟨o2,ho2,rfl⟩:=qbd.1 hq;simp only[It.own,Option.some.injEq]at U L;omega):P:=h
theorem RZ{P:Prop}(h:P:=by
 rintro e w1⟨X,hok,iC⟩;exact⟨iC _ _ hu,X⟩):P:=h
abbrev Err:=Nat×Nat
def bt(s:qS)(i:Nat):Nat:=if h:i<s.size then s[i].toNat else 0
theorem LP{s:qS}{i:Nat}(h:i<s.size):bt s i=s[i].toNat:=by simp[bt,h]
theorem LK(s:qS)(i:Nat):bt s i<256:=by
 unfold bt;split
 .exact UInt8.toNat_lt _
 omega
def iW(s:qS)(n i:Nat):Except Err (Nat×Nat):=if i<n then .ok (bt s i,i+1) else .error (2,n)
def lJ(s:qS)(n i:Nat):Except Err (Nat×Nat):=if i<n then .ok (bt s i,i) else .error (2,n)
def iO(these:List Nat)(s:qS)(n i:Nat):Except Err (Nat×Nat):=
 if i<n then(if bt s i∈these then .ok (bt s i,i+1) else .error (2,i)) else .error (2,n)
def fo(errno at_:Int):Ending:=.panicked [{v:=.iface 63 (.agg #[qJ errno,qJ at_]),recovered:=false}]
structure Out{α:Type}(w:World)(b:Nat)(s:qS)(n:Nat)(V:α->World->Value->Prop)(r:Except Err (α×Nat))(e:Ending)(w':World):Prop where
 kept:Kept (only b) w w'
 ok:∀x j,r=.ok (x,j)->∃v,e=.returned v/\V x w' v/\Rd w' b s j n
 err:∀q p,r=.error (q,p)->e=fo q p
theorem Out.dN{a:Type}{w w':qW}{b:Nat}{s:qS}{n:Nat}{V:a->qW->qv->Prop}{r:Except Err (a×Nat)}{x:a}{j:Nat}{v:qv}
  (c:r=.ok (x,j)) (X:Kept (only b) w w') (hv:V x w' v) (d:Rd w' b s j n):Out w b s n V r (.returned v) w':=
 ⟨X,λx' e h=>by rw[c]at h;cases h;exact⟨v,rfl,hv,d⟩,λq p h=>by rw[c]at h;cases h⟩
theorem Out.dG{a:Type}{w w':qW}{b:Nat}{s:qS}{n:Nat}{V:a->qW->qv->Prop}{r:Except Err (a×Nat)}{q p:Nat}
  (c:r=.error (q,p)) (X:Kept (only b) w w'):Out w b s n V r (fo q p) w':=
 ⟨X,λx' d h=>by(rw[c]at h;cases h),λe f h=>by rw[c]at h;cases h;rfl⟩
def isByte(x:Nat)(_:World)(v:Value):Prop:=v=qB x
theorem Kept.drewN{S:qD}{a w:qW}(h:Kept S a w)(k:Nat):Kept S a (w.drewN k):=⟨h.os,h.tape,h.output,h.size,h.block⟩
theorem Rd.drewN{w:qW}{b:Nat}{s:qS}{i n:Nat}(h:Rd w b s i n)(k:Nat):Rd (w.drewN k) b s i n:=
 ⟨h.c0,h.c1,h.c2,h.f0,h.f1,h.f2,h.le,h.big,h.sz⟩
theorem Kept.own{a w:qW}{b o:Nat}(h:Kept (only b) a w)(u:qv):Kept (only b) a (w.setCell (qA b o) u):=h.setCell (p:=(qA b o)) (λ_=>show b=b from rfl) u
theorem Kept.other{w a:qW}{b g j:Nat}(X:Kept (only b) w a)(c:g<w.heap.size)(d:g≠b):a.cell? (qA g j)=w.cell? (qA g j):=
 X.cell (p:=(qA g j)) c (λ(e:g=b)=>d e)
theorem Kept.jN{w a:qW}{b g j:Nat}(X:Kept (only b) w a)(c:g<w.heap.size)(d:g≠b):a.frozen? (qA g j)=w.frozen? (qA g j):=
 X.frozen (p:=(qA g j)) c (λ(e:g=b)=>d e)
def Sq(w:World)(g:Nat)(ts:List Nat):Prop:=∀j,j<ts.length->w.cell? (qA g j)=some (qB (ts.getD j 0:Nat))
theorem Sq.kept{w a:qW}{b g:Nat}{ts:qM}(h:Sq w g ts)(X:Kept (only b) w a)(c:g<w.heap.size)(d:g≠b):Sq a g ts:=
 λj e=>(X.other c d).trans (h j e)
theorem Rd.alloc{w:qW}{b:Nat}{s:qS}{i n:Nat}(h:Rd w b s i n)(o:Obj):Rd (w.alloc o) b s i n:=
 h.kept (S:=λ_=>False) (qr.alloc o) (λx=>x)
theorem Kept.nP{S:qD}{w a:qW}{o:Obj}(h:Kept S (w.alloc o) a):Kept S w a:=
 ((Kept.refl S w).alloc o).trans h
theorem LJ(w:qW)(x:Nat)(t:TypeId):Sq (w.alloc (.cells #[qB x] t)) w.heap.size [x]:=by
 intro j a;have:j=0:=by simp at a;omega
 subst this;simp
theorem TQ(w:qW)(x y:Nat)(t:TypeId):Sq (w.alloc (.cells #[qB x,qB y] t)) w.heap.size [x,y]:=by
 intro j a;have:j=0\/j=1:=by simp at a;omega
 obtain rfl | rfl:=this<;>simp
def fQ:List Nat->qS->Nat->Nat->Except Err (Unit×Nat)
 | [],_,_,i=>.ok ((),i)
 | t::ts,s,n,i=>match iO [t] s n i with
  | .error e=>.error e
  | .ok (_,j)=>fQ ts s n j
def tl(t:qS)(k:Nat):List Nat:=(t.data.toList.drop k).map UInt8.toNat
theorem uW{t:qS}{k:Nat}(h:k<t.size):tl t k=t[k].toNat::tl t (k+1):=by
 unfold tl;rw[qan (by simpa using h)];rfl
theorem Jh{t:qS}{k:Nat}(h:t.size<=k):tl t k=[]:=by
 unfold tl;rw[List.drop_of_length_le (by simpa using h)];rfl
theorem Fb{t:qS}{k:Nat}{s:qS}{n j:Nat}{e:Err}(h:k<t.size)(ho:iO [t[k].toNat] s n j=.error e):fQ (tl t k) s n j=.error e:=by
 rw[uW h];simp[fQ,ho]
theorem Hz{t:qS}{k:Nat}{s:qS}{n j x a:Nat}(h:k<t.size)(ho:iO [t[k].toNat] s n j=.ok (x,a)):fQ (tl t k) s n j=fQ (tl t (k+1)) s n a:=by
 rw[uW h];simp[fQ,ho]
def isNone(_:Unit)(_:World)(v:Value):Prop:=v=.tuple #[]
theorem og{w:qW}{b:Nat}{s:qS}{i n:Nat}(h:Rd w b s i n):
  qC 63 #[qP b] w λe w'=>e=.returned (.bool (decide (n<=i)))/\∃k,w'=w.drewN k:=by
 obtain⟨c0,c1,c2,a,c,d,f,g,sz⟩:=h;go_enter func63,ntmps63;go_wp2;go_quiet (fail)
 go_wp2;go_ret;exact⟨rfl,_,rfl⟩
theorem oz{w:qW}{b:Nat}{s:qS}{i n:Nat}(h:Rd w b s i n):
  qC 66 #[qP b] w λe w'=>e=.returned (qJ i)/\w'=w:=by
 obtain⟨c0,c1,c2,a,c,d,f,g,sz⟩:=h;go_enter func66,ntmps66;go_wp2;go_ret;exact⟨rfl,rfl⟩
theorem iK(a at_:Int)(w:qW):
  qC 79 #[qJ a,qJ at_] w λe w'=>e=fo a at_/\w'=w:=by
 go_enter func79,ntmps79;go_wp2;exact⟨rfl,rfl,rfl⟩
theorem fZ(at_:Int)(w:qW):
  qC 124 #[qJ at_] w λe w'=>e=fo 2 at_/\w'=w:=by
 go_enter func124,ntmps124;go_wp2_with fail
 refine(iK _ _ _).mono ?_;rintro e w'⟨rfl,rfl⟩;exact⟨rfl,rfl,rfl⟩
theorem lQ{w:qW}{b:Nat}{s:qS}{i n:Nat}(h:Rd w b s i n):
  qC 122 #[qP b] w (Out w b s n isByte (iW s n i)):=by
 have h':=h;obtain⟨c0,c1,c2,f,g,j,l,m,sz⟩:=h;by_cases hi:i<n
 .have a:iW s n i=.ok (bt s i,i+1):=by simp[iW,hi]
  have c:i<s.size:=qo;have d:decide (n<=i)=false:=by simp;omega
  have hb:(i:Int)<(s.size:Int):=qo;have p:0<=(i:Int):=qo;have HR:qh (iW s n i=.ok (bt s i,i+1)):=a;clear a;go_enter func122,ntmps122;go_wp2_with fail
  refine(og h').mono ?_;rintro e w'⟨rfl,k,rfl⟩;go_wp2;go_quiet (fail)
  go_wp2;go_ret;exact Out.dN HR.o ((qr.drewN _).own _) (by simp[isByte,LP c]) ((h'.drewN _).move (i+1) qo qs)
 have a:iW s n i=.error (2,n):=by simp[iW,hi]
 have HR:qh (iW s n i=.error (2,n)):=a;clear a;have d:decide (n<=i)=true:=by simp;omega
 go_enter func122,ntmps122;exact Xa
theorem Gx{w:qW}{b:Nat}{s:qS}{i n:Nat}(h:Rd w b s i n):
  qC 288 #[qP b] w (Out w b s n isByte (lJ s n i)):=by
 have h':=h;obtain⟨c0,c1,c2,f,g,j,l,m,sz⟩:=h;by_cases hi:i<n
 .have a:lJ s n i=.ok (bt s i,i):=by simp[lJ,hi]
  have c:i<s.size:=qo;have d:decide (n<=i)=false:=by simp;omega
  have hb:(i:Int)<(s.size:Int):=qo;have p:0<=(i:Int):=qo;have HR:qh (lJ s n i=.ok (bt s i,i)):=a;clear a;go_enter func288,ntmps288;go_wp2_with fail
  refine(og h').mono ?_;rintro e w'⟨rfl,k,rfl⟩;go_wp2;go_quiet (fail)
  go_wp2;go_ret;exact Out.dN HR.o ((qr.drewN _).drewN _) (by simp[isByte,LP c]) ((h'.drewN _).drewN _)
 have a:lJ s n i=.error (2,n):=by simp[lJ,hi]
 have HR:qh (lJ s n i=.error (2,n)):=a;clear a;have d:decide (n<=i)=true:=by simp;omega
 go_enter func288,ntmps288;exact Xa
theorem Hq{ts:qM}{x:Nat}(h:∀j,j<ts.length->ts.getD j 0≠x):x∉ts:=by
 intro hm;obtain⟨j,a,b⟩:=List.getElem_of_mem hm;exact h j a (by simp[List.getD,a,b])
theorem GJ{ts:qM}{j x:Nat}(a:j<ts.length)(h:ts.getD j 0=x):x∈ts:=by
 have:ts.getD j 0=ts[j]:=by simp[List.getD,a]
 rw[<-h,this];exact qaw a
theorem Ol{w:qW}{g A:Nat}{ts:qM}(x:Nat)(h:Sq w g ts)(hl:ts.length<=100):
  qC 224 #[qL g ts.length A,qB x] w λe w'=>(∃z:Int,e=.returned (qJ z)/\(0<=z↔x∈ts))/\w'=w:=by
 go_enter func224,ntmps224;go_wp2;go_loop [5,8] (λ_ i=>∃k:Nat,k<=ts.length/\i=qJ k/\∀j,j<k->ts.getD j 0≠x) (λ_ i=>ts.length - (intOf i).toNat)
 case atStart=>exact⟨0,qZ,rfl,qo⟩
 obtain⟨k,X,rfl,hno⟩:=hrel;have b:qh (∀j,j<k->ts.getD j 0≠x):=hno;clear hno;by_cases c:k<ts.length
 .have hc:=h k c;have n:(k:Int)<(ts.length:Int):=qo;generalize hy:ts.getD k 0=y at hc;have d:qh (ts.getD k 0=y):=hy;clear hy;by_cases hx:x=y
  .have f:((x:Int)==(y:Int))=true:=by simp[hx]
   have a:qh (x=y):=hx;clear hx;go_wp2;go_ret;exact⟨⟨k,rfl,by simp;exact GJ c (d.o.trans a.o.symm)⟩,rfl⟩
  have f:((x:Int)==(y:Int))=false:=by simp;omega
  have a:qh (¬x=y):=hx;clear hx;go_wp2;go_round
  case rel=>
   refine⟨k+1,qo,by go_num,λj l=>?_⟩;by_cases m:j=k
   .subst m;rw[d.o];exact λe=>a.o e.symm
   exact b.o j qo
  simp[intOf];omega
 go_wp2;go_ret;exact⟨⟨-1,rfl,by simpa using Hq (λj l=>b.o j qo)⟩,rfl⟩
theorem FB{w:qW}{g A:Nat}{ts:qM}(x:Nat)(h:Sq w g ts)(hl:ts.length<=100):
  qC 167 #[qL g ts.length A,qB x] w λe w'=>e=.returned (.bool (decide (x∈ts)))/\w'=w:=by
 go_enter func167,ntmps167;go_wp2_with fail
 refine(Ol x h hl).mono ?_;rintro e w'⟨⟨z,rfl,a⟩,rfl⟩;have b:qh (0<=z↔x∈ts):=a;clear a;go_wp2;go_ret;exact⟨congrArg (λt=>Ending.returned (.bool t)) (decide_eq_decide.2 b.o),rfl⟩
theorem one_any{w:qW}{b g A:Nat}{s:qS}{i n:Nat}{ts:qM}(h:Rd w b s i n)(f:Sq w g ts)(hl:ts.length<=100)(j:g≠b)(k:g<w.heap.size):
  qC 121 #[qP b,qL g ts.length A] w (Out w b s n isByte (iO ts s n i)):=by
 have h':=h;obtain⟨c0,c1,c2,l,m,p,t,u,sz⟩:=h;go_enter func121,ntmps121;go_wp2_with fail
 refine(lQ h').mono ?_;rintro e y⟨X,c,d⟩;have z:∀(x:Bool)(w:qW),(Op.unary .not (.bool x)).run prog w=.ok (.bool (!x)) w:=λ_ _=>rfl;by_cases hi:i<n
 .obtain⟨v,rfl,hv,hrd⟩:=c _ _ (show iW s n i=.ok (bt s i,i+1) by simp[iW,hi]);obtain rfl:v=qB (bt s i:Nat):=hv;have q:=f.kept X k j;clear c d c0 c1 c2 l m p;go_wp2_with fail
  refine(FB _ q hl).mono ?_;rintro e B⟨rfl,rfl⟩;by_cases hm:bt s i∈ts
  .have r:decide (bt s i∈ts)=true:=by simp[hm]
   have a:qh (iO ts s n i=.ok (bt s i,i+1)):=by show iO ts s n i=_;simp[iO,hi,hm]
   go_wp2;go_ret;exact Out.dN a.o X rfl hrd
  have r:decide (bt s i∈ts)=false:=by simp[hm]
  have a:qh (iO ts s n i=.error (2,i)):=by show iO ts s n i=_;simp[iO,hi,hm]
  go_wp2_with fail
  refine(fZ _ _).mono ?_;rintro e C⟨rfl,rfl⟩;exact⟨rfl,Out.dG a.o X⟩
 obtain rfl:=d _ _ (show iW s n i=.error (2,n) by simp[iW,hi]);exact⟨rfl,Out.dG (by simp[iO,hi]) X⟩
theorem ze{w:qW}{b:Nat}{s t:qS}{i n:Nat}(h:Rd w b s i n)(hb:t.size<=100):
  qC 62 #[qP b,.string t] w (Out w b s n isNone (fQ (tl t 0) s n i)):=by
 go_enter func62,ntmps62;go_wp2;go_loopw [4,7] (λ_ q wr=>∃k j:Nat,k<=t.size/\q=qJ k/\Rd wr b s j n/\Kept (only b) w wr/\fQ (tl t 0) s n i=fQ (tl t k) s n j) (λ_ q _=>t.size - (intOf q).toNat)
 case atStart=>exact⟨0,i,qZ,rfl,h,Kept.refl _ _,rfl⟩
 obtain⟨k,j,X,rfl,a,d,f⟩:=hrel;have c:qh (fQ (tl t 0) s n i=fQ (tl t k) s n j):=f;clear f;by_cases g:k<t.size
 .have hlt':(k:Int)<(t.size:Int):=qo;go_wp2_with fail
  refine(one_any (ts:=[t[k].toNat]) (a.alloc _) (LJ _ _ _) qs (by have:=a.lt;omega) qs).mono ?_;rintro e C⟨y,l,m⟩;have r:=d.trans y.nP;rcases ho:iO [t[k].toNat] s n j with⟨q,p⟩|⟨x,u⟩
  .obtain rfl:=m _ _ ho;exact⟨rfl,Out.dG (c.o.trans (Fb g ho)) r⟩
  obtain⟨v,rfl,-,z⟩:=l _ _ ho;have A:qh (fQ (tl t 0) s n i=fQ (tl t (k+1)) s n u):=c.o.trans (Hz g ho);clear l m ho;go_wp2;go_roundw
  case rel=>exact⟨k+1,u,qo,by go_num,z,r,A.o⟩
  simp[intOf];omega
 have B:qh (fQ (tl t 0) s n i=.ok ((),j)):=by show _=_;rw[c.o,Jh qo];rfl
 go_wp2;go_end0;exact Out.dN B.o d rfl a
theorem JM{w:qW}{b:Nat}{s:qS}{i n:Nat}(h:Rd w b s i n)(j:Nat)(a:j<=n):
  qC 287 #[qP b,qJ j] w λe w'=>qU e/\Rd w' b s j n/\Kept (only b) w w':=by
 have h':=h;obtain⟨c0,c1,c2,c,d,f,g,k,sz⟩:=h;go_enter func287,ntmps287;go_wp2;go_end0;exact⟨rfl,h'.move j a rfl,qr.own _⟩
theorem Kept.new{S:qD}{a w:qW}(h:Kept S a w){g o:Nat}(b:a.heap.size<=g)(u:qv):Kept S a (w.setCell (qA g o) u):=
 h.setCell (p:=(qA g o)) (λ(x:g<a.heap.size)=>absurd x qo) u
theorem Rd.dD{w:qW}{b:Nat}{s:qS}{i n:Nat}(h:Rd w b s i n){g o:Nat}(a:g≠b)(u:qv):Rd (w.setCell (qA g o) u) b s i n:=
 h.kept (S:=only g) (qr.own u) (λ(e:b=g)=>a e.symm)
theorem qH{p:Prop}(h:p):qh p:=h
def tH(z:Int)(x k:Nat):Int:=bits BinOp.or IntKind.u32 z (bits BinOp.and IntKind.u8 (x:Int) 127%4294967296*2 ^ (7*k)%4294967296)
def lastB(x:Nat):Bool:=bits BinOp.and IntKind.u8 (x:Int) 128==0
def wR(s:qS)(n start:Nat):Nat->Nat->Int->Nat->Except Err ((Int×Nat)×Nat)
 | 0,_,_,j=>.error (2,j)
 | m+1,k,z,j=>match iW s n j with
  | .error e=>.error e
  | .ok (x,j')=>
   if k=4/\((x:Int) / 16 !=0)=true then .error (2,j)
   else if lastB x=true then .ok ((tH z x k,start),j')
   else wR s n start m (k+1) (tH z x k) j'
def uM(s:qS)(n i:Nat):Except Err ((Int×Nat)×Nat):=wR s n i 5 0 0 i
def isNum(x:Int×Nat)(_:World)(v:Value):Prop:=v=.agg #[qI x.1,qJ x.2]
theorem Od{x:Nat}(h:((x:Int) / 16 !=0)=false):lastB x=true:=by
 have hx:x<16:=by simp at h;omega
 have a:∀y:Fin 16,lastB y.val=true:=qx;exact a ⟨x,hx⟩
theorem dY{s:qS}{n i:Nat}(h:i<n):iW s n i=.ok (bt s i,i+1):=by simp[iW,h]
theorem gQ{s:qS}{n i:Nat}(h:¬i<n):iW s n i=.error (2,n):=by simp[iW,h]
theorem Sz{s:qS}{n start k j:Nat}{z:Int}(X:k<=4)(h:¬j<n):wR s n start (5 - k) k z j=.error (2,n):=by
 obtain⟨m,hm⟩:∃m,5 - k=m+1:=⟨4 - k,qo⟩;rw[hm];simp[wR,gQ h]
theorem LW{s:qS}{n start k j:Nat}{z:Int}(X:k=4)(h:j<n)(hx:((bt s j:Int) / 16 !=0)=true):wR s n start (5 - k) k z j=.error (2,j):=by
 subst X;show wR s n start 1 4 z j=_;unfold wR;rw[dY h];exact qac ⟨rfl,hx⟩
theorem FY{s:qS}{n start k j:Nat}{z:Int}(X:k<=4)(h:j<n)(hx:¬(k=4/\((bt s j:Int) / 16 !=0)=true))(hl:lastB (bt s j)=true):
  wR s n start (5 - k) k z j=.ok ((tH z (bt s j) k,start),j+1):=by
 obtain⟨m,hm⟩:∃m,5 - k=m+1:=⟨4 - k,qo⟩;rw[hm];unfold wR;rw[dY h];simp only[qaa hx,qac hl]
theorem O8{s:qS}{n start k j:Nat}{z:Int}(X:k<4)(h:j<n)(hl:lastB (bt s j)=false):
  wR s n start (5 - k) k z j=wR s n start (5 - (k+1)) (k+1) (tH z (bt s j) k) (j+1):=by
 obtain⟨m,hm⟩:∃m,5 - k=m+1:=⟨4 - k,qo⟩;have a:5 - (k+1)=m:=qo;rw[hm,a];conv=>lhs;unfold wR
 rw[dY h];have hx:¬(k=4/\((bt s j:Int) / 16 !=0)=true):=λc=>qo;have b:¬lastB (bt s j)=true:=by simp[hl]
 simp only[qaa hx,qaa b]
theorem nD{w:qW}{b:Nat}{s:qS}{i n:Nat}(h:Rd w b s i n):
  qC 168 #[qP b] w (Out w b s n isNum (uM s n i)):=by
 have g:=h.c1;have u:=h.lt;go_enter func168,ntmps168;go_wp2;go_loopw [4,5,6,7] (λv q _ _ wr=>∃(k:Nat)(z:Int)(j:Nat),k<=4/\q=qJ (7*k:Int)/\v=qI z/\Rd wr b s j n/\
   Kept (only b) (w.alloc (.cells #[qI 0,qJ 0] 93)) wr/\uM s n i=wR s n i (5 - k) k z j) (λ_ q _ _ _=>100 - (intOf q).toNat)
 case atStart=>exact⟨0,0,i,qo,rfl,rfl,h.alloc _,Kept.refl _ _,rfl⟩
 obtain⟨k,z,j,X,rfl,rfl,l,m,hm⟩:=hrel;have c:qh (uM s n i=wR s n i (5 - k) k z j):=hm;clear hm;have g:=l.c1;go_wp2_with fail
 refine(lQ l).mono ?_;rintro e d⟨p,r,t⟩;have a:=m.trans p;have TD:Kept (only b) w d:=a.nP;have q0:d.cell? (qA w.heap.size 0)=some (qI 0):=by rw[a.other qs qo];simp
 have q1:d.cell? (qA w.heap.size 1)=some (qJ 0):=by rw[a.other qs qo];simp
 have A:d.frozen? (qA w.heap.size 0)=false:=by rw[a.jN qs qo];simp
 have B:d.frozen? (qA w.heap.size 1)=false:=by rw[a.jN qs qo];simp
 by_cases hi:j<n
 .obtain⟨v,rfl,hv,Kc⟩:=r _ _ (dY hi);obtain rfl:v=qB (bt s j:Nat):=hv;clear r t g;have HB:qh (b<w.heap.size):=u;clear m p;by_cases h4:k=4
  .have y:((7*(k:Int))==28)=true:=by simp;omega
   cases f:((bt s j:Int) / 16 !=0) with
   | true=>have HH:qh (uM s n i=.error (2,j)):=c.o.trans (LW h4 hi f);clear h4;generalize bt s j=x at*;exact Uf
   | false=>have tX:=Od f;have HH:qh (uM s n i=.ok ((tH z (bt s j) k,i),j+1)):=c.o.trans (FY X hi (by simp[f]) tX);exact Xi
  have y:((7*(k:Int))==28)=false:=by simp;omega
  cases tX:lastB (bt s j) with
  | true=>have HH:qh (uM s n i=.ok ((tH z (bt s j) k,i),j+1)):=c.o.trans (FY X hi qo tX);exact Xi
  | false=>
   have HH:qh (uM s n i=wR s n i (5 - (k+1)) (k+1) (tH z (bt s j) k) (j+1)):=c.o.trans (O8 qo hi tX);have t3:(bits BinOp.and IntKind.u8 ((bt s j:Nat):Int) 128==0)=false:=tX;clear tX;generalize bt s j=x at*;go_wp2;go_roundw
   case rel=>exact⟨k+1,tH z x k,j+1,qo,by go_num,rfl,Kc,a,HH.o⟩
   simp[intOf];omega
 obtain rfl:=t _ _ (gQ hi);exact⟨rfl,Out.dG (c.o.trans (Sz X hi)) TD⟩
theorem Ep(z:Int)(x k:Nat):0<=tH z x k/\tH z x k<=4294967295:=bounds_u32 (wf_bits _ _ _ _)
theorem LX{s:qS}{n start:Nat}:∀(m k:Nat)(z:Int)(j:Nat){v:Int}{a b:Nat},wR s n start m k z j=.ok ((v,a),b)->0<=v/\v<=4294967295/\a=start/\j<b/\b<=n:=by
 intro m;induction m with
 | zero=>intro k z j v a b h;simp[wR]at h
 | succ m d=>
  intro k z j v a b h;unfold wR at h;by_cases c:j<n
  .rw[dY c]at h;simp only at h;split at h
   .cases h
   split at h
   .cases h;have:=Ep z (bt s j) k;exact⟨this.1,this.2,rfl,qo,qo⟩
   obtain⟨U,e,f,i,g⟩:=d _ _ _ h;exact⟨U,e,f,qo,g⟩
  rw[gQ c]at h;simp at h
theorem iY{s:qS}{n i:Nat}{v:Int}{a j:Nat}(h:uM s n i=.ok ((v,a),j)):0<=v/\v<=4294967295/\a=i/\i<j/\j<=n:=LX _ _ _ _ h
def fD(most:Nat)(s:qS)(n i:Nat):Except Err (Nat×Nat):=
 match uM s n i with
 | .error e=>.error e
 | .ok ((v,a),j)=>if(most:Int)<v then .error (2,a) else .ok (v.toNat,j)
def isInt(x:Nat)(_:World)(v:Value):Prop:=v=qJ x
def jL(k:Nat)(s:qS)(n i:Nat):Except Err (qS×Nat):=
 if n - i<k then .error (2,n) else .ok (s.extract i (i+k),i+k)
def isText(x:qS)(_:World)(v:Value):Prop:=v=.string x
theorem count_any{w:qW}{b:Nat}{s:qS}{i n:Nat}(most:Nat)(h:Rd w b s i n)(_hm:most<=5000):
  qC 225 #[qP b,qJ most] w (Out w b s n isInt (fD most s n i)):=by
 go_enter func225,ntmps225;go_wp2_with fail
 refine(nD h).mono ?_;rintro e g⟨X,c,d⟩;rcases ho:uM s n i with⟨q,p⟩|⟨⟨v,a⟩,j⟩
 .obtain rfl:=d _ _ ho;exact⟨rfl,Out.dG (by simp[fD,ho]) X⟩
 obtain⟨u,rfl,hv,hrd⟩:=c _ _ ho;obtain rfl:u=.agg #[qI v,qJ a]:=hv;obtain⟨v0,v1,-,-,-⟩:=iY ho;have k:=hrd.lt;clear c d;by_cases f:(most:Int)<v
 .have HH:qh (fD most s n i=.error (2,a)):=by show _=_;simp[fD,ho,f]
  clear ho;exact Vv
 have HH:qh (fD most s n i=.ok (v.toNat,j)):=by show _=_;simp[fD,ho,f]
 clear ho;exact UQ
theorem zZ{w:qW}{b:Nat}{s:qS}{i n:Nat}(k:Nat)(h:Rd w b s i n)(hm:k<=5000):
  qC 229 #[qP b,qJ k] w (Out w b s n isText (jL k s n i)):=by
 have h':=h;obtain⟨c0,c1,c2,g,j,l,m,p,sz⟩:=h;have a:(n:Int) - (i:Int)=((n - i:Nat):Int):=qo;by_cases X:n - i<k
 .have d:decide ((n:Int) - (i:Int)<(k:Int))=true:=by simp;omega
  have c:qh (jL k s n i=.error (2,n)):=by show _=_;simp[jL,X]
  have f:=qH a;clear a;go_enter func229,ntmps229;go_wp2;go_quiet (fail)
  go_wp2_with fail
  refine(fZ _ _).mono ?_;rintro e q⟨rfl,rfl⟩;exact⟨rfl,Out.dG c.o (qr.drewN _)⟩
 have d:decide ((n:Int) - (i:Int)<(k:Int))=false:=by simp;omega
 have c:qh (jL k s n i=.ok (s.extract i (i+k),i+k)):=by show _=_;simp[jL,X]
 have f:=qH a;clear a;have r:(i:Int)+(k:Int)<=(s.size:Int):=qo;go_enter func229,ntmps229;go_wp2;go_quiet (fail)
 go_wp2;go_quiet (fail)
 go_wp2;go_ret;exact Out.dN c.o ((qr.drewN _).own _) rfl ((h'.drewN _).move (i+k) qo qs)
def oW(z:Int)(x k:Nat):Int:=bits BinOp.or IntKind.u64 z (IntKind.u64.wrap (IntKind.u64.wrap (bits BinOp.and IntKind.u8 (x:Int) 127)*2 ^ (7*k)))
def zo(room x:Nat):Bool:=(x:Int) / 2 ^ (room - 1)==0||(x:Int) / 2 ^ (room - 1)==127 / 2 ^ (room - 1)
def IW(z:Int)(x k:Nat):Int:=
 if(bits BinOp.and IntKind.u8 (x:Int) 64 !=0)=true/\7*(k:Int)+7<64 then wrap64 (bits BinOp.or IntKind.u64 z (IntKind.u64.wrap (18446744073709551615*2 ^ (7*k+7)))) else wrap64 z
def wZ(K room:Nat)(s:qS)(n:Nat):Nat->Nat->Int->Nat->Except Err (Int×Nat)
 | 0,_,_,j=>.error (2,j)
 | m+1,k,z,j=>match iW s n j with
  | .error e=>.error e
  | .ok (x,j')=>
   if k=K/\zo room x=false then .error (2,j)
   else if lastB x=true then .ok (IW (oW z x k) x k,j')
   else wZ K room s n m (k+1) (oW z x k) j'
def sM(K room:Nat)(s:qS)(n i:Nat):Except Err (Int×Nat):=wZ K room s n (K+1) 0 0 i
def Q7(x:Int)(_:World)(v:Value):Prop:=v=qJ x
theorem Ob:∀x:Fin 256,zo 4 x.val=true->lastB x.val=true:=by decide+kernel
theorem Oa:∀x:Fin 256,zo 5 x.val=true->lastB x.val=true:=by decide+kernel
theorem Oc:∀x:Fin 256,zo 1 x.val=true->lastB x.val=true:=by decide+kernel
section
variable {K room:Nat}{s:qS}{n k j:Nat}{z:Int}
theorem SH(X:k<=K)(h:¬j<n):wZ K room s n (K+1 - k) k z j=.error (2,n):=by
 obtain⟨m,hm⟩:∃m,K+1 - k=m+1:=⟨K - k,qo⟩;rw[hm];simp[wZ,gQ h]
theorem yx(X:k=K)(h:j<n)(hx:zo room (bt s j)=false):wZ K room s n (K+1 - k) k z j=.error (2,j):=by
 obtain⟨m,hm⟩:∃m,K+1 - k=m+1:=⟨K - k,qo⟩;rw[hm];unfold wZ;rw[dY h];exact qac ⟨X,hx⟩
theorem rU(X:k<=K)(h:j<n)(hx:¬(k=K/\zo room (bt s j)=false))(hl:lastB (bt s j)=true):
  wZ K room s n (K+1 - k) k z j=.ok (IW (oW z (bt s j) k) (bt s j) k,j+1):=by
 obtain⟨m,hm⟩:∃m,K+1 - k=m+1:=⟨K - k,qo⟩;rw[hm];unfold wZ;rw[dY h];simp only[qaa hx,qac hl]
theorem AB(X:k<K)(h:j<n)(hl:lastB (bt s j)=false):
  wZ K room s n (K+1 - k) k z j=wZ K room s n (K+1 - (k+1)) (k+1) (oW z (bt s j) k) (j+1):=by
 obtain⟨m,hm⟩:∃m,K+1 - k=m+1:=⟨K - k,qo⟩;have a:K+1 - (k+1)=m:=qo;rw[hm,a];conv=>lhs;unfold wZ
 rw[dY h];have hx:¬(k=K/\zo room (bt s j)=false):=λc=>qo;have b:¬lastB (bt s j)=true:=by simp[hl]
 simp only[qaa hx,qaa b]
end
def Enters(f:FuncId):Prop:=∀(args:Array Value)(w:World),(callFunc f args).run prog w=.ok (.enter f args) w
theorem enters_of{f:FuncId}{fn:Func}(hf:prog.funcs[f]?=some fn)(b:(fn.name== "runtime.NumGoroutine")=false)(a:fn.body.isNone=false):Enters f:=by
 intro args w;have U:fn.name≠ "runtime.NumGoroutine" :=by simpa using b
 have d:¬fn.body=none:=by intro c;rw[c]at a;cases a
 simp[callFunc,hf,U,d]
theorem Ib:Enters 168:=enters_of func168 qk qk
end Go.Proofs.YtfkcodlceoghpaaGreatDoor
