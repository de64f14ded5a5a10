import Derived.BigRegion
import Derived.Defers
import Derived.Laws.Pointers
import Derived.Recover
import Derived.Test.YtkmofapihggjgaaGreatDoorX0
namespace Go.Proofs.YtkmofapihggjgaaGreatDoor
section
open Go.RowKit
theorem Blk.oneC' {w:World} {g:Nat} {a:Value} (h:Blk w g [a]):w.cell? ⟨g,0,none⟩=some a∧w.frozen? ⟨g,0,none⟩=false:=h 0 (by simp)
theorem catch_idle (p q:Addr) (w:World):
  CallsD Tryz.prog 12 #[.pointer (some p),.pointer (some q)] .returning w fun e u' w'=>e=.returned (.tuple #[])∧u'=.returning∧w'=w:=by
 refine callsD_of_wpS Tryz.func12 rfl fun c₀ cs hu=>?_
 apply wpS_seq
 apply wpS_region
 simp[wpOpsS,go_sem,recoverD,hu,Tryz.ntmps12,Exit.thenS]
 apply wpS_seq
 apply wpS_seq
 apply wpS_region
 simp[wpOpsS,go_sem,Exit.thenS]
 refine wpS_cond (t:=true) (by simp[Act.eval,Array.replicate]) ?_
 simp only[if_true]
 refine wpS_of_wp (wp_ret ?_)
 cases c₀
 simp_all [bodyPostS,results,Tryz.results12,Exit.thenS]
set_option maxRecDepth 100000 in
set_option maxHeartbeats 1600000 in
theorem catch_given (pe pa q p:Nat) (older:List PanicEntry) (w:World) (x y:Value) (hpe:Blk w pe [x]) (hpa:Blk w pa [y]) (hne:pe≠pa):
  CallsD Tryz.prog 12 #[.pointer (some ⟨pe,0,none⟩),.pointer (some ⟨pa,0,none⟩)] (.panicking ({v:=.iface 38 (.agg #[.int .i64 (q:Nat),.int .i64 (p:Nat)]),recovered:=false}::older)) w fun e u' w'=>
   e=.returned (.tuple #[])∧u'=.panicking ({v:=.iface 38 (.agg #[.int .i64 (q:Nat),.int .i64 (p:Nat)]),recovered:=true}::older)∧w'.cell? ⟨pe,0,none⟩=some (.int .i64 (q:Nat))∧w'.cell? ⟨pa,0,none⟩=some (.int .i64 (p:Nat))∧Kept (fun k=>k=pe∨k=pa) w w':=by
 have hle:=hpe.lt
 have hla:=hpa.lt
 obtain⟨E0,E1⟩:=hpe 0 (by simp)
 obtain⟨A0,A1⟩:=hpa 0 (by simp)
 simp at E0 A0
 refine callsD_of_wpS Tryz.func12 rfl fun c₀ cs hu=>?_
 apply wpS_seq
 apply wpS_region
 simp[wpOpsS,go_sem,recoverD,hu,Tryz.ntmps12,Exit.thenS]
 apply wpS_seq
 apply wpS_seq
 apply wpS_region
 simp[wpOpsS,go_sem,Exit.thenS]
 refine wpS_cond (t:=false) (by simp[Act.eval,Array.replicate]) ?_
 simp only[Bool.false_eq_true,if_false]
 refine wpS_of_wp (wp_skip ?_)
 simp only[Exit.thenS]
 simp only[Array.replicate_succ,Array.replicate_zero,List.push_toArray,List.append_toArray,List.nil_append,List.cons_append,List.setIfInBounds_toArray,List.set_cons_zero,List.set_cons_succ]
 refine wpS_of_wp ?_
 have HU:=hide hu
 have hta:∀(w:World),(Instr.typeAssert (.iface 38 (.agg #[.int .i64 (q:Nat),.int .i64 (p:Nat)])) 20 38 true).run Tryz.prog w=.ok (.tuple #[.agg #[.int .i64 (q:Nat),.int .i64 (p:Nat)],.bool true]) w:=fun _=>by kernel_rfl
 have hnot:∀(x:Bool) (w:World),(Op.unary .not (.bool x)).run Tryz.prog w=.ok (.bool (!x)) w:=fun _ _=>rfl
 clear hu
 go_wp2_with fail
 have n1:¬w.heap.size=pe:=by omega
 have n2:¬w.heap.size=pa:=by omega
 have n3:¬pa=pe:=fun e=>hne e.symm
 go_region
 have hk1:∀(W:World) (o:Obj),Kept (fun _=>False) W (W.alloc o).drew:=fun W o=>((Kept.refl _ _).alloc o).drew
 refine⟨rfl,_,rfl,_,results_none rfl _ _ _,rfl,rfl,?_,?_,?_⟩
 ·rw[(hk1 _ _).cell (p:=⟨pe,0,none⟩) (by simpa using hle) (fun c=>c),World.cell?_setCell_other _ _ _ _ (fun c=>hne (congrArg Addr.block c).symm)]
  exact World.cell?_setCell_same _ _ _ E0
 ·rw[(hk1 _ _).cell (p:=⟨pa,0,none⟩) (by simpa using hla) (fun c=>c)]
  refine World.cell?_setCell_same _ _ _ (u:=y) ?_
  rw[World.cell?_setCell_other _ _ _ _ (fun c=>hne (congrArg Addr.block c))]
  exact A0
 ·exact((((Kept.refl _ w).setCell (p:=⟨pe,0,none⟩) (fun _=>.inl rfl) _).setCell (p:=⟨pa,0,none⟩) (fun _=>.inr rfl) _).alloc _).drew
set_option maxRecDepth 100000 in
set_option maxHeartbeats 1600000 in
theorem givenUp_any {F:Nat} {cap:Array Value} {w:World} {S:Nat→Prop} {V:World→Prop} {r:Except Err Unit} (he:Enters F) (hS:∀k,S k→k<w.heap.size)
  (hF:∀W,Kept (fun _=>False) w W→Calls Tryz.prog F cap W fun e W'=>Kept S W W'∧V W'∧(∀x,r=.ok x→e=.returned (.tuple #[]))∧∀q p,r=.error (q,p)→e=gaveUp q p)
  (hV:∀W W',V W→Kept (fun k=>w.heap.size≤k) W W'→V W'):
  Calls Tryz.prog 8 #[.func (.func F) #[] cap] w fun e w'=>Kept S w w'∧V w'∧(∀x,r=.ok x→e=.returned (.tuple #[.int .i64 0,.int .i64 0]))∧∀q p:Nat,r=.error (q,p)→e=.returned (.tuple #[.int .i64 (q:Nat),.int .i64 (p:Nat)]):=by
 have hmf:∀(fn:Fn) (first cap:Array Value) (w:World),(Instr.makeFunc fn first cap).run Tryz.prog w=.ok (.func fn first cap) w:=fun _ _ _ _=>rfl
 have he':∀(args:Array Value) (w:World),(callFunc F args).run Tryz.prog w=.ok (.enter F args) w:=he
 have hk0:∀o1 o2,Kept (fun _=>False) w ((w.alloc o1).alloc o2):=fun _ _=>((Kept.refl _ _).alloc _).alloc _
 have hB1:=Blk.new w #[.int .i64 0] 27
 have hB2:=Blk.new (w.alloc (.cells #[.int .i64 0] 27)) #[.int .i64 0] 3
 have hB1':=hB1.alloc (by simp) (.cells #[.int .i64 0] 3)
 rw[World.size_alloc] at hB2
 have HF:=hide (hF _ (hk0 (.cells #[.int .i64 0] 27) (.cells #[.int .i64 0] 3)))
 have HV:=hide hV
 have HB1:=hide hB1'
 have HB2:=hide hB2
 clear hF hV hB1 hB1' hB2
 go_enter_defers Tryz.func8,Tryz.ntmps8
 go_wp2_with fail
 refine HF.out.mono ?_
 rintro e W ⟨hk,hv,hok,herr⟩
 have hsz:=hk.size
 simp at hsz
 have hkw:Kept S w W:=((hk0 _ _).mono (fun _ _ c=>c.elim)).trans hk
 have n1:¬S w.heap.size:=fun c=>Nat.lt_irrefl _ (hS _ c)
 have n2:¬S (w.heap.size+1):=fun c=>by have:=hS _ c;omega
 have W1:=HB1.out.kept hk (by simp;omega) n1
 have W2:=HB2.out.kept hk (by simp) n2
 cases hr:r with
 | error qp=>
  obtain⟨q,p⟩:=qp
  have h:=herr q p hr
  subst h
  refine leaves_cons (f:=12) (args:= #[.pointer (some ⟨w.heap.size,0,none⟩),.pointer (some ⟨w.heap.size+1,0,none⟩)]) (by simp) (by simp[go_sem]) ?_
  refine(catch_given w.heap.size (w.heap.size+1) q p [] W _ _ W1 W2 (by omega)).mono ?_
  rintro e u' w'' ⟨rfl,rfl,c1,c2,hk2⟩
  have hkf:Kept S w w'':=hkw.fresh hk2 (fun i hi c=>by omega)
  have hvf:V w'':=HV.out _ _ hv (hk2.mono (fun k _ c=>by omega))
  simp[Leaves,settle,results,Tryz.results8,go_sem,c1,c2]
  exact⟨hkf,hvf,fun x h=>by(rw[hr] at h;cases h),fun q1 p1 h=>by rw[hr] at h;cases h;exact⟨rfl,rfl⟩⟩
 | ok x=>
  have h:=hok x hr
  subst h
  obtain⟨A1,A2⟩:=W1.oneC'
  obtain⟨B1,B2⟩:=W2.oneC'
  have HR:=hide hr
  have HV1:=hide hv
  have HKW:=hide hkw
  clear hr hok herr hv hkw
  go_wp2
  refine leaves_cons (f:=12) (args:= #[.pointer (some ⟨w.heap.size,0,none⟩),.pointer (some ⟨w.heap.size+1,0,none⟩)]) (by simp) (by simp[go_sem]) ?_
  refine(catch_idle ⟨w.heap.size,0,none⟩ ⟨w.heap.size+1,0,none⟩ _).mono ?_
  rintro e u' w'' ⟨rfl,rfl,rfl⟩
  have hk2:Kept (fun k=>w.heap.size≤k) W ((W.setCell ⟨w.heap.size,0,none⟩ (.int .i64 0)).setCell ⟨w.heap.size+1,0,none⟩ (.int .i64 0)):=((Kept.refl _ W).setCell (p:=⟨w.heap.size,0,none⟩) (fun _=>Nat.le_refl _) _).setCell (p:=⟨w.heap.size+1,0,none⟩) (fun _=>Nat.le_succ _) _
  have hkf:=HKW.out.fresh hk2 (fun i hi c=>absurd c (by omega))
  have hvf:=HV.out _ _ HV1.out hk2
  simp[Leaves,settle,results,Tryz.results8,go_sem,A1,B1]
  exact⟨hkf,hvf,fun q1 p1 h=>by(rw[HR.out] at h;cases h)⟩
end
end Go.Proofs.YtkmofapihggjgaaGreatDoor
