import Derived.LaidLaws
import Derived.Lib.LaidU8
import Derived.Test.YtkmofapihggjgaaGreatDoorX32
namespace Go.Proofs.YtkmofapihggjgaaGreatDoor
section
open Go.RowKit Go.Lib
set_option linter.unusedSimpArgs false
def valOf:Lit→Value
 | .int k z=>.int k z
 | .string s=>.string ⟨⟨s⟩⟩
 | .bool b=>.bool b
 | _=>.nilFunc
theorem cells_of_lits {P:Program} {w:World} {fuel:Nat} {t e:TypeId} {n:Nat} {cs:List Value} {ls:List Lit} {p:List MemPlace}
  (ht:P.underlying t=some (.array n e)) (hce:P.cellsOf e=1) (hct:P.cellsOf t=n)
  (he:∀fuel c l q,DataW.trod (fun _=>()) P w 0 (fun _=>true) false fuel e [c]=some (.lit l,q)→c=valOf l)
  (h:DataW.trod (fun _=>()) P w 0 (fun _=>true) false fuel t cs=some (.agg (ls.map .lit),p)):cs=ls.map valOf:=by
 cases fuel with
 | zero=>simp[DataW.trod] at h
 | succ fuel=>
  simp only[DataW.trod,ht,hce,hct,Nat.mul_one] at h
  split at h
  ·rename_i hl
   obtain⟨xs,hm,hx⟩:=Option.map_eq_some_iff.1 h
   have hxs:xs.map (·.1)=ls.map fun z=>(DataW.lit z:DataW Unit):=by
    have:=congrArg Prod.fst hx
    simpa using this
   have hxl:xs.length=n:=by simpa using mapM_length hm
   have hzl:ls.length=n:=by
    have:=congrArg List.length hxs
    simp at this
    omega
   have hcl:cs.length=n:=by simpa using hl
   apply List.ext_getElem?
   intro i
   by_cases hi:i<n
   ·obtain⟨b,hb,hf⟩:=mapM_at hm i i (by simp[hi])
    have h2:(xs.map (·.1))[i]?=some b.1:=by simp[hb]
    rw[hxs] at h2
    simp only[List.getElem?_map,Option.map_eq_some_iff] at h2
    obtain⟨z,hz,hzb⟩:=h2
    have hci:(cs.drop i).take 1=[cs[i]'(by omega)]:=by
     rw[List.drop_eq_getElem_cons (by omega)]
     rfl
    rw[hci] at hf
    have hv:=he fuel _ z b.2 (by rw[hf,hzb])
    simp only[List.getElem?_map,hz,Option.map_some]
    rw[List.getElem?_eq_getElem (by omega),hv]
   ·rw[List.getElem?_eq_none (by omega),List.getElem?_eq_none (by simp;omega)]
  ·cases h
theorem lit_int {P:Program} {w:World} {e:TypeId} {k:IntKind} (he:P.underlying e=some (.int k)):∀fuel c l q,DataW.trod (fun _=>()) P w 0 (fun _=>true) false fuel e [c]=some (.lit l,q)→c=valOf l:=by
 intro fuel c l q h
 obtain⟨z,hc,hx,_⟩:=DataW.trod_int he h
 have e1:l=.int k z:=by have:=congrArg Prod.fst hx;simpa using this
 subst e1
 simpa [valOf] using hc
theorem lit_string {P:Program} {w:World} {e:TypeId} (he:P.underlying e=some .string):∀fuel c l q,DataW.trod (fun _=>()) P w 0 (fun _=>true) false fuel e [c]=some (.lit l,q)→c=valOf l:=by
 intro fuel c l q h
 obtain⟨s,hc,hx,_⟩:=DataW.trod_string he h
 have e1:l=.string s.data.toList:=by have:=congrArg Prod.fst hx;simpa using this
 subst e1
 simpa [valOf] using hc
theorem table_of {P:Program} {w:World} {name:String} {ls:List Lit} {g:Nat} {t e:TypeId} {n:Nat} (h:VarReads P w name (.agg (ls.map .lit))) (hg:P.globalNamed name=some g) (hty:(P.globals[g]?).map (·.type)=some t)
  (ht:P.underlying t=some (.array n e)) (hce:P.cellsOf e=1) (hct:P.cellsOf t=n) (he:∀fuel c l q,DataW.trod (fun _=>()) P w 0 (fun _=>true) false fuel e [c]=some (.lit l,q)→c=valOf l):
  ∃ty fz,w.heap[g]?=some (.cells (ls.map valOf).toArray ty fz):=by
 obtain⟨g',t',cs,fuel,p,h1,h2,h3,h4⟩:=h
 obtain rfl:=Option.some.inj (hg.symm.trans h1)
 obtain rfl:=Option.some.inj (hty.symm.trans h2)
 have:=cells_of_lits ht hce hct he h4
 unfold World.var? at h3
 rw[hg] at h3
 simp only[Option.bind_some] at h3
 split at h3
 ·rename_i c ty fz hh
  cases h3
  exact⟨ty,fz,by rw[hh,←this]⟩
 ·cases h3
theorem laid_row {P:Program} {w:World}:∀{l:List (String×DataW Unit)} {ps:List MemPlace},DataW.LaidVars P w l ps→∀n d,(n,d)∈l→
  ∃g t cs fuel p,P.globalNamed n=some g∧(P.globals[g]?).map (·.type)=some t∧w.var? P n=some cs∧DataW.trod (fun _=>()) P w 0 (fun _=>true) false fuel t cs.toList=some (d,p)∧∀x∈MemPlace.row ⟨g,0,none⟩ cs.size,x∈ps
 | [],_,_,_,_,hm=>by cases hm
 | (n',d')::r,ps,h,n,d,hm=>by
  obtain⟨g,t,cs,fuel,p,q,h1,h2,h3,h4,h5,h6⟩:=h
  rcases List.mem_cons.1 hm with e | e
  ·cases e
   exact⟨g,t,cs,fuel,p,h1,h2,h3,h4,fun x hx=>by rw[h6];exact List.mem_append_left _ (List.mem_append_left _ hx)⟩
  ·obtain⟨g',t',cs',fuel',p',k1,k2,k3,k4,k5⟩:=laid_row h5 n d e
   exact⟨g',t',cs',fuel',p',k1,k2,k3,k4,fun x hx=>by rw[h6];exact List.mem_append_right _ (k5 x hx)⟩
theorem sentinel_of {P:Program} {w:World} {l:List (String×DataW Unit)} {name:String} {g:Nat} {ti tp te ts:TypeId} {ms:Array (String×TypeId)} {nm:String} {f:Field} {text:List UInt8} (hl:laidMet P l w) (hm:(name,.iface nm (.ptr (.agg [.lit (.string text)])))∈l) (hg:P.globalNamed name=some g) (hty:(P.globals[g]?).map (·.type)=some ti)
  (hi:P.underlying ti=some (.interface ms)) (hrow:∀u,P.typeName? 3 u=some nm→u=tp)
  (hp:P.underlying tp=some (.pointer te)) (he:P.underlying te=some (.struct #[f])) (hft:f.type=ts) (hfo:f.offset=0) (hs:P.underlying ts=some .string) (hc:P.cellsOf te=1) (hcs:P.cellsOf ts=1):
  ∃ty fz b o,w.heap[g]?=some (.cells #[.iface tp (.pointer (some ⟨b,o,none⟩))] ty fz):=by
 obtain⟨ps,hv,_,hps⟩:=hl
 obtain⟨g',t',cs,fuel,p,h1,h2,h3,h4,h5⟩:=laid_row hv _ _ hm
 obtain rfl:=Option.some.inj (hg.symm.trans h1)
 obtain rfl:=Option.some.inj (hty.symm.trans h2)
 unfold World.var? at h3
 rw[hg] at h3
 simp only[Option.bind_some] at h3
 split at h3
 ·rename_i c ty fz hh
  cases h3
  obtain⟨a,s,k1,k2,_⟩:=errorString_of_trod hi hrow hp he hft hfo hs hc hcs h4 (fun u v huv=>by
   have hsz:cs.size=1:=by have:=congrArg List.length huv;simpa using this
   have hx:=h5 (.cell g 0) (by unfold MemPlace.row;rw[hsz];simp)
   refine(hps g 0 hx).2 u v ?_
   unfold World.cell?
   simp only[hh]
   have:cs[0]?=cs.toList[0]?:=by simp
   simp[this,huv])
  obtain⟨b,o,sp⟩:=a
  have hsp:=Go.Proofs.cell_spot k2
  subst hsp
  refine⟨ty,fz,b,o,?_⟩
  rw[hh]
  have:cs= #[.iface tp (.pointer (some ⟨b,o,none⟩))]:=by apply Array.ext';simpa using k1
  rw[this]
 ·cases h3
def litsOf:DataW Unit→List Lit
 | .agg l=>l.map fun d=>match d with | .lit x=>x | _=>.bool false
 | _=>[]
theorem cell_lay {W:World} {g:Nat} {l:List Value} {ty:TypeId} {fz:Nat×Nat} (h:W.heap[g]?=some (.cells l.toArray ty fz)) (j:Nat):W.cell? ⟨g,j,none⟩=l[j]?:=by
 unfold World.cell?
 simp only[h]
 simp
theorem lay0 {W:World} (h:laidMet Tryz.prog Rows.spacedRow.laid W):∃ty fz,W.heap[0]?=some (.cells ((litsOf Rows.laid_loom_code_early).map valOf).toArray ty fz):=
 table_of (ls:=litsOf Rows.laid_loom_code_early) (g:=0) (t:=156) (e:=9) (n:=67) (laidMet.reads h (show("loom/code.early",(.agg ((litsOf Rows.laid_loom_code_early).map .lit):DataW Unit))∈Rows.spacedRow.laid from(.tail _ (.tail _ (.tail _ (.tail _ (.tail _ (.head _)))))))) (by kernel_rfl) (by kernel_rfl) (by kernel_rfl) (by kernel_rfl) (by kernel_rfl) (lit_string (by kernel_rfl))
theorem lay1 {W:World} (h:laidMet Tryz.prog Rows.spacedRow.laid W):∃ty fz,W.heap[1]?=some (.cells ((litsOf Rows.laid_loom_code_compares).map valOf).toArray ty fz):=
 table_of (ls:=litsOf Rows.laid_loom_code_compares) (g:=1) (t:=157) (e:=9) (n:=11) (laidMet.reads h (show("loom/code.compares",(.agg ((litsOf Rows.laid_loom_code_compares).map .lit):DataW Unit))∈Rows.spacedRow.laid from(.tail _ (.tail _ (.tail _ (.tail _ (.tail _ (.tail _ (.head _))))))))) (by kernel_rfl) (by kernel_rfl) (by kernel_rfl) (by kernel_rfl) (by kernel_rfl) (lit_string (by kernel_rfl))
theorem lay2 {W:World} (h:laidMet Tryz.prog Rows.spacedRow.laid W):∃ty fz,W.heap[2]?=some (.cells ((litsOf Rows.laid_loom_code_computes).map valOf).toArray ty fz):=
 table_of (ls:=litsOf Rows.laid_loom_code_computes) (g:=2) (t:=158) (e:=9) (n:=18) (laidMet.reads h (show("loom/code.computes",(.agg ((litsOf Rows.laid_loom_code_computes).map .lit):DataW Unit))∈Rows.spacedRow.laid from(.tail _ (.tail _ (.tail _ (.tail _ (.tail _ (.tail _ (.tail _ (.head _)))))))))) (by kernel_rfl) (by kernel_rfl) (by kernel_rfl) (by kernel_rfl) (by kernel_rfl) (lit_string (by kernel_rfl))
theorem lay4 {W:World} (h:laidMet Tryz.prog Rows.spacedRow.laid W):∃ty fz,W.heap[4]?=some (.cells ((litsOf Rows.laid_math_bits_deBruijn32tab).map valOf).toArray ty fz):=
 table_of (ls:=litsOf Rows.laid_math_bits_deBruijn32tab) (g:=4) (t:=228) (e:=5) (n:=32) (laidMet.reads h (show("math/bits.deBruijn32tab",(.agg ((litsOf Rows.laid_math_bits_deBruijn32tab).map .lit):DataW Unit))∈Rows.spacedRow.laid from(.head _))) (by kernel_rfl) (by kernel_rfl) (by kernel_rfl) (by kernel_rfl) (by kernel_rfl) (lit_int (k:=.u8) (by kernel_rfl))
theorem lay8 {W:World} (h:laidMet Tryz.prog Rows.spacedRow.laid W):∃ty fz,W.heap[8]?=some (.cells ((litsOf Rows.laid_math_bits_deBruijn64tab).map valOf).toArray ty fz):=
 table_of (ls:=litsOf Rows.laid_math_bits_deBruijn64tab) (g:=8) (t:=254) (e:=5) (n:=64) (laidMet.reads h (show("math/bits.deBruijn64tab",(.agg ((litsOf Rows.laid_math_bits_deBruijn64tab).map .lit):DataW Unit))∈Rows.spacedRow.laid from(.tail _ (.head _)))) (by kernel_rfl) (by kernel_rfl) (by kernel_rfl) (by kernel_rfl) (by kernel_rfl) (lit_int (k:=.u8) (by kernel_rfl))
theorem var_lay {W:World} {n:String} {g:Nat} {cs:Array Value} {ty:TypeId} {fz:Nat×Nat} (hg:Tryz.prog.globalNamed n=some g) (h:W.heap[g]?=some (.cells cs ty fz)):W.var? Tryz.prog n=some cs:=by
 unfold World.var?
 rw[hg]
 simp only[Option.bind_some,h]
theorem star: "*" ++ "errors.errorString" = "*errors.errorString" :=by decide
theorem row239 (u:TypeId) (h:Tryz.prog.typeName? 3 u=some "*errors.errorString"):u=239:=
 typeName_ptr_named (nm:= "errors.errorString") (by rw[star];kernel_rfl) (by kernel_rfl) (by decide) u (by rw[star];exact h)
theorem lay5 {W:World} (h:laidMet Tryz.prog Rows.spacedRow.laid W):∃ty fz b o,W.heap[5]?=some (.cells #[.iface 239 (.pointer (some ⟨b,o,none⟩))] ty fz):=
 sentinel_of (name:= "strconv.ErrSyntax") (g:=5) (ti:=225) (te:=241) (ts:=9) h (.tail _ (.tail _ (.tail _ (.tail _ (.head _))))) (by kernel_rfl) (by kernel_rfl) Tryz.underlying225 row239 Tryz.underlying239 Tryz.underlying241 rfl rfl Tryz.underlying9 (by kernel_rfl) (by kernel_rfl)
theorem lay6 {W:World} (h:laidMet Tryz.prog Rows.spacedRow.laid W):∃ty fz b o,W.heap[6]?=some (.cells #[.iface 239 (.pointer (some ⟨b,o,none⟩))] ty fz):=
 sentinel_of (name:= "strconv.ErrRange") (g:=6) (ti:=225) (te:=241) (ts:=9) h (.tail _ (.tail _ (.tail _ (.head _)))) (by kernel_rfl) (by kernel_rfl) Tryz.underlying225 row239 Tryz.underlying239 Tryz.underlying241 rfl rfl Tryz.underlying9 (by kernel_rfl) (by kernel_rfl)
theorem start_all {W:World} (h:laidMetH Tryz.prog Rows.spacedRow.laid W):Gl W∧Ge W∧Gd W:=by
 have hl:laidMet Tryz.prog Rows.spacedRow.laid W:=h
 obtain⟨t0,f0,w0⟩:=lay0 hl
 obtain⟨t1,f1,w1⟩:=lay1 hl
 obtain⟨t2,f2,w2⟩:=lay2 hl
 obtain⟨t4,f4,w4⟩:=lay4 hl
 obtain⟨t8,f8,w8⟩:=lay8 hl
 obtain⟨t5,f5,b,o,w5⟩:=lay5 hl
 obtain⟨t6,f6,b',o',w6⟩:=lay6 hl
 have hs:8<W.heap.size:=(Array.getElem?_eq_some_iff.1 w8).1
 have k0:(litsOf Rows.laid_loom_code_early).map valOf=(List.range 67).map (fun(j:Nat)=>Value.string (earlyL.getD j ⟨#[]⟩)):=by kernel_rfl
 have k1:(litsOf Rows.laid_loom_code_compares).map valOf=(List.range 11).map (fun(j:Nat)=>Value.string (comparesL.getD j ⟨#[]⟩)):=by kernel_rfl
 have k2:(litsOf Rows.laid_loom_code_computes).map valOf=(List.range 18).map (fun(j:Nat)=>Value.string (computesL.getD j ⟨#[]⟩)):=by kernel_rfl
 have k4:(litsOf Rows.laid_math_bits_deBruijn32tab).map valOf=(List.range 32).map (fun(j:Nat)=>Value.int .u8 ((tz32L.getD j 0:Nat):Int)):=by kernel_rfl
 refine⟨⟨fun j hj=>(cell_lay w0 j).trans (by rw[k0];simp[hj]),fun j hj=>(cell_lay w1 j).trans (by rw[k1];simp[hj]),fun j hj=>(cell_lay w2 j).trans (by rw[k2];simp[hj]),hs⟩,⟨⟨239,.pointer (some ⟨b,o,none⟩),var_lay (by kernel_rfl) w5⟩,⟨239,.pointer (some ⟨b',o',none⟩),var_lay (by kernel_rfl) w6⟩⟩,⟨fun j hj=>(cell_lay w4 j).trans (by rw[k4];simp[hj]),by omega⟩⟩
end
end Go.Proofs.YtkmofapihggjgaaGreatDoor
