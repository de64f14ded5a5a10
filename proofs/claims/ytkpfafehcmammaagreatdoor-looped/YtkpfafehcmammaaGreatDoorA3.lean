import Derived.Test.YtkpfafehcmammaaGreatDoorA2
import Derived.OrdersIn
import Derived.OwnWalkIn
import Derived.RangeFuncIn
import Derived.Test.YtkpfafehcmammaaGreatDoorA1
import Derived.RangeFuncLeaves
namespace Go.Proofs.YtkpfafehcmammaaGreatDoor
open Go.Deep

/-- No fence but which round it is. -/
def Fw (r : Option Nat) : Fence := { Fence.wide with round := r }

structure ProgOK (P : Program) : Prop where
  mixed : P.follows .mixedOrders = true
  names : ∀ (f : Nat) fn, P.funcs[f]? = some fn → (fn.name == "runtime.NumGoroutine") = false

def Post (X : Cx) (s : AS) (w : World) (K : KVS) (e : Ending) (w' : World) : Prop := ∃ v s' Y u, e = .returned u ∧ K v s' ∧ Rel Y s' w' ∧ Ext X s w Y s' w' ∧ VR Y v u

def CallOK (P : Program) (ρ : Nat → Int) (callF : AS → FuncId → List Value → KVS → Prop) : Prop :=
  ∀ (s : AS) (f : FuncId) (args : List Value) (K : KVS) (X : Cx) (w : World) (us : List Value), X.ρ = ρ → callF s f args K → Rel X s w → VRl X args us →
    (∃ fn c, P.funcs[f]? = some fn ∧ fn.body = some c) ∧ CallsIn Fence.wide 0 P f us.toArray w (Post X s w K)

def RoundOK (P : Program) (ρ : Nat → Int) (roundF : AS → Nat → List Value → KVS → Prop) : Prop :=
  ∀ (s : AS) (l : Nat) (args : List Value) (K : KVS) (X : Cx) (w : World) (us : List Value), X.ρ = ρ → roundF s l args K → Rel X s w → VRl X args us →
    ∃ lp : Loop, w.heap[(X.j l).b]? = some (.loop lp) ∧ lp.params.size = us.length ∧
      RoundIn Fence.wide 0 P (X.j l).b lp.fn ((lp.params.zip us.toArray).foldl (fun tmps (p : Tmp × Value) => tmps.setIfInBounds p.1 p.2) lp.tmps) lp.assign lp.body w (Post X s w K)

section
variable {P : Program} {T : Tab} {e : Env} {X : Cx} {s : AS} {w : World} {a : Act} {g : G} {o : Oper} {K : KVS} {r : Option Nat} {next : Act → World → Prop} {Q : Exit → Act → World → Prop}

theorem wp_of_ok (hd : ∀ c, o.op ≠ .defer c) (h : OpOK P o a X s w K) (hn : ∀ v s' Y u w', K v s' → Rel Y s' w' → Ext X s w Y s' w' → VR Y v u → next (a.put o.dst u) w') : o.wpIn (Fw r) 0 P a w next Q := by
  obtain ⟨v, s', Y, u, w', h1, h2, h3, h4, h5⟩ := h
  refine ⟨fun _ _ => trivial, ?_⟩
  rw [Oper.semAt_eq _ _ _ hd]
  rcases h2 with h2 | ⟨h2, rfl⟩
  · rw [h2]; exact hn v s' Y u w' h1 h3 h4 h5
  · rw [h2]; exact hn v s' Y undef w' h1 h3 h4 h5

theorem callFunc_run (hP : ProgOK P) {f : FuncId} {fn : Func} {c : Code} {args : Array Value} (hf : P.funcs[f]? = some fn) (hb : fn.body = some c) : (callFunc f args).run P w = .ok (.enter f args) w := by
  have hne : ¬ fn.name = "runtime.NumGoroutine" := by simpa using hP.names f fn hf
  simp [callFunc, hf, hb, hne]

theorem call_wp (hP : ProgOK P) (hR : Rel X s w) (hg : GR X g a) (hC : CallOK P X.ρ e.callF) (hO : RoundOK P X.ρ e.roundF) {f : Operand} {args : Array Operand} {ts : Array TypeId} (ho : o.op = .call ⟨.value f, args, ts⟩) (h : lCallO f args P T e s g K)
    (hn : ∀ v s' Y u w', K v s' → Rel Y s' w' → Ext X s w Y s' w' → VR Y v u → next (a.put o.dst u) w') : o.wpIn (Fw r) 0 P a w next Q := by
  obtain ⟨v, h1, h2⟩ := opd_ex hR hg h
  obtain ⟨as, h3, h4⟩ := opds_ex hR hg h1
  refine ⟨fun _ _ => trivial, ?_⟩
  rw [Oper.semAt_eq _ _ _ (by rw [ho]; intro c hc; cases hc)]
  rcases vFn_ex h3 with ⟨q, x, y, rfl, h5⟩ | ⟨l, x, y, rfl, h5⟩
  · have h6 := appV_ex h5
    have h7 := appV_ex h6
    obtain ⟨x', y', h8, h9, h10⟩ := VR_func.1 h2
    obtain ⟨⟨fn, c, hf, hb⟩, hcall⟩ := hC s q _ K X w (x'.toList ++ (args.toList.map a.eval ++ y'.toList)) rfl h7 hR (h9.append (h4.append h10))
    have hrun : (execOp a.eval o).run P w = .ok (.enter q (x'.toList ++ (args.toList.map a.eval ++ y'.toList)).toArray) w := by
      have harr : (x' ++ args.map a.eval) ++ y' = (x'.toList ++ (args.toList.map a.eval ++ y'.toList)).toArray := by
        apply Array.ext'
        simp
      simp [execOp, ho, resolve, h8, Deferred.ofValue, invoke, callFunc_run hP hf hb]
    rw [hrun]
    refine ⟨(fun h => by cases h), ?_⟩
    exact CallsIn.mono hcall (fun e' w' ⟨v, s', Y, u, k1, k2, k3, k4, k5⟩ => by subst k1; exact hn v s' Y u w' k2 k3 k4 k5)
  · obtain ⟨_, h8⟩ := VR_yield.1 h2
    obtain ⟨lp, h9, h10, h11⟩ := hO s l as K X w (args.toList.map a.eval) rfl h5 hR h4
    have hrun : (execOp a.eval o).run P w = .ok (.round (X.j l).b lp.fn ((lp.params.zip (args.toList.map a.eval).toArray).foldl (fun tmps (p : Tmp × Value) => tmps.setIfInBounds p.1 p.2) lp.tmps) lp.assign lp.body) w := by
      have hobj : (getObj (X.j l).b).run P w = .ok (.loop lp) w := by simp [getObj, Sem.run, h9]
      have hsz : args.size = lp.params.size := by rw [h10]; simp
      simp [execOp, ho, resolve, h8, Deferred.ofValue, invoke, Instr.yield, Instr.getLoop, hobj, hsz]
      rw [show Array.map a.eval args = (List.map a.eval args.toList).toArray from by apply Array.ext'; simp]
    rw [hrun]
    refine ⟨(fun h => by cases h), ?_⟩
    exact RoundIn.mono h11 (fun e' w' ⟨v, s', Y, u, k1, k2, k3, k4, k5⟩ => by subst k1; exact hn v s' Y u w' k2 k3 k4 k5)

/-- Every operation comes out as it is said. -/
theorem lOp_wp (hP : ProgOK P) (hT : TabOK P X.ρ T) (hR : Rel X s w) (hg : GR X g a) (hC : CallOK P X.ρ e.callF) (hO : RoundOK P X.ρ e.roundF) (h : lOp o.op P T e s g K)
    (hn : ∀ v s' Y u w', K v s' → Rel Y s' w' → Ext X s w Y s' w' → VR Y v u → next (a.put o.dst u) w') : o.wpIn (Fw r) 0 P a w next Q := by
  cases ho : o.op <;> rw [ho] at h
  case move x => exact wp_of_ok (by simp [ho]) (move_ok hR hg (.inl ho) h) hn
  case assign x => exact wp_of_ok (by simp [ho]) (move_ok hR hg (.inr ho) h) hn
  case pick => exact wp_of_ok (by simp [ho]) (pick_ok (T := T) (e := e) hR hg ho h) hn
  case alloc => exact wp_of_ok (by simp [ho]) (alloc_ok (T := T) (e := e) (g := g) hR ho h) hn
  case box => exact wp_of_ok (by simp [ho]) (box_ok (T := T) (e := e) hR hg ho h) hn
  case build => exact wp_of_ok (by simp [ho]) (build_ok (T := T) (e := e) hR hg ho h) hn
  case buildSlice => exact wp_of_ok (by simp [ho]) (buildS_ok (T := T) (e := e) hR hg ho h) hn
  case load => exact wp_of_ok (by simp [ho]) (load_ok (T := T) (e := e) hR hg ho h) hn
  case store => exact wp_of_ok (by simp [ho]) (store_ok (T := T) (e := e) hR hg ho h) hn
  case nilCheck => exact wp_of_ok (by simp [ho]) (nil_ok (T := T) (e := e) hR hg ho h) hn
  case binOp => exact wp_of_ok (by simp [ho]) (bin_ok (e := e) hT hR hg ho h) hn
  case unOp => exact wp_of_ok (by simp [ho]) (un_ok (e := e) hT hR hg ho h) hn
  case convert src dst x =>
    obtain ⟨v, h1, h2⟩ := opd_ex hR hg h
    rcases ife_ex h1 with ⟨e1, h3⟩ | ⟨e1, h3⟩
    · obtain ⟨bs, rfl, h4⟩ := vStr_ex h3
      obtain ⟨el, h5, h6⟩ := ok_ex h4
      obtain ⟨h7, h8⟩ := yes_ex h6
      obtain ⟨el', h9, h10⟩ := tBytes_un e1
      have h11 := elemOf_un h5
      rw [h9] at h11
      cases h11
      obtain ⟨d, h12⟩ := tSome_un h7
      exact wp_of_ok (by simp [ho]) (bytes_ok hR ho (VR_string.1 h2) h9 h10 h12 h8) hn
    · exact wp_of_ok (by simp [ho]) (conv_ok hT hR ho h2 h3) hn
  case makeInterface => exact wp_of_ok (by simp [ho]) (iface_ok (T := T) (e := e) hR hg ho h) hn
  case makeFunc => exact wp_of_ok (by simp [ho]) (func_ok (T := T) (e := e) hR hg ho h) hn
  case makeMap => exact wp_of_ok (by simp [ho]) (map_ok (T := T) (e := e) hR hg ho h) hn
  case makeSlice => exact wp_of_ok (by simp [ho]) (make_ok (T := T) (e := e) hR hg ho h) hn
  case slice => exact wp_of_ok (by simp [ho]) (slice_ok (T := T) (e := e) hR hg ho h) hn
  case fieldAddr => exact wp_of_ok (by simp [ho]) (fieldA_ok (T := T) (e := e) hR hg ho h) hn
  case field => exact wp_of_ok (by simp [ho]) (field_ok (T := T) (e := e) hR hg ho h) hn
  case indexAddr => exact wp_of_ok (by simp [ho]) (indexA_ok (T := T) (e := e) hR hg ho h) hn
  case index => exact wp_of_ok (by simp [ho]) (index_ok (T := T) (e := e) hR hg ho h) hn
  case lookup => exact wp_of_ok (by simp [ho]) (look_ok (T := T) (e := e) hR hg ho h) hn
  case mapUpdate => exact wp_of_ok (by simp [ho]) (upd_ok (T := T) (e := e) hR hg ho h) hn
  case typeAssert => exact wp_of_ok (by simp [ho]) (assert_ok (T := T) (e := e) hR hg ho h) hn
  case extract => exact wp_of_ok (by simp [ho]) (extract_ok (T := T) (e := e) hR hg ho h) hn
  case call c =>
    obtain ⟨callee, args, ts⟩ := c
    cases callee with
    | value f => exact call_wp (T := T) hP hR hg hC hO ho h hn
    | invoke => exact h.elim
    | builtin b =>
      cases b <;> first
        | exact h.elim
        | exact wp_of_ok (by simp [ho]) (append_ok (T := T) (e := e) hR hg ho h) hn
        | exact wp_of_ok (by simp [ho]) (copy_ok (T := T) (e := e) hR hg ho h) hn
        | exact wp_of_ok (by simp [ho]) (ustr_ok (T := T) (e := e) hR hg ho h) hn
        | exact wp_of_ok (by simp [ho]) (len_ok (T := T) (e := e) hR hg ho h) hn
        | exact wp_of_ok (by simp [ho]) (cap_ok (T := T) (e := e) hR hg ho h) hn
        | exact wp_of_ok (by simp [ho]) (min_ok (T := T) (e := e) hR hg ho h) hn
  all_goals exact h.elim

end
end Go.Proofs.YtkpfafehcmammaaGreatDoor
namespace Go.Proofs.YtkpfafehcmammaaGreatDoor
open Go.Deep

def D1 (X : Cx) (d d' : Deferred) : Prop :=
  match d.target with
  | .fn (.func f) c => ∃ c', d'.target = .fn (.func f) c' ∧ VRl X c.toList c'.toList ∧ VRl X d.args.toList d'.args.toList
  | .collected id => id < X.nx ∧ d' = { target := .collected (X.j id).b, args := #[] }
  | _ => False

def DR (X : Cx) : List Deferred → List Deferred → Prop
  | [], l => l = []
  | d :: ds, l => ∃ d' ds', l = d' :: ds' ∧ D1 X d d' ∧ DR X ds ds'

theorem D1.mono {X Y : Cx} (h : X.le Y) {d d' : Deferred} (hd : D1 X d d') : D1 Y d d' := by
  unfold D1 at *
  split at hd
  · obtain ⟨c', h1, h2, h3⟩ := hd
    exact ⟨c', h1, h2.mono h, h3.mono h⟩
  · obtain ⟨h1, h2⟩ := hd
    exact ⟨Nat.lt_of_lt_of_le h1 h.nx, by rw [h.j _ h1]; exact h2⟩
  · exact hd

theorem DR.mono {X Y : Cx} (h : X.le Y) : ∀ {l l' : List Deferred}, DR X l l' → DR Y l l'
  | [], _, hl => hl
  | _ :: _, _, ⟨d', ds', h1, h2, h3⟩ => ⟨d', ds', h1, h2.mono h, DR.mono h h3⟩

structure AAR (X : Cx) (aa : AA) (a : Act) : Prop where
  regs : RR X aa.regs aa.n a.tmps
  defers : DR X aa.defers a.defers

theorem AAR.mono {X Y : Cx} (h : X.le Y) {aa : AA} {a : Act} (ha : AAR X aa a) : AAR Y aa a := ⟨ha.regs.mono h, ha.defers.mono h⟩

theorem AAR.gr {X : Cx} {aa : AA} {a : Act} (ha : AAR X aa a) : GR X (gv aa.regs) a := ⟨fun t K h => by
  obtain ⟨v, h1, h2⟩ := gv_ex h
  obtain ⟨u, h3, h4⟩ := ha.regs.2 t v h1
  refine ⟨v, h2, ?_⟩
  have : a.tmps.getD t undef = u := by simp [Array.getD_eq_getD_getElem?, h3]
  rw [this]; exact h4⟩

section
variable {P : Program} {T : Tab} {e : Env} {X : Cx} {s : AS} {w : World} {a : Act} {o : Oper} {r : Option Nat} {Q : Exit → Act → World → Prop} {ops : Array Oper}

theorem frs_ex {l : List Deferred} {K : List Deferred → Prop} (h : frs l K) : K l := by cases l <;> exact h
theorem putR_ex {aa : AA} (ha : AAR X aa a) {dst : Option Tmp} {v u : Value} {K : AA → Prop} (hv : VR X v u) (h : putR aa dst v K) : ∃ aa', K aa' ∧ AAR X aa' (a.put dst u) := by
  cases dst with
  | none => exact ⟨aa, h, ha⟩
  | some d =>
    have h0 : nat aa.n (fun n => yes (Nat.blt d n) (frs aa.defers (fun df => setV aa.regs d v (fun t => K ⟨t, n, df⟩)))) := h
    obtain ⟨h1, h2⟩ := yes_ex (nat_ex h0)
    obtain ⟨t, h3, h4⟩ := setV_ex (frs_ex h2)
    have hd := blt_iff.1 h1
    refine ⟨_, h4, ⟨by simp [Act.put]; exact ha.regs.1, fun i x hx => ?_⟩, ha.defers⟩
    change getT t i = some x at hx
    rw [h3 i] at hx
    simp only [Act.put]
    have hsz := ha.regs.1
    split at hx
    · rename_i e; subst e; cases hx
      exact ⟨u, by rw [Array.getElem?_setIfInBounds_self_of_lt (by omega)], hv⟩
    · rename_i e
      obtain ⟨y, h5, h6⟩ := ha.regs.2 i x hx
      exact ⟨y, by rw [Array.getElem?_setIfInBounds_ne (fun c => e c.symm)]; exact h5, h6⟩

theorem guard_ex {aa : AA} (ha : AAR X aa a) {Kt Kf : Prop} (h : guardOk ops.toList (gv aa.regs) o Kt Kf) : (Kt ∧ Region.wanted o (yielded ops a.tmps) = true) ∨ (Kf ∧ Region.wanted o (yielded ops a.tmps) = false) := by
  unfold guardOk at h
  unfold Region.wanted
  cases hg : o.guard with
  | none => rw [hg] at h; exact .inl ⟨h, rfl⟩
  | some jw =>
    obtain ⟨j, want⟩ := jw
    rw [hg] at h
    obtain ⟨p, h1, h2⟩ := nthO_ex h
    obtain ⟨t, h3, h4⟩ := ok_ex h2
    obtain ⟨v, h5, h6⟩ := gv_ex h4
    obtain ⟨u, h7, h8⟩ := ha.regs.2 t v h5
    have hy : yielded ops a.tmps j = match u with | .bool b => some b | _ => none := by
      have h1' : ops[j]? = some p := by simpa using h1
      unfold yielded
      rw [h1']
      simp only [Option.bind_some, h3, h7]
      cases u <;> rfl
    rcases vGuard_ex h6 with ⟨b, rfl, h9⟩ | ⟨x, rfl, h9⟩
    · rw [VR_bool] at h8
      subst h8
      simp only [hy]
      rcases ife_ex h9 with ⟨rfl, h10⟩ | ⟨rfl, h10⟩
      · rcases ife_ex h10 with ⟨e1, h11⟩ | ⟨e1, h11⟩
        · exact .inl ⟨h11, by simp at e1; subst e1; rfl⟩
        · exact .inr ⟨h11, by simp at e1; subst e1; rfl⟩
      · rcases ife_ex h10 with ⟨e1, h11⟩ | ⟨e1, h11⟩
        · exact .inr ⟨h11, by simp at e1; subst e1; rfl⟩
        · exact .inl ⟨h11, by simp at e1; subst e1; rfl⟩
    · obtain ⟨x⟩ := x
      obtain ⟨cs, rfl, _⟩ := VR_tuple.1 h8
      exact .inr ⟨h9, by simp [hy]⟩

/-- A deferred call is put down. -/
theorem defer_wp (hR : Rel X s w) {aa : AA} (ha : AAR X aa a) (hr : r = none) {c : Call} {K : AA → Prop} {next : Act → World → Prop} (ho : o.op = .defer c) (h : lDefer c e aa K) (hn : ∀ aa' a', K aa' → AAR X aa' a' → next (a'.put o.dst undef) w) : o.wpIn (Fw r) 0 P a w next Q := by
  subst hr
  obtain ⟨_, h1⟩ := yes_ex h
  obtain ⟨callee, args, ts⟩ := c
  cases callee with
  | value f =>
    obtain ⟨v, h2, h3⟩ := opd_ex hR ha.gr (K := fun v => opds args.toList (gv aa.regs) (fun as => match v with
      | .func (.func f) ⟨x⟩ c => K ⟨aa.regs, aa.n, { target := .fn (.func f) c, args := ⟨x ++ as⟩ } :: aa.defers⟩
      | _ => False)) h1
    obtain ⟨as, h4, h5⟩ := opds_ex hR ha.gr h2
    split at h4
    · rename_i q x c
      obtain ⟨c⟩ := c
      obtain ⟨x', c', h6, h7, h8⟩ := VR_func.1 h3
      refine ⟨fun _ _ => trivial, ?_⟩
      have hrun : (o.semAt (Fw none).round a.eval).run P w = .ok (.defer { target := .fn (.func q) c', args := x' ++ args.map a.eval }) w := by
        change (execOp a.eval o).run P w = _
        simp [execOp, ho, resolve, h6, Deferred.ofValue]
      rw [hrun]
      refine hn _ ⟨a.tmps, { target := .fn (.func q) c', args := x' ++ args.map a.eval } :: a.defers⟩ h4 ⟨ha.regs, _, _, rfl, ⟨c', rfl, h8, ?_⟩, ha.defers⟩
      have := h7.append h5
      simpa using this
    · exact h4.elim
  | _ => exact h1.elim

/-- What is known of the program, of the calls and of numbers. -/
structure EnvOK (P : Program) (ρ : Nat → Int) (T : Tab) (e : Env) (r : Option Nat) : Prop where
  prog : ProgOK P
  tab : TabOK P ρ T
  call : CallOK P ρ e.callF
  round : RoundOK P ρ e.roundF
  rnd : e.rnd = r.isSome

theorem evOps_wp {l : List Oper} : ∀ {i : Nat} {aa : AA} {a : Act} {X : Cx} {s : AS} {w : World} {K : KA}, EnvOK P X.ρ T e r → ops.toList.drop i = l → evOps l P T e ops.toList aa s K → Rel X s w → AAR X aa a →
    (∀ Y aa' s' a' w', K aa' s' → Rel Y s' w' → Ext X s w Y s' w' → AAR Y aa' a' → Q .normal a' w') → wpOpsIn (Fw r) 0 P ops Q (List.range' i l.length) a w := by
  induction l with
  | nil => intro i aa a X s w K _ _ h hR ha hq; exact hq X aa s a w h hR (Ext.refl X s w) ha
  | cons o l ih =>
    intro i aa a X s w K hE hd h hR ha hq
    have ho : ops[i]? = some o := by
      have : (ops.toList.drop i)[0]? = some o := by rw [hd]; rfl
      rw [List.getElem?_drop] at this
      simpa using this
    have hd' : ops.toList.drop (i + 1) = l := by rw [← List.drop_drop, hd]; rfl
    simp only [List.length_cons, List.range'_succ, wpOpsIn, ho]
    have h0 : guardOk ops.toList (gv aa.regs) o (evOp o P T e aa s (fun a s => evOps l P T e ops.toList a s K)) (putR aa o.dst (.tuple #[]) (fun a => evOps l P T e ops.toList a s K)) := h
    rcases guard_ex ha h0 with ⟨h1, hw⟩ | ⟨h1, hw⟩
    · rw [if_pos hw]
      have h2 : @Option.rec _ (fun _ => Prop) (lOp o.op P T e s (gv aa.regs) (fun v s => putR aa o.dst v (fun a => evOps l P T e ops.toList a s K))) (fun c => lDefer c e aa (fun a => putR a o.dst (.tuple #[]) (fun a => evOps l P T e ops.toList a s K))) (isDefer o.op) := h1
      cases hdf : isDefer o.op with
      | none =>
        rw [hdf] at h2
        refine lOp_wp hE.prog hE.tab hR ha.gr hE.call hE.round h2 (fun v s' Y u w' k1 k2 k3 k4 => ?_)
        obtain ⟨aa', k5, k6⟩ := putR_ex (ha.mono k3.le) k4 k1
        exact ih (by rw [k3.le.ρ]; exact hE) hd' k5 k2 k6 (fun Z aa2 s2 a2 w2 q1 q2 q3 q4 => hq Z aa2 s2 a2 w2 q1 q2 (k3.trans q3) q4)
      | some c =>
        rw [hdf] at h2
        have hop : o.op = .defer c := by
          unfold isDefer at hdf
          split at hdf
          · cases hdf; assumption
          · cases hdf
        have hr : r = none := by
          obtain ⟨h3, _⟩ := yes_ex h2
          have := hE.rnd
          cases r with
          | none => rfl
          | some _ => rw [this] at h3; cases h3
        refine defer_wp hR ha hr hop h2 (fun aa1 a1 k1 k2 => ?_)
        obtain ⟨aa', k5, k6⟩ := putR_ex k2 (v := .tuple #[]) (u := undef) (show VR X (.tuple #[]) undef from ⟨#[], rfl, rfl⟩) k1
        exact ih hE hd' k5 hR k6 hq
    · rw [if_neg (by rw [hw]; simp)]
      obtain ⟨aa', k5, k6⟩ := putR_ex ha (v := .tuple #[]) (u := undef) (show VR X (.tuple #[]) undef from ⟨#[], rfl, rfl⟩) h1
      exact ⟨fun _ _ => trivial, ih hE hd' k5 hR k6 hq⟩

theorem region_wp {id : Nat} {aa : AA} {K : KA} (hE : EnvOK P X.ρ T e r) (h : evOps ops.toList P T e ops.toList aa s K) (hR : Rel X s w) (ha : AAR X aa a)
    (hq : ∀ Y aa' s' a' w', K aa' s' → Rel Y s' w' → Ext X s w Y s' w' → AAR Y aa' a' → Q .normal a' w') : (Code.region id ops false).wpIn (Fw r) 0 P Q a w := by
  refine wpIn_region ?_
  have := evOps_wp (Q := Q) (r := r) (i := 0) hE (by simp) h hR ha hq
  rw [List.range_eq_range']
  simpa using this

end
end Go.Proofs.YtkpfafehcmammaaGreatDoor
namespace Go.Proofs.YtkpfafehcmammaaGreatDoor
open Go.Deep

/-- A loop, by how many rounds are left at most. -/
theorem loop_ind {P : Program} {F : Fence} {m : Nat} {c : Code} {Q : Exit → Act → World → Prop} {a : Act} {w : World} (R : Nat → Act → World → Prop) (n : Nat) (h0 : R n a w) (hz : ∀ a w, ¬ R 0 a w)
    (round : ∀ n a w, R (n + 1) a w → c.wpIn F m P (Exit.then (fun a' w' => R n a' w') Q) a w) : (Code.loop c).wpIn F m P Q a w := by
  intro b k cs hro hb hr
  have key : ∀ j a w, R j a w → ∃ e a' w', Q e a' w' ∧ ArrivesIn (Machine.fenced P F) P (lone (b.atR a (.code c :: .inLoop c :: k)) cs w) b k cs e a' w' := by
    intro j
    induction j with
    | zero => intro a w h; exact absurd h (hz a w)
    | succ j ih =>
      intro a w h
      obtain ⟨e, a₁, w₁, hq, harr⟩ := round j a w h b (.inLoop c :: k) cs hro hb hr
      cases e with
      | normal =>
        obtain ⟨e₂, a₂, w₂, hq₂, harr₂⟩ := ih a₁ w₁ hq
        exact ⟨e₂, a₂, w₂, hq₂, .of_steps (StepsIn.trans harr (.one (fenced_calm hb hr rfl) stepR_inLoop)) harr₂⟩
      | exit id => exact ⟨_, a₁, w₁, hq, .pass (x := .inLoop c) rfl (fun _ _ => .inl (by simp)) harr⟩
      | goto l => exact ⟨_, a₁, w₁, hq, .pass (x := .inLoop c) rfl (fun _ _ => .inl (by simp)) harr⟩
      | ret => exact ⟨_, a₁, w₁, hq, .pass (x := .inLoop c) rfl (fun _ _ => .inl (by simp)) harr⟩
      | panic ch => exact ⟨_, a₁, w₁, hq, .pass (x := .inLoop c) rfl (fun _ _ => .inl (by simp)) harr⟩
      | outgrown => exact ⟨_, a₁, w₁, hq, .pass (x := .inLoop c) rfl (fun _ _ => .inl (by simp)) harr⟩
  obtain ⟨e, a', w', hq, harr⟩ := key n a w h0
  exact ⟨e, a', w', hq, .of_steps (.one (fenced_calm hb hr rfl) stepR_loop) harr⟩

section
variable {P : Program} {T : Tab} {e : Env} {r : Option Nat}

/-- What code does is what is said. -/
def CodeOK (P : Program) (T : Tab) (e : Env) (r : Option Nat) (c : Code) : Prop :=
  ∀ (aa : AA) (a : Act) (X : Cx) (s : AS) (w : World) (Kn : KA) (Kx : KX) (Q : Exit → Act → World → Prop), EnvOK P X.ρ T e r → evCode c P T e aa s Kn Kx → Rel X s w → AAR X aa a →
    (∀ Y aa' s' a' w', Kn aa' s' → Rel Y s' w' → Ext X s w Y s' w' → AAR Y aa' a' → Q .normal a' w') →
    (∀ x Y aa' s' a' w', Kx x aa' s' → Rel Y s' w' → Ext X s w Y s' w' → AAR Y aa' a' → x ≠ .normal → Q x a' w') → c.wpIn (Fw r) 0 P Q a w

end
end Go.Proofs.YtkpfafehcmammaaGreatDoor
namespace Go.Proofs.YtkpfafehcmammaaGreatDoor
open Go.Deep
section
variable {P : Program} {T : Tab} {e : Env} {X : Cx} {s : AS} {w : World} {a : Act} {o : Oper} {r : Option Nat} {Q : Exit → Act → World → Prop} {ops : Array Oper} {K : KVS} {next : Act → World → Prop}

/-- One operation of a drawn region, as it comes up. -/
theorem evG_wp {i : Nat} {t : TV} {n : Nat} {ds : List Deferred} (hE : EnvOK P X.ρ T e r) (ho : ops[i]? = some o) (ha : AAR X ⟨t, n, ds⟩ a) (hR : Rel X s w) (h : evG o ops.toList P T e s t K)
    (hn : ∀ v s' Y u w', K v s' → Rel Y s' w' → Ext X s w Y s' w' → VR Y v u → next (a.put o.dst u) w') : wpOpIn (Fw r) 0 P ops Q i next a w := by
  unfold wpOpIn
  simp only [ho]
  have h0 : guardOk ops.toList (gv (AA.mk t n ds).regs) o (lOp o.op P T e s (gv t) K) (K (.tuple #[]) s) := h
  rcases guard_ex ha h0 with ⟨h1, hw⟩ | ⟨h1, hw⟩
  · rw [if_pos hw]
    exact lOp_wp hE.prog hE.tab hR ha.gr hE.call hE.round h1 hn
  · rw [if_neg (by rw [hw]; simp)]
    exact ⟨fun _ _ => trivial, hn _ _ X undef w h1 hR (Ext.refl X s w) (show VR X (.tuple #[]) undef from ⟨#[], rfl, rfl⟩)⟩

end
end Go.Proofs.YtkpfafehcmammaaGreatDoor
namespace Go.Proofs.YtkpfafehcmammaaGreatDoor
open Go.Deep

/-! Sets of numbers. -/
theorem has_bit {d i : Nat} : has d i = d.testBit i := by
  unfold has Nat.testBit
  have h1 : Nat.land (Nat.shiftRight d i) 1 = 1 &&& (d >>> i) := Nat.and_comm (d >>> i) 1
  rw [h1]
  have h2 : (1 &&& (d >>> i)) = (d >>> i) % 2 := by rw [Nat.one_and_eq_mod_two]
  rw [h2]
  have h3 : (d >>> i) % 2 < 2 := Nat.mod_lt _ (by omega)
  generalize (d >>> i) % 2 = k at h3
  have : k = 0 ∨ k = 1 := by omega
  rcases this with rfl | rfl <;> rfl

theorem has_or {d e i : Nat} : has (Nat.lor d e) i = (has d i || has e i) := by
  rw [has_bit, has_bit, has_bit]; exact Nat.testBit_or d e i

theorem has_pow {k i : Nat} : has (Nat.pow 2 k) i = true ↔ k = i := by
  rw [has_bit]
  change Nat.testBit (2 ^ k) i = true ↔ _
  rw [Nat.testBit_two_pow]
  simp

theorem has_zero {i : Nat} : has 0 i = false := by rw [has_bit]; simp

theorem has_ones {n i : Nat} (h : i < n) : has (Nat.sub (Nat.pow 2 n) 1) i = true := by
  rw [has_bit]
  change Nat.testBit (2 ^ n - 1) i = true
  rw [Nat.testBit_two_pow_sub_one]
  simpa using h

theorem sub_has {m d : Nat} (h : sub m d = true) {i : Nat} (hi : has m i = true) : has d i = true := by
  unfold sub at h
  have h := Nat.eq_of_beq_eq_true h
  change m &&& d = m at h
  rw [has_bit] at hi ⊢
  rw [← h, Nat.testBit_and] at hi
  simp at hi
  exact hi.2

/-! The plan. -/
theorem maskOf_ex {acc : List Nat} : ∀ {l : List Edge} {j : Nat}, has (maskOf acc l) j = true → ∃ e ∈ l, bindsA e.ground = true ∧ (j = e.on ∨ has (nthN acc e.on) j = true)
  | [], j, h => by rw [maskOf, has_zero] at h; cases h
  | e :: l, j, h => by
    unfold maskOf at h
    cases hb : bindsA e.ground with
    | true =>
      rw [hb] at h
      simp only [cond_true, has_or, Bool.or_eq_true] at h
      rcases h with (h | h) | h
      · exact ⟨e, List.mem_cons_self, hb, .inl (has_pow.1 h).symm⟩
      · exact ⟨e, List.mem_cons_self, hb, .inr h⟩
      · obtain ⟨e', h1, h2⟩ := maskOf_ex h
        exact ⟨e', List.mem_cons_of_mem _ h1, h2⟩
    | false =>
      rw [hb] at h
      obtain ⟨e', h1, h2⟩ := maskOf_ex (l := l) h
      exact ⟨e', List.mem_cons_of_mem _ h1, h2⟩

theorem maskOf_on {acc : List Nat} : ∀ {l : List Edge} {e : Edge}, e ∈ l → bindsA e.ground = true → has (maskOf acc l) e.on = true
  | e' :: l, e, h, hb => by
    rcases List.mem_cons.1 h with rfl | h
    · unfold maskOf
      simp only [hb, cond_true, has_or, Bool.or_eq_true]
      exact .inl (.inl (has_pow.2 rfl))
    · unfold maskOf
      cases bindsA e'.ground with
      | true => simp only [cond_true, has_or, Bool.or_eq_true]; exact .inr (maskOf_on h hb)
      | false => exact maskOf_on h hb

theorem nthN_ex : ∀ {pre : List Step} {k j : Nat}, has (nthN (pre.map (·.mask)) k) j = true → ∃ st, pre[k]? = some st ∧ has st.mask j = true
  | [], _, _, h => by rw [List.map_nil, nthN, has_zero] at h; cases h
  | st :: _, 0, _, h => ⟨st, rfl, h⟩
  | _ :: l, k + 1, j, h => by
    obtain ⟨st, h1, h2⟩ := nthN_ex (pre := l) (k := k) (j := j) h
    exact ⟨st, by simpa using h1, h2⟩

structure StepOK (P : Program) (all : List Oper) (L : List Step) (st : Step) : Prop where
  o : all[st.i]? = some st.o
  q : st.q = quietO P st.o.op
  al : st.al = alOk P st.o
  reads : st.reads = readsOf all st.o
  edge : ∀ e ∈ st.o.after.toList, bindsA e.ground = true → has st.mask e.on = true
  anc : ∀ j, has st.mask j = true → ∃ e ∈ st.o.after.toList, bindsA e.ground = true ∧ (j = e.on ∨ ∃ st' ∈ L, st'.i = e.on ∧ has st'.mask j = true)

theorem stepsOf_ok {P : Program} {all : List Oper} : ∀ {l : List Oper} {pre : List Step}, (∀ (k : Nat) (st : Step), pre[k]? = some st → st.i = k) → all.drop pre.length = l →
    ∀ st ∈ stepsOf P all l pre.length (pre.map (·.mask)), StepOK P all (pre ++ stepsOf P all l pre.length (pre.map (·.mask))) st := by
  intro l
  induction l with
  | nil => intro pre _ _ st h; cases h
  | cons o l ih =>
    intro pre hpre hd st hst
    have ho : all[pre.length]? = some o := by
      have : (all.drop pre.length)[0]? = some o := by rw [hd]; rfl
      rw [List.getElem?_drop] at this
      simpa using this
    unfold stepsOf at hst ⊢
    generalize hx : (⟨o, pre.length, quietO P o.op, alOk P o, maskOf (pre.map (·.mask)) o.after.toList, readsOf all o⟩ : Step) = x at hst ⊢
    have hm : pre.map (·.mask) ++ [maskOf (pre.map (·.mask)) o.after.toList] = (pre ++ [x]).map (·.mask) := by rw [← hx]; simp
    have hl : Nat.succ pre.length = (pre ++ [x]).length := by simp
    rw [hm, hl] at hst ⊢
    rcases List.mem_cons.1 hst with rfl | h
    · refine ⟨by rw [← hx]; exact ho, by rw [← hx], by rw [← hx], by rw [← hx], fun e he hb => by rw [← hx]; exact maskOf_on (by rw [← hx] at he; exact he) hb, fun j hj => ?_⟩
      rw [← hx] at hj ⊢
      obtain ⟨e, h1, h2, h3⟩ := maskOf_ex hj
      refine ⟨e, h1, h2, ?_⟩
      rcases h3 with h3 | h3
      · exact .inl h3
      · obtain ⟨st', h4, h5⟩ := nthN_ex h3
        exact .inr ⟨st', List.mem_append_left _ (List.mem_of_getElem? h4), hpre _ _ h4, h5⟩
    · have := ih (pre := pre ++ [x]) (fun k st' hk => by
        rw [List.getElem?_append] at hk
        split at hk
        · exact hpre k st' hk
        · rename_i hn
          have hz : k - pre.length = 0 := by
            by_cases h0 : k - pre.length = 0
            · exact h0
            · rw [List.getElem?_eq_none (by simp; omega)] at hk; cases hk
          rw [hz] at hk
          simp at hk
          subst hk
          rw [← hx]; simp; omega) (by rw [← hl, ← List.drop_drop (i := 1), hd]; rfl) st h
      rw [show pre ++ x :: stepsOf P all l (pre ++ [x]).length ((pre ++ [x]).map (·.mask)) = (pre ++ [x]) ++ stepsOf P all l (pre ++ [x]).length ((pre ++ [x]).map (·.mask)) by simp]
      exact this

theorem nextS_mem {want : Step → Bool} {d : Nat} {s : Step} : ∀ {l : List Step}, nextS want d l = some s → s ∈ l := by
  intro l
  induction l with
  | nil => intro h; cases h
  | cons x l ih =>
    intro h
    unfold nextS at h
    cases hb : (!has d x.i && sub x.mask d && want x) with
    | true => rw [hb] at h; cases h; exact List.mem_cons_self
    | false => rw [hb] at h; exact List.mem_cons_of_mem _ (ih h)

theorem pickS_mem {d : Nat} {l : List Step} {s : Step} (h : pickS d l = some s) : s ∈ l := by
  unfold pickS at h
  split at h
  · cases h; exact nextS_mem (by assumption)
  · split at h
    · cases h; exact nextS_mem (by assumption)
    · exact nextS_mem h

theorem orderS_mem {l : List Step} : ∀ {n d : Nat} {s : Step}, s ∈ orderS l n d → s ∈ l
  | 0, _, _, h => by cases h
  | n + 1, d, s, h => by
    unfold orderS at h
    split at h
    · cases h
    · rename_i x hx
      rcases List.mem_cons.1 h with rfl | h
      · exact pickS_mem hx
      · exact orderS_mem h

def stepsA (P : Program) (all : List Oper) : List Step := stepsOf P all all 0 []

theorem steps_ok {P : Program} {all : List Oper} {st : Step} (h : st ∈ stepsA P all) : StepOK P all (stepsA P all) st :=
  stepsOf_ok (pre := []) (fun k st h => by simp at h) rfl st h

theorem plan_mem {P : Program} {all : List Oper} {st : Step} (h : st ∈ planOf P all) : st ∈ stepsA P all := orderS_mem h

theorem allB_iff {α : Type} {p : α → Bool} : ∀ {l : List α}, allB p l = true → ∀ a ∈ l, p a = true
  | _ :: l, h, x, hx => by
    simp only [allB, Bool.and_eq_true] at h
    rcases List.mem_cons.1 hx with rfl | hx
    · exact h.1
    · exact allB_iff h.2 x hx

theorem memT_of {t : Nat} : ∀ {l : List Nat}, t ∈ l → memT t l = true
  | _ :: l, h => by
    rcases List.mem_cons.1 h with rfl | h
    · simp [memT]
    · simp [memT, memT_of h]

/-- Two operations: they write apart, and reader and writer know who is first. -/
theorem pair_ex {a b : Step} (h : pairS a b = true) (hne : a.i ≠ b.i) : (∀ t, a.o.dst = some t → b.o.dst ≠ some t) ∧
    ((has b.mask a.i = true ∨ has a.mask b.i = true) ∨ (∀ t, a.o.dst = some t → t ∉ b.reads) ∧ (∀ t, b.o.dst = some t → t ∉ a.reads)) := by
  unfold pairS at h
  rw [Bool.or_eq_true] at h
  rcases h with h | h
  · exact absurd (Nat.eq_of_beq_eq_true h) hne
  · rw [Bool.and_eq_true] at h
    refine ⟨fun t h1 h2 => ?_, ?_⟩
    · have := allB_iff h.1 t (by rw [h1]; simp)
      rw [memT_of (by rw [h2]; simp)] at this
      cases this
    · have h2 := h.2
      simp only [Bool.or_eq_true, Bool.and_eq_true] at h2
      rcases h2 with h2 | h2
      · exact .inl h2
      · refine .inr ⟨fun t h3 h4 => ?_, fun t h3 h4 => ?_⟩
        · have := allB_iff h2.1 t (by rw [h3]; simp)
          rw [memT_of h4] at this
          cases this
        · have := allB_iff h2.2 t (by rw [h3]; simp)
          rw [memT_of h4] at this
          cases this

theorem chk_cons {n : Nat} {s : Step} {l : List Step} {d lm : Nat} (h : chk n (s :: l) d lm = true) : has d s.i = false ∧ (∀ j, has s.mask j = true → has d j = true) ∧ ((∀ j, has lm j = true → has s.mask j = true) ∨ s.al = true) ∧
    chk n l (Nat.lor d (Nat.pow 2 s.i)) (bif s.q then lm else Nat.lor lm (Nat.pow 2 s.i)) = true := by
  simp only [chk, Bool.and_eq_true, Bool.or_eq_true, Bool.not_eq_true'] at h
  exact ⟨h.1.1.1, fun j hj => sub_has h.1.1.2 hj, h.1.2.imp (fun h j hj => sub_has h hj) id, h.2⟩

theorem chk_new {n : Nat} {s : Step} : ∀ {l : List Step} {d lm : Nat}, chk n l d lm = true → s ∈ l → has d s.i = false := by
  intro l
  induction l with
  | nil => intro d lm _ h; cases h
  | cons x l ih =>
    intro d lm h hs
    obtain ⟨h1, _, _, h4⟩ := chk_cons h
    rcases List.mem_cons.1 hs with rfl | hs
    · exact h1
    · have := ih h4 hs
      rw [has_or, Bool.or_eq_false_iff] at this
      exact this.1

theorem chk_all {n i : Nat} (hi : i < n) : ∀ {l : List Step} {d lm : Nat}, chk n l d lm = true → has d i = true ∨ ∃ s ∈ l, s.i = i := by
  intro l
  induction l with
  | nil =>
    intro d lm h
    have := Nat.eq_of_beq_eq_true (show Nat.beq d (Nat.sub (Nat.pow 2 n) 1) = true from h)
    subst this
    exact .inl (has_ones hi)
  | cons x l ih =>
    intro d lm h
    obtain ⟨_, _, _, h4⟩ := chk_cons h
    rcases ih h4 with h5 | ⟨s, h5, h6⟩
    · rw [has_or, Bool.or_eq_true] at h5
      rcases h5 with h5 | h5
      · exact .inl h5
      · exact .inr ⟨x, List.mem_cons_self, has_pow.1 h5⟩
    · exact .inr ⟨s, List.mem_cons_of_mem _ h5, h6⟩

theorem chk_lm {n : Nat} {s : Step} : ∀ {l : List Step} {d lm : Nat}, chk n l d lm = true → s ∈ l → s.al = true ∨ ∀ j, has lm j = true → has s.mask j = true := by
  intro l
  induction l with
  | nil => intro d lm _ h; cases h
  | cons x l ih =>
    intro d lm h hs
    obtain ⟨_, _, h3, h4⟩ := chk_cons h
    rcases List.mem_cons.1 hs with rfl | hs
    · exact h3.symm
    · rcases ih h4 hs with h5 | h5
      · exact .inl h5
      · refine .inr fun j hj => h5 j ?_
        cases x.q with
        | true => exact hj
        | false => simp only [cond_false, has_or, hj, Bool.true_or]

end Go.Proofs.YtkpfafehcmammaaGreatDoor
namespace Go.Proofs.YtkpfafehcmammaaGreatDoor
open Go.Deep

section
variable {P : Program} {T : Tab} {e : Env} {X : Cx} {s : AS} {w : World} {a : Act} {g : G} {o : Oper} {K : KVS}

/-- A quiet operation, run. -/
theorem quiet_ok (hT : TabOK P X.ρ T) (hR : Rel X s w) (hg : GR X g a) (hq : quietO P o.op = true) (h : lOp o.op P T e s g K) : OpOK P o a X s w K := by
  cases ho : o.op <;> rw [ho] at h hq
  case move x => exact move_ok hR hg (.inl ho) h
  case assign x => exact move_ok hR hg (.inr ho) h
  case pick => exact pick_ok (T := T) (e := e) hR hg ho h
  case build => exact build_ok (T := T) (e := e) hR hg ho h
  case load => exact load_ok (T := T) (e := e) hR hg ho h
  case nilCheck => exact nil_ok (T := T) (e := e) hR hg ho h
  case binOp => exact bin_ok (e := e) hT hR hg ho h
  case unOp => exact un_ok (e := e) hT hR hg ho h
  case convert src dst x =>
    obtain ⟨v, h1, h2⟩ := opd_ex hR hg h
    rcases ife_ex h1 with ⟨e1, h3⟩ | ⟨e1, h3⟩
    · have hq : (!tBytes P dst) = true := hq
      rw [e1] at hq; cases hq
    · exact conv_ok hT hR ho h2 h3
  case makeInterface => exact iface_ok (T := T) (e := e) hR hg ho h
  case makeFunc => exact func_ok (T := T) (e := e) hR hg ho h
  case slice => exact slice_ok (T := T) (e := e) hR hg ho h
  case fieldAddr => exact fieldA_ok (T := T) (e := e) hR hg ho h
  case field => exact field_ok (T := T) (e := e) hR hg ho h
  case indexAddr => exact indexA_ok (T := T) (e := e) hR hg ho h
  case index => exact index_ok (T := T) (e := e) hR hg ho h
  case lookup => exact look_ok (T := T) (e := e) hR hg ho h
  case typeAssert => exact assert_ok (T := T) (e := e) hR hg ho h
  case extract => exact extract_ok (T := T) (e := e) hR hg ho h
  case call c =>
    obtain ⟨callee, args, ts⟩ := c
    cases callee with
    | builtin b =>
      cases b <;> first
        | exact h.elim
        | (cases hq; done)
        | exact len_ok (T := T) (e := e) hR hg ho h
        | exact cap_ok (T := T) (e := e) hR hg ho h
        | exact min_ok (T := T) (e := e) hR hg ho h
    | _ => cases hq
  all_goals cases hq

/-- What a tree holds has its like. -/
def Im (X : Cx) (N : Nat) (t : TV) : Prop := ∀ x v, getT t x = some v → x < N ∧ ∃ u, VR X v u

theorem Im.mono {X Y : Cx} (h : X.le Y) {N : Nat} {t : TV} (hi : Im X N t) : Im Y N t := fun x v hv => let ⟨h1, u, h2⟩ := hi x v hv; ⟨h1, u, VR.mono h h2⟩

theorem Im.act {N : Nat} {t : TV} (hi : Im X N t) : ∃ a : Act, AAR X ⟨t, 0, []⟩ a := by
  have : ∀ i : Fin N, ∃ u, ∀ v, getT t i = some v → VR X v u := fun i => by
    cases hv : getT t i.1 with
    | none => exact ⟨undef, fun v h => by cases h⟩
    | some v =>
      obtain ⟨_, u, hu⟩ := hi _ v hv
      exact ⟨u, fun v' h => by cases h; exact hu⟩
  refine ⟨⟨Array.ofFn fun i => (this i).choose, []⟩, ⟨Nat.zero_le _, fun x v hv => ?_⟩, rfl⟩
  obtain ⟨h1, _⟩ := hi x v hv
  exact ⟨_, by simp [h1], (this ⟨x, h1⟩).choose_spec v hv⟩

theorem evG_same {ops : Array Oper} {t : TV} (hq : quietO P o.op = true) (h : evG o ops.toList P T e s t K) : evG o ops.toList P T e s t (fun v s' => s' = s ∧ K v s') := by
  unfold evG at h ⊢
  rw [← quiet_same hq]
  simpa using h

theorem Cx.le.back {X Y : Cx} (h : X.le Y) (hn : Y.nx = X.nx) : Y.le X := ⟨h.ρ.symm, by omega, fun i hi => (h.j i (by omega)).symm⟩

/-- A quiet operation on a tree: there is a value. -/
theorem quiet_ex {ops : Array Oper} {t : TV} {N : Nat} (hT : TabOK P X.ρ T) (hR : Rel X s w) (hi : Im X N t) (hq : quietO P o.op = true) (h : evG o ops.toList P T e s t K) : ∃ v, K v s ∧ ∃ u, VR X v u := by
  obtain ⟨a, ha⟩ := hi.act
  have h := evG_same hq h
  have h0 : guardOk ops.toList (gv (AA.mk t 0 []).regs) o (lOp o.op P T e s (gv t) (fun v s' => s' = s ∧ K v s')) (s = s ∧ K (.tuple #[]) s) := h
  rcases guard_ex ha h0 with ⟨h1, _⟩ | ⟨h1, _⟩
  · obtain ⟨v, s', Y, u, w', ⟨k1, k1'⟩, _, k3, k4, k5⟩ := quiet_ok hT hR ha.gr hq h1
    subst k1
    exact ⟨v, k1', u, VR.mono (k4.le.back (by rw [k3.nx, hR.nx])) k5⟩
  · exact ⟨_, h1.2, undef, show VR X (.tuple #[]) undef from ⟨#[], rfl, rfl⟩⟩

/-- What is kept of an operation that is pending. -/
def Kept (P : Program) (T : Tab) (e : Env) (ops : Array Oper) (s : AS) (p : Pend) : Prop := ∃ R, evG p.1 ops.toList P T e s p.2.2.1 (fun v _ => yes (veq p.2.2.2 v) R)

theorem again_ex {ops : Array Oper} {N m : Nat} (hT : TabOK P X.ρ T) (hR : Rel X s w) : ∀ {l : List Pend} {K : List Pend → Prop}, (∀ p ∈ l, Im X N p.2.2.1 ∧ quietO P p.1.op = true) → again l ops.toList P T e s m K →
    ∃ l', K l' ∧ (∀ p ∈ l, has m p.2.1 = false → p ∈ l') ∧ ∀ p ∈ l', p ∈ l ∧ Kept P T e ops s p := by
  intro l
  induction l with
  | nil => intro K _ h; exact ⟨[], h, by simp, by simp⟩
  | cons x l ih =>
    intro K hl h
    have h' : ife (has m x.2.1) (again l ops.toList P T e s m K) (evG x.1 ops.toList P T e s x.2.2.1 (fun v _ => yes (veq x.2.2.2 v) (again l ops.toList P T e s m (fun l => K (x :: l))))) := h
    have hl' : ∀ p ∈ l, Im X N p.2.2.1 ∧ quietO P p.1.op = true := fun p hp => hl p (List.mem_cons_of_mem _ hp)
    rcases ife_ex h' with ⟨e1, h1⟩ | ⟨e1, h1⟩
    · obtain ⟨l', k1, k2, k3⟩ := ih hl' h1
      refine ⟨l', k1, fun p hp hm => ?_, fun p hp => ⟨List.mem_cons_of_mem _ (k3 p hp).1, (k3 p hp).2⟩⟩
      rcases List.mem_cons.1 hp with rfl | hp
      · rw [e1] at hm; cases hm
      · exact k2 p hp hm
    · obtain ⟨hi, hq⟩ := hl x List.mem_cons_self
      obtain ⟨v, h2, _⟩ := quiet_ex hT hR hi hq h1
      obtain ⟨_, h3⟩ := yes_ex h2
      obtain ⟨l', k1, k2, k3⟩ := ih hl' h3
      refine ⟨x :: l', k1, fun p hp hm => ?_, fun p hp => ?_⟩
      · rcases List.mem_cons.1 hp with rfl | hp
        · exact List.mem_cons_self
        · exact List.mem_cons_of_mem _ (k2 p hp hm)
      · rcases List.mem_cons.1 hp with rfl | hp
        · exact ⟨List.mem_cons_self, _, h1⟩
        · exact ⟨List.mem_cons_of_mem _ (k3 p hp).1, (k3 p hp).2⟩

/-- A register is put. -/
theorem putR_at {aa : AA} {dst : Option Tmp} {v : Value} {K : AA → Prop} (h : putR aa dst v K) : ∃ aa', K aa' ∧ aa'.n = aa.n ∧ aa'.defers = aa.defers ∧ (∀ d, dst = some d → d < aa.n) ∧ ∀ x, getT aa'.regs x = if dst = some x then some v else getT aa.regs x := by
  cases dst with
  | none => exact ⟨aa, h, rfl, rfl, by simp, by simp⟩
  | some d =>
    have h0 : nat aa.n (fun n => yes (Nat.blt d n) (frs aa.defers (fun df => setV aa.regs d v (fun t => K ⟨t, n, df⟩)))) := h
    obtain ⟨h1, h2⟩ := yes_ex (nat_ex h0)
    obtain ⟨t, h3, h4⟩ := setV_ex (frs_ex h2)
    refine ⟨_, h4, rfl, rfl, fun d' hd => by cases hd; exact blt_iff.1 h1, fun x => ?_⟩
    change getT t x = _
    rw [h3 x]
    by_cases hx : x = d
    · subst hx; simp
    · rw [if_neg hx, if_neg (by simpa using fun c => hx c.symm)]

/-- One more place is known, in a block that lies there already. -/
theorem Rel.addU {h' : TB} {b : AB} {L : Loc} (h : Rel X s w) (hp : Put s.h h' s.nx (some b)) (hL : Un X s L.b) (hn : BR (X.put L) w L b) :
    Rel (X.put L) ⟨h', Nat.succ s.nx⟩ w ∧ ∀ k, k ≠ L.b → (Un X s k → Un (X.put L) ⟨h', Nat.succ s.nx⟩ k) ∧ (Fr X s k → Fr (X.put L) ⟨h', Nat.succ s.nx⟩ k) := by
  have hnx := h.nx
  have hlt : ∀ i c, getT s.h i = some c → i < X.nx := fun i c hc => (h.blk i c hc).1
  refine ⟨⟨by simp [Cx.put, hnx], fun i c hc => ?_, fun i i' c c' hc hc' e => ?_, Nat.le_trans h.ng (Nat.le_succ _), fun i hi => ?_⟩, fun k hk => ⟨fun hu i c hc => ?_, fun hu i c hc hw => ?_⟩⟩
  · change getT h' i = some c at hc
    rw [hp i] at hc
    split at hc
    · rename_i e; subst e; cases hc; rw [← hnx, X.put_at]; exact ⟨by simp [Cx.put], hn⟩
    · have h2 := h.blk i c hc
      rw [X.put_lt L h2.1]
      exact ⟨Nat.lt_succ_of_lt h2.1, h2.2.mono (X.put_le L) rfl⟩
  · change getT h' i = some c at hc
    change getT h' i' = some c' at hc'
    rw [hp i] at hc
    rw [hp i'] at hc'
    split at hc <;> split at hc'
    · rename_i e1 e2; rw [e1, e2]
    · rename_i e1 e2
      rw [e1, ← hnx, X.put_at, X.put_lt L (hlt _ _ hc')] at e
      exact absurd e.symm (hL _ _ hc')
    · rename_i e1 e2
      rw [e2, ← hnx, X.put_at, X.put_lt L (hlt _ _ hc)] at e
      exact absurd e (hL _ _ hc)
    · rw [X.put_lt L (hlt _ _ hc), X.put_lt L (hlt _ _ hc')] at e
      exact h.sep _ _ _ _ hc hc' e
  · have := h.ng
    rw [X.put_lt L (by omega)]
    exact h.glob i hi
  · change getT h' i = some c at hc
    rw [hp i] at hc
    split at hc
    · rename_i e; rw [e, ← hnx, X.put_at]; exact fun c => hk c.symm
    · rw [X.put_lt L (hlt _ _ hc)]; exact hu i c hc
  · change getT h' i = some c at hc
    rw [hp i] at hc
    split at hc
    · rename_i e; rw [e, ← hnx, X.put_at]; exact fun c => hk c.symm
    · rw [X.put_lt L (hlt _ _ hc)]; exact hu i c hc hw

/-- A new block that has been made early. -/
theorem early_ex {ty : TypeId} {z : Value} {b : Nat} (hR : Rel X s w) (hz : zeroV P ty = some z) (hb : w.heap[b]? = some (.cells z.cells ty)) (hu : Un X s b) (h : lAlloc ty P T e s g K) :
    ∃ s' L, L.b = b ∧ L.base = 0 ∧ K (.pointer (some ⟨s.nx, 0, none⟩)) s' ∧ Rel (X.put L) s' w ∧ ∀ k, k ≠ b → (Un X s k → Un (X.put L) s' k) ∧ (Fr X s k → Fr (X.put L) s' k) := by
  obtain ⟨z', h1, h2⟩ := ok_ex h
  rw [hz] at h1
  cases h1
  have hl := VR_cells (zeroV_VR X hz)
  obtain ⟨vs, h3, h4, h5⟩ := setL_ex h2
  have h5 := nat_ex h5
  obtain ⟨h', h6, h7⟩ := setB_ex h5
  have h7 := nat_ex h7
  have hlen := hl.length
  obtain ⟨r1, r2⟩ := hR.addU (L := ⟨b, 0, z.cells.size⟩) h6 hu (b := .inl ⟨vs, none, (cellsOf z).length, ty, false⟩) (by
    refine ⟨z.cells, (0, 0), hb, by simp at hlen ⊢; omega, by simp, fun _ o _ => by simp, fun i v hv => ?_⟩
    unfold cbAt at hv
    split at hv
    · rename_i hi'
      have hi : i < (cellsOf z).length := hi'
      rw [h3 i, if_pos (by omega)] at hv
      simp only [Nat.sub_zero] at hv
      have hx : (cellsOf z)[i]? = some (cellsOf z)[i] := List.getElem?_eq_getElem hi
      rw [hx] at hv
      cases hv
      obtain ⟨u, h8, h9⟩ := hl.get hx
      refine ⟨h4 _ (List.getElem_mem _), u, ?_, VR.mono (X.put_le _) h9⟩
      simpa using h8
    · cases hv)
  exact ⟨_, _, rfl, rfl, h7, r1, r2⟩

end
end Go.Proofs.YtkpfafehcmammaaGreatDoor
namespace Go.Proofs.YtkpfafehcmammaaGreatDoor
open Go.Deep

def Dn (listed : Array Bool) (i : Nat) : Prop := listed.getD i false = true

theorem Dn_set {listed : Array Bool} {i j : Nat} (hi : i < listed.size) : Dn (listed.setIfInBounds i true) j ↔ Dn listed j ∨ j = i := by
  unfold Dn
  simp only [Array.getD_eq_getD_getElem?]
  by_cases h : j = i
  · subst h; simp [hi]
  · rw [Array.getElem?_setIfInBounds_ne (fun c => h c.symm)]; simp [h]

theorem put_get {a : Act} {dst : Option Tmp} {u : Value} {x : Nat} : (a.put dst u).tmps[x]? = if dst = some x then (if x < a.tmps.size then some u else none) else a.tmps[x]? := by
  cases dst with
  | none => simp [Act.put]
  | some d =>
    simp only [Act.put, Option.some.injEq]
    by_cases h : d = x
    · subst h
      rw [if_pos rfl]
      split
      · rw [Array.getElem?_setIfInBounds_self_of_lt (by assumption)]
      · rw [Array.getElem?_eq_none (by simp; omega)]
    · rw [if_neg h, Array.getElem?_setIfInBounds_ne h]

theorem put_size {a : Act} {dst : Option Tmp} {u : Value} : (a.put dst u).tmps.size = a.tmps.size := by cases dst <;> simp [Act.put]
theorem put_defers {a : Act} {dst : Option Tmp} {u : Value} : (a.put dst u).defers = a.defers := by cases dst <;> rfl

theorem al_loud {P : Program} {o : Oper} (h : alOk P o = true) : quietO P o.op = false ∧ o.guard = none ∧ ∃ ty z, o.op = .alloc ty ∧ zeroV P ty = some z := by
  unfold alOk at h
  rw [Bool.and_eq_true] at h
  obtain ⟨h1, h2⟩ := h
  split at h2
  · rename_i t ht
    obtain ⟨z, hz⟩ := Option.isSome_iff_exists.1 h2
    exact ⟨by rw [ht]; rfl, by simpa using h1, t, z, ht, hz⟩
  · cases h2

theorem ready_ex {ops : Array Oper} {listed : Array Bool} {i : Nat} (hsz : listed.size = ops.size) (h : i ∈ Region.ready .any ops listed) : i < ops.size ∧ ¬ Dn listed i ∧ ∃ o, ops[i]? = some o ∧ ∀ e ∈ o.after.toList, bindsA e.ground = true → Dn listed e.on := by
  unfold Region.ready at h
  rw [List.mem_filter] at h
  obtain ⟨h1, h2⟩ := h
  have h1 := List.mem_range.1 h1
  simp only [Bool.and_eq_true, Bool.not_eq_true'] at h2
  obtain ⟨h2, h3⟩ := h2
  refine ⟨h1, ?_, ?_⟩
  · unfold Dn
    simp only [Array.getD_eq_getD_getElem?] at h2 ⊢
    rw [Array.getElem?_eq_getElem (by omega)] at h2 ⊢
    simp at h2 ⊢
    exact h2
  · rw [Array.getElem?_eq_getElem h1] at h3 ⊢
    refine ⟨_, rfl, fun e he hb => ?_⟩
    simp only [Option.map_some, Option.getD_some] at h3
    rw [Array.all_eq_true'] at h3
    have := h3 e (by simpa using he)
    rw [Bool.or_eq_true] at this
    rcases this with h | h
    · have hb' : Region.binds .any e = true := by
        unfold Region.binds; unfold bindsA at hb
        cases hg : e.ground <;> rw [hg] at hb <;> first | cases hb | rfl
      rw [hb'] at h; cases h
    · exact h

theorem ready_of {ops : Array Oper} {listed : Array Bool} {i : Nat} {o : Oper} (hsz : listed.size = ops.size) (ho : ops[i]? = some o) (hn : ¬ Dn listed i) (he : ∀ e ∈ o.after.toList, bindsA e.ground = true → Dn listed e.on) : i ∈ Region.ready .any ops listed := by
  have hi := (Array.getElem?_eq_some_iff.1 ho).1
  unfold Region.ready
  rw [List.mem_filter]
  refine ⟨List.mem_range.2 hi, ?_⟩
  simp only [Bool.and_eq_true, Bool.not_eq_true', ho, Option.map_some, Option.getD_some]
  refine ⟨?_, ?_⟩
  · unfold Dn at hn
    simp only [Array.getD_eq_getD_getElem?] at hn ⊢
    rw [Array.getElem?_eq_getElem (by omega)] at hn ⊢
    simpa using hn
  · rw [Array.all_eq_true']
    intro e h
    rw [Bool.or_eq_true]
    cases hb : Region.binds .any e with
    | false => exact .inl rfl
    | true =>
      refine .inr (he e (by simpa using h) ?_)
      unfold Region.binds at hb; unfold bindsA
      cases hg : e.ground <;> rw [hg] at hb <;> first | cases hb | rfl

def PendOK (listed : Array Bool) (a : Act) (l1 : List Step) (aa : AA) (Y : Cx) (pend : List Pend) (st : Step) : Prop :=
  ∃ t v, (st.o, st.i, t, v) ∈ pend ∧ (∀ d, st.o.dst = some d → getT aa.regs d = some v) ∧
    ∀ x v', getT t x = some v' → x ∈ st.reads ∧ (∀ st' ∈ l1, st'.o.dst = some x → has st.mask st'.i = true → getT aa.regs x = some v') ∧
      ((∃ u, a.tmps[x]? = some u ∧ VR Y v' u) ∨ ∃ st' ∈ l1, ¬ Dn listed st'.i ∧ st'.o.dst = some x ∧ has st.mask st'.i = true)

structure EarlyOK (P : Program) (a : Act) (w0 w : World) (Y : Cx) (s : AS) (b : Nat) (st : Step) : Prop where
  al : st.al = true
  blk : ∃ ty z, st.o.op = .alloc ty ∧ zeroV P ty = some z ∧ w.heap[b]? = some (.cells z.cells ty)
  new : w0.heap.size ≤ b
  un : Un Y s b
  tmp : ∀ d, st.o.dst = some d → d < a.tmps.size → a.tmps[d]? = some (.pointer (some ⟨b, 0, none⟩))

/-- Where a drawn region stands: l1 has been walked, l2 is to come; of l1 some quiet ones have not come up yet, of l2 some new blocks have been made. -/
structure Inv (P : Program) (T : Tab) (e : Env) (ops : Array Oper) (l : List Step) (K : KA) (X0 : Cx) (s0 : AS) (w0 : World) (N : Nat) (listed : Array Bool) (a : Act) (w : World) (l1 l2 : List Step) (d lm : Nat) (Y : Cx) (aa : AA) (s : AS) (pend : List Pend) (β : Nat → Nat) : Prop where
  eq : l = l1 ++ l2
  dm : ∀ j, has d j = true ↔ ∃ st ∈ l1, st.i = j
  chk : chk ops.size l2 d lm = true
  walk : evSteps l2 ops.toList P T e aa s pend K
  rel : Rel Y s w
  ext : Ext X0 s0 w0 Y s w
  asz : a.tmps.size = N
  lsz : listed.size = ops.size
  defers : DR Y aa.defers a.defers
  naa : aa.n ≤ N
  closed : ∀ st ∈ stepsA P ops.toList, Dn listed st.i → ∀ j, has st.mask j = true → Dn listed j
  maskd : ∀ st ∈ l1, ∀ j, has st.mask j = true → has d j = true
  loud : ∀ st ∈ l1, st.q = false → Dn listed st.i
  im : Im Y N aa.regs
  regs : ∀ x v, getT aa.regs x = some v → (∃ u, a.tmps[x]? = some u ∧ VR Y v u) ∨ (∃ st ∈ l1, ¬ Dn listed st.i ∧ st.o.dst = some x) ∨ (∃ st ∈ l2, Dn listed st.i ∧ st.o.dst = some x)
  pendA : ∀ p ∈ pend, Im Y N p.2.2.1 ∧ quietO P p.1.op = true ∧ Kept P T e ops s p
  pend : ∀ st ∈ l1, ¬ Dn listed st.i → PendOK listed a l1 aa Y pend st
  early : ∀ st ∈ l2, Dn listed st.i → EarlyOK P a w0 w Y s (β st.i) st
  inj : ∀ st ∈ l2, ∀ st' ∈ l2, Dn listed st.i → Dn listed st'.i → st.i ≠ st'.i → β st.i ≠ β st'.i

section
variable {P : Program} {T : Tab} {e : Env} {ops : Array Oper} {l : List Step} {K : KA} {X0 : Cx} {s0 : AS} {w0 : World} {N : Nat} {listed : Array Bool} {a : Act} {w : World} {l1 l2 : List Step} {d lm : Nat} {Y : Cx} {aa : AA} {s : AS} {pend : List Pend} {β : Nat → Nat} {r : Option Nat} {Q : Exit → Act → World → Prop}

theorem Step.same {st st' : Step} (h : StepOK P ops.toList (stepsA P ops.toList) st) (h' : StepOK P ops.toList (stepsA P ops.toList) st') (e : st.i = st'.i) : st.o = st'.o := by
  have := h.o; rw [e, h'.o] at this; exact (Option.some.inj this).symm

theorem closed_ready {i : Nat} {o : Oper} (hc : ∀ st ∈ stepsA P ops.toList, Dn listed st.i → ∀ j, has st.mask j = true → Dn listed j) (ho : ops[i]? = some o) (he : ∀ e ∈ o.after.toList, bindsA e.ground = true → Dn listed e.on) :
    ∀ st ∈ stepsA P ops.toList, st.i = i → ∀ j, has st.mask j = true → Dn listed j := by
  intro st hst hi j hj
  have h := steps_ok hst
  have h1 : st.o = o := by
    have := h.o; rw [hi] at this
    have h2 : ops[i]? = some st.o := by simpa using this
    rw [ho] at h2; exact (Option.some.inj h2).symm
  obtain ⟨e, h2, h3, h4⟩ := h.anc j hj
  rw [h1] at h2
  have h5 := he e h2 h3
  rcases h4 with rfl | ⟨st', h6, h7, h8⟩
  · exact h5
  · exact hc st' h6 (by rw [h7]; exact h5) j h8

theorem closed_set {i : Nat} (hi : i < listed.size) (hc : ∀ st ∈ stepsA P ops.toList, Dn listed st.i → ∀ j, has st.mask j = true → Dn listed j) (hr : ∀ st ∈ stepsA P ops.toList, st.i = i → ∀ j, has st.mask j = true → Dn listed j) :
    ∀ st ∈ stepsA P ops.toList, Dn (listed.setIfInBounds i true) st.i → ∀ j, has st.mask j = true → Dn (listed.setIfInBounds i true) j := by
  intro st hst hd j hj
  rw [Dn_set hi] at hd ⊢
  rcases hd with hd | hd
  · exact .inl (hc st hst hd j hj)
  · exact .inl (hr st hst hd j hj)

/-- A quiet one comes up. -/
theorem Inv.quiet (hE : EnvOK P X0.ρ T e r) (hs : ∀ st ∈ l, st ∈ stepsA P ops.toList) (hp : ∀ a ∈ l, ∀ b ∈ l, pairS a b = true) (I : Inv P T e ops l K X0 s0 w0 N listed a w l1 l2 d lm Y aa s pend β) {st : Step} (h1 : st ∈ l1) (hnd : ¬ Dn listed st.i)
    (hr : ∀ st' ∈ stepsA P ops.toList, st'.i = st.i → ∀ j, has st'.mask j = true → Dn listed j) :
    wpOpIn (Fw r) 0 P ops Q st.i (fun a' w' => ∃ Y', Inv P T e ops l K X0 s0 w0 N (listed.setIfInBounds st.i true) a' w' l1 l2 d lm Y' aa s pend β) a w := by
  have hl1 : ∀ st ∈ l1, st ∈ l := fun st h => by rw [I.eq]; exact List.mem_append_left _ h
  have hl2 : ∀ st ∈ l2, st ∈ l := fun st h => by rw [I.eq]; exact List.mem_append_right _ h
  have hst := steps_ok (hs st (hl1 st h1))
  have hm := hr st (hs st (hl1 st h1)) rfl
  have ho : ops[st.i]? = some st.o := by simpa using hst.o
  have hi : st.i < listed.size := by rw [I.lsz]; exact (Array.getElem?_eq_some_iff.1 ho).1
  obtain ⟨t, v, p1, p2, p3⟩ := I.pend st h1 hnd
  obtain ⟨i1, q1, R, k1⟩ := I.pendA _ p1
  have k2 := evG_same q1 k1
  refine evG_wp (X := Y) (t := t) (n := 0) (ds := aa.defers) (by rw [I.ext.le.ρ]; exact hE) ho ⟨⟨Nat.zero_le _, fun x v' hv => ?_⟩, I.defers⟩ I.rel k2 (fun v' s' Y' u w' ⟨e1, e2⟩ hR' hX' hv' => ?_)
  · rcases (p3 x v' hv).2.2 with h | ⟨st', a1, a2, a3, a4⟩
    · exact h
    · exact absurd (hm _ a4) a2
  · subst e1
    obtain ⟨e3, _⟩ := yes_ex e2
    have e4 := veq_eq e3
    change v = v' at e4
    subst e4
    have hx : ∀ x v', st.o.dst = some x → getT aa.regs x = some v' → ∃ u', (a.put st.o.dst u).tmps[x]? = some u' ∧ VR Y' v' u' := fun x v' hd hv => by
      have := p2 x hd
      rw [hv] at this
      cases this
      exact ⟨u, by rw [put_get, if_pos hd, if_pos (by rw [I.asz]; exact (I.im x _ hv).1)], hv'⟩
    have hold : ∀ x v', st.o.dst ≠ some x → (∃ u', a.tmps[x]? = some u' ∧ VR Y v' u') → ∃ u', (a.put st.o.dst u).tmps[x]? = some u' ∧ VR Y' v' u' := fun x v' hd ⟨u', h1, h2⟩ =>
      ⟨u', by rw [put_get, if_neg hd]; exact h1, VR.mono hX'.le h2⟩
    refine ⟨Y', { eq := I.eq, dm := I.dm, chk := I.chk, walk := I.walk, rel := hR', ext := I.ext.trans hX', asz := by rw [put_size]; exact I.asz, lsz := by simp [I.lsz], defers := by rw [put_defers]; exact I.defers.mono hX'.le, naa := I.naa, closed := closed_set hi I.closed hr, maskd := I.maskd, loud := fun st' h h' => (Dn_set hi).2 (.inl (I.loud st' h h')), im := I.im.mono hX'.le, regs := fun x v' hv => ?_, pendA := fun p hp => ?_, pend := fun st' h h' => ?_, early := fun st' h h' => ?_, inj := fun st1 h2 st2 h3 h4 h5 h6 => ?_ }⟩
    · rcases I.regs x v' hv with h | ⟨st', h2, h3, h4⟩ | ⟨st', h2, h3, h4⟩
      · by_cases hd : st.o.dst = some x
        · exact .inl (hx x v' hd hv)
        · exact .inl (hold x v' hd h)
      · by_cases hi' : st'.i = st.i
        · rw [Step.same (steps_ok (hs st' (hl1 st' h2))) hst hi'] at h4
          exact .inl (hx x v' h4 hv)
        · exact .inr (.inl ⟨st', h2, fun c => by rcases (Dn_set hi).1 c with c | c; exact h3 c; exact hi' c, h4⟩)
      · exact .inr (.inr ⟨st', h2, (Dn_set hi).2 (.inl h3), h4⟩)
    · obtain ⟨b1, b2, b3⟩ := I.pendA p hp
      exact ⟨b1.mono hX'.le, b2, b3⟩
    · have h2 : ¬ Dn listed st'.i := fun c => h' ((Dn_set hi).2 (.inl c))
      have h3 : st.i ≠ st'.i := fun c => h' ((Dn_set hi).2 (.inr c.symm))
      obtain ⟨t', v', c1, c2, c3⟩ := I.pend st' h h2
      refine ⟨t', v', c1, c2, fun x v2 hv => ?_⟩
      obtain ⟨d1, d2, d3⟩ := c3 x v2 hv
      refine ⟨d1, d2, ?_⟩
      have key : st.o.dst = some x → ∃ u', (a.put st.o.dst u).tmps[x]? = some u' ∧ VR Y' v2 u' := fun hd => by
        rcases (pair_ex (hp st (hl1 st h1) st' (hl1 st' h)) h3).2 with (f1 | f1) | f1
        · exact hx x v2 hd (d2 st h1 hd f1)
        · exact absurd (hm _ f1) h2
        · exact absurd d1 (f1.1 x hd)
      rcases d3 with d3 | ⟨st2, g1, g2, g3, g4⟩
      · by_cases hd : st.o.dst = some x
        · exact .inl (key hd)
        · exact .inl (hold x v2 hd d3)
      · by_cases hi' : st2.i = st.i
        · rw [Step.same (steps_ok (hs st2 (hl1 st2 g1))) hst hi'] at g3
          exact .inl (key g3)
        · exact .inr ⟨st2, g1, fun c => by rcases (Dn_set hi).1 c with c | c; exact g2 c; exact hi' c, g3, g4⟩
    · have h3 : st.i ≠ st'.i := fun c => by
        have := chk_new I.chk h
        rw [← c, (I.dm st.i).2 ⟨st, h1, rfl⟩] at this
        cases this
      have h2 : Dn listed st'.i := by
        rcases (Dn_set hi).1 h' with c | c
        · exact c
        · exact absurd c.symm h3
      obtain ⟨b1, ⟨ty, z, b2, b3, b4⟩, b5, b6, b7⟩ := I.early st' h h2
      have hlt := (Array.getElem?_eq_some_iff.1 b4).1
      refine ⟨b1, ⟨ty, z, b2, b3, by rw [(hX'.keep _ hlt b6.fr).1]; exact b4⟩, b5, hX'.un _ hlt b6, fun x hd hlt' => ?_⟩
      rw [put_size] at hlt'
      rw [put_get, if_neg (fun c => (pair_ex (hp st (hl1 st h1) st' (hl2 st' h)) h3).1 x c hd)]
      exact b7 x hd hlt'
    · have hne : ∀ st' ∈ l2, Dn (listed.setIfInBounds st.i true) st'.i → Dn listed st'.i := fun st' h h' => by
        rcases (Dn_set hi).1 h' with c | c
        · exact c
        · have := chk_new I.chk h
          rw [c, (I.dm st.i).2 ⟨st, h1, rfl⟩] at this
          cases this
      exact I.inj st1 h2 st2 h3 (hne _ h2 h4) (hne _ h3 h5) h6

end
end Go.Proofs.YtkpfafehcmammaaGreatDoor
namespace Go.Proofs.YtkpfafehcmammaaGreatDoor
open Go.Deep

section
variable {P : Program} {T : Tab} {e : Env} {ops : Array Oper} {l : List Step} {K : KA} {X0 : Cx} {s0 : AS} {w0 : World} {N : Nat} {listed : Array Bool} {a : Act} {w : World} {l1 l2 : List Step} {d lm : Nat} {Y : Cx} {aa : AA} {s : AS} {pend : List Pend} {β : Nat → Nat} {r : Option Nat} {Q : Exit → Act → World → Prop}

theorem dm_next {m : Step} (h : ∀ j, has d j = true ↔ ∃ st ∈ l1, st.i = j) : ∀ j, has (Nat.lor d (Nat.pow 2 m.i)) j = true ↔ ∃ st ∈ l1 ++ [m], st.i = j := by
  intro j
  rw [has_or, Bool.or_eq_true, has_pow, h j]
  constructor
  · rintro (⟨st, h1, h2⟩ | h1)
    · exact ⟨st, List.mem_append_left _ h1, h2⟩
    · exact ⟨m, by simp, h1⟩
  · rintro ⟨st, h1, h2⟩
    rcases List.mem_append.1 h1 with h1 | h1
    · exact .inl ⟨st, h1, h2⟩
    · rw [List.mem_singleton] at h1
      subst h1
      exact .inr h2

/-- Behind one that is not quiet. -/
theorem Inv.next (hT : TabOK P X0.ρ T) (hp : ∀ a ∈ l, ∀ b ∈ l, pairS a b = true) {m : Step} (I : Inv P T e ops l K X0 s0 w0 N listed a w l1 (m :: l2) d lm Y aa s pend β) (hq : m.q = false)
    {listed' : Array Bool} {a' : Act} {w' : World} {Y' : Cx} {s' : AS} {v : Value} (hD : ∀ j, Dn listed' j ↔ Dn listed j ∨ j = m.i) (hlsz : listed'.size = ops.size)
    (hcl : ∀ st ∈ stepsA P ops.toList, Dn listed' st.i → ∀ j, has st.mask j = true → Dn listed' j) (hm : ∀ j, has m.mask j = true → Dn listed j) (hle : Y.le Y') (hR : Rel Y' s' w') (hX : Ext X0 s0 w0 Y' s' w')
    (hsz : a'.tmps.size = N) (hdf : a'.defers = a.defers) (hold : ∀ x, m.o.dst ≠ some x → a'.tmps[x]? = a.tmps[x]?) (hv : ∃ u, VR Y' v u ∧ ∀ x, m.o.dst = some x → x < N → a'.tmps[x]? = some u)
    (hw : again pend ops.toList P T e s' m.mask (fun pend => putR aa m.o.dst v (fun aa => evSteps l2 ops.toList P T e aa s' pend K)))
    (hea : ∀ st ∈ l2, Dn listed st.i → st.i ≠ m.i → w'.heap[β st.i]? = w.heap[β st.i]? ∧ Un Y' s' (β st.i)) :
    ∃ aa' pend' d' lm', Inv P T e ops l K X0 s0 w0 N listed' a' w' (l1 ++ [m]) l2 d' lm' Y' aa' s' pend' β := by
  have hl1 : ∀ st ∈ l1, st ∈ l := fun st h => by rw [I.eq]; exact List.mem_append_left _ h
  have hl2 : ∀ st ∈ m :: l2, st ∈ l := fun st h => by rw [I.eq]; exact List.mem_append_right _ h
  have hml := hl2 m List.mem_cons_self
  obtain ⟨c1, c2, _, c4⟩ := chk_cons I.chk
  rw [hq] at c4
  simp only [cond_false] at c4
  obtain ⟨pend', k1, k2, k3⟩ := again_ex (N := N) (by rw [hX.le.ρ]; exact hT) hR (fun p hp => ⟨(I.pendA p hp).1.mono hle, (I.pendA p hp).2.1⟩) hw
  obtain ⟨aa', k4, k5, k6, k7, k8⟩ := putR_at k1
  obtain ⟨u, hu, hux⟩ := hv
  have hne : ∀ st ∈ l1, st.i ≠ m.i := fun st h c => by
    rw [← c, (I.dm st.i).2 ⟨st, h, rfl⟩] at c1
    cases c1
  have hne2 : ∀ st ∈ l2, st.i ≠ m.i := fun st h c => by
    have := chk_new c4 h
    rw [has_or, Bool.or_eq_false_iff, c] at this
    rw [has_pow.2 rfl] at this
    cases this.2
  refine ⟨aa', pend', _, _, { eq := by rw [I.eq]; simp, dm := dm_next I.dm, chk := c4, walk := k4, rel := hR, ext := hX, asz := hsz, lsz := hlsz, defers := by rw [k6, hdf]; exact I.defers.mono hle, naa := by rw [k5]; exact I.naa, closed := hcl, maskd := fun st h j hj => ?_, loud := fun st h hq' => ?_, im := fun x v' hx => ?_, regs := fun x v' hx => ?_, pendA := fun p hp => ?_, pend := fun st h h' => ?_, early := fun st h h' => ?_, inj := fun st h st' h' q1 q2 q3 => ?_ }⟩
  · rw [has_or, Bool.or_eq_true]
    rcases List.mem_append.1 h with h | h
    · exact .inl (I.maskd st h j hj)
    · rw [List.mem_singleton] at h; subst h; exact .inl (c2 j hj)
  · rcases List.mem_append.1 h with h | h
    · exact (hD _).2 (.inl (I.loud st h hq'))
    · rw [List.mem_singleton] at h; subst h; exact (hD _).2 (.inr rfl)
  · rw [k8 x] at hx
    split at hx
    · rename_i hd
      cases hx
      exact ⟨Nat.lt_of_lt_of_le (k7 x hd) I.naa, u, hu⟩
    · exact I.im.mono hle x v' hx
  · rw [k8 x] at hx
    split at hx
    · rename_i hd
      cases hx
      exact .inl ⟨u, hux x hd (Nat.lt_of_lt_of_le (k7 x hd) I.naa), hu⟩
    · rename_i hd
      rcases I.regs x v' hx with ⟨u', h1, h2⟩ | ⟨st, h1, h2, h3⟩ | ⟨st, h1, h2, h3⟩
      · exact .inl ⟨u', by rw [hold x hd]; exact h1, VR.mono hle h2⟩
      · refine .inr (.inl ⟨st, List.mem_append_left _ h1, fun c => ?_, h3⟩)
        rcases (hD _).1 c with c | c
        · exact h2 c
        · exact hne st h1 c
      · rcases List.mem_cons.1 h1 with rfl | h1
        · exact absurd h3 hd
        · exact .inr (.inr ⟨st, h1, (hD _).2 (.inl h2), h3⟩)
  · obtain ⟨b1, b2⟩ := k3 p hp
    exact ⟨(I.pendA p b1).1.mono hle, (I.pendA p b1).2.1, b2⟩
  · have h1 : st ∈ l1 := by
      rcases List.mem_append.1 h with h | h
      · exact h
      · rw [List.mem_singleton] at h; subst h; exact absurd ((hD _).2 (.inr rfl)) h'
    have h2 : ¬ Dn listed st.i := fun c => h' ((hD _).2 (.inl c))
    have h3 : has m.mask st.i = false := by
      cases hh : has m.mask st.i with
      | false => rfl
      | true => exact absurd (hm _ hh) h2
    have h4 : has st.mask m.i = false := by
      cases hh : has st.mask m.i with
      | false => rfl
      | true => have := I.maskd st h1 _ hh; rw [c1] at this; cases this
    obtain ⟨hpa, hpb⟩ := pair_ex (hp m hml st (hl1 st h1)) (fun c => hne st h1 c.symm)
    obtain ⟨t, v', g1, g2, g3⟩ := I.pend st h1 h2
    refine ⟨t, v', k2 _ g1 h3, fun x hx => ?_, fun x v2 hx => ?_⟩
    · rw [k8 x, if_neg (fun c => hpa x c hx)]
      exact g2 x hx
    · obtain ⟨f1, f2, f3⟩ := g3 x v2 hx
      have hdx : m.o.dst ≠ some x := fun c => by
        rcases hpb with (b | b) | b
        · rw [h4] at b; cases b
        · rw [h3] at b; cases b
        · exact b.1 x c f1
      refine ⟨f1, fun st' b1 b2 b3 => ?_, ?_⟩
      · rw [k8 x, if_neg hdx]
        rcases List.mem_append.1 b1 with b1 | b1
        · exact f2 st' b1 b2 b3
        · rw [List.mem_singleton] at b1; subst b1; exact absurd b2 hdx
      · rcases f3 with ⟨u', b1, b2⟩ | ⟨st', b1, b2, b3, b4⟩
        · exact .inl ⟨u', by rw [hold x hdx]; exact b1, VR.mono hle b2⟩
        · refine .inr ⟨st', List.mem_append_left _ b1, fun c => ?_, b3, b4⟩
          rcases (hD _).1 c with c | c
          · exact b2 c
          · exact hne st' b1 c
  · have h2 : Dn listed st.i := by
      rcases (hD _).1 h' with c | c
      · exact c
      · exact absurd c (hne2 st h)
    obtain ⟨b1, ⟨ty, z, b2, b3, b4⟩, b5, b6, b7⟩ := I.early st (List.mem_cons_of_mem _ h) h2
    obtain ⟨f1, f2⟩ := hea st h h2 (hne2 st h)
    refine ⟨b1, ⟨ty, z, b2, b3, by rw [f1]; exact b4⟩, b5, f2, fun x hx hlt => ?_⟩
    rw [hsz, ← I.asz] at hlt
    rw [hold x (fun c => (pair_ex (hp m hml st (hl2 st (List.mem_cons_of_mem _ h))) (fun c => hne2 st h c.symm)).1 x c hx)]
    exact b7 x hx hlt
  · have hh : ∀ st ∈ l2, Dn listed' st.i → Dn listed st.i := fun st h c => by
      rcases (hD _).1 c with c | c
      · exact c
      · exact absurd c (hne2 st h)
    exact I.inj st (List.mem_cons_of_mem _ h) st' (List.mem_cons_of_mem _ h') (hh st h q1) (hh st' h' q2) q3

/-- The next one that is not quiet comes up. -/
theorem Inv.step (hE : EnvOK P X0.ρ T e r) (hs : ∀ st ∈ l, st ∈ stepsA P ops.toList) (hp : ∀ a ∈ l, ∀ b ∈ l, pairS a b = true) {m : Step} (I : Inv P T e ops l K X0 s0 w0 N listed a w l1 (m :: l2) d lm Y aa s pend β) (hq : m.q = false) (hnd : ¬ Dn listed m.i)
    (hr : ∀ st' ∈ stepsA P ops.toList, st'.i = m.i → ∀ j, has st'.mask j = true → Dn listed j) :
    wpOpIn (Fw r) 0 P ops Q m.i (fun a' w' => ∃ l1 l2 d lm Y aa s pend β, Inv P T e ops l K X0 s0 w0 N (listed.setIfInBounds m.i true) a' w' l1 l2 d lm Y aa s pend β) a w := by
  have hl1 : ∀ st ∈ l1, st ∈ l := fun st h => by rw [I.eq]; exact List.mem_append_left _ h
  have hl2 : ∀ st ∈ m :: l2, st ∈ l := fun st h => by rw [I.eq]; exact List.mem_append_right _ h
  have hml := hl2 m List.mem_cons_self
  have hst := steps_ok (hs m hml)
  have hm := hr m (hs m hml) rfl
  have ho : ops[m.i]? = some m.o := by simpa using hst.o
  have hi : m.i < listed.size := by rw [I.lsz]; exact (Array.getElem?_eq_some_iff.1 ho).1
  obtain ⟨c1, c2, _, c4⟩ := chk_cons I.chk
  obtain ⟨t, k1, k2⟩ := small_ex (show small m.reads aa.regs .nil (fun t => ife m.q
      (evG m.o ops.toList P T e s t (fun v _ => evG m.o ops.toList P T e s t (fun v' _ => yes (veq v v') (putR aa m.o.dst v (fun a => evSteps l2 ops.toList P T e a s ((m.o, m.i, t, v) :: pend) K)))))
      (evG m.o ops.toList P T e s t (fun v s => again pend ops.toList P T e s m.mask (fun pend => putR aa m.o.dst v (fun a => evSteps l2 ops.toList P T e a s pend K))))) from I.walk)
  rw [hq] at k1
  have k1 : evG m.o ops.toList P T e s t (fun v s => again pend ops.toList P T e s m.mask (fun pend => putR aa m.o.dst v (fun a => evSteps l2 ops.toList P T e a s pend K))) := k1
  refine evG_wp (X := Y) (t := t) (n := 0) (ds := aa.defers) (by rw [I.ext.le.ρ]; exact hE) ho ⟨⟨Nat.zero_le _, fun x v' hv => ?_⟩, I.defers⟩ I.rel k1 (fun v s' Y' u w' e1 hR' hX' hv' => ?_)
  · rcases k2 x v' hv with h | ⟨h1, h2⟩
    · rw [getT_nil] at h; cases h
    · rcases I.regs x v' h2 with h | ⟨st, b1, b2, b3⟩ | ⟨st, b1, b2, b3⟩
      · exact h
      · have hne : st.i ≠ m.i := fun c => by rw [← c, (I.dm st.i).2 ⟨st, b1, rfl⟩] at c1; cases c1
        rcases (pair_ex (hp st (hl1 st b1) m hml) hne).2 with (f | f) | f
        · exact absurd (hm _ f) b2
        · have := I.maskd st b1 _ f; rw [c1] at this; cases this
        · exact absurd h1 (f.1 x b3)
      · have hne : st.i ≠ m.i := fun c => by rw [c] at b2; exact hnd b2
        rcases (pair_ex (hp st (hl2 st b1) m hml) hne).2 with (f | f) | f
        · have := c2 _ f; rw [chk_new I.chk b1] at this; cases this
        · exact absurd (I.closed st (hs st (hl2 st b1)) b2 _ f) hnd
        · exact absurd h1 (f.1 x b3)
  · obtain ⟨aa', pend', d', lm', J⟩ := I.next (listed' := listed.setIfInBounds m.i true) (a' := a.put m.o.dst u) hE.tab hp hq (fun j => Dn_set hi) (by simp [I.lsz]) (closed_set hi I.closed hr) hm hX'.le hR' (I.ext.trans hX') (by rw [put_size]; exact I.asz) put_defers
      (fun x hx => by rw [put_get, if_neg hx]) ⟨u, hv', fun x hx hlt => by rw [put_get, if_pos hx, if_pos (by rw [I.asz]; exact hlt)]⟩ e1 (fun st h h' _ => by
        have E := I.early st (List.mem_cons_of_mem _ h) h'
        obtain ⟨ty, z, _, _, b4⟩ := E.blk
        have hlt := (Array.getElem?_eq_some_iff.1 b4).1
        exact ⟨(hX'.keep _ hlt E.un.fr).1, hX'.un _ hlt E.un⟩)
    exact ⟨_, _, _, _, _, _, _, _, _, J⟩

/-- A new block is made early. -/
theorem Inv.ahead (hs : ∀ st ∈ l, st ∈ stepsA P ops.toList) (hp : ∀ a ∈ l, ∀ b ∈ l, pairS a b = true) (I : Inv P T e ops l K X0 s0 w0 N listed a w l1 l2 d lm Y aa s pend β) {st : Step} (h2 : st ∈ l2) (hal : st.al = true)
    (hr : ∀ st' ∈ stepsA P ops.toList, st'.i = st.i → ∀ j, has st'.mask j = true → Dn listed j) :
    wpOpIn (Fw r) 0 P ops Q st.i (fun a' w' => ∃ β', Inv P T e ops l K X0 s0 w0 N (listed.setIfInBounds st.i true) a' w' l1 l2 d lm Y aa s pend β') a w := by
  have hl1 : ∀ st ∈ l1, st ∈ l := fun st h => by rw [I.eq]; exact List.mem_append_left _ h
  have hl2 : ∀ st ∈ l2, st ∈ l := fun st h => by rw [I.eq]; exact List.mem_append_right _ h
  have hst := steps_ok (hs st (hl2 st h2))
  have hm := hr st (hs st (hl2 st h2)) rfl
  have ho : ops[st.i]? = some st.o := by simpa using hst.o
  have hi : st.i < listed.size := by rw [I.lsz]; exact (Array.getElem?_eq_some_iff.1 ho).1
  obtain ⟨hl, hg, ty, z, hop, hz⟩ := al_loud (P := P) (o := st.o) (by rw [← hst.al]; exact hal)
  unfold wpOpIn
  simp only [ho]
  rw [if_pos (by unfold Region.wanted; rw [hg])]
  refine ⟨fun _ _ => trivial, ?_⟩
  rw [Oper.semAt_eq _ _ _ (by rw [hop]; intro c hc; cases hc)]
  have hrun : (execOp a.eval st.o).run P w = .ok (.value (.pointer (some ⟨w.heap.size, 0, none⟩))) (w.alloc (.cells z.cells ty)) := by simp [execOp, hop, Instr.alloc, zeroV_run hz, newVar, newRow]
  rw [hrun]
  obtain ⟨r1, r2⟩ := I.rel.grow (w' := w.alloc (.cells z.cells ty)) (by simp) (fun b hb => heap_alloc_old w _ b hb)
  have hlt : ∀ st' ∈ l2, Dn listed st'.i → β st'.i < w.heap.size := fun st' h h' => by
    obtain ⟨ty', z', _, _, b4⟩ := (I.early st' h h').blk
    exact (Array.getElem?_eq_some_iff.1 b4).1
  have hD : ∀ {j}, Dn (listed.setIfInBounds st.i true) j → j ≠ st.i → Dn listed j := fun h c => by
    rcases (Dn_set hi).1 h with h | h
    · exact h
    · exact absurd h c
  have hne : ∀ st' ∈ l1, st'.i ≠ st.i := fun st' h c => by
    have := chk_new I.chk h2
    rw [← c, (I.dm st'.i).2 ⟨st', h, rfl⟩] at this
    cases this
  refine ⟨fun j => if j = st.i then w.heap.size else β j, { eq := I.eq, dm := I.dm, chk := I.chk, walk := I.walk, rel := r1, ext := I.ext.trans r2, asz := by rw [put_size]; exact I.asz, lsz := by simp [I.lsz], defers := by rw [put_defers]; exact I.defers, naa := I.naa, closed := closed_set hi I.closed hr, maskd := I.maskd, loud := fun st' h h' => (Dn_set hi).2 (.inl (I.loud st' h h')), im := I.im, regs := fun x v' hv => ?_, pendA := I.pendA, pend := fun st' h h' => ?_, early := fun st' h h' => ?_, inj := fun st1 g2 st2 g3 g4 g5 g6 => ?_ }⟩
  · by_cases hd : st.o.dst = some x
    · exact .inr (.inr ⟨st, h2, (Dn_set hi).2 (.inr rfl), hd⟩)
    · rcases I.regs x v' hv with ⟨u, b1, b2⟩ | ⟨st', b1, b2, b3⟩ | ⟨st', b1, b2, b3⟩
      · exact .inl ⟨u, by rw [put_get, if_neg hd]; exact b1, b2⟩
      · exact .inr (.inl ⟨st', b1, fun c => b2 (hD c (hne st' b1)), b3⟩)
      · exact .inr (.inr ⟨st', b1, (Dn_set hi).2 (.inl b2), b3⟩)
  · have h3 : ¬ Dn listed st'.i := fun c => h' ((Dn_set hi).2 (.inl c))
    obtain ⟨t, v, g1, g2, g3⟩ := I.pend st' h h3
    refine ⟨t, v, g1, g2, fun x v2 hx => ?_⟩
    obtain ⟨f1, f2, f3⟩ := g3 x v2 hx
    refine ⟨f1, f2, ?_⟩
    have hd : st.o.dst ≠ some x := fun c => by
      rcases (pair_ex (hp st (hl2 st h2) st' (hl1 st' h)) (fun c => hne st' h c.symm)).2 with (b | b) | b
      · have := I.maskd st' h _ b; rw [chk_new I.chk h2] at this; cases this
      · exact h3 (hm _ b)
      · exact b.1 x c f1
    rcases f3 with ⟨u', b1, b2⟩ | ⟨st2, b1, b2, b3, b4⟩
    · exact .inl ⟨u', by rw [put_get, if_neg hd]; exact b1, b2⟩
    · exact .inr ⟨st2, b1, fun c => b2 (hD c (hne st2 b1)), b3, b4⟩
  · by_cases hc : st'.i = st.i
    · have hoo := Step.same (steps_ok (hs st' (hl2 st' h))) hst hc
      refine ⟨by rw [(steps_ok (hs st' (hl2 st' h))).al, hoo, ← hst.al]; exact hal, ⟨ty, z, by rw [hoo]; exact hop, hz, ?_⟩, ?_, fun id c hh => ?_, fun x hx hlt' => ?_⟩
      · rw [if_pos hc]; exact heap_alloc_new w _
      · rw [if_pos hc]; exact I.ext.size
      · rw [if_pos hc]; have := (I.rel.blk id c hh).2.lt; omega
      · rw [if_pos hc]
        rw [put_size] at hlt'
        rw [hoo] at hx
        rw [put_get, if_pos hx, if_pos hlt']
    · have h3 := hD h' hc
      have E := I.early st' h h3
      obtain ⟨ty', z', b2, b3, b4⟩ := E.blk
      refine ⟨E.al, ⟨ty', z', b2, b3, ?_⟩, ?_, ?_, fun x hx hlt' => ?_⟩
      · rw [if_neg hc, heap_alloc_old w _ _ (hlt st' h h3)]; exact b4
      · rw [if_neg hc]; exact E.new
      · rw [if_neg hc]; exact E.un
      · rw [put_size] at hlt'
        rw [if_neg hc, put_get, if_neg (fun c => (pair_ex (hp st (hl2 st h2) st' (hl2 st' h)) (fun c => hc c.symm)).1 x c hx)]
        exact E.tmp x hx hlt'
  · by_cases c1 : st1.i = st.i
    · have c2 : st2.i ≠ st.i := fun c => g6 (c1.trans c.symm)
      change (if st1.i = st.i then w.heap.size else β st1.i) ≠ (if st2.i = st.i then w.heap.size else β st2.i)
      rw [if_pos c1, if_neg c2]
      have := hlt st2 g3 (hD g5 c2)
      omega
    · change (if st1.i = st.i then w.heap.size else β st1.i) ≠ (if st2.i = st.i then w.heap.size else β st2.i)
      by_cases c2 : st2.i = st.i
      · rw [if_neg c1, if_pos c2]
        have := hlt st1 g2 (hD g4 c1)
        omega
      · rw [if_neg c1, if_neg c2]
        exact I.inj st1 g2 st2 g3 (hD g4 c1) (hD g5 c2) g6

end
end Go.Proofs.YtkpfafehcmammaaGreatDoor
namespace Go.Proofs.YtkpfafehcmammaaGreatDoor
open Go.Deep

section
variable {P : Program} {T : Tab} {e : Env} {ops : Array Oper} {l : List Step} {K : KA} {X0 : Cx} {s0 : AS} {w0 : World} {N : Nat} {listed : Array Bool} {a : Act} {w : World} {l1 l2 : List Step} {d lm : Nat} {Y : Cx} {aa : AA} {s : AS} {pend : List Pend} {β : Nat → Nat} {r : Option Nat} {Q : Exit → Act → World → Prop}

/-- The walk goes over a quiet one. -/
theorem Inv.over (hT : TabOK P X0.ρ T) (hs : ∀ st ∈ l, st ∈ stepsA P ops.toList) (hp : ∀ a ∈ l, ∀ b ∈ l, pairS a b = true) {m : Step} (I : Inv P T e ops l K X0 s0 w0 N listed a w l1 (m :: l2) d lm Y aa s pend β) (hq : m.q = true) :
    ∃ d' aa' pend', Inv P T e ops l K X0 s0 w0 N listed a w (l1 ++ [m]) l2 d' lm Y aa' s pend' β := by
  have hl1 : ∀ st ∈ l1, st ∈ l := fun st h => by rw [I.eq]; exact List.mem_append_left _ h
  have hl2 : ∀ st ∈ m :: l2, st ∈ l := fun st h => by rw [I.eq]; exact List.mem_append_right _ h
  have hml := hl2 m List.mem_cons_self
  have hst := steps_ok (hs m hml)
  have hqo : quietO P m.o.op = true := by rw [← hst.q]; exact hq
  obtain ⟨c1, c2, _, c4⟩ := chk_cons I.chk
  rw [hq] at c4
  simp only [cond_true] at c4
  have hnd : ¬ Dn listed m.i := fun c => by
    have h := (I.early m List.mem_cons_self c).al
    rw [hst.al] at h
    rw [(al_loud h).1] at hqo
    cases hqo
  have hT' : TabOK P Y.ρ T := by rw [I.ext.le.ρ]; exact hT
  obtain ⟨t, k1, k2⟩ := small_ex (show small m.reads aa.regs .nil (fun t => ife m.q
      (evG m.o ops.toList P T e s t (fun v _ => evG m.o ops.toList P T e s t (fun v' _ => yes (veq v v') (putR aa m.o.dst v (fun a => evSteps l2 ops.toList P T e a s ((m.o, m.i, t, v) :: pend) K)))))
      (evG m.o ops.toList P T e s t (fun v s => again pend ops.toList P T e s m.mask (fun pend => putR aa m.o.dst v (fun a => evSteps l2 ops.toList P T e a s pend K))))) from I.walk)
  rw [hq] at k1
  have k1 : evG m.o ops.toList P T e s t (fun v _ => evG m.o ops.toList P T e s t (fun v' _ => yes (veq v v') (putR aa m.o.dst v (fun a => evSteps l2 ops.toList P T e a s ((m.o, m.i, t, v) :: pend) K)))) := k1
  have k3 : ∀ x v, getT t x = some v → x ∈ m.reads ∧ getT aa.regs x = some v := fun x v h => by
    rcases k2 x v h with h | h
    · rw [getT_nil] at h; cases h
    · exact h
  have him : Im Y N t := fun x v h => I.im x v (k3 x v h).2
  obtain ⟨v, k4, u, hu⟩ := quiet_ex hT' I.rel him hqo k1
  obtain ⟨v', k5, _⟩ := quiet_ex hT' I.rel him hqo k4
  obtain ⟨_, k6⟩ := yes_ex k5
  obtain ⟨aa', k7, k8, k9, k10, k11⟩ := putR_at k6
  have hne : ∀ st ∈ l1, st.i ≠ m.i := fun st h c => by
    rw [← c, (I.dm st.i).2 ⟨st, h, rfl⟩] at c1
    cases c1
  refine ⟨_, aa', _, { eq := by rw [I.eq]; simp, dm := dm_next I.dm, chk := c4, walk := k7, rel := I.rel, ext := I.ext, asz := I.asz, lsz := I.lsz, defers := by rw [k9]; exact I.defers, naa := by rw [k8]; exact I.naa, closed := I.closed, maskd := fun st h j hj => ?_, loud := fun st h hq' => ?_, im := fun x v' hx => ?_, regs := fun x v' hx => ?_, pendA := fun p hp => ?_, pend := fun st h h' => ?_, early := fun st h h' => I.early st (List.mem_cons_of_mem _ h) h', inj := fun st h st' h' q1 q2 q3 => I.inj st (List.mem_cons_of_mem _ h) st' (List.mem_cons_of_mem _ h') q1 q2 q3 }⟩
  · rw [has_or, Bool.or_eq_true]
    rcases List.mem_append.1 h with h | h
    · exact .inl (I.maskd st h j hj)
    · rw [List.mem_singleton] at h; subst h; exact .inl (c2 j hj)
  · rcases List.mem_append.1 h with h | h
    · exact I.loud st h hq'
    · rw [List.mem_singleton] at h; subst h; rw [hq] at hq'; cases hq'
  · rw [k11 x] at hx
    split at hx
    · rename_i hd
      cases hx
      exact ⟨Nat.lt_of_lt_of_le (k10 x hd) I.naa, u, hu⟩
    · exact I.im x v' hx
  · rw [k11 x] at hx
    split at hx
    · rename_i hd
      exact .inr (.inl ⟨m, by simp, hnd, hd⟩)
    · rcases I.regs x v' hx with h | ⟨st, h1, h2, h3⟩ | ⟨st, h1, h2, h3⟩
      · exact .inl h
      · exact .inr (.inl ⟨st, List.mem_append_left _ h1, h2, h3⟩)
      · rcases List.mem_cons.1 h1 with rfl | h1
        · exact absurd h2 hnd
        · exact .inr (.inr ⟨st, h1, h2, h3⟩)
  · rcases List.mem_cons.1 hp with rfl | hp
    · exact ⟨him, hqo, _, k4⟩
    · exact I.pendA p hp
  · rcases List.mem_append.1 h with h | h
    · have h4 : has st.mask m.i = false := by
        cases hh : has st.mask m.i with
        | false => rfl
        | true => have := I.maskd st h _ hh; rw [c1] at this; cases this
      obtain ⟨hpa, _⟩ := pair_ex (hp m hml st (hl1 st h)) (fun c => hne st h c.symm)
      obtain ⟨t', v2, g1, g2, g3⟩ := I.pend st h h'
      refine ⟨t', v2, List.mem_cons_of_mem _ g1, fun x hx => ?_, fun x v3 hx => ?_⟩
      · rw [k11 x, if_neg (fun c => hpa x c hx)]
        exact g2 x hx
      · obtain ⟨f1, f2, f3⟩ := g3 x v3 hx
        refine ⟨f1, fun st' b1 b2 b3 => ?_, ?_⟩
        · rcases List.mem_append.1 b1 with b1 | b1
          · rw [k11 x, if_neg (fun c => (pair_ex (hp m hml st' (hl1 st' b1)) (fun c => hne st' b1 c.symm)).1 x c b2)]
            exact f2 st' b1 b2 b3
          · rw [List.mem_singleton] at b1; subst b1; rw [h4] at b3; cases b3
        · rcases f3 with f3 | ⟨st', b1, b2⟩
          · exact .inl f3
          · exact .inr ⟨st', List.mem_append_left _ b1, b2⟩
    · rw [List.mem_singleton] at h
      subst h
      refine ⟨t, v, List.mem_cons_self, fun x hx => by rw [k11 x, if_pos hx], fun x v3 hx => ?_⟩
      obtain ⟨f1, f2⟩ := k3 x v3 hx
      refine ⟨f1, fun st' b1 b2 b3 => ?_, ?_⟩
      · rcases List.mem_append.1 b1 with b1 | b1
        · rw [k11 x, if_neg (fun c => (pair_ex (hp st hml st' (hl1 st' b1)) (fun c => hne st' b1 c.symm)).1 x c b2)]
          exact f2
        · rw [List.mem_singleton] at b1; subst b1
          have := c2 _ b3; rw [c1] at this; cases this
      · rcases I.regs x v3 f2 with b | ⟨st', b1, b2, b3⟩ | ⟨st', b1, b2, b3⟩
        · exact .inl b
        · refine .inr ⟨st', List.mem_append_left _ b1, b2, b3, ?_⟩
          rcases (pair_ex (hp st' (hl1 st' b1) st hml) (hne st' b1)).2 with (f | f) | f
          · exact f
          · have := I.maskd st' b1 _ f; rw [c1] at this; cases this
          · exact absurd f1 (f.1 x b3)
        · have hne' : st'.i ≠ st.i := fun c => by rw [c] at b2; exact hnd b2
          rcases (pair_ex (hp st' (hl2 st' b1) st hml) hne').2 with (f | f) | f
          · have := c2 _ f; rw [chk_new I.chk b1] at this; cases this
          · exact absurd (I.closed st' (hs st' (hl2 st' b1)) b2 _ f) hnd
          · exact absurd f1 (f.1 x b3)

/-- The walk comes to a new block that has been made. -/
theorem Inv.made (hT : TabOK P X0.ρ T) (hs : ∀ st ∈ l, st ∈ stepsA P ops.toList) (hp : ∀ a ∈ l, ∀ b ∈ l, pairS a b = true) {m : Step} (I : Inv P T e ops l K X0 s0 w0 N listed a w l1 (m :: l2) d lm Y aa s pend β) (hD : Dn listed m.i) :
    ∃ d' lm' Y' aa' s' pend', Inv P T e ops l K X0 s0 w0 N listed a w (l1 ++ [m]) l2 d' lm' Y' aa' s' pend' β := by
  have hl2 : ∀ st ∈ m :: l2, st ∈ l := fun st h => by rw [I.eq]; exact List.mem_append_right _ h
  have hml := hl2 m List.mem_cons_self
  have hst := steps_ok (hs m hml)
  have E := I.early m List.mem_cons_self hD
  obtain ⟨hl, hg, _⟩ := al_loud (P := P) (o := m.o) (by rw [← hst.al]; exact E.al)
  have hq : m.q = false := by rw [hst.q]; exact hl
  obtain ⟨ty, z, b1, b2, b3⟩ := E.blk
  obtain ⟨t, k1, _⟩ := small_ex (show small m.reads aa.regs .nil (fun t => ife m.q
      (evG m.o ops.toList P T e s t (fun v _ => evG m.o ops.toList P T e s t (fun v' _ => yes (veq v v') (putR aa m.o.dst v (fun a => evSteps l2 ops.toList P T e a s ((m.o, m.i, t, v) :: pend) K)))))
      (evG m.o ops.toList P T e s t (fun v s => again pend ops.toList P T e s m.mask (fun pend => putR aa m.o.dst v (fun a => evSteps l2 ops.toList P T e a s pend K))))) from I.walk)
  rw [hq] at k1
  have k1 : evG m.o ops.toList P T e s t (fun v s => again pend ops.toList P T e s m.mask (fun pend => putR aa m.o.dst v (fun a => evSteps l2 ops.toList P T e a s pend K))) := k1
  unfold evG guardOk at k1
  rw [hg, b1] at k1
  obtain ⟨s', L, f1, f2, f3, f4, f5⟩ := early_ex (T := T) (e := e) (g := gv t) (b := β m.i) I.rel b2 b3 E.un k1
  have hX : Ext X0 s0 w0 (Y.put L) s' w := ⟨I.ext.le.trans (Y.put_le L), I.ext.size, fun b hb hf => by
      obtain ⟨g1, g2⟩ := I.ext.keep b hb hf
      have := E.new
      exact ⟨g1, (f5 b (by omega)).2 g2⟩, fun b hb hf => by
      have g2 := I.ext.un b hb hf
      have := E.new
      exact (f5 b (by omega)).1 g2, I.ext.io⟩
  obtain ⟨aa', pend', d', lm', J⟩ := I.next (listed' := listed) (a' := a) (w' := w) (Y' := Y.put L) (s' := s') hT hp hq (fun j => ⟨.inl, fun h => by rcases h with h | h; exact h; rw [h]; exact hD⟩) I.lsz I.closed (I.closed m (hs m hml) hD) (Y.put_le L) f4 hX I.asz rfl (fun _ _ => rfl)
    ⟨.pointer (some ⟨β m.i, 0, none⟩), VR_ptr.2 ⟨by rw [← I.rel.nx]; simp [Cx.put], by rw [← I.rel.nx, Y.put_at, f1, f2]⟩, fun x hx hlt => E.tmp x hx (by rw [I.asz]; exact hlt)⟩ f3 (fun st h h' hne => ⟨rfl, (f5 _ (I.inj st (List.mem_cons_of_mem _ h) m List.mem_cons_self h' hD hne)).1 (I.early st (List.mem_cons_of_mem _ h) h').un⟩)
  exact ⟨_, _, _, _, _, _, J⟩

/-- The walk goes on to the next that has to come up. -/
theorem Inv.on (hT : TabOK P X0.ρ T) (hs : ∀ st ∈ l, st ∈ stepsA P ops.toList) (hp : ∀ a ∈ l, ∀ b ∈ l, pairS a b = true) : ∀ {l2 l1 : List Step} {d lm : Nat} {Y : Cx} {aa : AA} {s : AS} {pend : List Pend}, Inv P T e ops l K X0 s0 w0 N listed a w l1 l2 d lm Y aa s pend β →
    ∃ l1 l2 d lm Y aa s pend, Inv P T e ops l K X0 s0 w0 N listed a w l1 l2 d lm Y aa s pend β ∧ ∀ m l3, l2 = m :: l3 → m.q = false ∧ ¬ Dn listed m.i := by
  intro l2
  induction l2 with
  | nil => intro l1 d lm Y aa s pend I; exact ⟨_, _, _, _, _, _, _, _, I, fun m l3 h => by cases h⟩
  | cons m l2 ih =>
    intro l1 d lm Y aa s pend I
    cases hq : m.q with
    | true =>
      obtain ⟨_, _, _, J⟩ := I.over hT hs hp hq
      exact ih J
    | false =>
      by_cases hD : Dn listed m.i
      · obtain ⟨_, _, _, _, _, _, J⟩ := I.made hT hs hp hD
        exact ih J
      · exact ⟨_, _, _, _, _, _, _, _, I, fun m' l3 h => by cases h; exact ⟨hq, hD⟩⟩

def Has (P : Program) (T : Tab) (e : Env) (ops : Array Oper) (l : List Step) (K : KA) (X0 : Cx) (s0 : AS) (w0 : World) (N : Nat) (listed : Array Bool) (a : Act) (w : World) : Prop :=
  ∃ l1 l2 d lm Y aa s pend β, Inv P T e ops l K X0 s0 w0 N listed a w l1 l2 d lm Y aa s pend β

/-- How many are to come. -/
def left (listed : Array Bool) : Nat := listed.toList.count false

theorem left_set {i : Nat} (hi : i < listed.size) (hn : ¬ Dn listed i) : left (listed.setIfInBounds i true) + 1 = left listed := by
  unfold left Dn at *
  rw [Array.toList_setIfInBounds]
  have h1 : listed.toList[i]? = some false := by
    simp only [Array.getD_eq_getD_getElem?] at hn
    rw [Array.getElem?_eq_getElem hi] at hn
    simp at hn
    simp [hi, hn]
  generalize listed.toList = q at h1
  clear hn hi
  induction q generalizing i with
  | nil => simp at h1
  | cons b q ih =>
    cases i with
    | zero => simp at h1; subst h1; simp
    | succ i =>
      have := ih (i := i) (by simpa using h1)
      simp only [List.set_cons_succ, List.count_cons]
      omega

theorem left_zero (h : left listed = 0) (i : Nat) (hi : i < listed.size) : Dn listed i := by
  unfold left at h
  rw [List.count_eq_zero] at h
  unfold Dn
  simp only [Array.getD_eq_getD_getElem?]
  rw [Array.getElem?_eq_getElem hi]
  simp only [Option.getD_some]
  cases hb : listed[i] with
  | true => rfl
  | false => exact absurd (by rw [← hb]; simp) h

theorem chk_done {n : Nat} (hsz : listed.size = ops.size) (hr : Region.ready .any ops listed = []) : ∀ {q : List Step} {d lm : Nat}, chk n q d lm = true → (∀ j, has d j = true → Dn listed j) → (∀ st ∈ q, st ∈ stepsA P ops.toList) → ∀ st ∈ q, Dn listed st.i := by
  intro q
  induction q with
  | nil => intro d lm _ _ _ st h; cases h
  | cons x q ih =>
    intro d lm hc hd hq
    obtain ⟨_, c2, _, c4⟩ := chk_cons hc
    have hx := steps_ok (hq x List.mem_cons_self)
    have h1 : Dn listed x.i := by
      by_cases hn : Dn listed x.i
      · exact hn
      · have ho : ops[x.i]? = some x.o := by simpa using hx.o
        have := ready_of hsz ho hn (fun e he hb => hd _ (c2 _ (hx.edge e he hb)))
        rw [hr] at this
        cases this
    have h2 := ih c4 (fun j hj => by
      rw [has_or, Bool.or_eq_true] at hj
      rcases hj with hj | hj
      · exact hd j hj
      · rw [← has_pow.1 hj]; exact h1) (fun st h => hq st (List.mem_cons_of_mem _ h))
    intro st h
    rcases List.mem_cons.1 h with rfl | h
    · exact h1
    · exact h2 st h

theorem Has.done (hE : EnvOK P X0.ρ T e r) (hs : ∀ st ∈ l, st ∈ stepsA P ops.toList) (hp : ∀ a ∈ l, ∀ b ∈ l, pairS a b = true) (hc : chk ops.size l 0 0 = true)
    (hq : ∀ Y aa' s' a' w', K aa' s' → Rel Y s' w' → Ext X0 s0 w0 Y s' w' → AAR Y aa' a' → Q .normal a' w') (h : Has P T e ops l K X0 s0 w0 N listed a w) (hr : Region.ready .any ops listed = []) : Q .normal a w := by
  obtain ⟨l1, l2, d, lm, Y, aa, s, pend, β, I⟩ := h
  obtain ⟨l1, l2, d, lm, Y, aa, s, pend, I, hh⟩ := I.on hE.tab hs hp
  have hall := chk_done I.lsz hr hc (fun j hj => by rw [has_zero] at hj; cases hj) hs
  have hl2 : l2 = [] := by
    cases l2 with
    | nil => rfl
    | cons m l3 => exact absurd (hall m (by rw [I.eq]; simp)) (hh m l3 rfl).2
  subst hl2
  refine hq Y aa s a w I.walk I.rel I.ext ⟨⟨by rw [I.asz]; exact I.naa, fun x v hv => ?_⟩, I.defers⟩
  rcases I.regs x v hv with h | ⟨st, h1, h2, _⟩ | ⟨st, h1, _⟩
  · exact h
  · exact absurd (hall st (by rw [I.eq]; simpa using h1)) h2
  · cases h1

theorem Has.any (hE : EnvOK P X0.ρ T e r) (hs : ∀ st ∈ l, st ∈ stepsA P ops.toList) (hp : ∀ a ∈ l, ∀ b ∈ l, pairS a b = true) (hc : chk ops.size l 0 0 = true)
    (hq : ∀ Y aa' s' a' w', K aa' s' → Rel Y s' w' → Ext X0 s0 w0 Y s' w' → AAR Y aa' a' → Q .normal a' w') : ∀ (fuel : Nat) (listed : Array Bool) (a : Act) (w : World), Has P T e ops l K X0 s0 w0 N listed a w → left listed ≤ fuel → wpAnyIn (Fw r) 0 P .any ops Q fuel listed a w := by
  intro fuel
  induction fuel with
  | zero =>
    intro listed a w h hf
    have hr : Region.ready .any ops listed = [] := by
      obtain ⟨l1, l2, d, lm, Y, aa, s, pend, β, I⟩ := h
      cases hr : Region.ready .any ops listed with
      | nil => rfl
      | cons i q =>
        obtain ⟨h1, h2, _⟩ := ready_ex I.lsz (show i ∈ Region.ready .any ops listed by rw [hr]; simp)
        exact absurd (left_zero (by omega) i (by rw [I.lsz]; exact h1)) h2
    exact ⟨hr, h.done hE hs hp hc hq hr⟩
  | succ fuel ih =>
    intro listed a w h hf
    refine ⟨h.done hE hs hp hc hq, fun i hi => ?_⟩
    obtain ⟨l1, l2, d, lm, Y, aa, s, pend, β, I⟩ := h
    obtain ⟨l1, l2, d, lm, Y, aa, s, pend, I, hh⟩ := I.on hE.tab hs hp
    obtain ⟨h1, h2, o, h3, h4⟩ := ready_ex I.lsz hi
    have hr := closed_ready I.closed h3 h4
    have hlf : left (listed.setIfInBounds i true) ≤ fuel := by
      have := left_set (by rw [I.lsz]; exact h1) h2
      omega
    have key : wpOpIn (Fw r) 0 P ops Q i (fun a' w' => Has P T e ops l K X0 s0 w0 N (listed.setIfInBounds i true) a' w') a w := by
      rcases chk_all h1 I.chk with h5 | ⟨st, h5, h6⟩
      · obtain ⟨st, h6, h7⟩ := (I.dm i).1 h5
        subst h7
        exact wpOpIn_mono (fun a' w' ⟨Y', J⟩ => ⟨_, _, _, _, _, _, _, _, _, J⟩) (I.quiet hE hs hp h6 h2 hr)
      · subst h6
        cases l2 with
        | nil => cases h5
        | cons m l3 =>
          obtain ⟨q1, q2⟩ := hh m l3 rfl
          rcases List.mem_cons.1 h5 with rfl | h5
          · exact I.step hE hs hp q1 h2 hr
          · obtain ⟨_, _, _, c4⟩ := chk_cons I.chk
            rw [q1] at c4
            rcases chk_lm c4 h5 with f | f
            · exact wpOpIn_mono (fun a' w' ⟨β', J⟩ => ⟨_, _, _, _, _, _, _, _, _, J⟩) (I.ahead hs hp (List.mem_cons_of_mem _ h5) f hr)
            · have f1 := f m.i (by simp only [cond_false, has_or, Bool.or_eq_true]; exact .inr (has_pow.2 rfl))
              exact absurd (hr st (hs st (by rw [I.eq]; simp [h5])) rfl _ f1) q2
    exact wpOpIn_mono (fun a' w' hh => ih _ a' w' hh hlf) key

/-- A region whose order is drawn. -/
theorem drawn_wp {id : Nat} {X : Cx} (hE : EnvOK P X.ρ T e r) (h : evDrawn ops P T e aa s K) (hR : Rel X s w) (ha : AAR X aa a)
    (hq : ∀ Y aa' s' a' w', K aa' s' → Rel Y s' w' → Ext X s w Y s' w' → AAR Y aa' a' → Q .normal a' w') : (Code.region id ops true).wpIn (Fw r) 0 P Q a w := by
  refine wpIn_region_any hE.prog.mixed ?_
  obtain ⟨h1, h2⟩ := yes_ex h
  unfold planOk at h1
  rw [Bool.and_eq_true] at h1
  obtain ⟨h3, h4⟩ := h1
  have hn : ops.toList.length = ops.size := by simp
  rw [hn] at h3
  have hd : ∀ j, ¬ Dn (Array.replicate ops.size false) j := fun j c => by
    unfold Dn at c
    simp only [Array.getD_eq_getD_getElem?] at c
    by_cases hj : j < ops.size
    · simp [hj] at c
    · simp [hj] at c
  refine Has.any (X0 := X) (s0 := s) (w0 := w) (l := planOf P ops.toList) (K := K) (N := a.tmps.size) hE (fun st h => plan_mem h) (fun x hx y hy => allB_iff (allB_iff h4 x hx) y hy) h3 hq _ _ _ _ ⟨[], planOf P ops.toList, 0, 0, X, aa, s, [], fun _ => 0, ?_⟩ (by unfold left; simp)
  exact { eq := rfl, dm := fun j => (by simp [has_zero]), chk := h3, walk := h2, rel := hR.drew, ext := Ext.drew X s w, asz := rfl, lsz := (by simp), defers := ha.defers, naa := ha.regs.1, closed := fun st _ h => absurd h (hd _), maskd := fun st h => (by cases h), loud := fun st h => (by cases h), im := fun x v hv => (by
      obtain ⟨u, k1, k2⟩ := ha.regs.2 x v hv
      exact ⟨(Array.getElem?_eq_some_iff.1 k1).1, u, k2⟩), regs := fun x v hv => .inl (ha.regs.2 x v hv), pendA := fun p h => (by cases h), pend := fun st h => (by cases h), early := fun st _ h => absurd h (hd _), inj := fun st _ _ _ h => absurd h (hd _) }

end
end Go.Proofs.YtkpfafehcmammaaGreatDoor
namespace Go.Proofs.YtkpfafehcmammaaGreatDoor
open Go.Deep

section
variable {P : Program} {T : Tab} {e : Env} {r : Option Nat}

theorem skip_ok : CodeOK P T e r .skip := fun aa a X s w _ _ _ _ h hR ha hn _ => wpIn_skip (hn X aa s a w h hR (Ext.refl X s w) ha)
theorem label_ok {l : Nat} : CodeOK P T e r (.label l) := fun aa a X s w _ _ _ _ h hR ha hn _ => wpIn_label (hn X aa s a w h hR (Ext.refl X s w) ha)
theorem exit_ok {id : Nat} : CodeOK P T e r (.exit id) := fun aa a X s w _ _ _ _ h hR ha _ hx => wpIn_exit (hx _ X aa s a w h hR (Ext.refl X s w) ha (by simp))
theorem ret_ok : CodeOK P T e r .ret := fun aa a X s w _ _ _ _ h hR ha _ hx => wpIn_ret (hx _ X aa s a w h hR (Ext.refl X s w) ha (by simp))

theorem seq_ok {x y : Code} (ihx : CodeOK P T e r x) (ihy : CodeOK P T e r y) : CodeOK P T e r (.seq x y) := fun aa a X s w Kn Kx Q hE h hR ha hn hx => by
  refine wpIn_seq (ihx aa a X s w (fun a s => evCode y P T e a s Kn Kx) Kx _ hE h hR ha (fun Y aa' s' a' w' k1 k2 k3 k4 => ?_) (fun x Y aa' s' a' w' k1 k2 k3 k4 k5 => ?_))
  · exact ihy aa' a' Y s' w' Kn Kx Q (by rw [k3.le.ρ]; exact hE) k1 k2 k4 (fun Z aa2 s2 a2 w2 q1 q2 q3 q4 => hn Z aa2 s2 a2 w2 q1 q2 (k3.trans q3) q4) (fun x Z aa2 s2 a2 w2 q1 q2 q3 q4 q5 => hx x Z aa2 s2 a2 w2 q1 q2 (k3.trans q3) q4 q5)
  · have := hx x Y aa' s' a' w' k1 k2 k3 k4 k5
    cases x <;> first | exact absurd rfl k5 | exact this

theorem cond_ok {c : Operand} {x y : Code} (ihx : CodeOK P T e r x) (ihy : CodeOK P T e r y) : CodeOK P T e r (.cond c x y) := fun aa a X s w Kn Kx Q hE h hR ha hn hx => by
  obtain ⟨v, h1, h2⟩ := opd_ex hR ha.gr (K := fun v => vBool v (fun b => ife b (evCode x P T e aa s Kn Kx) (evCode y P T e aa s Kn Kx))) h
  obtain ⟨b, rfl, h3⟩ := vBool_ex h1
  rw [VR_bool] at h2
  rcases ife_ex h3 with ⟨rfl, h4⟩ | ⟨rfl, h4⟩
  · exact wpIn_cond_true h2 (ihx aa a X s w Kn Kx Q hE h4 hR ha hn hx)
  · exact wpIn_cond_false h2 (ihy aa a X s w Kn Kx Q hE h4 hR ha hn hx)

theorem block_ok {id : Nat} {x : Code} (ih : CodeOK P T e r x) : CodeOK P T e r (.block id x) := fun aa a X s w Kn Kx Q hE h hR ha hn hx => by
  refine wpIn_block (ih aa a X s w Kn (blockX id Kn Kx) _ hE h hR ha (fun Y aa' s' a' w' k1 k2 k3 k4 => hn Y aa' s' a' w' k1 k2 k3 k4) (fun x Y aa' s' a' w' k1 k2 k3 k4 k5 => ?_))
  cases x with
  | normal => exact absurd rfl k5
  | exit i =>
    have k1' : ife (Nat.beq i id) (Kn aa' s') (Kx (.exit i) aa' s') := k1
    rcases ife_ex k1' with ⟨e1, h1⟩ | ⟨e1, h1⟩
    · have := Nat.eq_of_beq_eq_true e1
      subst this
      simp only [Exit.inBlock, if_true]
      exact hn Y aa' s' a' w' h1 k2 k3 k4
    · have hne : ¬ i = id := fun c => by subst c; rw [beq_eq] at e1; simp at e1
      simp only [Exit.inBlock, hne, if_false]
      exact hx _ Y aa' s' a' w' h1 k2 k3 k4 (by simp)
  | goto l => exact hx _ Y aa' s' a' w' k1 k2 k3 k4 (by simp)
  | ret => exact hx _ Y aa' s' a' w' k1 k2 k3 k4 (by simp)
  | panic c => exact hx _ Y aa' s' a' w' k1 k2 k3 k4 (by simp)
  | outgrown => exact hx _ Y aa' s' a' w' k1 k2 k3 k4 (by simp)

theorem loop_ok {x : Code} (ih : CodeOK P T e r x) : CodeOK P T e r (.loop x) := fun aa a X s w Kn Kx Q hE h hR ha _ hx => by
  have h' : evLoop 100000 (evCode x P T e) aa s Kx := h
  refine loop_ind (fun n a' w' => ∃ Y aa' s', evLoop n (evCode x P T e) aa' s' Kx ∧ Rel Y s' w' ∧ Ext X s w Y s' w' ∧ AAR Y aa' a') 100000 ⟨X, aa, s, h', hR, Ext.refl X s w, ha⟩ (fun a w ⟨_, _, _, h, _⟩ => h) ?_
  rintro n a' w' ⟨Y, aa', s', k1, k2, k3, k4⟩
  have k1' : evCode x P T e aa' s' (fun a s => evLoop n (evCode x P T e) a s Kx) Kx := k1
  refine ih aa' a' Y s' w' _ Kx _ (by rw [k3.le.ρ]; exact hE) k1' k2 k4 (fun Z aa2 s2 a2 w2 q1 q2 q3 q4 => ⟨Z, aa2, s2, q1, q2, k3.trans q3, q4⟩) (fun x Z aa2 s2 a2 w2 q1 q2 q3 q4 q5 => ?_)
  have := hx x Z aa2 s2 a2 w2 q1 q2 (k3.trans q3) q4 q5
  cases x <;> first | exact absurd rfl q5 | exact this

theorem reg_ok {id : Nat} {ops : Array Oper} {d : Bool} : CodeOK P T e r (.region id ops d) := fun aa a X s w Kn Kx Q hE h hR ha hn _ => by
  have h' : ife d (evDrawn ops P T e aa s Kn) (evOps ops.toList P T e ops.toList aa s Kn) := h
  rcases ife_ex h' with ⟨rfl, h1⟩ | ⟨rfl, h1⟩
  · exact drawn_wp hE h1 hR ha hn
  · exact region_wp hE h1 hR ha hn

end
end Go.Proofs.YtkpfafehcmammaaGreatDoor
namespace Go.Proofs.YtkpfafehcmammaaGreatDoor
open Go.Deep

/-- Deferred calls that do nothing when their caller returns. -/
def NoopOK (P : Program) (noop : FuncId → Bool) : Prop :=
  ∀ f, noop f = true → ∀ (args : Array Value) (w : World), (∃ fn c, P.funcs[f]? = some fn ∧ fn.body = some c) ∧
    CallsDIn Fence.wide 0 P f args .returning w (fun e u w' => (∃ v, e = .returned v) ∧ u = .returning ∧ (w'.os = w.os ∧ w'.output = w.output) ∧ w.heap.size ≤ w'.heap.size ∧ ∀ b, b < w.heap.size → w'.heap[b]? = w.heap[b]?)

section
variable {P : Program} {T : Tab} {e : Env} {X : Cx} {s : AS} {w : World} {r : Option Nat}

theorem defers_ok (hP : ProgOK P) {noop : FuncId → Bool} (hN : NoopOK P noop) {fn : Func} {tmps : Array Value} {R : Ending → World → Prop} : ∀ {ds cds : List Deferred} {s : AS} {w : World} {K : KS}, evDefers ds noop s K → Rel X s w → DR X ds cds →
    (∀ s' w', K s' → Rel X s' w' → Ext X s w X s' w' → ∃ v, (Go.results fn tmps).run P w' = .ok v w' ∧ R (.returned v) w') → LeavesInM Fence.wide 0 P fn tmps R cds .returning w := by
  intro ds
  induction ds with
  | nil =>
    intro cds s w K h hR hd hk
    cases hd
    exact hk s w h hR (Ext.refl X s w)
  | cons d ds ih =>
    intro cds s w K h hR hd hk
    obtain ⟨d', ds', rfl, h1, h2⟩ := hd
    have h' : match d.target with
      | .collected id => gb s.h id (fun b => asD b (fun t => ife t False (setB s.h id (.inr (.inr (.inr true))) (fun h => evDefers ds noop ⟨h, s.nx⟩ K))))
      | .fn (.func f) _ => yes (noop f) (evDefers ds noop s K)
      | _ => False := h
    unfold D1 at h1
    refine ⟨by simp, ?_⟩
    split at h1
    · rename_i f c hc
      rw [hc] at h'
      obtain ⟨h3, h4⟩ := yes_ex h'
      obtain ⟨c', h5, h6, h7⟩ := h1
      obtain ⟨⟨gn, gc, hf, hb⟩, hcall⟩ := hN f h3 (d'.args ++ c') w
      refine .inr ⟨(fun h => by cases h), .func f, c', f, d'.args ++ c', h5, ?_, fun _ _ => trivial, ?_⟩
      · rw [h5]; simp [invoke, callFunc_run hP hf hb]
      · refine CallsDIn.mono hcall (fun e u w' ⟨⟨v, k1⟩, k2, kio, k3, k4⟩ => ?_)
        subst k1; subst k2
        obtain ⟨r1, r2⟩ := hR.grow k3 k4 kio
        exact ih h4 r1 h2 (fun s' w2 q1 q2 q3 => hk s' w2 q1 q2 (r2.trans q3))
    · rename_i id hc
      rw [hc] at h'
      obtain ⟨b, h3, h4⟩ := gb_ex h'
      obtain ⟨t, rfl, h5⟩ := asD_ex h4
      rcases ife_ex h5 with ⟨_, h6⟩ | ⟨e1, h6⟩
      · exact h6.elim
      · subst e1
        obtain ⟨h'', h7, h8⟩ := setB_ex h6
        obtain ⟨h9, rfl⟩ := h1
        obtain ⟨dd, h10, h11⟩ := (hR.blk id _ h3).2
        have h12 := h11 rfl
        subst h12
        have hlt := (Array.getElem?_eq_some_iff.1 h10).1
        obtain ⟨r1, r2⟩ := hR.upd (w' := { w with heap := w.heap.setIfInBounds (X.j id).b (.deferred none) }) h3 rfl h7 (fun q hq => by simp [Array.getElem?_setIfInBounds_ne (fun e => hq e.symm)]) (by simp) (b' := .inr (.inr (.inr true))) ⟨none, by simp [hlt], fun e => by cases e⟩
        refine .inl ⟨(X.j id).b, _, rfl, ?_, ih h8 r1 h2 (fun s' w2 q1 q2 q3 => hk s' w2 q1 q2 (r2.trans q3))⟩
        simp [Instr.takeDeferred, getObj, setObj, Sem.run, h10]
    · exact h1.elim

theorem results_ex {regs : TV} {n : Nat} {tmps : Array Value} (hR : Rel X s w) (hr : RR X regs n tmps) : ∀ {l : List ResultVar} {K : List Value → Prop}, results l P s.h (gv regs) K → ∃ vs us, K vs ∧ VRl X vs us ∧ (l.mapM (m := Sem) fun | .tmp t => pure (tmps.getD t undef) | .cell a t => do loadVar t (← asAddr (tmps.getD a undef))).run P w = .ok us w := by
  intro l
  induction l with
  | nil => intro K h; exact ⟨[], [], h, rfl, rfl⟩
  | cons x l ih =>
    intro K h
    have hget : ∀ t v, getT regs t = some v → VR X v (tmps.getD t undef) := fun t v hv => by
      obtain ⟨u, h1, h2⟩ := hr.2 t v hv
      have : tmps.getD t undef = u := by simp [Array.getD_eq_getD_getElem?, h1]
      rw [this]; exact h2
    have h0 : resV P s.h (gv regs) x (fun v => results l P s.h (gv regs) (fun vs => K (v :: vs))) := h
    cases x with
    | tmp t =>
      obtain ⟨v, h1, h2⟩ := gv_ex h0
      obtain ⟨vs, us, h3, h4, h5⟩ := ih h2
      refine ⟨_, _, h3, ⟨_, _, rfl, hget t v h1, h4⟩, ?_⟩
      simp only [List.mapM_cons, Sem.run_bind, Sem.run_pure, Result.andThen, h5]
    | cell p t =>
      obtain ⟨v, h1, h2⟩ := gv_ex h0
      obtain ⟨id, off, rfl, h3⟩ := vPtr_ex h2
      obtain ⟨v, u, h4, h5, h6⟩ := loadV_ex (P := P) hR h3
      obtain ⟨vs, us, h7, h8, h9⟩ := ih h4
      obtain ⟨_, h10⟩ := VR_ptr.1 (hget p _ h1)
      refine ⟨_, _, h7, ⟨_, _, rfl, h6, h8⟩, ?_⟩
      have hadr : (asAddr (tmps.getD p undef)).run P w = .ok ⟨(X.j id).b, (X.j id).base + off, none⟩ w := by rw [h10]; rfl
      simp only [List.mapM_cons, Sem.run_bind, hadr, Result.andThen, h5, h9, Sem.run_pure]

theorem tup_VR {vs us : List Value} (h : VRl X vs us) : VR X (tup vs) (if h : us.toArray.size = 1 then us.toArray[0] else .tuple us.toArray) := by
  have hl := h.length
  match vs, us, h with
  | [v], us, h =>
    obtain ⟨u, us', h1, h2, h3⟩ := VRl_cons.1 h
    rw [VRl_nil] at h3
    subst h3; subst h1
    simpa [tup] using h2
  | [], us, h =>
    rw [VRl_nil] at h; subst h
    exact ⟨_, rfl, rfl⟩
  | v :: v' :: vs, us, h =>
    have hne : ¬ us.toArray.size = 1 := by simp at hl ⊢; omega
    rw [dif_neg hne]
    exact VR_tuple.2 ⟨_, rfl, by simpa using h⟩

theorem results_run {fn : Func} {regs : TV} {n : Nat} {tmps : Array Value} {K : List Value → Prop} (hR : Rel X s w) (hr : RR X regs n tmps) (h : results fn.results.toList P s.h (gv regs) K) : ∃ vs u, K vs ∧ VR X (tup vs) u ∧ (Go.results fn tmps).run P w = .ok u w := by
  obtain ⟨vs, us, h1, h2, h3⟩ := results_ex (P := P) hR hr h
  refine ⟨vs, _, h1, tup_VR h2, ?_⟩
  unfold Go.results
  rw [Sem.run_bind, Array.mapM_eq_mapM_toList, Sem.run_map]
  have key : ∀ g : ResultVar → Sem Value, (∀ x, g x = match x with | .tmp t => pure (tmps.getD t undef) | .cell a t => do loadVar t (← asAddr (tmps.getD a undef))) → (fn.results.toList.mapM g).run P w = .ok us w := fun g hg => by
    rw [show g = _ from funext hg]; exact h3
  rw [key _ (fun x => by cases x <;> rfl)]
  rfl

theorem setArgs_ex : ∀ {vs us : List Value} {i : Nat} {t : TV} {K : TV → Prop}, VRl X vs us → setArgs vs i t K → ∃ t', K t' ∧ ∀ m v, getT t' m = some v → (∃ u, i ≤ m ∧ us[m - i]? = some u ∧ VR X v u) ∨ getT t m = some v := by
  intro vs
  induction vs with
  | nil => intro us i t K _ h; exact ⟨t, h, fun m v hv => .inr hv⟩
  | cons v vs ih =>
    intro us i t K hl h
    obtain ⟨u, us, rfl, h1, h2⟩ := VRl_cons.1 hl
    obtain ⟨t1, h3, h4⟩ := setV_ex (K := fun t => setArgs vs (Nat.succ i) t K) h
    obtain ⟨t2, h5, h6⟩ := ih h2 h4
    refine ⟨t2, h5, fun m x hx => ?_⟩
    rcases h6 m x hx with ⟨y, h7, h8, h9⟩ | h7
    · refine .inl ⟨y, by omega, ?_, h9⟩
      have : m - i = (m - Nat.succ i) + 1 := by omega
      rw [this]; exact h8
    · rw [h3 m] at h7
      split at h7
      · rename_i e1; subst e1; cases h7; exact .inl ⟨u, Nat.le_refl _, by simp, h1⟩
      · exact .inr h7

/-- A call, from its code. -/
theorem callIn_ok (hE : EnvOK P X.ρ T e none) (hN : NoopOK P e.noop) (hcode : ∀ c, CodeOK P T e none c) {f : FuncId} {args us : List Value} {K : KVS} (h : callIn P T e s f args K) (hR : Rel X s w) (hl : VRl X args us) :
    (∃ fn c, P.funcs[f]? = some fn ∧ fn.body = some c) ∧ CallsIn Fence.wide 0 P f us.toArray w (Post X s w K) := by
  obtain ⟨fn, h1, h2⟩ := ok_ex h
  obtain ⟨c, h3, h4⟩ := ok_ex h2
  refine ⟨⟨fn, c, h1, h3⟩, ?_⟩
  obtain ⟨t, h5, h6⟩ := setArgs_ex hl h4
  have ha : AAR X ⟨t, fn.ntmps, []⟩ { tmps := us.toArray ++ Array.replicate (fn.ntmps - us.toArray.size) undef, defers := [] } := by
    refine ⟨⟨by simp; omega, fun m v hv => ?_⟩, rfl⟩
    rcases h6 m v hv with ⟨u, _, h7, h8⟩ | h7
    · refine ⟨u, ?_, h8⟩
      rw [Nat.sub_zero] at h7
      rw [Array.getElem?_append_left (by simpa using (List.getElem?_eq_some_iff.1 h7).1)]
      simpa using h7
    · rw [getT_nil] at h7; cases h7
  have fin : ∀ Y aa' s' a' w', leave P e fn aa' s' K → Rel Y s' w' → Ext X s w Y s' w' → AAR Y aa' a' → LeavesInM Fence.wide 0 P fn a'.tmps (Post X s w K) a'.defers .returning w' := fun Y aa' s' a' w' k1 k2 k3 k4 => by
    refine defers_ok hE.prog hN k1 k2 k4.defers (fun s2 w2 q1 q2 q3 => ?_)
    obtain ⟨vs, u, q4, q5, q6⟩ := results_run (P := P) q2 k4.regs q1
    exact ⟨u, q6, _, s2, Y, u, rfl, q4, q2, k3.trans q3, q5⟩
  refine callsIn_of_wp_marks h1 h3 trivial ?_
  refine hcode c ⟨t, fn.ntmps, []⟩ _ X s w (fun a s => leave P e fn a s K) (fun x a s => leaveX x (leave P e fn a s K)) (bodyPostM Fence.wide 0 P fn (Post X s w K)) hE h5 hR ha (fun Y aa' s' a' w' k1 k2 k3 k4 => fin Y aa' s' a' w' k1 k2 k3 k4) (fun x Y aa' s' a' w' k1 k2 k3 k4 _ => ?_)
  cases x <;> first | exact k1.elim | exact fin Y aa' s' a' w' k1 k2 k3 k4

end
end Go.Proofs.YtkpfafehcmammaaGreatDoor
namespace Go.Proofs.YtkpfafehcmammaaGreatDoor
open Go.Deep

section
variable {P : Program} {T : Tab} {e : Env} {X : Cx} {s : AS} {w : World} {r : Option Nat}

theorem getLoop_run {l : Nat} {lp : Loop} (h : w.heap[l]? = some (.loop lp)) : (Instr.getLoop l).run P w = .ok lp w := by simp [Instr.getLoop, getObj, Sem.run, h]
theorem setLoop_run {l : Nat} {lp lp' : Loop} (h : w.heap[l]? = some (.loop lp)) : (setObj l (.loop lp')).run P w = .ok () { w with heap := w.heap.setIfInBounds l (.loop lp') } := by simp [setObj, Sem.run, h]

/-- A loop's record turns. -/
theorem upd_loop (hR : Rel X s w) {l : Nat} {lb : LB} {lp : Loop} {st : LoopState} {p : Option Code} {h' : TB} (hl : getT s.h l = some (.inr (.inr (.inl lb)))) (hlp : w.heap[(X.j l).b]? = some (.loop lp)) (hp : Put s.h h' l (some (.inr (.inr (.inl ⟨st, p, lb.regs, lb.n, lb.params, lb.assign, lb.body⟩))))) :
    Rel X ⟨h', s.nx⟩ { w with heap := w.heap.setIfInBounds (X.j l).b (.loop { lp with state := st, pending := p }) } ∧ Ext X s w X ⟨h', s.nx⟩ { w with heap := w.heap.setIfInBounds (X.j l).b (.loop { lp with state := st, pending := p }) } := by
  have hlt := (Array.getElem?_eq_some_iff.1 hlp).1
  obtain ⟨lp', h1, h2, h3, h4, h5, h6, h7⟩ := (hR.blk l _ hl).2
  rw [hlp] at h1
  cases h1
  exact hR.upd hl rfl hp (fun q hq => by simp [Array.getElem?_setIfInBounds_ne (fun e => hq e.symm)]) (by simp) ⟨{ lp with state := st, pending := p }, by simp [hlt], rfl, rfl, h4, h5, h6, h7⟩

theorem Fw_none : Fw none = Fence.wide := rfl

theorem range_ok {g : Operand} {ps : Array Tmp} {assign body : Code} : CodeOK P T e r (.rangeFunc g ps assign body) := fun aa a X s w Kn Kx Q hE h hR ha hn hx => by
  have h0 : opd g (gv aa.regs) (fun v => ife e.rnd False (newB s (.inr (.inr (.inr false))) (fun s' => rangeIn e ⟨aa.regs, aa.n, { target := .collected s.nx, args := #[] } :: aa.defers⟩ s' v ps.toList assign body Kn Kx))) := h
  obtain ⟨v, h1, h2⟩ := opd_ex hR ha.gr h0
  rcases ife_ex h1 with ⟨_, h3⟩ | ⟨e1, h3⟩
  · exact h3.elim
  have hr : r = none := by
    have := hE.rnd
    rw [e1] at this
    cases r with
    | none => rfl
    | some _ => cases this
  subst hr
  obtain ⟨h4, h5, h6⟩ := newB_ex h3
  obtain ⟨q, x, c, rfl, h7⟩ := (vFn_ex h6).resolve_right (fun ⟨_, _, _, _, h7⟩ => h7)
  obtain ⟨h8, h9, h10⟩ := newB_ex (s := ⟨h4, Nat.succ s.nx⟩) h7
  have h10 := appV_ex h10
  obtain ⟨x', y', h11, h12, h13⟩ := VR_func.1 h2
  -- the two new blocks
  obtain ⟨r1, r2⟩ := hR.new (o := .deferred (some [])) (L := ⟨w.heap.size, 0, 0⟩) rfl h5 (b := .inr (.inr (.inr false))) ⟨_, heap_alloc_new w _, fun _ => rfl⟩
  refine wpIn_rangeFunc (fun fn _ => ?_)
  let lp : Loop := { state := .ready, pending := none, fn := fn, tmps := a.tmps, params := ps, assign := assign, body := body, defers := w.heap.size }
  let X1 := X.put ⟨w.heap.size, 0, 0⟩
  let X2 := X1.put ⟨w.heap.size + 1, 0, 0⟩
  let w1 := (w.alloc (.deferred (some []))).alloc (.loop lp)
  have hle1 : X.le X1 := X.put_le _
  have hle2 : X1.le X2 := X1.put_le _
  obtain ⟨r3, r4⟩ := r1.new (o := .loop lp) (L := ⟨w.heap.size + 1, 0, 0⟩) (by simp) h9 (b := .inr (.inr (.inl ⟨.ready, none, aa.regs, aa.n, ps.toList, assign, body⟩)))
    ⟨lp, by rw [show w.heap.size + 1 = (w.alloc (.deferred (some []))).heap.size by simp]; exact heap_alloc_new _ _, rfl, rfl, (ha.mono (hle1.trans hle2)).regs, rfl, rfl, rfl⟩
  have hnx1 : X1.nx = Nat.succ s.nx := r1.nx
  have hj2 : (X2.j (Nat.succ s.nx)).b = w.heap.size + 1 := by rw [← hnx1]; simp [X2, Cx.put_at]
  have hj1 : (X2.j s.nx).b = w.heap.size := by
    rw [hle2.j s.nx (by rw [hnx1]; exact Nat.lt_succ_self _), ← hR.nx, X.put_at]
  have hargs : VRl X2 (x ++ (.func (.yield (Nat.succ s.nx)) #[] #[] :: c)) (x'.toList ++ (.func (.yield (w.heap.size + 1)) #[] #[] :: y'.toList)) := by
    have hlt2 : Nat.succ s.nx < X2.nx := by rw [← hnx1]; simp [X2, Cx.put]
    exact (h12.mono (hle1.trans hle2)).append ⟨_, _, rfl, (VR_yield (a := #[]) (c := #[])).2 ⟨hlt2, by rw [hj2]⟩, h13.mono (hle1.trans hle2)⟩
  obtain ⟨⟨fq, cq, hf, hb⟩, hcall⟩ := hE.call _ q _ _ X2 w1 _ rfl h10 r3 hargs
  have harr : (x' ++ #[Value.func (.yield (w.heap.size + 1)) #[] #[]]) ++ y' = (x'.toList ++ (.func (.yield (w.heap.size + 1)) #[] #[] :: y'.toList)).toArray := by
    apply Array.ext'
    simp
  refine ⟨w.heap.size + 1, [{ target := .collected w.heap.size, args := #[] }], w1, { target := .fn (.func q) y', args := x' ++ #[.func (.yield (w.heap.size + 1)) #[] #[]] }, w1, q, (x'.toList ++ (.func (.yield (w.heap.size + 1)) #[] #[] :: y'.toList)).toArray, w1, ?_, ?_, fun _ _ => trivial, ?_, (fun h => by cases h), ?_⟩
  · change (Instr.enterLoop fn a.tmps ps assign body none).run P w = _
    simp [Instr.enterLoop, w1, lp]
  · have hcv : a.eval (.const (.func (.yield (w.heap.size + 1)) #[] #[])) = .func (.yield (w.heap.size + 1)) #[] #[] := rfl
    simp [resolve, h11, Deferred.ofValue, hcv]
  · simp only [invoke]; rw [callFunc_run hE.prog hf hb, harr]
  · refine CallsIn.mono hcall (fun e' w3 ⟨v, s3, Y, u, k1, k2, k3, k4, k5⟩ => ?_)
    subst k1
    obtain ⟨b, q1, q2⟩ := gb_ex k2
    obtain ⟨lb, rfl, q3⟩ := asL_ex q2
    obtain ⟨q4, q5⟩ := yes_ex q3
    obtain ⟨h', q6, q7⟩ := setB_ex q5
    obtain ⟨lp3, c1, c2, c3, c4, c5, c6, c7⟩ := (k3.blk _ _ q1).2
    have hjY : (Y.j (Nat.succ s.nx)).b = w.heap.size + 1 := by
      rw [k4.le.j _ (by rw [← hnx1]; simp [X2, Cx.put]), hj2]
    have hjY0 : (Y.j s.nx).b = w.heap.size := by
      rw [k4.le.j _ (by rw [← hR.nx]; simp [X2, X1, Cx.put]; omega), hj1]
    obtain ⟨u1, u2⟩ := upd_loop k3 q1 c1 q6
    have hnb : (lp3.state == .busy) = false := by
      rw [c2]
      unfold loopDone at q4
      split at q4
      · cases q4
      · rename_i hne; cases hs : lb.st <;> simp_all
    have hend : (Instr.endLoop (w.heap.size + 1)).run P w3 = .ok lb.pend { w3 with heap := w3.heap.setIfInBounds (w.heap.size + 1) (.loop { lp3 with state := .exhausted }) } := by
      rw [hjY] at c1
      simp only [Instr.endLoop, Sem.run_bind, getLoop_run c1, Result.andThen, hnb, Bool.false_eq_true, if_false, setLoop_run c1, Sem.run_pure, c3]
    have hpend : ({ lp3 with state := .exhausted } : Loop) = { lp3 with state := .exhausted, pending := lb.pend } := by rw [← c3]
    rw [hpend, ← hjY] at hend
    rw [hjY] at hend
    have hext : Ext X s w Y ⟨h', s3.nx⟩ { w3 with heap := w3.heap.setIfInBounds (Y.j (Nat.succ s.nx)).b (.loop { lp3 with state := .exhausted, pending := lb.pend }) } := ((r2.trans r4).trans k4).trans u2
    have haa : AAR Y ⟨aa.regs, aa.n, { target := .collected s.nx, args := #[] } :: aa.defers⟩ { a with defers := [{ target := .collected w.heap.size, args := #[] }] ++ a.defers } := by
      have hXY := (hle1.trans hle2).trans k4.le
      refine ⟨(ha.mono hXY).regs, _, _, rfl, ⟨?_, by rw [hjY0]⟩, (ha.mono hXY).defers⟩
      have := hXY.nx
      have h14 := k4.le.nx
      have : X2.nx = s.nx + 2 := by simp [X2, X1, Cx.put, hR.nx]
      omega
    rw [hjY] at u1 hext
    refine ⟨lb.pend, _, hend, ?_⟩
    cases hpd : lb.pend with
    | none =>
      rw [hpd] at q7 u1 hext
      exact hn Y _ _ _ _ q7 u1 hext haa
    | some c =>
      rw [hpd] at q7 u1 hext
      cases c with
      | ret => exact wpIn_ret (hx _ Y _ _ _ _ q7 u1 hext haa (by simp))
      | exit id => exact wpIn_exit (hx _ Y _ _ _ _ q7 u1 hext haa (by simp))
      | _ => exact q7.elim

theorem code_ok : ∀ c : Code, CodeOK P T e r c
  | .skip => skip_ok
  | .region _ _ _ => reg_ok
  | .seq x y => seq_ok (code_ok x) (code_ok y)
  | .cond _ x y => cond_ok (code_ok x) (code_ok y)
  | .block _ x => block_ok (code_ok x)
  | .loop x => loop_ok (code_ok x)
  | .rangeFunc _ _ _ _ => range_ok
  | .exit _ => exit_ok
  | .scope _ => fun _ _ _ _ _ _ _ _ _ h => h.elim
  | .label _ => label_ok
  | .goto _ => fun _ _ _ _ _ _ _ _ _ h => h.elim
  | .ret => ret_ok
  | .refuse _ => fun _ _ _ _ _ _ _ _ _ h => h.elim

end
end Go.Proofs.YtkpfafehcmammaaGreatDoor
namespace Go.Proofs.YtkpfafehcmammaaGreatDoor
open Go.Deep

section
variable {P : Program} {T : Tab} {e : Env} {X : Cx} {s : AS} {w : World}

theorem setPar_ex {n : Nat} : ∀ {ps : List Tmp} {vs us : List Value} {t : TV} {tmps : Array Value} {K : TV → Prop}, VRl X vs us → RR X t n tmps → setPar ps vs t n K →
    ∃ t', K t' ∧ ps.length = us.length ∧ RR X t' n ((ps.zip us).foldl (fun tmps (p : Tmp × Value) => tmps.setIfInBounds p.1 p.2) tmps) := by
  intro ps
  induction ps with
  | nil =>
    intro vs us t tmps K hl hr h
    cases vs with
    | nil => rw [VRl_nil] at hl; subst hl; exact ⟨t, h, rfl, hr⟩
    | cons => exact h.elim
  | cons p ps ih =>
    intro vs us t tmps K hl hr h
    cases vs with
    | nil => exact h.elim
    | cons v vs =>
      obtain ⟨u, us, rfl, h1, h2⟩ := VRl_cons.1 hl
      obtain ⟨h3, h4⟩ := yes_ex (b := Nat.blt p n) (K := setV t p v (fun t => setPar ps vs t n K)) h
      obtain ⟨t1, h5, h6⟩ := setV_ex h4
      have hp := blt_iff.1 h3
      have hr1 : RR X t1 n (tmps.setIfInBounds p u) := by
        refine ⟨by simpa using hr.1, fun i x hx => ?_⟩
        have := hr.1
        rw [h5 i] at hx
        split at hx
        · rename_i e1; subst e1; cases hx; exact ⟨u, by rw [Array.getElem?_setIfInBounds_self_of_lt (by omega)], h1⟩
        · rename_i e1
          obtain ⟨y, h7, h8⟩ := hr.2 i x hx
          exact ⟨y, by rw [Array.getElem?_setIfInBounds_ne (fun c => e1 c.symm)]; exact h7, h8⟩
      obtain ⟨t', h7, h8, h9⟩ := ih h2 hr1 h6
      exact ⟨t', h7, by simp [h8], h9⟩

theorem beginRound_ex (hR : Rel X s w) {l : Nat} {K : KS} (h : beginRound s l K) : ∃ s' w', K s' ∧ (Instr.beginRound (X.j l).b).run P w = .ok () w' ∧ Rel X s' w' ∧ Ext X s w X s' w' := by
  obtain ⟨b, q1, q2⟩ := gb_ex h
  obtain ⟨lb, rfl, q3⟩ := asL_ex q2
  obtain ⟨q4, q5⟩ := yes_ex q3
  obtain ⟨h', q6, q7⟩ := setB_ex q5
  obtain ⟨lp, c1, c2, c3, _⟩ := (hR.blk _ _ q1).2
  obtain ⟨u1, u2⟩ := upd_loop hR q1 c1 q6
  have hst : lp.state = .ready := by
    rw [c2]
    unfold isReady at q4
    split at q4
    · assumption
    · cases q4
  have hpd : ({ lp with state := .busy } : Loop) = { lp with state := .busy, pending := lb.pend } := by rw [← c3]
  refine ⟨_, _, q7, ?_, u1, u2⟩
  simp only [Instr.beginRound, Sem.run_bind, getLoop_run c1, Result.andThen, setLoop_run c1, hst]
  rw [hpd]; rfl

theorem putL_ex (hR : Rel X s w) {l : Nat} {st : LoopState} {p : Option Code} {K : KS} (h : putL s l st p K) : ∃ s' w' lp, K s' ∧ w.heap[(X.j l).b]? = some (.loop lp) ∧ w' = { w with heap := w.heap.setIfInBounds (X.j l).b (.loop { lp with state := st, pending := p }) } ∧ Rel X s' w' ∧ Ext X s w X s' w' := by
  obtain ⟨b, q1, q2⟩ := gb_ex h
  obtain ⟨lb, rfl, q3⟩ := asL_ex q2
  obtain ⟨h', q6, q7⟩ := setB_ex q3
  obtain ⟨lp, c1, _⟩ := (hR.blk _ _ q1).2
  obtain ⟨u1, u2⟩ := upd_loop hR q1 c1 q6
  exact ⟨_, _, lp, q7, c1, rfl, u1, u2⟩

theorem endRound_run {l : Nat} {lp : Loop} {j : Option Code} (h : w.heap[l]? = some (.loop lp)) : (Instr.endRound l j).run P w = .ok (.bool j.isNone) { w with heap := w.heap.setIfInBounds l (.loop { lp with state := if j.isNone then .ready else .done, pending := j }) } := by
  simp only [Instr.endRound, Sem.run_bind, getLoop_run h, Result.andThen, setLoop_run h, Sem.run_pure]

/-- A round, from its code. -/
theorem roundIn_ok (hE : ∀ r : Nat, EnvOK P X.ρ T e (some r)) {l : Nat} {args us : List Value} {K : KVS} (h : roundIn P T e s l args K) (hR : Rel X s w) (hl : VRl X args us) :
    ∃ lp : Loop, w.heap[(X.j l).b]? = some (.loop lp) ∧ lp.params.size = us.length ∧
      RoundIn Fence.wide 0 P (X.j l).b lp.fn ((lp.params.zip us.toArray).foldl (fun tmps (p : Tmp × Value) => tmps.setIfInBounds p.1 p.2) lp.tmps) lp.assign lp.body w (Post X s w K) := by
  obtain ⟨b, q1, q2⟩ := gb_ex h
  obtain ⟨lb, rfl, q3⟩ := asL_ex q2
  obtain ⟨hlt, lp, c1, c2, c3, c4, c5, c6, c7⟩ := hR.blk _ _ q1
  rw [← c5] at q3
  obtain ⟨t, q4, q5, q6⟩ := setPar_ex hl c4 q3
  have hsz : lp.params.size = us.length := by simpa using q5
  refine ⟨lp, c1, hsz, ?_⟩
  have hfold : (lp.params.zip us.toArray).foldl (fun tmps (p : Tmp × Value) => tmps.setIfInBounds p.1 p.2) lp.tmps = (lp.params.toList.zip us).foldl (fun tmps (p : Tmp × Value) => tmps.setIfInBounds p.1 p.2) lp.tmps := by
    rw [← Array.foldl_toList]; simp
  rw [hfold, c6, c7]
  refine roundIn_of_wpIn (F := Fence.wide) trivial ?_
  change lb.assign.wpIn (Fw (some (X.j l).b)) 0 P _ _ w
  refine code_ok (P := P) (T := T) (e := e) (r := some (X.j l).b) lb.assign ⟨t, lb.n, []⟩ _ X s w _ (fun _ _ _ => False) _ (hE _) q4 hR ⟨q6, rfl⟩ (fun Y aa1 s1 a1 w1 k1 k2 k3 k4 => ?_) (fun x Y aa1 s1 a1 w1 k1 _ _ _ _ => k1.elim)
  have hjY : (Y.j l).b = (X.j l).b := by rw [k3.le.j l hlt]
  obtain ⟨s2, w2, k5, k6, k7, k8⟩ := beginRound_ex (P := P) k2 k1
  rw [hjY] at k6
  refine ⟨w2, k6, ?_⟩
  change lb.body.wpIn (Fw (some (X.j l).b)) 0 P _ _ w2
  have fin : ∀ (j : Option Code) (Z : Cx) (s3 : AS) (w3 : World) (K' : KS) (v : Value), VR Z v (.bool j.isNone) → putL s3 l (if j.isNone then .ready else .done) j K' → (∀ s4, K' s4 → K v s4) → Rel Z s3 w3 → Ext X s w Z s3 w3 → ∃ u w4, (Instr.endRound (X.j l).b j).run P w3 = .ok u w4 ∧ Post X s w K (.returned u) w4 := fun j Z s3 w3 K' v hv hput hk hZ hX => by
    obtain ⟨s4, w4, lp4, m1, m2, m3, m4, m5⟩ := putL_ex hZ hput
    have hjZ : (Z.j l).b = (X.j l).b := by rw [hX.le.j l hlt]
    rw [hjZ] at m2 m3
    refine ⟨.bool j.isNone, w4, by rw [endRound_run m2, m3], v, s4, Z, _, rfl, hk s4 m1, m4, hX.trans m5, hv⟩
  have hXY := k3.trans k8
  refine code_ok (P := P) (T := T) (e := e) (r := some (X.j l).b) lb.body aa1 a1 Y s2 w2 _ _ _ (by rw [k3.le.ρ]; exact hE _) k5 k7 k4 (fun Z aa3 s3 a3 w3 m1 m2 m3 _ => ?_) (fun x Z aa3 s3 a3 w3 m1 m2 m3 _ _ => ?_)
  · obtain ⟨_, m4⟩ := yes_ex m1
    exact fin none Z s3 w3 _ (.bool true) rfl m4 (fun _ hk => hk) m2 (hXY.trans m3)
  · obtain ⟨_, m4⟩ := yes_ex m1
    cases x with
    | ret => exact fin (some .ret) Z s3 w3 _ (.bool false) rfl m4 (fun _ hk => hk) m2 (hXY.trans m3)
    | exit id => exact fin (some (.exit id)) Z s3 w3 _ (.bool false) rfl m4 (fun _ hk => hk) m2 (hXY.trans m3)
    | _ => exact m4.elim

/-- THE EVALUATOR IS RIGHT, to whatever depth. -/
theorem go_ok (hP : ProgOK P) {ρ : Nat → Int} (hT : TabOK P ρ T) {noop : FuncId → Bool} (hN : NoopOK P noop) : ∀ n, CallOK P ρ (go n P T noop false) ∧ RoundOK P ρ (go n P T noop true)
  | 0 => ⟨fun _ _ _ _ _ _ _ _ h => h.elim, fun _ _ _ _ _ _ _ _ h => h.elim⟩
  | n + 1 => by
    obtain ⟨ih1, ih2⟩ := go_ok hP hT hN n
    refine ⟨fun s f args K X w us hρ h hR hl => ?_, fun s l args K X w us hρ h hR hl => ?_⟩
    · have h' : callIn P T ⟨noop, go n P T noop false, go n P T noop true, false⟩ s f args K := h
      exact callIn_ok (by rw [hρ]; exact ⟨hP, hT, ih1, ih2, rfl⟩) hN (fun c => code_ok c) h' hR hl
    · have h' : roundIn P T ⟨noop, go n P T noop false, go n P T noop true, true⟩ s l args K := h
      exact roundIn_ok (fun r => by rw [hρ]; exact ⟨hP, hT, ih1, ih2, rfl⟩) h' hR hl

end
end Go.Proofs.YtkpfafehcmammaaGreatDoor
