import Derived.Test.YtkpfafehcmammaaGreatDoorA4
import Derived.Lib.LaidU8
import Derived.LaidLaws
import Derived.IntWalk
import Derived.LoopNIn
namespace Go.Proofs.YtkpfafehcmammaaGreatDoor
open Go.Deep Go.Lib

/-- All that a tree holds. -/
def toL {α : Type} : BT (Option α) → List (Nat × α)
  | .nil => []
  | .node _ _ v l r => (match v with | some x => [(0, x)] | none => []) ++ (toL l).map (fun p => (2 * p.1 + 1, p.2)) ++ (toL r).map (fun p => (2 * p.1 + 2, p.2))

theorem getT_mem {α : Type} : ∀ {t : BT (Option α)} {id : Nat} {b : α}, getT t id = some b → (id, b) ∈ toL t := by
  intro t
  induction t with
  | nil => intro id b h; rw [getT_nil] at h; cases h
  | node x y v l r ihl ihr =>
    intro id b h
    unfold toL
    cases id with
    | zero =>
      change v = some b at h
      subst h
      exact List.mem_append_left _ (List.mem_append_left _ (by simp))
    | succ m =>
      simp only [getT] at h
      split at h
      · have := ihl h
        refine List.mem_append_left _ (List.mem_append_right _ (List.mem_map.2 ⟨_, this, ?_⟩))
        simp; omega
      · have := ihr h
        refine List.mem_append_right _ (List.mem_map.2 ⟨_, this, ?_⟩)
        simp; omega

def valOf : Lit → Value
  | .int k z => .int k z
  | .string s => .string ⟨⟨s⟩⟩
  | .bool b => .bool b
  | _ => .nilFunc

/-- An array of numbers or texts that reads as a table holds it, cell for cell. -/
theorem cells_of_lits {P : Program} {w : World} {fuel : Nat} {t e : TypeId} {n : Nat} {cs : List Value} {ls : List Lit} {p : List MemPlace}
    (ht : P.underlying t = some (.array n e)) (hce : P.cellsOf e = 1) (hct : P.cellsOf t = n)
    (he : ∀ fuel c l q, DataW.trod (fun _ => ()) P w 0 (fun _ => true) false fuel e [c] = some (.lit l, q) → c = valOf l)
    (h : DataW.trod (fun _ => ()) P w 0 (fun _ => true) false fuel t cs = some (.agg (ls.map .lit), p)) : cs = ls.map valOf := by
  cases fuel with
  | zero => simp [DataW.trod] at h
  | succ fuel =>
    simp only [DataW.trod, ht, hce, hct, Nat.mul_one] at h
    split at h
    · rename_i hl
      obtain ⟨xs, hm, hx⟩ := Option.map_eq_some_iff.1 h
      have hxs : xs.map (·.1) = ls.map fun z => (DataW.lit z : DataW Unit) := by
        have := congrArg Prod.fst hx
        simpa using this
      have hxl : xs.length = n := by simpa using mapM_length hm
      have hzl : ls.length = n := by
        have := congrArg List.length hxs
        simp at this
        omega
      have hcl : cs.length = n := by simpa using hl
      apply List.ext_getElem?
      intro i
      by_cases hi : i < n
      · obtain ⟨b, hb, hf⟩ := mapM_at hm i i (by simp [hi])
        have h2 : (xs.map (·.1))[i]? = some b.1 := by simp [hb]
        rw [hxs] at h2
        simp only [List.getElem?_map, Option.map_eq_some_iff] at h2
        obtain ⟨z, hz, hzb⟩ := h2
        have hci : (cs.drop i).take 1 = [cs[i]'(by omega)] := by
          rw [List.drop_eq_getElem_cons (by omega)]
          rfl
        rw [hci] at hf
        have hv := he fuel _ z b.2 (by rw [hf, hzb])
        simp only [List.getElem?_map, hz, Option.map_some]
        rw [List.getElem?_eq_getElem (by omega), hv]
      · rw [List.getElem?_eq_none (by omega), List.getElem?_eq_none (by simp; omega)]
    · cases h

theorem lit_int {P : Program} {w : World} {e : TypeId} {k : IntKind} (he : P.underlying e = some (.int k)) : ∀ fuel c l q, DataW.trod (fun _ => ()) P w 0 (fun _ => true) false fuel e [c] = some (.lit l, q) → c = valOf l := by
  intro fuel c l q h
  obtain ⟨z, hc, hx, _⟩ := DataW.trod_int he h
  have e1 : l = .int k z := by have := congrArg Prod.fst hx; simpa using this
  subst e1
  simpa [valOf] using hc
theorem lit_string {P : Program} {w : World} {e : TypeId} (he : P.underlying e = some .string) : ∀ fuel c l q, DataW.trod (fun _ => ()) P w 0 (fun _ => true) false fuel e [c] = some (.lit l, q) → c = valOf l := by
  intro fuel c l q h
  obtain ⟨s, hc, hx, _⟩ := DataW.trod_string he h
  have e1 : l = .string s.data.toList := by have := congrArg Prod.fst hx; simpa using this
  subst e1
  simpa [valOf] using hc

/-- A listed table: its block. -/
theorem table_of {P : Program} {w : World} {name : String} {ls : List Lit} {g : Nat} {t e : TypeId} {n : Nat} (h : VarReads P w name (.agg (ls.map .lit))) (hg : P.globalNamed name = some g) (hty : (P.globals[g]?).map (·.type) = some t)
    (ht : P.underlying t = some (.array n e)) (hce : P.cellsOf e = 1) (hct : P.cellsOf t = n) (he : ∀ fuel c l q, DataW.trod (fun _ => ()) P w 0 (fun _ => true) false fuel e [c] = some (.lit l, q) → c = valOf l) :
    ∃ ty fz, w.heap[g]? = some (.cells (ls.map valOf).toArray ty fz) := by
  obtain ⟨g', t', cs, fuel, p, h1, h2, h3, h4⟩ := h
  obtain rfl := Option.some.inj (hg.symm.trans h1)
  obtain rfl := Option.some.inj (hty.symm.trans h2)
  have := cells_of_lits ht hce hct he h4
  unfold World.var? at h3
  rw [hg] at h3
  simp only [Option.bind_some] at h3
  split at h3
  · rename_i c ty fz hh
    cases h3
    exact ⟨ty, fz, by rw [hh, ← this]⟩
  · cases h3

theorem laid_row {P : Program} {w : World} : ∀ {l : List (String × DataW Unit)} {ps : List MemPlace}, DataW.LaidVars P w l ps → ∀ n d, (n, d) ∈ l →
    ∃ g t cs fuel p, P.globalNamed n = some g ∧ (P.globals[g]?).map (·.type) = some t ∧ w.var? P n = some cs ∧ DataW.trod (fun _ => ()) P w 0 (fun _ => true) false fuel t cs.toList = some (d, p) ∧ ∀ x ∈ MemPlace.row ⟨g, 0, none⟩ cs.size, x ∈ ps
  | [], _, _, _, _, hm => by cases hm
  | (n', d') :: r, ps, h, n, d, hm => by
    obtain ⟨g, t, cs, fuel, p, q, h1, h2, h3, h4, h5, h6⟩ := h
    rcases List.mem_cons.1 hm with e | e
    · cases e
      exact ⟨g, t, cs, fuel, p, h1, h2, h3, h4, fun x hx => by rw [h6]; exact List.mem_append_left _ (List.mem_append_left _ hx)⟩
    · obtain ⟨g', t', cs', fuel', p', k1, k2, k3, k4, k5⟩ := laid_row h5 n d e
      exact ⟨g', t', cs', fuel', p', k1, k2, k3, k4, fun x hx => by rw [h6]; exact List.mem_append_right _ (k5 x hx)⟩

/-- A listed sentinel: its cell. -/
theorem sentinel_of {P : Program} {w : World} {l : List (String × DataW Unit)} {name : String} {g : Nat} {ti tp te ts : TypeId} {ms : Array (String × TypeId)} {nm : String} {f : Field} {text : List UInt8} (hl : laidMet P l w) (hm : (name, .iface nm (.ptr (.agg [.lit (.string text)]))) ∈ l) (hg : P.globalNamed name = some g) (hty : (P.globals[g]?).map (·.type) = some ti)
    (hi : P.underlying ti = some (.interface ms)) (hrow : ∀ u, P.typeName? 3 u = some nm → u = tp)
    (hp : P.underlying tp = some (.pointer te)) (he : P.underlying te = some (.struct #[f])) (hft : f.type = ts) (hfo : f.offset = 0) (hs : P.underlying ts = some .string) (hc : P.cellsOf te = 1) (hcs : P.cellsOf ts = 1) :
    ∃ ty fz b o, w.heap[g]? = some (.cells #[.iface tp (.pointer (some ⟨b, o, none⟩))] ty fz) := by
  obtain ⟨ps, hv, _, hps⟩ := hl
  obtain ⟨g', t', cs, fuel, p, h1, h2, h3, h4, h5⟩ := laid_row hv _ _ hm
  obtain rfl := Option.some.inj (hg.symm.trans h1)
  obtain rfl := Option.some.inj (hty.symm.trans h2)
  unfold World.var? at h3
  rw [hg] at h3
  simp only [Option.bind_some] at h3
  split at h3
  · rename_i c ty fz hh
    cases h3
    obtain ⟨a, s, k1, k2, _⟩ := errorString_of_trod hi hrow hp he hft hfo hs hc hcs h4 (fun u v huv => by
      have hsz : cs.size = 1 := by have := congrArg List.length huv; simpa using this
      have hx := h5 (.cell g 0) (by unfold MemPlace.row; rw [hsz]; simp)
      refine (hps g 0 hx).2 u v ?_
      unfold World.cell?
      simp only [hh]
      have : cs[0]? = cs.toList[0]? := by simp
      simp [this, huv])
    obtain ⟨b, o, sp⟩ := a
    have hsp := Go.Proofs.cell_spot k2
    subst hsp
    refine ⟨ty, fz, b, o, ?_⟩
    rw [hh]
    have : cs = #[.iface tp (.pointer (some ⟨b, o, none⟩))] := by apply Array.ext'; simpa using k1
    rw [this]
  · cases h3
end Go.Proofs.YtkpfafehcmammaaGreatDoor
namespace Go.Proofs.YtkpfafehcmammaaGreatDoor
open Go.Deep

/-! A run in parts: what is kept between them is written out. -/
def sameRs (l : List (Nat × Value)) : TV → Prop → Prop :=
  @List.rec _ (fun _ => TV → Prop → Prop) (fun _ K => K) (fun p _ ih t K => gv t p.1 (fun v => yes (veq v p.2) (ih t K))) l
def cellEq (c : CB) (p : Nat × Value) : Bool := match getT c.vs p.1 with
  | some v => veq v p.2
  | none => match c.d with | some v => veq v p.2 | none => false
def dfEq (c d : CB) : Bool := match d.d with
  | none => true
  | some v => (match c.d with | some u => veq u v | none => false) && (toL c.vs).all (fun p => (getT d.vs p.1).isSome || veq p.2 v)
def entEq : List (Value × Value) → List (Value × Value) → Bool
  | [], [] => true
  | a :: l, b :: m => veq a.1 b.1 && veq a.2 b.2 && entEq l m
  | _, _ => false
def blkEq (b l : AB) : Bool := match b with
  | .inl c => (match l with | .inl d => !c.ro && dfEq c d && Nat.beq c.n d.n && Nat.beq c.ty d.ty && !d.ro && (toL d.vs).all (cellEq c) | _ => false)
  | .inr (.inl e) => (match l with | .inr (.inl f) => entEq e f | _ => false)
  | _ => false
def sameBs (l : List (Nat × AB)) : TB → Prop → Prop :=
  @List.rec _ (fun _ => TB → Prop → Prop) (fun _ K => K) (fun p _ ih h K => gb h p.1 (fun b => yes (blkEq b p.2) (ih h K))) l
def atSeg (n nx : Nat) (regs : List (Nat × Value)) (bl : List (Nat × AB)) : KA := fun a s =>
  yes (a.defers.isEmpty && Nat.beq a.n n && Nat.beq s.nx nx) (sameRs regs a.regs (sameBs bl s.h True))

theorem sameRs_ex : ∀ {l : List (Nat × Value)} {t : TV} {K : Prop}, sameRs l t K → K ∧ ∀ p ∈ l, getT t p.1 = some p.2 := by
  intro l
  induction l with
  | nil => intro t K h; exact ⟨h, fun p hp => by cases hp⟩
  | cons x l ih =>
    intro t K h
    obtain ⟨u, h1, h2⟩ := gv_ex (K := fun u => yes (veq u x.2) (sameRs l t K)) h
    obtain ⟨h3, h4⟩ := yes_ex h2
    have h5 := veq_eq h3
    subst h5
    obtain ⟨h6, h7⟩ := ih h4
    refine ⟨h6, fun p hp => ?_⟩
    rcases List.mem_cons.1 hp with rfl | hp
    · exact h1
    · exact h7 p hp

theorem sameBs_ex : ∀ {l : List (Nat × AB)} {h : TB} {K : Prop}, sameBs l h K → K ∧ ∀ p ∈ l, ∃ b, getT h p.1 = some b ∧ blkEq b p.2 = true := by
  intro l
  induction l with
  | nil => intro t K h; exact ⟨h, fun p hp => by cases hp⟩
  | cons x l ih =>
    intro t K h
    obtain ⟨u, h1, h2⟩ := gb_ex (K := fun u => yes (blkEq u x.2) (sameBs l t K)) h
    obtain ⟨h3, h4⟩ := yes_ex h2
    obtain ⟨h6, h7⟩ := ih h4
    refine ⟨h6, fun p hp => ?_⟩
    rcases List.mem_cons.1 hp with rfl | hp
    · exact ⟨u, h1, h3⟩
    · exact h7 p hp

theorem entEq_eq : ∀ {a b : List (Value × Value)}, entEq a b = true → a = b
  | [], [], _ => rfl
  | [], _ :: _, h => by simp [entEq] at h
  | _ :: _, [], h => by simp [entEq] at h
  | ⟨a, b⟩ :: l, ⟨c, d⟩ :: m, h => by
    simp only [entEq, Bool.and_eq_true] at h
    rw [veq_eq h.1.1, veq_eq h.1.2, entEq_eq h.2]

/-- What is written out of a block lies there. -/
theorem blkEq_BR {X : Cx} {w : World} {L : Loc} {b l : AB} (h : blkEq b l = true) (hb : BR X w L b) : BR X w L l ∧ wrt b = true := by
  unfold blkEq at h
  split at h
  · split at h
    · rename_i _ c _ d
      simp only [Bool.and_eq_true, Bool.not_eq_true'] at h
      obtain ⟨⟨⟨⟨⟨h1, h2⟩, h3⟩, h4⟩, h5⟩, h6⟩ := h
      have h3 := Nat.eq_of_beq_eq_true h3
      have h4 := Nat.eq_of_beq_eq_true h4
      obtain ⟨cs, fz, k1, k2, k3, k4, k5⟩ := (show CR X w L c from hb)
      refine ⟨⟨cs, fz, by rw [← h4]; exact k1, by rw [← h3]; exact k2, k3, fun _ => k4 h1, fun i v hv => ?_⟩, by simp [wrt, h1]⟩
      refine k5 i v ?_
      unfold cbAt at hv ⊢
      split at hv
      · rename_i hi
        rw [if_pos (by omega)]
        split at hv
        · rename_i v' hv'
          simp only [Option.some.injEq] at hv
          subst hv
          rw [List.all_eq_true] at h6
          have := h6 _ (getT_mem hv')
          unfold cellEq at this
          split at this
          · rename_i u hu
            have e : u = v' := veq_eq this
            subst e
            rw [show getT c.vs i = some u from hu]
          · rename_i hu
            rw [show getT c.vs i = none from hu]
            split at this
            · rename_i u hd'
              have e : u = v' := veq_eq this
              subst e
              exact hd'
            · cases this
        · rename_i hnone
          unfold dfEq at h2
          rw [hv] at h2
          simp only [Bool.and_eq_true] at h2
          cases hc : getT c.vs i with
          | some u =>
            have h7 := h2.2
            rw [List.all_eq_true] at h7
            have h8 := h7 _ (getT_mem hc)
            rw [hnone] at h8
            simp only [Option.isSome_none, Bool.false_or] at h8
            rw [veq_eq h8]
          | none =>
            have h7 := h2.1
            split at h7
            · rename_i u hu
              rw [hu, veq_eq h7]
            · cases h7
      · cases hv
    · cases h
  · split at h
    · rename_i _ e _ f
      have := entEq_eq h
      subst this
      exact ⟨hb, rfl⟩
    · cases h
  · cases h

/-- The state between two parts: what was laid at the start, and what is written out. -/
theorem Rel.cut {X0 Y : Cx} {s0 s : AS} {W w : World} {h1 : TB} {bl : List (Nat × AB)} (hR0 : Rel X0 s0 W) (hfr : ∀ b, Fr X0 s0 b) (hR : Rel Y s w) (hX : Ext X0 s0 W Y s w)
    (hbl : ∀ p ∈ bl, ∃ b, getT s.h p.1 = some b ∧ blkEq b p.2 = true) (hh : ∀ id b, getT h1 id = some b → getT s0.h id = some b ∨ (id, b) ∈ bl) : Rel Y ⟨h1, s.nx⟩ w ∧ Ext X0 s0 W Y ⟨h1, s.nx⟩ w := by
  have old : ∀ id b, getT s0.h id = some b → id < X0.nx ∧ Y.j id = X0.j id ∧ (X0.j id).b < W.heap.size ∧ BR Y w (Y.j id) b := fun id b hb => by
    obtain ⟨k1, k2⟩ := hR0.blk id b hb
    have hj := hX.le.j id k1
    refine ⟨k1, hj, k2.lt, ?_⟩
    rw [hj]
    exact k2.mono hX.le (hX.keep _ k2.lt (hfr _)).1
  have new : ∀ id b, (id, b) ∈ bl → ∃ c, getT s.h id = some c ∧ wrt c = true ∧ BR Y w (Y.j id) b ∧ id < Y.nx ∧ W.heap.size ≤ (Y.j id).b := fun id b hb => by
    obtain ⟨c, k1, k2⟩ := hbl _ hb
    obtain ⟨k3, k4⟩ := hR.blk id c k1
    obtain ⟨k5, k6⟩ := blkEq_BR k2 k4
    refine ⟨c, k1, k6, k5, k3, ?_⟩
    by_cases hlt : (Y.j id).b < W.heap.size
    · exact absurd rfl ((hX.keep _ hlt (hfr _)).2 id c k1 k6)
    · omega
  refine ⟨⟨hR.nx, fun id b hb => ?_, fun id id' b b' hb hb' e => ?_, hR.ng, hR.glob⟩, ⟨hX.le, hX.size, fun k hk hf => ⟨(hX.keep k hk hf).1, fun id b hb hw => ?_⟩, fun k hk hu id b hb => ?_, hX.io⟩⟩
  · rcases hh id b hb with h | h
    · obtain ⟨k1, _, _, k4⟩ := old id b h
      exact ⟨Nat.lt_of_lt_of_le k1 hX.le.nx, k4⟩
    · obtain ⟨c, _, _, k3, k4, _⟩ := new id b h
      exact ⟨k4, k3⟩
  · rcases hh id b hb with h | h <;> rcases hh id' b' hb' with h' | h'
    · obtain ⟨k1, k2, _⟩ := old id b h
      obtain ⟨k1', k2', _⟩ := old id' b' h'
      rw [k2, k2'] at e
      exact hR0.sep _ _ _ _ h h' e
    · obtain ⟨k1, k2, k3, _⟩ := old id b h
      obtain ⟨_, _, _, _, _, k6⟩ := new id' b' h'
      rw [k2] at e
      omega
    · obtain ⟨k1, k2, k3, _⟩ := old id' b' h'
      obtain ⟨_, _, _, _, _, k6⟩ := new id b h
      rw [k2] at e
      omega
    · obtain ⟨c, k1, _⟩ := new id b h
      obtain ⟨c', k1', _⟩ := new id' b' h'
      exact hR.sep _ _ _ _ k1 k1' e
  · rcases hh id b hb with h | h
    · exact absurd rfl (hfr (X0.j id).b id b h hw)
    · obtain ⟨_, _, _, _, _, k6⟩ := new id b h
      omega
  · rcases hh id b hb with h | h
    · obtain ⟨_, k2, _⟩ := old id b h
      rw [k2]
      exact hu id b h
    · obtain ⟨_, _, _, _, _, k6⟩ := new id b h
      omega

section
variable {P : Program} {T : Tab} {e : Env} {X0 X : Cx} {s0 s : AS} {W w : World} {a : Act} {Q : Exit → Act → World → Prop}

/-- A part of a run, up to a place where the state is written out. -/
theorem seg_ok {k n nx : Nat} {c : Code} {rt : TV} {regs : List (Nat × Value)} {bl : List (Nat × AB)} {h1 : TB} (hE : EnvOK P X.ρ T e none) (hR0 : Rel X0 s0 W) (hfr : ∀ b, Fr X0 s0 b) (h : evCode (preC k c) P T e ⟨rt, n, []⟩ s (atSeg n nx regs bl) (fun _ _ _ => False))
    (hR : Rel X s w) (hX : Ext X0 s0 W X s w) (ha : AAR X ⟨rt, n, []⟩ a) (hh : ∀ id b, getT h1 id = some b → getT s0.h id = some b ∨ (id, b) ∈ bl)
    (hn : ∀ (Y : Cx) (a' : Act) (w' : World), Y.ρ = X.ρ → Rel Y ⟨h1, nx⟩ w' → Ext X0 s0 W Y ⟨h1, nx⟩ w' → (∀ p ∈ regs, ∃ u, a'.tmps[p.1]? = some u ∧ VR Y p.2 u) → n ≤ a'.tmps.size → a'.defers = [] → (postC k c).wpIn (Fw none) 0 P Q a' w') : c.wpIn (Fw none) 0 P Q a w := by
  refine split_ok (r := none) k c _ _ X s w _ _ _ hE h hR ha (fun Y aa' s' a' w' k1 k2 k3 k4 => ?_) (fun x Y aa' s' a' w' k1 _ _ _ _ => k1.elim)
  obtain ⟨q1, q2⟩ := yes_ex k1
  simp only [Bool.and_eq_true] at q1
  obtain ⟨⟨q3, q4⟩, q5⟩ := q1
  have q3 : aa'.defers = [] := by simpa using q3
  have q4 := Nat.eq_of_beq_eq_true q4
  have q5 := Nat.eq_of_beq_eq_true q5
  obtain ⟨q6, q7⟩ := sameRs_ex q2
  obtain ⟨_, q8⟩ := sameBs_ex q6
  obtain ⟨r1, r2⟩ := Rel.cut hR0 hfr k2 (hX.trans k3) q8 hh
  rw [q5] at r1 r2
  have hd := k4.defers
  rw [q3] at hd
  refine hn Y a' w' k3.le.ρ r1 r2 (fun p hp => k4.regs.2 p.1 p.2 (q7 p hp)) (by rw [← q4]; exact k4.regs.1) hd

/-- Registers that are written out. -/
theorem regs_AAR {Y : Cx} {a : Act} {n : Nat} {rt : TV} (hsz : n ≤ a.tmps.size) (hd : a.defers = []) (h : ∀ p ∈ toL rt, ∃ u, a.tmps[p.1]? = some u ∧ VR Y p.2 u) : AAR Y ⟨rt, n, []⟩ a :=
  ⟨⟨hsz, fun _ _ hv => h _ (getT_mem hv)⟩, hd⟩

def setRs (l : List (Nat × Value)) : TV → (TV → Prop) → Prop :=
  @List.rec _ (fun _ => TV → (TV → Prop) → Prop) (fun t K => K t) (fun p _ ih t K => setV t p.1 p.2 (fun t => ih t K)) l
/-- The rest, one case behind the other; in each some registers hold what it says. -/
def cases (l : List (List (Nat × Value))) : Code → Func → Program → Tab → Env → TV → Nat → AS → Prop :=
  @List.rec _ (fun _ => Code → Func → Program → Tab → Env → TV → Nat → AS → Prop) (fun _ _ _ _ _ _ _ _ => True)
    (fun p _ ih c fn P T e t n s => setRs p t (fun t' => evCode c P T e ⟨t', n, []⟩ s (fin fn P (ih c fn P T e t n s)) (finX fn P (ih c fn P T e t n s)))) l

theorem setRs_ex : ∀ {l : List (Nat × Value)} {t : TV} {K : TV → Prop}, setRs l t K → ∃ t', K t' ∧ ∀ r v, getT t' r = some v → (r, v) ∈ l ∨ (getT t r = some v ∧ ∀ p ∈ l, p.1 ≠ r) := by
  intro l
  induction l with
  | nil => intro t K h; exact ⟨t, h, fun r v hv => .inr ⟨hv, fun p hp => by cases hp⟩⟩
  | cons x l ih =>
    intro t K h
    obtain ⟨t1, h1, h2⟩ := setV_ex (K := fun t => setRs l t K) h
    obtain ⟨t2, h3, h4⟩ := ih h2
    refine ⟨t2, h3, fun r v hv => ?_⟩
    rcases h4 r v hv with h5 | ⟨h5, h6⟩
    · exact .inl (List.mem_cons_of_mem _ h5)
    · rw [h1 r] at h5
      split at h5
      · rename_i e
        cases h5
        exact .inl (by rw [e]; exact List.mem_cons_self)
      · rename_i e
        exact .inr ⟨h5, fun p hp => by
          rcases List.mem_cons.1 hp with rfl | hp
          · exact fun c => e c.symm
          · exact h6 p hp⟩

theorem Im.acts {N n : Nat} {t : TV} (hi : Im X N t) (hn : n ≤ N) : ∃ a : Act, AAR X ⟨t, n, []⟩ a := by
  have : ∀ i : Fin N, ∃ u, ∀ v, getT t i = some v → VR X v u := fun i => by
    cases hv : getT t i.1 with
    | none => exact ⟨undef, fun v h => by cases h⟩
    | some v =>
      obtain ⟨_, u, hu⟩ := hi _ v hv
      exact ⟨u, fun v' h => by cases h; exact hu⟩
  refine ⟨⟨Array.ofFn fun i => (this i).choose, []⟩, ⟨by simpa using hn, fun x v hv => ?_⟩, rfl⟩
  obtain ⟨h1, _⟩ := hi x v hv
  exact ⟨_, by simp [h1], (this ⟨x, h1⟩).choose_spec v hv⟩

theorem cases_ok {c : Code} {fn : Func} {rt : TV} {n : Nat} (hE : EnvOK P X.ρ T e none) (hR : Rel X s w) (ha : AAR X ⟨rt, n, []⟩ a) {p : List (Nat × Value)} (hp : ∀ q ∈ p, ∃ u, a.tmps[q.1]? = some u ∧ VR X q.2 u) :
    ∀ {l : List (List (Nat × Value))}, cases l c fn P T e rt n s → (∀ q ∈ l, ∀ x ∈ q, x.1 < n ∧ ∃ u, VR X x.2 u) → p ∈ l → c.wpIn (Fw none) 0 P (bodyPost P fn (Good X s w)) a w := by
  intro l
  induction l with
  | nil => intro _ _ h; cases h
  | cons q l ih =>
    intro h hall hmem
    have h' : setRs q rt (fun t' => evCode c P T e ⟨t', n, []⟩ s (fin fn P (cases l c fn P T e rt n s)) (finX fn P (cases l c fn P T e rt n s))) := h
    obtain ⟨t, h1, h2⟩ := setRs_ex h'
    by_cases hpq : p = q
    · subst hpq
      have hA : AAR X ⟨t, n, []⟩ a := ⟨⟨ha.regs.1, fun m v hv => by
        rcases h2 m v hv with h3 | ⟨h3, _⟩
        · exact hp _ h3
        · exact ha.regs.2 m v h3⟩, ha.defers⟩
      refine code_ok c _ a X s w _ _ _ hE h1 hR hA (fun Y aa' s' a' w' k1 k2 k3 k4 => ?_) (fun x Y aa' s' a' w' k1 k2 k3 k4 k5 => ?_)
      · obtain ⟨_, f1, f2⟩ := fin_ex k1 k2 k4
        exact ⟨f1, _, f2, rfl, Y, s', k3⟩
      · cases x <;> first | exact k1.elim | skip
        obtain ⟨_, f1, f2⟩ := fin_ex (show fin fn P _ aa' s' from k1) k2 k4
        exact ⟨f1, _, f2, rfl, Y, s', k3⟩
    · have hsz : n ≤ a.tmps.size := ha.regs.1
      have him : Im X a.tmps.size t := fun m v hv => by
        rcases h2 m v hv with h3 | ⟨h3, _⟩
        · obtain ⟨k1, k2⟩ := hall q List.mem_cons_self _ h3
          exact ⟨Nat.lt_of_lt_of_le k1 hsz, k2⟩
        · obtain ⟨u, k1, k2⟩ := ha.regs.2 m v h3
          exact ⟨(Array.getElem?_eq_some_iff.1 k1).1, u, k2⟩
      obtain ⟨a0, hA⟩ := him.acts hsz
      have hz : cases l c fn P T e rt n s := wpIn_true (P := P) (c := c) (a := a0) (w := w) (code_ok c _ _ X s w _ _ _ hE h1 hR hA (fun Y aa' s' a' w' k1 k2 k3 k4 => (fin_ex k1 k2 k4).1) (fun x Y aa' s' a' w' k1 k2 k3 k4 k5 => by
        cases x <;> first | exact k1.elim | skip
        exact (fin_ex (show fin fn P _ aa' s' from k1) k2 k4).1))
      refine ih hz (fun q hq => hall q (List.mem_cons_of_mem _ hq)) ?_
      rcases List.mem_cons.1 hmem with h | h
      · exact absurd h hpq
      · exact h

end
end Go.Proofs.YtkpfafehcmammaaGreatDoor
namespace Go.Proofs.YtkpfafehcmammaaGreatDoor
open Go.Deep

/-! The law's own choice of a number, by its contract. -/
def pickv (c m : Int) : Int := (if c < 0 then -(c + 1) else c).tmod m
def lookP (x : Value) (m : Int) : List (Value × Int × Value) → Option Value
  | [] => none
  | e :: l => bif veq1 x e.1 && ieq m e.2.1 then some e.2.2 else lookP x m l
def orc (pk : Nat) (l : List (Value × Int × Value)) (F : AS → FuncId → List Value → KVS → Prop) : AS → FuncId → List Value → KVS → Prop := fun s f args K =>
  ife (Nat.beq f pk) (two args (fun x y => vInt y (fun k m => yes (keq k .i64) (ok (lookP x m l) (fun r => K r s))))) (F s f args K)

theorem lookP_ex {x r : Value} {m : Int} : ∀ {l : List (Value × Int × Value)}, lookP x m l = some r → (x, m, r) ∈ l := by
  intro l
  induction l with
  | nil => intro h; cases h
  | cons e l ih =>
    intro h
    unfold lookP at h
    cases hb : (veq1 x e.1 && ieq m e.2.1) with
    | true =>
      rw [hb] at h
      simp only [Bool.and_eq_true] at hb
      have e1 : e.2.2 = r := Option.some.inj h
      rw [veq1_eq hb.1, ieqB_eq hb.2, ← e1]
      exact List.mem_cons_self
    | false => rw [hb] at h; exact List.mem_cons_of_mem _ (ih h)

/-- What is kept where nothing of ours is touched. -/
def Same (w w' : World) : Prop := (w'.os = w.os ∧ w'.output = w.output) ∧ w.heap.size ≤ w'.heap.size ∧ ∀ b, b < w.heap.size → w'.heap[b]? = w.heap[b]?

def PickOK (P : Program) (pk : Nat) : Prop := ∀ (c m : Int) (w : World), -9223372036854775808 ≤ c → 0 < m → (∃ fn code, P.funcs[pk]? = some fn ∧ fn.body = some code) ∧ CallsIn Fence.wide 0 P pk #[.int .i64 c, .int .i64 m] w (fun e w' => e = .returned (.int .i64 (pickv c m)) ∧ Same w w')

theorem orc_ok {P : Program} {ρ : Nat → Int} {pk : Nat} {l : List (Value × Int × Value)} {F : AS → FuncId → List Value → KVS → Prop} (hF : CallOK P ρ F) (hp : PickOK P pk)
    (hl : ∀ e ∈ l, 0 < e.2.1 ∧ ∃ c, -9223372036854775808 ≤ c ∧ num ρ .i64 c e.1 ∧ num ρ .i64 (pickv c e.2.1) e.2.2) : CallOK P ρ (orc pk l F) := by
  intro s f args K X w us hρ h hR hv
  rcases ife_ex h with ⟨e1, h1⟩ | ⟨_, h1⟩
  · have e1 := Nat.eq_of_beq_eq_true e1
    subst e1
    obtain ⟨x, y, rfl, h2⟩ := two_ex h1
    obtain ⟨k, m, rfl, h3⟩ := vInt_ex h2
    obtain ⟨h4, h5⟩ := yes_ex h3
    have h4 := keqB_eq h4
    subst h4
    obtain ⟨r, h6, h7⟩ := ok_ex h5
    obtain ⟨h8, c, h9, h10, h11⟩ := hl _ (lookP_ex h6)
    obtain ⟨u, us, rfl, k1, k2⟩ := VRl_cons.1 hv
    obtain ⟨u', us, rfl, k3, k4⟩ := VRl_cons.1 k2
    rw [VRl_nil] at k4
    subst k4
    have e2 := h10.eq hρ k1
    rw [VR_int] at k3
    subst e2; subst k3
    obtain ⟨q1, q2⟩ := hp c m w h9 h8
    refine ⟨q1, CallsIn.mono q2 fun e w' ⟨q3, q4, q5, q6⟩ => ?_⟩
    obtain ⟨r1, r2⟩ := hR.grow q5 q6 q4
    exact ⟨r, s, X, _, q3, h7, r1, r2, h11.vr hρ⟩
  · exact hF s f args K X w us hρ h1 hR hv

/-! Its contract, out of two runs of it. -/
def L3 (i : Nat) : Value := .complex .f64 3 i
def pT (neg : Bool) : Tab := match neg with
  | false => tabOf [(.lss, L3 0, .int .i64 0, .bool false), (.rem, L3 0, L3 1, L3 2)] [] [] []
  | true => tabOf [(.lss, L3 0, .int .i64 0, .bool true), (.add, L3 0, .int .i64 1, L3 3), (.rem, L3 4, L3 1, L3 2)] [] [(.neg, L3 3, L3 4)] []
def pRho (c m : Int) : Nat → Int
  | 0 => c
  | 1 => m
  | 2 => pickv c m
  | 3 => c + 1
  | 4 => -(c + 1)
  | _ => 0

theorem pT_ok {P : Program} {c m : Int} (hc : -9223372036854775808 ≤ c) (hm : 0 < m) : TabOK P (pRho c m) (pT (decide (c < 0))) := by
  have n3 : ∀ i, num (pRho c m) .i64 (pRho c m i) (L3 i) := fun i => .inr ⟨.f64, 3, i, rfl, rfl, rfl⟩
  by_cases h : c < 0
  · rw [decide_eq_true h]
    refine tab_ok (fun x hx => ?_) (fun x hx => by cases hx) (fun x hx => ?_) (fun i hi => by cases hi)
    · simp only [List.mem_cons, List.not_mem_nil, or_false] at hx
      rcases hx with rfl | rfl | rfl
      · exact says_lss (n3 0) num_i (by change Value.bool true = .bool (decide (c < 0)); rw [decide_eq_true h])
      · exact says_add (n3 0) num_i (by
          change num (pRho c m) .i64 (IntKind.i64.wrap (c + 1)) (L3 3)
          rw [IntWalk.i64_in _ (by omega)]; exact n3 3)
      · exact says_rem (n3 4) (n3 1) (by change m ≠ 0; omega) (by
          change num (pRho c m) .i64 ((-(c + 1)).tmod m) (L3 2)
          have : (-(c + 1)).tmod m = pickv c m := by unfold pickv; rw [if_pos h]
          rw [this]; exact n3 2)
    · simp only [List.mem_cons, List.not_mem_nil, or_false] at hx
      subst hx
      exact says_neg (n3 3) (by
        change num (pRho c m) .i64 (IntKind.i64.wrap (0 - (c + 1))) (L3 4)
        rw [IntWalk.i64_in _ (by omega), show (0 : Int) - (c + 1) = -(c + 1) by omega]; exact n3 4)
  · rw [decide_eq_false h]
    refine tab_ok (fun x hx => ?_) (fun x hx => by cases hx) (fun x hx => by cases hx) (fun i hi => by cases hi)
    simp only [List.mem_cons, List.not_mem_nil, or_false] at hx
    rcases hx with rfl | rfl
    · exact says_lss (n3 0) num_i (by change Value.bool false = .bool (decide (c < 0)); rw [decide_eq_false h])
    · exact says_rem (n3 0) (n3 1) (by change m ≠ 0; omega) (by
        change num (pRho c m) .i64 (c.tmod m) (L3 2)
        have : c.tmod m = pickv c m := by unfold pickv; rw [if_neg h]
        rw [this]; exact n3 2)

theorem picks_ok {P : Program} {pk : Nat} {noop : FuncId → Bool} (hP : ProgOK P) (hN : NoopOK P noop) (hrun : ∀ neg nx K, go 3 P (pT neg) noop false ⟨.nil, nx⟩ pk [L3 0, L3 1] K = K (L3 2) ⟨.nil, nx⟩) : PickOK P pk := by
  intro c m w hc hm
  let X : Cx := ⟨pRho c m, fun i => ⟨i, 0, 0⟩, NG⟩
  have hR : Rel X ⟨.nil, NG⟩ w := ⟨rfl, fun id b (hb : getT .nil id = some b) => (by rw [getT_nil] at hb; cases hb), fun id _ b _ (hb : getT .nil id = some b) => (by rw [getT_nil] at hb; cases hb), Nat.le_refl _, fun i _ => ⟨rfl, rfl⟩⟩
  have hv : VRl X [L3 0, L3 1] [.int .i64 c, .int .i64 m] := VRl_cons.2 ⟨_, _, rfl, rfl, VRl_cons.2 ⟨_, _, rfl, rfl, rfl⟩⟩
  have h : go 3 P (pT (decide (c < 0))) noop false ⟨.nil, NG⟩ pk [L3 0, L3 1] (fun v s => v = L3 2 ∧ s = ⟨.nil, NG⟩) := by rw [hrun]; exact ⟨rfl, rfl⟩
  obtain ⟨h1, h2⟩ := (go_ok hP (pT_ok hc hm) hN 3).1 ⟨.nil, NG⟩ pk _ _ X w _ rfl h hR hv
  refine ⟨h1, CallsIn.mono h2 fun e w' ⟨v, s', Y, u, k1, k2, k3, k4, k5⟩ => ?_⟩
  obtain ⟨rfl, rfl⟩ := k2
  have e1 : u = .int .i64 (pickv c m) := by
    have : u = .int (kOf 3) (Y.ρ 2) := VR_complex.1 k5
    rw [this, k4.le.ρ]; rfl
  subst e1
  exact ⟨k1, k4.io, k4.size, fun b hb => (k4.keep b hb (fun id c hc => by rw [getT_nil] at hc; cases hc)).1⟩

end Go.Proofs.YtkpfafehcmammaaGreatDoor
namespace Go.Proofs.YtkpfafehcmammaaGreatDoor
open Go.Deep

/-! A call by its contract: what it finds of the memory, and what it leaves. -/
structure OE where
  nx : Nat
  args : List Value
  ins : List (Nat × AB)
  outs : List (Nat × AB)
  nx' : Nat
  res : Value

def delBs (l : List (Nat × AB)) : TB → (TB → Prop) → Prop :=
  @List.rec _ (fun _ => TB → (TB → Prop) → Prop) (fun h K => K h) (fun p _ ih h K => delB h p.1 (fun h => ih h K)) l
def setBs (l : List (Nat × AB)) : TB → (TB → Prop) → Prop :=
  @List.rec _ (fun _ => TB → (TB → Prop) → Prop) (fun h K => K h) (fun p _ ih h K => setB h p.1 p.2 (fun h => ih h K)) l
def orcE (E : OE) (s : AS) (args : List Value) (K : KVS) : Prop :=
  yes (Nat.beq s.nx E.nx && all2 veq args E.args) (sameBs E.ins s.h (delBs E.ins s.h (fun h => setBs E.outs h (fun h => K E.res ⟨h, E.nx'⟩))))

theorem delBs_ex : ∀ {l : List (Nat × AB)} {h : TB} {K : TB → Prop}, delBs l h K → ∃ h', K h' ∧ ∀ m b, getT h' m = some b → getT h m = some b ∧ ∀ p ∈ l, p.1 ≠ m := by
  intro l
  induction l with
  | nil => intro h K hk; exact ⟨h, hk, fun m b hb => ⟨hb, fun p hp => by cases hp⟩⟩
  | cons x l ih =>
    intro h K hk
    obtain ⟨h1, k1, k2⟩ := delB_ex (K := fun h => delBs l h K) hk
    obtain ⟨h2, k3, k4⟩ := ih k2
    refine ⟨h2, k3, fun m b hb => ?_⟩
    obtain ⟨k5, k6⟩ := k4 m b hb
    rw [k1 m] at k5
    split at k5
    · cases k5
    · rename_i e
      exact ⟨k5, fun p hp => by
        rcases List.mem_cons.1 hp with rfl | hp
        · exact fun c => e c.symm
        · exact k6 p hp⟩

theorem setBs_ex : ∀ {l : List (Nat × AB)} {h : TB} {K : TB → Prop}, setBs l h K → ∃ h', K h' ∧ ∀ m b, getT h' m = some b → (m, b) ∈ l ∨ getT h m = some b := by
  intro l
  induction l with
  | nil => intro h K hk; exact ⟨h, hk, fun m b hb => .inr hb⟩
  | cons x l ih =>
    intro h K hk
    obtain ⟨h1, k1, k2⟩ := setB_ex (K := fun h => setBs l h K) hk
    obtain ⟨h2, k3, k4⟩ := ih k2
    refine ⟨h2, k3, fun m b hb => ?_⟩
    rcases k4 m b hb with k5 | k5
    · exact .inl (List.mem_cons_of_mem _ k5)
    · rw [k1 m] at k5
      split at k5
      · rename_i e
        cases k5
        exact .inl (by rw [e]; exact List.mem_cons_self)
      · exact .inr k5

theorem blkEq_wrt {b l : AB} (h : blkEq b l = true) : wrt b = true ∧ wrt l = true := by
  unfold blkEq at h
  split at h
  · split at h
    · rename_i _ c _ d
      simp only [Bool.and_eq_true, Bool.not_eq_true'] at h
      exact ⟨by simp [wrt, h.1.1.1.1.1], by simp [wrt, h.1.2]⟩
    · cases h
  · split at h
    · exact ⟨rfl, rfl⟩
    · cases h
  · cases h

section
variable {X Y : Cx} {s : AS} {w w' : World} {hE hX h' : TB} {nx' : Nat}

/-- Some of the memory. -/
theorem Rel.part (hR : Rel X s w) (hin : ∀ id b, getT hE id = some b → ∃ b', getT s.h id = some b' ∧ blkEq b' b = true) : Rel X ⟨hE, s.nx⟩ w :=
  ⟨hR.nx, fun id b hb => by
    obtain ⟨b', k1, k2⟩ := hin id b hb
    obtain ⟨k3, k4⟩ := hR.blk id b' k1
    exact ⟨k3, (blkEq_BR k2 k4).1⟩, fun id id' b b' hb hb' e => by
    obtain ⟨c, k1, _⟩ := hin id b hb
    obtain ⟨c', k1', _⟩ := hin id' b' hb'
    exact hR.sep _ _ _ _ k1 k1' e, hR.ng, hR.glob⟩

/-- The rest of the memory stays. -/
theorem frame (hR : Rel X s w) (hin : ∀ id b, getT hE id = some b → ∃ b', getT s.h id = some b' ∧ blkEq b' b = true) (hY : Rel Y ⟨hX, nx'⟩ w') (hx : Ext X ⟨hE, s.nx⟩ w Y ⟨hX, nx'⟩ w')
    (hh : ∀ id b, getT h' id = some b → getT hX id = some b ∨ (getT s.h id = some b ∧ getT hE id = none)) : Rel Y ⟨h', nx'⟩ w' ∧ Ext X s w Y ⟨h', nx'⟩ w' := by
  have old : ∀ id b, getT s.h id = some b → getT hE id = none → id < X.nx ∧ Y.j id = X.j id ∧ (X.j id).b < w.heap.size ∧ Un X ⟨hE, s.nx⟩ (X.j id).b := fun id b hb hn => by
    obtain ⟨k1, k2⟩ := hR.blk id b hb
    refine ⟨k1, hx.le.j id k1, k2.lt, fun id2 b2 (hb2 : getT hE id2 = some b2) e => ?_⟩
    obtain ⟨c, k3, _⟩ := hin id2 b2 hb2
    have := hR.sep _ _ _ _ k3 hb e
    subst this
    rw [hn] at hb2
    cases hb2
  have frE : ∀ k, Fr X s k → Fr X ⟨hE, s.nx⟩ k := fun k hk id b (hb : getT hE id = some b) hw => by
    obtain ⟨c, k1, k2⟩ := hin id b hb
    exact hk id c k1 (blkEq_wrt k2).1
  have unE : ∀ k, Un X s k → Un X ⟨hE, s.nx⟩ k := fun k hk id b (hb : getT hE id = some b) => by
    obtain ⟨c, k1, k2⟩ := hin id b hb
    exact hk id c k1
  refine ⟨⟨hY.nx, fun id b hb => ?_, fun id id' b b' hb hb' e => ?_, hY.ng, hY.glob⟩, ⟨hx.le, hx.size, fun k hk hf => ⟨(hx.keep k hk (frE k hf)).1, fun id b hb hw => ?_⟩, fun k hk hu id b hb => ?_, hx.io⟩⟩
  · rcases hh id b hb with h | ⟨h, hn⟩
    · exact hY.blk id b h
    · obtain ⟨k1, k2, k3, k4⟩ := old id b h hn
      refine ⟨Nat.lt_of_lt_of_le k1 hx.le.nx, ?_⟩
      rw [k2]
      exact (hR.blk id b h).2.mono hx.le (hx.keep _ k3 k4.fr).1
  · rcases hh id b hb with h | ⟨h, hn⟩ <;> rcases hh id' b' hb' with g | ⟨g, gn⟩
    · exact hY.sep _ _ _ _ h g e
    · obtain ⟨k1, k2, k3, k4⟩ := old id' b' g gn
      rw [k2] at e
      exact absurd e (hx.un _ k3 k4 id b h)
    · obtain ⟨k1, k2, k3, k4⟩ := old id b h hn
      rw [k2] at e
      exact absurd e.symm (hx.un _ k3 k4 id' b' g)
    · obtain ⟨_, k2, _⟩ := old id b h hn
      obtain ⟨_, g2, _⟩ := old id' b' g gn
      rw [k2, g2] at e
      exact hR.sep _ _ _ _ h g e
  · rcases hh id b hb with h | ⟨h, hn⟩
    · exact (hx.keep k hk (frE k hf)).2 id b h hw
    · obtain ⟨_, k2, _⟩ := old id b h hn
      rw [k2]
      exact hf id b h hw
  · rcases hh id b hb with h | ⟨h, hn⟩
    · exact hx.un k hk (unE k hu) id b h
    · obtain ⟨_, k2, _⟩ := old id b h hn
      rw [k2]
      exact hu id b h
end

/-- The contract holds. -/
def EntOK (P : Program) (ρ : Nat → Int) (te : FuncId) (E : OE) : Prop :=
  (∃ fn c, P.funcs[te]? = some fn ∧ fn.body = some c) ∧ ∃ hE hX : TB, (∀ id b, getT hE id = some b → (id, b) ∈ E.ins) ∧ (∀ id, getT hE id = none → ∀ p ∈ E.ins, p.1 ≠ id) ∧ (∀ p ∈ E.outs, getT hX p.1 = some p.2) ∧
    ∀ (X : Cx) (w : World) (us : List Value), X.ρ = ρ → Rel X ⟨hE, E.nx⟩ w → VRl X E.args us →
      CallsIn Fence.wide 0 P te us.toArray w (fun e w' => ∃ Y u, e = .returned u ∧ Rel Y ⟨hX, E.nx'⟩ w' ∧ Ext X ⟨hE, E.nx⟩ w Y ⟨hX, E.nx'⟩ w' ∧ VR Y E.res u)

theorem orcE_ok {P : Program} {ρ : Nat → Int} {te : FuncId} {E : OE} (hE : EntOK P ρ te E) {s : AS} {args : List Value} {K : KVS} {X : Cx} {w : World} {us : List Value} (hρ : X.ρ = ρ) (h : orcE E s args K) (hR : Rel X s w) (hv : VRl X args us) :
    (∃ fn c, P.funcs[te]? = some fn ∧ fn.body = some c) ∧ CallsIn Fence.wide 0 P te us.toArray w (Post X s w K) := by
  obtain ⟨h0, hE, hX, h1, h1', h2, h3⟩ := hE
  obtain ⟨k1, k2⟩ := yes_ex h
  simp only [Bool.and_eq_true] at k1
  have k3 := Nat.eq_of_beq_eq_true k1.1
  have k4 := all2_eq (fun _ _ h => veq_eq h) k1.2
  subst k4
  obtain ⟨k5, k6⟩ := sameBs_ex k2
  obtain ⟨hd, k7, k8⟩ := delBs_ex k5
  obtain ⟨h', k9, k10⟩ := setBs_ex k7
  have hin : ∀ id b, getT hE id = some b → ∃ b', getT s.h id = some b' ∧ blkEq b' b = true := fun id b hb => k6 _ (h1 id b hb)
  refine ⟨h0, CallsIn.mono (h3 X w us hρ (by rw [← k3]; exact hR.part hin) hv) fun e w' ⟨Y, u, q1, q2, q3, q4⟩ => ?_⟩
  rw [← k3] at q3
  obtain ⟨r1, r2⟩ := frame (h' := h') hR hin q2 q3 (fun id b hb => by
    rcases k10 id b hb with g | g
    · exact .inl (h2 _ g)
    · obtain ⟨g1, g2⟩ := k8 id b g
      refine .inr ⟨g1, ?_⟩
      cases hg : getT hE id with
      | none => rfl
      | some c => exact absurd rfl (g2 _ (h1 id c hg)))
  exact ⟨E.res, ⟨h', E.nx'⟩, Y, u, q1, k9, r1, r2, q4⟩

/-! The evaluator, with calls by contract at whatever depth. -/
def goO (O : FuncId → Nat → Option OE) (n : Nat) : Program → Tab → (FuncId → Bool) → Bool → AS → Nat → List Value → KVS → Prop :=
  @Nat.rec (fun _ => Program → Tab → (FuncId → Bool) → Bool → AS → Nat → List Value → KVS → Prop) (fun _ _ _ _ _ _ _ _ => False)
    (fun _ ih P T noop r s f args K => ife r (roundIn P T ⟨noop, ih P T noop false, ih P T noop true, true⟩ s f args K)
      (@Option.rec _ (fun _ => Prop) (callIn P T ⟨noop, ih P T noop false, ih P T noop true, false⟩ s f args K) (fun E => orcE E s args K) (O f s.nx))) n

theorem goO_ok {P : Program} {T : Tab} {O : FuncId → Nat → Option OE} (hP : ProgOK P) {ρ : Nat → Int} (hT : TabOK P ρ T) {noop : FuncId → Bool} (hN : NoopOK P noop) (hO : ∀ f nx E, O f nx = some E → EntOK P ρ f E) :
    ∀ n, CallOK P ρ (goO O n P T noop false) ∧ RoundOK P ρ (goO O n P T noop true)
  | 0 => ⟨fun _ _ _ _ _ _ _ _ h => h.elim, fun _ _ _ _ _ _ _ _ h => h.elim⟩
  | n + 1 => by
    obtain ⟨ih1, ih2⟩ := goO_ok hP hT hN hO n
    refine ⟨fun s f args K X w us hρ h hR hl => ?_, fun s l args K X w us hρ h hR hl => ?_⟩
    · have h' : @Option.rec _ (fun _ => Prop) (callIn P T ⟨noop, goO O n P T noop false, goO O n P T noop true, false⟩ s f args K) (fun E => orcE E s args K) (O f s.nx) := h
      cases hf : O f s.nx with
      | none =>
        rw [hf] at h'
        exact callIn_ok (by rw [hρ]; exact ⟨hP, hT, ih1, ih2, rfl⟩) hN (fun c => code_ok c) h' hR hl
      | some E =>
        rw [hf] at h'
        exact orcE_ok (hO _ _ _ hf) hρ h' hR hl
    · have h' : roundIn P T ⟨noop, goO O n P T noop false, goO O n P T noop true, true⟩ s l args K := h
      exact roundIn_ok (fun r => by rw [hρ]; exact ⟨hP, hT, ih1, ih2, rfl⟩) h' hR hl
end Go.Proofs.YtkpfafehcmammaaGreatDoor
namespace Go.Proofs.YtkpfafehcmammaaGreatDoor
open Go.Deep

/-! Rounds of a loop: so many, then what is said. -/
def evTo (m : Nat) : (AA → AS → KA → KX → Prop) → AA → AS → KA → Prop :=
  @Nat.rec (fun _ => (AA → AS → KA → KX → Prop) → AA → AS → KA → Prop) (fun _ a s K => K a s) (fun _ ih f a s K => f a s (fun a s => ih f a s K) (fun _ _ _ => False)) m

section
variable {P : Program} {T : Tab} {e : Env} {Q : Exit → Act → World → Prop}
theorem to_ok {x : Code} {N : Nat} : ∀ (m : Nat) {aa : AA} {a : Act} {X : Cx} {s : AS} {w : World} {K : KA}, EnvOK P X.ρ T e none → evTo m (evCode x P T e) aa s K → Rel X s w → AAR X aa a →
    (∀ Y aa' s' a' w', K aa' s' → Rel Y s' w' → Ext X s w Y s' w' → AAR Y aa' a' → Code.roundsIn (Fw none) 0 P x Q N a' w') → Code.roundsIn (Fw none) 0 P x Q (N + m) a w
  | 0, aa, a, X, s, w, K, _, h, hR, ha, hn => hn X aa s a w h hR (Ext.refl X s w) ha
  | m + 1, aa, a, X, s, w, K, hE, h, hR, ha, hn => by
    have h' : evCode x P T e aa s (fun a s => evTo m (evCode x P T e) a s K) (fun _ _ _ => False) := h
    refine code_ok x aa a X s w _ _ _ hE h' hR ha (fun Y aa1 s1 a1 w1 k1 k2 k3 k4 => ?_) (fun x Y aa1 s1 a1 w1 k1 _ _ _ _ => k1.elim)
    exact to_ok m (by rw [k3.le.ρ]; exact hE) k1 k2 k4 (fun Z aa2 s2 a2 w2 q1 q2 q3 q4 => hn Z aa2 s2 a2 w2 q1 q2 (k3.trans q3) q4)

theorem rounds_ok {x : Code} : ∀ (m : Nat) {aa : AA} {a : Act} {X : Cx} {s : AS} {w : World} {Kx : KX}, EnvOK P X.ρ T e none → evLoop m (evCode x P T e) aa s Kx → Rel X s w → AAR X aa a →
    (∀ x Y aa' s' a' w', Kx x aa' s' → Rel Y s' w' → Ext X s w Y s' w' → AAR Y aa' a' → x ≠ .normal → Q x a' w') → Code.roundsIn (Fw none) 0 P x Q m a w
  | 0, aa, a, X, s, w, K, _, h, hR, ha, hn => h.elim
  | m + 1, aa, a, X, s, w, Kx, hE, h, hR, ha, hx => by
    have h' : evCode x P T e aa s (fun a s => evLoop m (evCode x P T e) a s Kx) Kx := h
    refine code_ok x aa a X s w _ _ _ hE h' hR ha (fun Y aa1 s1 a1 w1 k1 k2 k3 k4 => ?_) (fun y Y aa1 s1 a1 w1 k1 k2 k3 k4 k5 => ?_)
    · exact rounds_ok m (by rw [k3.le.ρ]; exact hE) k1 k2 k4 (fun y Z aa2 s2 a2 w2 q1 q2 q3 q4 q5 => hx y Z aa2 s2 a2 w2 q1 q2 (k3.trans q3) q4 q5)
    · have := hx y Y aa1 s1 a1 w1 k1 k2 k3 k4 k5
      cases y <;> first | exact absurd rfl k5 | exact this
end

/-! The same state under other numbers: blocks and letters are named anew. -/
def idr : List (Nat × Nat) → Nat → Nat
  | [], i => i
  | p :: l, i => bif Nat.beq i p.1 then p.2 else idr l i
abbrev Sub := List (Nat × Nat × Value)
def ltr : Sub → Nat → Nat → Option Value
  | [], _, _ => none
  | e :: l, re, im => bif Nat.beq re e.1 && Nat.beq im e.2.1 then some e.2.2 else ltr l re im
def rnA (nx : Nat) (π : List (Nat × Nat)) (p q : Option Addr) : Bool := match q with
  | none => p.isNone
  | some b => match p with | none => false | some a => Nat.beq a.1 (idr π b.1) && Nat.beq a.2 b.2 && onatS a.3 b.3 && Nat.blt b.1 nx
def rnv (nx : Nat) (π : List (Nat × Nat)) (sub : Sub) (u v : Value) : Bool := match v with
  | .complex _ re im => (match ltr sub re im with | some x => veq1 u x | none => false)
  | .pointer q => (match u with | .pointer p => rnA nx π p q | _ => false)
  | .slice q l c => (match u with | .slice p l' c' => rnA nx π p q && Nat.beq l' l && Nat.beq c' c | _ => false)
  | v => plain1 v && veq1 u v
def cellRn (nx : Nat) (π : List (Nat × Nat)) (sub : Sub) (c : CB) (p : Nat × Value) : Bool := match getT c.vs p.1 with
  | some v => rnv nx π sub v p.2
  | none => match c.d with | some v => rnv nx π sub v p.2 | none => false
def blkRn (nx : Nat) (π : List (Nat × Nat)) (sub : Sub) (b l : AB) : Bool := match b with
  | .inl c => (match l with | .inl d => !c.ro && d.d.isNone && Nat.ble d.n c.n && Nat.beq c.ty d.ty && !d.ro && (toL d.vs).all (cellRn nx π sub c) | _ => false)
  | _ => false
def sameRn (nx : Nat) (π : List (Nat × Nat)) (sub : Sub) (l : List (Nat × Value)) : TV → Prop → Prop :=
  @List.rec _ (fun _ => TV → Prop → Prop) (fun _ K => K) (fun p _ ih t K => gv t p.1 (fun v => yes (rnv nx π sub v p.2) (ih t K))) l
def sameBn (nx : Nat) (π : List (Nat × Nat)) (sub : Sub) (l : List (Nat × AB)) : TB → Prop → Prop :=
  @List.rec _ (fun _ => TB → Prop → Prop) (fun _ K => K) (fun p _ ih h K => gb h (idr π p.1) (fun b => yes (blkRn nx π sub b p.2 && Nat.blt p.1 nx) (ih h K))) l
def atRen (n nx : Nat) (π : List (Nat × Nat)) (sub : Sub) (regs : List (Nat × Value)) (bl : List (Nat × AB)) : KA := fun a s =>
  yes (a.defers.isEmpty && Nat.beq a.n n) (sameRn nx π sub regs a.regs (sameBn nx π sub bl s.h True))

def ren (Y : Cx) (ρ : Nat → Int) (π : List (Nat × Nat)) (nx : Nat) : Cx := ⟨ρ, fun i => Y.j (idr π i), nx⟩
/-- What the letters stand for behind it. -/
def SubOK (ρ ρ' : Nat → Int) (sub : Sub) : Prop := ∀ e ∈ sub, num ρ (kOf e.1) (ρ' e.2.1) e.2.2

theorem ltr_mem {re im : Nat} {x : Value} : ∀ {sub : Sub}, ltr sub re im = some x → (re, im, x) ∈ sub := by
  intro sub
  induction sub with
  | nil => intro h; cases h
  | cons e l ih =>
    intro h
    have h' : (bif Nat.beq re e.1 && Nat.beq im e.2.1 then some e.2.2 else ltr l re im) = some x := h
    cases hb : (Nat.beq re e.1 && Nat.beq im e.2.1) with
    | true =>
      rw [hb] at h'
      simp only [Bool.and_eq_true] at hb
      have e1 : e.2.2 = x := Option.some.inj h'
      rw [Nat.eq_of_beq_eq_true hb.1, Nat.eq_of_beq_eq_true hb.2, ← e1]
      exact List.mem_cons_self
    | false => rw [hb] at h'; exact List.mem_cons_of_mem _ (ih h')

section
variable {Y : Cx} {ρ' : Nat → Int} {nx : Nat} {π : List (Nat × Nat)} {sub : Sub}
theorem rnA_ex {p q : Option Addr} (h : rnA nx π p q = true) : (q = none ∧ p = none) ∨ ∃ i o z, q = some ⟨i, o, z⟩ ∧ p = some ⟨idr π i, o, z⟩ ∧ i < nx := by
  unfold rnA at h
  split at h
  · left
    cases p with
    | none => exact ⟨rfl, rfl⟩
    | some _ => cases h
  · rename_i b
    split at h
    · cases h
    · rename_i a
      simp only [Bool.and_eq_true] at h
      obtain ⟨⟨⟨h1, h2⟩, h3⟩, h4⟩ := h
      obtain ⟨i, o, z⟩ := b
      obtain ⟨i', o', z'⟩ := a
      have e1 : i' = idr π i := Nat.eq_of_beq_eq_true h1
      have e2 : o' = o := Nat.eq_of_beq_eq_true h2
      have e4 : i < nx := blt_iff.1 h4
      have h3' : z' = z := by
        unfold onatS at h3
        dsimp only at h3
        cases z' with
        | none => cases z with | none => rfl | some _ => cases h3
        | some x => cases z with
          | none => cases h3
          | some y => rw [Nat.eq_of_beq_eq_true h3]
      subst e1; subst e2; subst h3'
      exact .inr ⟨i, o', z', rfl, rfl, e4⟩

theorem rnv_one {u v : Value} (h : rnv nx π sub u v = true) : one v = true := by
  unfold rnv at h
  split at h
  · rfl
  · rfl
  · rfl
  · simp only [Bool.and_eq_true] at h
    have h := h.1
    unfold plain1 at h
    split at h <;> first | rfl | cases h

theorem rnv_VR (hs : SubOK Y.ρ ρ' sub) {u v x : Value} (h : rnv nx π sub u v = true) (hv : VR Y u x) : VR (ren Y ρ' π nx) v x := by
  unfold rnv at h
  split at h
  · rename_i k re im
    split at h
    · rename_i y hy
      have e1 := veq1_eq h
      subst e1
      exact VR_complex.2 ((hs _ (ltr_mem hy)).eq rfl hv)
    · cases h
  · rename_i q
    split at h
    · rename_i p
      rcases rnA_ex h with ⟨rfl, rfl⟩ | ⟨i, o, z, rfl, rfl, h1⟩
      · exact hv
      · cases z with
        | none => exact ⟨h1, hv.2⟩
        | some _ => exact hv.elim
    · cases h
  · rename_i q l c
    split at h
    · rename_i p l' c'
      simp only [Bool.and_eq_true] at h
      have e1 := Nat.eq_of_beq_eq_true h.1.2
      have e2 := Nat.eq_of_beq_eq_true h.2
      subst e1; subst e2
      rcases rnA_ex h.1.1 with ⟨rfl, rfl⟩ | ⟨i, o, z, rfl, rfl, h1⟩
      · exact hv
      · cases z with
        | none => exact hv.elim
        | some z =>
          obtain ⟨_, h3, h4⟩ := VR_slice.1 hv
          exact VR_slice.2 ⟨h1, h3, h4⟩
    · cases h
  · simp only [Bool.and_eq_true] at h
    have e1 := veq1_eq h.2
    subst e1
    have h := h.1
    unfold plain1 at h
    split at h <;> first | exact hv | cases h

theorem blkRn_BR {w : World} {L : Loc} (hs : SubOK Y.ρ ρ' sub) {b l : AB} (h : blkRn nx π sub b l = true) (hb : BR Y w L b) : BR (ren Y ρ' π nx) w L l ∧ wrt b = true := by
  unfold blkRn at h
  split at h
  · split at h
    · rename_i _ c _ d
      simp only [Bool.and_eq_true, Bool.not_eq_true'] at h
      obtain ⟨⟨⟨⟨⟨h1, h2⟩, h3⟩, h4⟩, h5⟩, h6⟩ := h
      have h3 := Nat.le_of_ble_eq_true h3
      have h4 := Nat.eq_of_beq_eq_true h4
      obtain ⟨cs, fz, k1, k2, k3, k4, k5⟩ := (show CR Y w L c from hb)
      refine ⟨⟨cs, fz, by rw [← h4]; exact k1, Nat.le_trans h3 k2, k3, fun _ => k4 h1, fun i v hv => ?_⟩, by simp [wrt, h1]⟩
      unfold cbAt at hv
      split at hv
      · rename_i hi
        split at hv
        · rename_i v' hv'
          simp only [Option.some.injEq] at hv
          subst hv
          rw [List.all_eq_true] at h6
          have := h6 _ (getT_mem hv')
          unfold cellRn at this
          split at this
          · rename_i u hu
            obtain ⟨_, x, g1, g2⟩ := k5 i u (by unfold cbAt; rw [if_pos (by omega), show getT c.vs i = some u from hu])
            exact ⟨rnv_one this, x, g1, rnv_VR hs this g2⟩
          · rename_i hu
            split at this
            · rename_i u hd'
              obtain ⟨_, x, g1, g2⟩ := k5 i u (by unfold cbAt; rw [if_pos (by omega), show getT c.vs i = none from hu]; exact hd')
              exact ⟨rnv_one this, x, g1, rnv_VR hs this g2⟩
            · cases this
        · rw [Option.isNone_iff_eq_none] at h2
          rw [h2] at hv
          cases hv
      · cases hv
    · cases h
  · cases h

theorem sameRn_ex : ∀ {l : List (Nat × Value)} {t : TV} {K : Prop}, sameRn nx π sub l t K → K ∧ ∀ p ∈ l, ∃ u, getT t p.1 = some u ∧ rnv nx π sub u p.2 = true := by
  intro l
  induction l with
  | nil => intro t K h; exact ⟨h, fun p hp => by cases hp⟩
  | cons x l ih =>
    intro t K h
    obtain ⟨u, h1, h2⟩ := gv_ex (K := fun u => yes (rnv nx π sub u x.2) (sameRn nx π sub l t K)) h
    obtain ⟨h3, h4⟩ := yes_ex h2
    obtain ⟨h6, h7⟩ := ih h4
    refine ⟨h6, fun p hp => ?_⟩
    rcases List.mem_cons.1 hp with rfl | hp
    · exact ⟨u, h1, h3⟩
    · exact h7 p hp

theorem sameBn_ex : ∀ {l : List (Nat × AB)} {h : TB} {K : Prop}, sameBn nx π sub l h K → K ∧ ∀ p ∈ l, ∃ b, getT h (idr π p.1) = some b ∧ blkRn nx π sub b p.2 = true ∧ p.1 < nx := by
  intro l
  induction l with
  | nil => intro t K h; exact ⟨h, fun p hp => by cases hp⟩
  | cons x l ih =>
    intro t K h
    obtain ⟨u, h1, h2⟩ := gb_ex (K := fun u => yes (blkRn nx π sub u x.2 && Nat.blt x.1 nx) (sameBn nx π sub l t K)) h
    obtain ⟨h3, h4⟩ := yes_ex h2
    simp only [Bool.and_eq_true] at h3
    obtain ⟨h6, h7⟩ := ih h4
    refine ⟨h6, fun p hp => ?_⟩
    rcases List.mem_cons.1 hp with rfl | hp
    · exact ⟨u, h1, h3.1, blt_iff.1 h3.2⟩
    · exact h7 p hp

theorem Rel.ren {s : AS} {w : World} {hL : TB} {bl : List (Nat × AB)} (hR : Rel Y s w) (hs : SubOK Y.ρ ρ' sub) (hng : NG ≤ nx) (hπ : ∀ i, i < NG → idr π i = i) (hb : ∀ p ∈ bl, ∃ b, getT s.h (idr π p.1) = some b ∧ blkRn nx π sub b p.2 = true ∧ p.1 < nx)
    (hh : ∀ id b, getT hL id = some b → (id, b) ∈ bl) (inj : ∀ p ∈ bl, ∀ q ∈ bl, idr π p.1 = idr π q.1 → p.1 = q.1) : Rel (Go.Proofs.YtkpfafehcmammaaGreatDoor.ren Y ρ' π nx) ⟨hL, nx⟩ w :=
  ⟨rfl, fun id b h => by
    obtain ⟨c, k1, k2, k3⟩ := hb _ (hh id b h)
    exact ⟨k3, (blkRn_BR hs k2 (hR.blk _ c k1).2).1⟩, fun id id' b b' h h' e => by
    obtain ⟨c, k1, k2, k3⟩ := hb _ (hh id b h)
    obtain ⟨c', k1', _⟩ := hb _ (hh id' b' h')
    exact inj _ (hh id b h) _ (hh id' b' h') (hR.sep _ _ _ _ k1 k1' e), hng, fun i hi => by
    have := hR.glob i hi
    change (Y.j (idr π i)).b = i ∧ (Y.j (idr π i)).base = 0
    rw [hπ i hi]; exact this⟩

/-- The base, with other letters. -/
def Cx.let (X : Cx) (ρ : Nat → Int) : Cx := ⟨ρ, X.j, X.nx⟩
theorem Ext.ren {X0 : Cx} {s0 s : AS} {W w : World} {hL : TB} {bl : List (Nat × AB)} (hX : Ext X0 s0 W Y s w) (hnx : X0.nx ≤ nx) (hπ : ∀ i, i < X0.nx → idr π i = i) (hb : ∀ p ∈ bl, ∃ b, getT s.h (idr π p.1) = some b ∧ blkRn nx π sub b p.2 = true ∧ p.1 < nx)
    (hh : ∀ id b, getT hL id = some b → (id, b) ∈ bl) : Ext (X0.let ρ') s0 W (Go.Proofs.YtkpfafehcmammaaGreatDoor.ren Y ρ' π nx) ⟨hL, nx⟩ w :=
  ⟨⟨rfl, hnx, fun i hi => by
    change Y.j (idr π i) = X0.j i
    rw [hπ i hi]; exact hX.le.j i hi⟩, hX.size, fun k hk hf => ⟨(hX.keep k hk hf).1, fun id b h _ => by
    obtain ⟨c, k1, k2, _⟩ := hb _ (hh id b h)
    refine (hX.keep k hk hf).2 _ c k1 ?_
    unfold blkRn at k2
    split at k2
    · split at k2
      · rename_i _ c _ d
        simp only [Bool.and_eq_true, Bool.not_eq_true'] at k2
        simp [wrt, k2.1.1.1.1.1]
      · cases k2
    · cases k2⟩, fun k hk hu id b h => by
    obtain ⟨c, k1, k2, _⟩ := hb _ (hh id b h)
    exact hX.un k hk hu _ c k1, hX.io⟩

theorem Ext.let {X0 : Cx} {s0 s : AS} {W w : World} (hX : Ext X0 s0 W Y s w) : Ext (X0.let ρ') s0 W (Y.let ρ') s w := ⟨⟨rfl, hX.le.nx, hX.le.j⟩, hX.size, hX.keep, hX.un, hX.io⟩
end

/-- The state that is looked for is there, under other names. -/
theorem ren_ok {X0 Y : Cx} {s0 s : AS} {W w : World} {a : Act} {aa : AA} {ρ' : Nat → Int} {n nx : Nat} {π : List (Nat × Nat)} {sub : Sub} {regs : List (Nat × Value)} {bl : List (Nat × AB)} {hL : TB} (h : atRen n nx π sub regs bl aa s) (hR : Rel Y s w) (hX : Ext X0 s0 W Y s w) (ha : AAR Y aa a)
    (hs : SubOK Y.ρ ρ' sub) (hng : NG ≤ X0.nx) (hnx : X0.nx ≤ nx) (hπ : ∀ i, i < X0.nx → idr π i = i) (hh : ∀ id b, getT hL id = some b → (id, b) ∈ bl) (inj : ∀ p ∈ bl, ∀ q ∈ bl, idr π p.1 = idr π q.1 → p.1 = q.1) :
    ∃ Z : Cx, Z.ρ = ρ' ∧ Rel Z ⟨hL, nx⟩ w ∧ Ext (X0.let ρ') s0 W Z ⟨hL, nx⟩ w ∧ (∀ p ∈ regs, ∃ u, a.tmps[p.1]? = some u ∧ VR Z p.2 u) ∧ n ≤ a.tmps.size ∧ a.defers = [] := by
  obtain ⟨q1, q2⟩ := yes_ex h
  simp only [Bool.and_eq_true] at q1
  have q3 : aa.defers = [] := by simpa using q1.1
  have q4 := Nat.eq_of_beq_eq_true q1.2
  obtain ⟨q6, q7⟩ := sameRn_ex q2
  obtain ⟨_, q8⟩ := sameBn_ex q6
  have hd := ha.defers
  rw [q3] at hd
  refine ⟨Go.Proofs.YtkpfafehcmammaaGreatDoor.ren Y ρ' π nx, rfl, hR.ren hs (Nat.le_trans hng hnx) (fun i hi => hπ i (Nat.lt_of_lt_of_le hi hng)) q8 hh inj, hX.ren hnx hπ q8 hh, fun p hp => ?_, by rw [← q4]; exact ha.regs.1, hd⟩
  obtain ⟨v, k1, k2⟩ := q7 p hp
  obtain ⟨u, k3, k4⟩ := ha.regs.2 p.1 v k1
  exact ⟨u, k3, rnv_VR hs k2 k4⟩
end Go.Proofs.YtkpfafehcmammaaGreatDoor
namespace Go.Proofs.YtkpfafehcmammaaGreatDoor
open Go.Deep

/-! A function that is one loop: its contract, by what holds at the loop's head. -/
def loopOf : Code → Option (Code × Nat × Code)
  | .seq _ (.seq (.block id (.loop x)) post) => some (x, id, post)
  | _ => none

theorem loopOf_eq {c x post : Code} {id : Nat} (h : loopOf c = some (x, id, post)) : ∃ r, c = .seq r (.seq (.block id (.loop x)) post) := by
  unfold loopOf at h
  split at h
  · cases h; exact ⟨_, rfl⟩
  · cases h

def finE (fn : Func) (P : Program) (nx : Nat) (π : List (Nat × Nat)) (sub : Sub) (res : Value) (outs : List (Nat × AB)) : KA := fun a s =>
  yes a.defers.isEmpty (results fn.results.toList P s.h (gv a.regs) (fun l => yes (rnv nx π sub (tup l) res) (sameBn nx π sub outs s.h True)))
def finEX (fn : Func) (P : Program) (nx : Nat) (π : List (Nat × Nat)) (sub : Sub) (res : Value) (outs : List (Nat × AB)) : KX := fun x a s => leaveX x (finE fn P nx π sub res outs a s)
def loopEnd (fn : Func) (P : Program) (T : Tab) (e : Env) (id : Nat) (post : Code) (nx : Nat) (π : List (Nat × Nat)) (sub : Sub) (res : Value) (outs : List (Nat × AB)) : KX :=
  blockX id (fun a s => evCode post P T e a s (fun _ _ => False) (finEX fn P nx π sub res outs)) (finEX fn P nx π sub res outs)

section
variable {P : Program} {ρ : Nat → Int} {te : FuncId} {fn : Func} {c x post : Code} {id : Nat} {E : OE} {hE hX hL : TB} {n nxL : Nat} {rgL : List (Nat × Value)} {rtL : TV} {blL : List (Nat × AB)}

theorem let_let (X : Cx) (ρ ρ' : Nat → Int) : (X.let ρ).let ρ' = X.let ρ' := rfl
theorem let_self {X : Cx} (h : X.ρ = ρ) : X.let ρ = X := by subst h; rfl

/-- What the call leaves, by the contract. -/
def EntR (E : OE) (hE hX : TB) (X : Cx) (w : World) : Ending → World → Prop := fun e w' => ∃ Y u, e = .returned u ∧ Rel Y ⟨hX, E.nx'⟩ w' ∧ Ext X ⟨hE, E.nx⟩ w Y ⟨hX, E.nx'⟩ w' ∧ VR Y E.res u
def EntQ (P : Program) (fn : Func) (id : Nat) (post : Code) (R : Ending → World → Prop) : Exit → Act → World → Prop :=
  Exit.inBlock id (Exit.then (Code.wpIn (Fw none) 0 P post (bodyPost P fn R)) (bodyPost P fn R))
/-- At the loop's head, in a state that is written out: so many rounds lead to the end. -/
def Hd (P : Program) (x : Code) (Q : Exit → Act → World → Prop) (X : Cx) (s0 : AS) (w : World) (n : Nat) (h : TB) (nx : Nat) (rt : TV) (ρ : Nat → Int) (N : Nat) : Prop :=
  ∀ (Z : Cx) (a : Act) (w' : World), Z.ρ = ρ → Rel Z ⟨h, nx⟩ w' → Ext (X.let ρ) s0 w Z ⟨h, nx⟩ w' → AAR Z ⟨rt, n, []⟩ a → Code.roundsIn (Fw none) 0 P x Q N a w'
/-- Registers that are written out. -/
def RgOK (n : Nat) (rg : List (Nat × Value)) (rt : TV) : Prop := ∀ (Z : Cx) (a : Act), (∀ p ∈ rg, ∃ u, a.tmps[p.1]? = some u ∧ VR Z p.2 u) → n ≤ a.tmps.size → a.defers = [] → AAR Z ⟨rt, n, []⟩ a
theorem RgOK.of {rg : List (Nat × Value)} {rt : TV} (h : ∀ p ∈ toL rt, p ∈ rg) : RgOK n rg rt := fun _ _ h1 h2 h3 => regs_AAR h2 h3 (fun p hp => h1 p (h p hp))

/-- Some rounds, to another state at the loop's head. -/
theorem Hd.step {Q : Exit → Act → World → Prop} {X : Cx} {s0 : AS} {w : World} {h h' : TB} {nx nx' N m : Nat} {rt rt' : TV} {ρ' : Nat → Int} {T : Tab} {e : Env} {π : List (Nat × Nat)} {sub : Sub} {rg : List (Nat × Value)} {bl : List (Nat × AB)} {k : Nat}
    (hE : EnvOK P ρ T e none) (k1 : evTo m (evCode x P T e) ⟨rt, n, []⟩ ⟨h, nx⟩ (atRen n nx' π sub rg bl)) (hs : SubOK ρ ρ' sub) (hXn : X.nx = k) (hng : NG ≤ k) (hnx : k ≤ nx') (hπ : ∀ i, i < k → idr π i = i) (hh : ∀ i b, getT h' i = some b → (i, b) ∈ bl)
    (inj : ∀ p ∈ bl, ∀ q ∈ bl, idr π p.1 = idr π q.1 → p.1 = q.1) (hrt : RgOK n rg rt') (hn : Hd P x Q X s0 w n h' nx' rt' ρ' N) : Hd P x Q X s0 w n h nx rt ρ (N + m) := fun Z a w' g1 g2 g3 g4 => by
  refine to_ok m (by rw [g1]; exact hE) k1 g2 g4 (fun Y aa' s' a' w2 q1 q2 q3 q4 => ?_)
  have hY : Y.ρ = ρ := q3.le.ρ.trans g1
  obtain ⟨V, v1, v2, v3, v4, v5, v6⟩ := ren_ok (hL := h') (ρ' := ρ') q1 q2 (g3.trans q3) q4 (by rw [hY]; exact hs) (by change NG ≤ X.nx; rw [hXn]; exact hng) (by change X.nx ≤ nx'; rw [hXn]; exact hnx) (fun i hi => hπ i (by rw [← hXn]; exact hi)) hh inj
  rw [let_let] at v3
  exact hn V a' w2 v1 v2 v3 (hrt V a' v4 v5 v6)

/-- The last rounds, and what stands behind the loop. -/
theorem Hd.fin {X : Cx} {w : World} {h : TB} {nx m : Nat} {rt : TV} {ρ' : Nat → Int} {T : Tab} {e : Env} {π : List (Nat × Nat)} {sub : Sub} (hE' : EnvOK P ρ' T e none) (hX0 : X.ρ = ρ) (hXn : X.nx = E.nx) (hout' : ∀ i b, getT hX i = some b → (i, b) ∈ E.outs)
    (hg : NG ≤ E.nx) (hgX : E.nx ≤ E.nx') (hs : SubOK ρ' ρ sub) (i2 : ∀ i, i < E.nx → idr π i = i) (j2 : ∀ p ∈ E.outs, ∀ q ∈ E.outs, idr π p.1 = idr π q.1 → p.1 = q.1)
    (k2 : evLoop m (evCode x P T e) ⟨rt, n, []⟩ ⟨h, nx⟩ (loopEnd fn P T e id post E.nx' π sub E.res E.outs)) : Hd P x (EntQ P fn id post (EntR E hE hX X w)) X ⟨hE, E.nx⟩ w n h nx rt ρ' m := by
  have fin : ∀ (Y : Cx) (aa : AA) (s : AS) (a : Act) (w' : World), finE fn P E.nx' π sub E.res E.outs aa s → Y.ρ = ρ' → Rel Y s w' → Ext (X.let ρ') ⟨hE, E.nx⟩ w Y s w' → AAR Y aa a → a.defers = [] ∧ ∃ v, (Go.results fn a.tmps).run P w' = .ok v w' ∧ EntR E hE hX X w (.returned v) w' := fun Y aa s a w' g1 g2 g3 g4 g5 => by
    obtain ⟨h1, h2⟩ := yes_ex g1
    have h3 : aa.defers = [] := by simpa using h1
    obtain ⟨vs, u, h4, h5, h6⟩ := results_run (P := P) g3 g5.regs h2
    obtain ⟨h7, h8⟩ := yes_ex h4
    obtain ⟨_, h9⟩ := sameBn_ex h8
    have hd := g5.defers
    rw [h3] at hd
    have hs' : SubOK Y.ρ ρ sub := by rw [g2]; exact hs
    refine ⟨hd, u, h6, ren Y ρ π E.nx', u, rfl, g3.ren hs' (Nat.le_trans hg hgX) (fun i hi => i2 i (Nat.lt_of_lt_of_le hi hg)) h9 hout' j2, ?_, rnv_VR hs' h7 h5⟩
    have := g4.ren (ρ' := ρ) (hL := hX) (by rw [show (X.let ρ').nx = X.nx from rfl, hXn]; exact hgX) (fun i hi => i2 i (by rw [← hXn]; exact hi)) h9 hout'
    rw [let_let, let_self hX0] at this
    exact this
  intro Z a w' g1 g2 g3 g4
  refine rounds_ok m (by rw [g1]; exact hE') k2 g2 g4 (fun y Y aa' s' a' w2 q1 q2 q3 q4 q5 => ?_)
  have q3' := g3.trans q3
  have hY : Y.ρ = ρ' := q3.le.ρ.trans g1
  cases y with
  | normal => exact absurd rfl q5
  | exit i =>
    have q1' : ife (Nat.beq i id) (evCode post P T e aa' s' (fun _ _ => False) (finEX fn P E.nx' π sub E.res E.outs)) (finEX fn P E.nx' π sub E.res E.outs (.exit i) aa' s') := q1
    rcases ife_ex q1' with ⟨e1, h1⟩ | ⟨_, h1⟩
    · have := Nat.eq_of_beq_eq_true e1
      subst this
      unfold EntQ
      simp only [Exit.inBlock, if_true]
      change Code.wpIn (Fw none) 0 P post (bodyPost P fn (EntR E hE hX X w)) a' w2
      refine code_ok post aa' a' Y s' w2 _ _ _ (by rw [hY]; exact hE') h1 q2 q4 (fun Z aa' s' a' w' k1 _ _ _ => k1.elim) (fun y V aa3 s3 a3 w3 k1 k2 k3 k4 _ => ?_)
      cases y <;> first | exact k1.elim | exact fin V aa3 s3 a3 w3 k1 (k3.le.ρ.trans hY) k2 (q3'.trans k3) k4
    · exact h1.elim
  | ret => exact fin Y aa' s' a' w2 q1 hY q2 q3' q4
  | goto l => exact q1.elim
  | panic c => exact q1.elim
  | outgrown => exact q1.elim

/-- The contract, from what holds at the loop's head. -/
theorem ent_ok (hf : P.funcs[te]? = some fn) (hb : fn.body = some c) (hl : loopOf c = some (x, id, post)) (hn : fn.ntmps = n)
    (hin : ∀ i b, getT hE i = some b → (i, b) ∈ E.ins) (hin' : ∀ i, getT hE i = none → ∀ p ∈ E.ins, p.1 ≠ i) (hout : ∀ p ∈ E.outs, getT hX p.1 = some p.2)
    (hg : NG ≤ E.nx) {ρ' : Nat → Int} {T0 : Tab} {e0 : Env} (hE0 : EnvOK P ρ T0 e0 none) {m0 N : Nat} {π0 : List (Nat × Nat)} {sub0 : Sub} (hgL : E.nx ≤ nxL) (i0 : ∀ i, i < E.nx → idr π0 i = i) (j0 : ∀ p ∈ blL, ∀ q ∈ blL, idr π0 p.1 = idr π0 q.1 → p.1 = q.1) (s0 : SubOK ρ ρ' sub0)
    (hrt : RgOK n rgL rtL) (hL' : ∀ i b, getT hL i = some b → (i, b) ∈ blL)
    (k0 : setArgs E.args 0 .nil (fun t => evCode (preC 1 c) P T0 e0 ⟨t, n, []⟩ ⟨hE, E.nx⟩ (fun a s => evTo m0 (evCode x P T0 e0) a s (atRen n nxL π0 sub0 rgL blL)) (fun _ _ _ => False)))
    (hd : ∀ (X : Cx) (w : World), X.ρ = ρ → X.nx = E.nx → Hd P x (EntQ P fn id post (EntR E hE hX X w)) X ⟨hE, E.nx⟩ w n hL nxL rtL ρ' N) : EntOK P ρ te E := by
  refine ⟨⟨fn, c, hf, hb⟩, hE, hX, hin, hin', hout, fun X w us hX0 hR hv => ?_⟩
  change CallsIn Fence.wide 0 P te us.toArray w (EntR E hE hX X w)
  refine callsIn_of_wp hf hb trivial ?_
  change c.wpIn (Fw none) 0 P (bodyPost P fn (EntR E hE hX X w)) _ w
  have hXn : X.nx = E.nx := hR.nx
  obtain ⟨r, rfl⟩ := loopOf_eq hl
  obtain ⟨t, h5, h6⟩ := setArgs_ex hv k0
  have ha : AAR X ⟨t, n, []⟩ { tmps := us.toArray ++ Array.replicate (fn.ntmps - us.toArray.size) undef, defers := [] } := by
    refine ⟨⟨by simp; omega, fun m v hv => ?_⟩, rfl⟩
    rcases h6 m v hv with ⟨u, _, h7, h8⟩ | h7
    · refine ⟨u, ?_, h8⟩
      rw [Nat.sub_zero] at h7
      rw [Array.getElem?_append_left (by simpa using (List.getElem?_eq_some_iff.1 h7).1)]
      simpa using h7
    · rw [getT_nil] at h7; cases h7
  refine split_ok (r := none) 1 _ _ _ X ⟨hE, E.nx⟩ w _ _ _ (by rw [hX0]; exact hE0) h5 hR ha (fun Y aa' s' a' w' g1 g2 g3 g4 => ?_) (fun x Y aa' s' a' w' k1 _ _ _ _ => k1.elim)
  change (Code.seq (.block id (.loop x)) post).wpIn (Fw none) 0 P (bodyPost P fn (EntR E hE hX X w)) a' w'
  refine wpIn_seq (wpIn_block ?_)
  refine wpIn_loop_rounds (N + m0) ?_
  change Code.roundsIn (Fw none) 0 P x (EntQ P fn id post (EntR E hE hX X w)) (N + m0) a' w'
  refine to_ok m0 (by rw [g3.le.ρ, hX0]; exact hE0) g1 g2 g4 (fun Y2 aa2 s3 a2 w2 q1 q2 q3 q4 => ?_)
  have hY : Y2.ρ = ρ := q3.le.ρ.trans (g3.le.ρ.trans hX0)
  obtain ⟨V, v1, v2, v3, v4, v5, v6⟩ := ren_ok (hL := hL) (ρ' := ρ') q1 q2 (g3.trans q3) q4 (by rw [hY]; exact s0) (by rw [hXn]; exact hg) (by rw [hXn]; exact hgL) (fun i hi => i0 i (by rw [← hXn]; exact hi)) hL' j0
  exact hd X w hX0 hXn V a2 w2 v1 v2 v3 (hrt V a2 v4 v5 v6)
end
end Go.Proofs.YtkpfafehcmammaaGreatDoor
namespace Go.Proofs.YtkpfafehcmammaaGreatDoor
open Go.Deep

/-- A part of a run; some registers hold what is said; at its end the state is named anew. -/
theorem segR_ok {P : Program} {T : Tab} {e : Env} {X0 X : Cx} {s0 s : AS} {W w : World} {a : Act} {Q : Exit → Act → World → Prop} {k n nx : Nat} {c : Code} {rt : TV} {p : List (Nat × Value)} {π : List (Nat × Nat)} {sub : Sub} {regs : List (Nat × Value)} {bl : List (Nat × AB)} {h1 : TB}
    (hE : EnvOK P X.ρ T e none) (h : setRs p rt (fun t => evCode (preC k c) P T e ⟨t, n, []⟩ s (atRen n nx π sub regs bl) (fun _ _ _ => False)))
    (hR : Rel X s w) (hX : Ext X0 s0 W X s w) (ha : AAR X ⟨rt, n, []⟩ a) (hp : ∀ q ∈ p, ∃ u, a.tmps[q.1]? = some u ∧ VR X q.2 u) (hs : SubOK X.ρ X.ρ sub) (hng : NG ≤ X0.nx) (hnx : X0.nx ≤ nx) (hπ : ∀ i, i < X0.nx → idr π i = i)
    (hh : ∀ id b, getT h1 id = some b → (id, b) ∈ bl) (inj : ∀ p ∈ bl, ∀ q ∈ bl, idr π p.1 = idr π q.1 → p.1 = q.1)
    (hn : ∀ (Z : Cx) (a' : Act) (w' : World), Z.ρ = X.ρ → Rel Z ⟨h1, nx⟩ w' → Ext X0 s0 W Z ⟨h1, nx⟩ w' → (∀ p ∈ regs, ∃ u, a'.tmps[p.1]? = some u ∧ VR Z p.2 u) → n ≤ a'.tmps.size → a'.defers = [] → (postC k c).wpIn (Fw none) 0 P Q a' w') : c.wpIn (Fw none) 0 P Q a w := by
  obtain ⟨t, h3, h2⟩ := setRs_ex h
  have hA : AAR X ⟨t, n, []⟩ a := ⟨⟨ha.regs.1, fun m v hv => by
    rcases h2 m v hv with h3 | ⟨h3, _⟩
    · exact hp _ h3
    · exact ha.regs.2 m v h3⟩, ha.defers⟩
  refine split_ok (r := none) k c _ _ X s w _ _ _ hE h3 hR hA (fun Y aa' s' a' w' k1 k2 k3 k4 => ?_) (fun x Y aa' s' a' w' k1 _ _ _ _ => k1.elim)
  have hX0 : X0.ρ = X.ρ := hX.le.ρ.symm
  obtain ⟨Z, v1, v2, v3, v4, v5, v6⟩ := ren_ok (hL := h1) (ρ' := X.ρ) k1 k2 (hX.trans k3) k4 (by rw [k3.le.ρ]; exact hs) hng hnx hπ hh inj
  rw [let_self hX0] at v3
  exact hn Z a' w' v1 v2 v3 v4 v5 v6

/-- The names are told apart: by a look at each pair. -/
def injB (π : List (Nat × Nat)) (l : List Nat) : Bool := l.all fun i => l.all fun j => !Nat.beq (idr π i) (idr π j) || Nat.beq i j
theorem injB_ok {π : List (Nat × Nat)} {bl : List (Nat × AB)} (h : injB π (bl.map Prod.fst) = true) : ∀ p ∈ bl, ∀ q ∈ bl, idr π p.1 = idr π q.1 → p.1 = q.1 := fun p hp q hq e => by
  unfold injB at h
  rw [List.all_eq_true] at h
  have h1 := h p.1 (List.mem_map.2 ⟨p, hp, rfl⟩)
  rw [List.all_eq_true] at h1
  have h2 := h1 q.1 (List.mem_map.2 ⟨q, hq, rfl⟩)
  rw [e] at h2
  simp only [Bool.or_eq_true, Bool.not_eq_true'] at h2
  rcases h2 with h2 | h2
  · have : Nat.beq (idr π q.1) (idr π q.1) = true := Nat.beq_refl _
    rw [this] at h2; cases h2
  · exact Nat.eq_of_beq_eq_true h2
/-- Nothing below is named anew. -/
theorem idr_lt {π : List (Nat × Nat)} {n : Nat} (h : π.all (fun p => Nat.ble n p.1) = true) : ∀ i, i < n → idr π i = i := by
  intro i hi
  induction π with
  | nil => rfl
  | cons p l ih =>
    simp only [List.all_cons, Bool.and_eq_true] at h
    have h1 := Nat.le_of_ble_eq_true h.1
    unfold idr
    cases hb : Nat.beq i p.1 with
    | true =>
      have := Nat.eq_of_beq_eq_true hb
      omega
    | false => exact ih h.2
end Go.Proofs.YtkpfafehcmammaaGreatDoor
