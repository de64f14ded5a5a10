import Derived.Test.YtiflgmdblkapgaaGreatDoorA4
import Derived.Lib.LaidU8
import Derived.LaidLaws
import Derived.IntWalk
namespace Go.Proofs.YtiflgmdblkapgaaGreatDoor
open Go.Deep Go.Lib

/-- All that a tree holds. -/
def toL {α : Type} : BT (Option α) → List (Nat × α)
  | .nil => []
  | .node _ _ v l r => (match v with | some x => [(0, x)] | none => []) ++ (toL l).map (fun p => (2 * p.1 + 1, p.2)) ++ (toL r).map (fun p => (2 * p.1 + 2, p.2))

theorem getT_mem {α : Type} : ∀ {t : BT (Option α)} {id : Nat} {b : α}, getT t id = some b → (id, b) ∈ toL t := by
  intro t
  induction t with
  | nil => intro id b h; rw [getT_nil] at h; cases h
  | node x y v l r ihl ihr =>
    intro id b h
    unfold toL
    cases id with
    | zero =>
      change v = some b at h
      subst h
      exact List.mem_append_left _ (List.mem_append_left _ (by simp))
    | succ m =>
      simp only [getT] at h
      split at h
      · have := ihl h
        refine List.mem_append_left _ (List.mem_append_right _ (List.mem_map.2 ⟨_, this, ?_⟩))
        simp; omega
      · have := ihr h
        refine List.mem_append_right _ (List.mem_map.2 ⟨_, this, ?_⟩)
        simp; omega

def valOf : Lit → Value
  | .int k z => .int k z
  | .string s => .string ⟨⟨s⟩⟩
  | .bool b => .bool b
  | _ => .nilFunc

/-- An array of numbers or texts that reads as a table holds it, cell for cell. -/
theorem cells_of_lits {P : Program} {w : World} {fuel : Nat} {t e : TypeId} {n : Nat} {cs : List Value} {ls : List Lit} {p : List MemPlace}
    (ht : P.underlying t = some (.array n e)) (hce : P.cellsOf e = 1) (hct : P.cellsOf t = n)
    (he : ∀ fuel c l q, DataW.trod (fun _ => ()) P w 0 (fun _ => true) false fuel e [c] = some (.lit l, q) → c = valOf l)
    (h : DataW.trod (fun _ => ()) P w 0 (fun _ => true) false fuel t cs = some (.agg (ls.map .lit), p)) : cs = ls.map valOf := by
  cases fuel with
  | zero => simp [DataW.trod] at h
  | succ fuel =>
    simp only [DataW.trod, ht, hce, hct, Nat.mul_one] at h
    split at h
    · rename_i hl
      obtain ⟨xs, hm, hx⟩ := Option.map_eq_some_iff.1 h
      have hxs : xs.map (·.1) = ls.map fun z => (DataW.lit z : DataW Unit) := by
        have := congrArg Prod.fst hx
        simpa using this
      have hxl : xs.length = n := by simpa using mapM_length hm
      have hzl : ls.length = n := by
        have := congrArg List.length hxs
        simp at this
        omega
      have hcl : cs.length = n := by simpa using hl
      apply List.ext_getElem?
      intro i
      by_cases hi : i < n
      · obtain ⟨b, hb, hf⟩ := mapM_at hm i i (by simp [hi])
        have h2 : (xs.map (·.1))[i]? = some b.1 := by simp [hb]
        rw [hxs] at h2
        simp only [List.getElem?_map, Option.map_eq_some_iff] at h2
        obtain ⟨z, hz, hzb⟩ := h2
        have hci : (cs.drop i).take 1 = [cs[i]'(by omega)] := by
          rw [List.drop_eq_getElem_cons (by omega)]
          rfl
        rw [hci] at hf
        have hv := he fuel _ z b.2 (by rw [hf, hzb])
        simp only [List.getElem?_map, hz, Option.map_some]
        rw [List.getElem?_eq_getElem (by omega), hv]
      · rw [List.getElem?_eq_none (by omega), List.getElem?_eq_none (by simp; omega)]
    · cases h

theorem lit_int {P : Program} {w : World} {e : TypeId} {k : IntKind} (he : P.underlying e = some (.int k)) : ∀ fuel c l q, DataW.trod (fun _ => ()) P w 0 (fun _ => true) false fuel e [c] = some (.lit l, q) → c = valOf l := by
  intro fuel c l q h
  obtain ⟨z, hc, hx, _⟩ := DataW.trod_int he h
  have e1 : l = .int k z := by have := congrArg Prod.fst hx; simpa using this
  subst e1
  simpa [valOf] using hc
theorem lit_string {P : Program} {w : World} {e : TypeId} (he : P.underlying e = some .string) : ∀ fuel c l q, DataW.trod (fun _ => ()) P w 0 (fun _ => true) false fuel e [c] = some (.lit l, q) → c = valOf l := by
  intro fuel c l q h
  obtain ⟨s, hc, hx, _⟩ := DataW.trod_string he h
  have e1 : l = .string s.data.toList := by have := congrArg Prod.fst hx; simpa using this
  subst e1
  simpa [valOf] using hc

/-- A listed table: its block. -/
theorem table_of {P : Program} {w : World} {name : String} {ls : List Lit} {g : Nat} {t e : TypeId} {n : Nat} (h : VarReads P w name (.agg (ls.map .lit))) (hg : P.globalNamed name = some g) (hty : (P.globals[g]?).map (·.type) = some t)
    (ht : P.underlying t = some (.array n e)) (hce : P.cellsOf e = 1) (hct : P.cellsOf t = n) (he : ∀ fuel c l q, DataW.trod (fun _ => ()) P w 0 (fun _ => true) false fuel e [c] = some (.lit l, q) → c = valOf l) :
    ∃ ty fz, w.heap[g]? = some (.cells (ls.map valOf).toArray ty fz) := by
  obtain ⟨g', t', cs, fuel, p, h1, h2, h3, h4⟩ := h
  obtain rfl := Option.some.inj (hg.symm.trans h1)
  obtain rfl := Option.some.inj (hty.symm.trans h2)
  have := cells_of_lits ht hce hct he h4
  unfold World.var? at h3
  rw [hg] at h3
  simp only [Option.bind_some] at h3
  split at h3
  · rename_i c ty fz hh
    cases h3
    exact ⟨ty, fz, by rw [hh, ← this]⟩
  · cases h3

theorem laid_row {P : Program} {w : World} : ∀ {l : List (String × DataW Unit)} {ps : List MemPlace}, DataW.LaidVars P w l ps → ∀ n d, (n, d) ∈ l →
    ∃ g t cs fuel p, P.globalNamed n = some g ∧ (P.globals[g]?).map (·.type) = some t ∧ w.var? P n = some cs ∧ DataW.trod (fun _ => ()) P w 0 (fun _ => true) false fuel t cs.toList = some (d, p) ∧ ∀ x ∈ MemPlace.row ⟨g, 0, none⟩ cs.size, x ∈ ps
  | [], _, _, _, _, hm => by cases hm
  | (n', d') :: r, ps, h, n, d, hm => by
    obtain ⟨g, t, cs, fuel, p, q, h1, h2, h3, h4, h5, h6⟩ := h
    rcases List.mem_cons.1 hm with e | e
    · cases e
      exact ⟨g, t, cs, fuel, p, h1, h2, h3, h4, fun x hx => by rw [h6]; exact List.mem_append_left _ (List.mem_append_left _ hx)⟩
    · obtain ⟨g', t', cs', fuel', p', k1, k2, k3, k4, k5⟩ := laid_row h5 n d e
      exact ⟨g', t', cs', fuel', p', k1, k2, k3, k4, fun x hx => by rw [h6]; exact List.mem_append_right _ (k5 x hx)⟩

/-- A listed sentinel: its cell. -/
theorem sentinel_of {P : Program} {w : World} {l : List (String × DataW Unit)} {name : String} {g : Nat} {ti tp te ts : TypeId} {ms : Array (String × TypeId)} {nm : String} {f : Field} {text : List UInt8} (hl : laidMet P l w) (hm : (name, .iface nm (.ptr (.agg [.lit (.string text)]))) ∈ l) (hg : P.globalNamed name = some g) (hty : (P.globals[g]?).map (·.type) = some ti)
    (hi : P.underlying ti = some (.interface ms)) (hrow : ∀ u, P.typeName? 3 u = some nm → u = tp)
    (hp : P.underlying tp = some (.pointer te)) (he : P.underlying te = some (.struct #[f])) (hft : f.type = ts) (hfo : f.offset = 0) (hs : P.underlying ts = some .string) (hc : P.cellsOf te = 1) (hcs : P.cellsOf ts = 1) :
    ∃ ty fz b o, w.heap[g]? = some (.cells #[.iface tp (.pointer (some ⟨b, o, none⟩))] ty fz) := by
  obtain ⟨ps, hv, _, hps⟩ := hl
  obtain ⟨g', t', cs, fuel, p, h1, h2, h3, h4, h5⟩ := laid_row hv _ _ hm
  obtain rfl := Option.some.inj (hg.symm.trans h1)
  obtain rfl := Option.some.inj (hty.symm.trans h2)
  unfold World.var? at h3
  rw [hg] at h3
  simp only [Option.bind_some] at h3
  split at h3
  · rename_i c ty fz hh
    cases h3
    obtain ⟨a, s, k1, k2, _⟩ := errorString_of_trod hi hrow hp he hft hfo hs hc hcs h4 (fun u v huv => by
      have hsz : cs.size = 1 := by have := congrArg List.length huv; simpa using this
      have hx := h5 (.cell g 0) (by unfold MemPlace.row; rw [hsz]; simp)
      refine (hps g 0 hx).2 u v ?_
      unfold World.cell?
      simp only [hh]
      have : cs[0]? = cs.toList[0]? := by simp
      simp [this, huv])
    obtain ⟨b, o, sp⟩ := a
    have hsp := Go.Proofs.cell_spot k2
    subst hsp
    refine ⟨ty, fz, b, o, ?_⟩
    rw [hh]
    have : cs = #[.iface tp (.pointer (some ⟨b, o, none⟩))] := by apply Array.ext'; simpa using k1
    rw [this]
  · cases h3
end Go.Proofs.YtiflgmdblkapgaaGreatDoor
namespace Go.Proofs.YtiflgmdblkapgaaGreatDoor
open Go.Deep

/-! A run in parts: what is kept between them is written out. -/
def sameRs (l : List (Nat × Value)) : TV → Prop → Prop :=
  @List.rec _ (fun _ => TV → Prop → Prop) (fun _ K => K) (fun p _ ih t K => gv t p.1 (fun v => yes (veq v p.2) (ih t K))) l
def cellEq (c : CB) (p : Nat × Value) : Bool := match getT c.vs p.1 with
  | some v => veq v p.2
  | none => match c.d with | some v => veq v p.2 | none => false
def dfEq (c d : CB) : Bool := match d.d with
  | none => true
  | some v => (match c.d with | some u => veq u v | none => false) && (toL c.vs).all (fun p => (getT d.vs p.1).isSome || veq p.2 v)
def entEq : List (Value × Value) → List (Value × Value) → Bool
  | [], [] => true
  | a :: l, b :: m => veq a.1 b.1 && veq a.2 b.2 && entEq l m
  | _, _ => false
def blkEq (b l : AB) : Bool := match b with
  | .inl c => (match l with | .inl d => !c.ro && dfEq c d && Nat.beq c.n d.n && Nat.beq c.ty d.ty && !d.ro && (toL d.vs).all (cellEq c) | _ => false)
  | .inr (.inl e) => (match l with | .inr (.inl f) => entEq e f | _ => false)
  | _ => false
def sameBs (l : List (Nat × AB)) : TB → Prop → Prop :=
  @List.rec _ (fun _ => TB → Prop → Prop) (fun _ K => K) (fun p _ ih h K => gb h p.1 (fun b => yes (blkEq b p.2) (ih h K))) l
def atSeg (n nx : Nat) (regs : List (Nat × Value)) (bl : List (Nat × AB)) : KA := fun a s =>
  yes (a.defers.isEmpty && Nat.beq a.n n && Nat.beq s.nx nx) (sameRs regs a.regs (sameBs bl s.h True))

theorem sameRs_ex : ∀ {l : List (Nat × Value)} {t : TV} {K : Prop}, sameRs l t K → K ∧ ∀ p ∈ l, getT t p.1 = some p.2 := by
  intro l
  induction l with
  | nil => intro t K h; exact ⟨h, fun p hp => by cases hp⟩
  | cons x l ih =>
    intro t K h
    obtain ⟨u, h1, h2⟩ := gv_ex (K := fun u => yes (veq u x.2) (sameRs l t K)) h
    obtain ⟨h3, h4⟩ := yes_ex h2
    have h5 := veq_eq h3
    subst h5
    obtain ⟨h6, h7⟩ := ih h4
    refine ⟨h6, fun p hp => ?_⟩
    rcases List.mem_cons.1 hp with rfl | hp
    · exact h1
    · exact h7 p hp

theorem sameBs_ex : ∀ {l : List (Nat × AB)} {h : TB} {K : Prop}, sameBs l h K → K ∧ ∀ p ∈ l, ∃ b, getT h p.1 = some b ∧ blkEq b p.2 = true := by
  intro l
  induction l with
  | nil => intro t K h; exact ⟨h, fun p hp => by cases hp⟩
  | cons x l ih =>
    intro t K h
    obtain ⟨u, h1, h2⟩ := gb_ex (K := fun u => yes (blkEq u x.2) (sameBs l t K)) h
    obtain ⟨h3, h4⟩ := yes_ex h2
    obtain ⟨h6, h7⟩ := ih h4
    refine ⟨h6, fun p hp => ?_⟩
    rcases List.mem_cons.1 hp with rfl | hp
    · exact ⟨u, h1, h3⟩
    · exact h7 p hp

theorem entEq_eq : ∀ {a b : List (Value × Value)}, entEq a b = true → a = b
  | [], [], _ => rfl
  | [], _ :: _, h => by simp [entEq] at h
  | _ :: _, [], h => by simp [entEq] at h
  | ⟨a, b⟩ :: l, ⟨c, d⟩ :: m, h => by
    simp only [entEq, Bool.and_eq_true] at h
    rw [veq_eq h.1.1, veq_eq h.1.2, entEq_eq h.2]

/-- What is written out of a block lies there. -/
theorem blkEq_BR {X : Cx} {w : World} {L : Loc} {b l : AB} (h : blkEq b l = true) (hb : BR X w L b) : BR X w L l ∧ wrt b = true := by
  unfold blkEq at h
  split at h
  · split at h
    · rename_i _ c _ d
      simp only [Bool.and_eq_true, Bool.not_eq_true'] at h
      obtain ⟨⟨⟨⟨⟨h1, h2⟩, h3⟩, h4⟩, h5⟩, h6⟩ := h
      have h3 := Nat.eq_of_beq_eq_true h3
      have h4 := Nat.eq_of_beq_eq_true h4
      obtain ⟨cs, fz, k1, k2, k3, k4, k5⟩ := (show CR X w L c from hb)
      refine ⟨⟨cs, fz, by rw [← h4]; exact k1, by rw [← h3]; exact k2, k3, fun _ => k4 h1, fun i v hv => ?_⟩, by simp [wrt, h1]⟩
      refine k5 i v ?_
      unfold cbAt at hv ⊢
      split at hv
      · rename_i hi
        rw [if_pos (by omega)]
        split at hv
        · rename_i v' hv'
          simp only [Option.some.injEq] at hv
          subst hv
          rw [List.all_eq_true] at h6
          have := h6 _ (getT_mem hv')
          unfold cellEq at this
          split at this
          · rename_i u hu
            have e : u = v' := veq_eq this
            subst e
            rw [show getT c.vs i = some u from hu]
          · rename_i hu
            rw [show getT c.vs i = none from hu]
            split at this
            · rename_i u hd'
              have e : u = v' := veq_eq this
              subst e
              exact hd'
            · cases this
        · rename_i hnone
          unfold dfEq at h2
          rw [hv] at h2
          simp only [Bool.and_eq_true] at h2
          cases hc : getT c.vs i with
          | some u =>
            have h7 := h2.2
            rw [List.all_eq_true] at h7
            have h8 := h7 _ (getT_mem hc)
            rw [hnone] at h8
            simp only [Option.isSome_none, Bool.false_or] at h8
            rw [veq_eq h8]
          | none =>
            have h7 := h2.1
            split at h7
            · rename_i u hu
              rw [hu, veq_eq h7]
            · cases h7
      · cases hv
    · cases h
  · split at h
    · rename_i _ e _ f
      have := entEq_eq h
      subst this
      exact ⟨hb, rfl⟩
    · cases h
  · cases h

/-- The state between two parts: what was laid at the start, and what is written out. -/
theorem Rel.cut {X0 Y : Cx} {s0 s : AS} {W w : World} {h1 : TB} {bl : List (Nat × AB)} (hR0 : Rel X0 s0 W) (hfr : ∀ b, Fr X0 s0 b) (hR : Rel Y s w) (hX : Ext X0 s0 W Y s w)
    (hbl : ∀ p ∈ bl, ∃ b, getT s.h p.1 = some b ∧ blkEq b p.2 = true) (hh : ∀ id b, getT h1 id = some b → getT s0.h id = some b ∨ (id, b) ∈ bl) : Rel Y ⟨h1, s.nx⟩ w ∧ Ext X0 s0 W Y ⟨h1, s.nx⟩ w := by
  have old : ∀ id b, getT s0.h id = some b → id < X0.nx ∧ Y.j id = X0.j id ∧ (X0.j id).b < W.heap.size ∧ BR Y w (Y.j id) b := fun id b hb => by
    obtain ⟨k1, k2⟩ := hR0.blk id b hb
    have hj := hX.le.j id k1
    refine ⟨k1, hj, k2.lt, ?_⟩
    rw [hj]
    exact k2.mono hX.le (hX.keep _ k2.lt (hfr _)).1
  have new : ∀ id b, (id, b) ∈ bl → ∃ c, getT s.h id = some c ∧ wrt c = true ∧ BR Y w (Y.j id) b ∧ id < Y.nx ∧ W.heap.size ≤ (Y.j id).b := fun id b hb => by
    obtain ⟨c, k1, k2⟩ := hbl _ hb
    obtain ⟨k3, k4⟩ := hR.blk id c k1
    obtain ⟨k5, k6⟩ := blkEq_BR k2 k4
    refine ⟨c, k1, k6, k5, k3, ?_⟩
    by_cases hlt : (Y.j id).b < W.heap.size
    · exact absurd rfl ((hX.keep _ hlt (hfr _)).2 id c k1 k6)
    · omega
  refine ⟨⟨hR.nx, fun id b hb => ?_, fun id id' b b' hb hb' e => ?_, hR.ng, hR.glob⟩, ⟨hX.le, hX.size, fun k hk hf => ⟨(hX.keep k hk hf).1, fun id b hb hw => ?_⟩, fun k hk hu id b hb => ?_, hX.io⟩⟩
  · rcases hh id b hb with h | h
    · obtain ⟨k1, _, _, k4⟩ := old id b h
      exact ⟨Nat.lt_of_lt_of_le k1 hX.le.nx, k4⟩
    · obtain ⟨c, _, _, k3, k4, _⟩ := new id b h
      exact ⟨k4, k3⟩
  · rcases hh id b hb with h | h <;> rcases hh id' b' hb' with h' | h'
    · obtain ⟨k1, k2, _⟩ := old id b h
      obtain ⟨k1', k2', _⟩ := old id' b' h'
      rw [k2, k2'] at e
      exact hR0.sep _ _ _ _ h h' e
    · obtain ⟨k1, k2, k3, _⟩ := old id b h
      obtain ⟨_, _, _, _, _, k6⟩ := new id' b' h'
      rw [k2] at e
      omega
    · obtain ⟨k1, k2, k3, _⟩ := old id' b' h'
      obtain ⟨_, _, _, _, _, k6⟩ := new id b h
      rw [k2] at e
      omega
    · obtain ⟨c, k1, _⟩ := new id b h
      obtain ⟨c', k1', _⟩ := new id' b' h'
      exact hR.sep _ _ _ _ k1 k1' e
  · rcases hh id b hb with h | h
    · exact absurd rfl (hfr (X0.j id).b id b h hw)
    · obtain ⟨_, _, _, _, _, k6⟩ := new id b h
      omega
  · rcases hh id b hb with h | h
    · obtain ⟨_, k2, _⟩ := old id b h
      rw [k2]
      exact hu id b h
    · obtain ⟨_, _, _, _, _, k6⟩ := new id b h
      omega

section
variable {P : Program} {T : Tab} {e : Env} {X0 X : Cx} {s0 s : AS} {W w : World} {a : Act} {Q : Exit → Act → World → Prop}

/-- A part of a run, up to a place where the state is written out. -/
theorem seg_ok {k n nx : Nat} {c : Code} {rt : TV} {regs : List (Nat × Value)} {bl : List (Nat × AB)} {h1 : TB} (hE : EnvOK P X.ρ T e none) (hR0 : Rel X0 s0 W) (hfr : ∀ b, Fr X0 s0 b) (h : evCode (preC k c) P T e ⟨rt, n, []⟩ s (atSeg n nx regs bl) (fun _ _ _ => False))
    (hR : Rel X s w) (hX : Ext X0 s0 W X s w) (ha : AAR X ⟨rt, n, []⟩ a) (hh : ∀ id b, getT h1 id = some b → getT s0.h id = some b ∨ (id, b) ∈ bl)
    (hn : ∀ (Y : Cx) (a' : Act) (w' : World), Y.ρ = X.ρ → Rel Y ⟨h1, nx⟩ w' → Ext X0 s0 W Y ⟨h1, nx⟩ w' → (∀ p ∈ regs, ∃ u, a'.tmps[p.1]? = some u ∧ VR Y p.2 u) → n ≤ a'.tmps.size → a'.defers = [] → (postC k c).wpIn (Fw none) 0 P Q a' w') : c.wpIn (Fw none) 0 P Q a w := by
  refine split_ok (r := none) k c _ _ X s w _ _ _ hE h hR ha (fun Y aa' s' a' w' k1 k2 k3 k4 => ?_) (fun x Y aa' s' a' w' k1 _ _ _ _ => k1.elim)
  obtain ⟨q1, q2⟩ := yes_ex k1
  simp only [Bool.and_eq_true] at q1
  obtain ⟨⟨q3, q4⟩, q5⟩ := q1
  have q3 : aa'.defers = [] := by simpa using q3
  have q4 := Nat.eq_of_beq_eq_true q4
  have q5 := Nat.eq_of_beq_eq_true q5
  obtain ⟨q6, q7⟩ := sameRs_ex q2
  obtain ⟨_, q8⟩ := sameBs_ex q6
  obtain ⟨r1, r2⟩ := Rel.cut hR0 hfr k2 (hX.trans k3) q8 hh
  rw [q5] at r1 r2
  have hd := k4.defers
  rw [q3] at hd
  refine hn Y a' w' k3.le.ρ r1 r2 (fun p hp => k4.regs.2 p.1 p.2 (q7 p hp)) (by rw [← q4]; exact k4.regs.1) hd

/-- Registers that are written out. -/
theorem regs_AAR {Y : Cx} {a : Act} {n : Nat} {rt : TV} (hsz : n ≤ a.tmps.size) (hd : a.defers = []) (h : ∀ p ∈ toL rt, ∃ u, a.tmps[p.1]? = some u ∧ VR Y p.2 u) : AAR Y ⟨rt, n, []⟩ a :=
  ⟨⟨hsz, fun _ _ hv => h _ (getT_mem hv)⟩, hd⟩

def setRs (l : List (Nat × Value)) : TV → (TV → Prop) → Prop :=
  @List.rec _ (fun _ => TV → (TV → Prop) → Prop) (fun t K => K t) (fun p _ ih t K => setV t p.1 p.2 (fun t => ih t K)) l
/-- The rest, one case behind the other; in each some registers hold what it says. -/
def cases (l : List (List (Nat × Value))) : Code → Func → Program → Tab → Env → TV → Nat → AS → Prop :=
  @List.rec _ (fun _ => Code → Func → Program → Tab → Env → TV → Nat → AS → Prop) (fun _ _ _ _ _ _ _ _ => True)
    (fun p _ ih c fn P T e t n s => setRs p t (fun t' => evCode c P T e ⟨t', n, []⟩ s (fin fn P (ih c fn P T e t n s)) (finX fn P (ih c fn P T e t n s)))) l

theorem setRs_ex : ∀ {l : List (Nat × Value)} {t : TV} {K : TV → Prop}, setRs l t K → ∃ t', K t' ∧ ∀ r v, getT t' r = some v → (r, v) ∈ l ∨ (getT t r = some v ∧ ∀ p ∈ l, p.1 ≠ r) := by
  intro l
  induction l with
  | nil => intro t K h; exact ⟨t, h, fun r v hv => .inr ⟨hv, fun p hp => by cases hp⟩⟩
  | cons x l ih =>
    intro t K h
    obtain ⟨t1, h1, h2⟩ := setV_ex (K := fun t => setRs l t K) h
    obtain ⟨t2, h3, h4⟩ := ih h2
    refine ⟨t2, h3, fun r v hv => ?_⟩
    rcases h4 r v hv with h5 | ⟨h5, h6⟩
    · exact .inl (List.mem_cons_of_mem _ h5)
    · rw [h1 r] at h5
      split at h5
      · rename_i e
        cases h5
        exact .inl (by rw [e]; exact List.mem_cons_self)
      · rename_i e
        exact .inr ⟨h5, fun p hp => by
          rcases List.mem_cons.1 hp with rfl | hp
          · exact fun c => e c.symm
          · exact h6 p hp⟩

theorem Im.acts {N n : Nat} {t : TV} (hi : Im X N t) (hn : n ≤ N) : ∃ a : Act, AAR X ⟨t, n, []⟩ a := by
  have : ∀ i : Fin N, ∃ u, ∀ v, getT t i = some v → VR X v u := fun i => by
    cases hv : getT t i.1 with
    | none => exact ⟨undef, fun v h => by cases h⟩
    | some v =>
      obtain ⟨_, u, hu⟩ := hi _ v hv
      exact ⟨u, fun v' h => by cases h; exact hu⟩
  refine ⟨⟨Array.ofFn fun i => (this i).choose, []⟩, ⟨by simpa using hn, fun x v hv => ?_⟩, rfl⟩
  obtain ⟨h1, _⟩ := hi x v hv
  exact ⟨_, by simp [h1], (this ⟨x, h1⟩).choose_spec v hv⟩

theorem cases_ok {c : Code} {fn : Func} {rt : TV} {n : Nat} (hE : EnvOK P X.ρ T e none) (hR : Rel X s w) (ha : AAR X ⟨rt, n, []⟩ a) {p : List (Nat × Value)} (hp : ∀ q ∈ p, ∃ u, a.tmps[q.1]? = some u ∧ VR X q.2 u) :
    ∀ {l : List (List (Nat × Value))}, cases l c fn P T e rt n s → (∀ q ∈ l, ∀ x ∈ q, x.1 < n ∧ ∃ u, VR X x.2 u) → p ∈ l → c.wpIn (Fw none) 0 P (bodyPost P fn (Good X s w)) a w := by
  intro l
  induction l with
  | nil => intro _ _ h; cases h
  | cons q l ih =>
    intro h hall hmem
    have h' : setRs q rt (fun t' => evCode c P T e ⟨t', n, []⟩ s (fin fn P (cases l c fn P T e rt n s)) (finX fn P (cases l c fn P T e rt n s))) := h
    obtain ⟨t, h1, h2⟩ := setRs_ex h'
    by_cases hpq : p = q
    · subst hpq
      have hA : AAR X ⟨t, n, []⟩ a := ⟨⟨ha.regs.1, fun m v hv => by
        rcases h2 m v hv with h3 | ⟨h3, _⟩
        · exact hp _ h3
        · exact ha.regs.2 m v h3⟩, ha.defers⟩
      refine code_ok c _ a X s w _ _ _ hE h1 hR hA (fun Y aa' s' a' w' k1 k2 k3 k4 => ?_) (fun x Y aa' s' a' w' k1 k2 k3 k4 k5 => ?_)
      · obtain ⟨_, f1, f2⟩ := fin_ex k1 k2 k4
        exact ⟨f1, _, f2, rfl, Y, s', k3⟩
      · cases x <;> first | exact k1.elim | skip
        obtain ⟨_, f1, f2⟩ := fin_ex (show fin fn P _ aa' s' from k1) k2 k4
        exact ⟨f1, _, f2, rfl, Y, s', k3⟩
    · have hsz : n ≤ a.tmps.size := ha.regs.1
      have him : Im X a.tmps.size t := fun m v hv => by
        rcases h2 m v hv with h3 | ⟨h3, _⟩
        · obtain ⟨k1, k2⟩ := hall q List.mem_cons_self _ h3
          exact ⟨Nat.lt_of_lt_of_le k1 hsz, k2⟩
        · obtain ⟨u, k1, k2⟩ := ha.regs.2 m v h3
          exact ⟨(Array.getElem?_eq_some_iff.1 k1).1, u, k2⟩
      obtain ⟨a0, hA⟩ := him.acts hsz
      have hz : cases l c fn P T e rt n s := wpIn_true (P := P) (c := c) (a := a0) (w := w) (code_ok c _ _ X s w _ _ _ hE h1 hR hA (fun Y aa' s' a' w' k1 k2 k3 k4 => (fin_ex k1 k2 k4).1) (fun x Y aa' s' a' w' k1 k2 k3 k4 k5 => by
        cases x <;> first | exact k1.elim | skip
        exact (fin_ex (show fin fn P _ aa' s' from k1) k2 k4).1))
      refine ih hz (fun q hq => hall q (List.mem_cons_of_mem _ hq)) ?_
      rcases List.mem_cons.1 hmem with h | h
      · exact absurd h hpq
      · exact h

end
end Go.Proofs.YtiflgmdblkapgaaGreatDoor
namespace Go.Proofs.YtiflgmdblkapgaaGreatDoor
open Go.Deep

/-! The law's own choice of a number, by its contract. -/
def pickv (c m : Int) : Int := (if c < 0 then -(c + 1) else c).tmod m
def lookP (x : Value) (m : Int) : List (Value × Int × Value) → Option Value
  | [] => none
  | e :: l => bif veq1 x e.1 && ieq m e.2.1 then some e.2.2 else lookP x m l
def orc (pk : Nat) (l : List (Value × Int × Value)) (F : AS → FuncId → List Value → KVS → Prop) : AS → FuncId → List Value → KVS → Prop := fun s f args K =>
  ife (Nat.beq f pk) (two args (fun x y => vInt y (fun k m => yes (keq k .i64) (ok (lookP x m l) (fun r => K r s))))) (F s f args K)

theorem lookP_ex {x r : Value} {m : Int} : ∀ {l : List (Value × Int × Value)}, lookP x m l = some r → (x, m, r) ∈ l := by
  intro l
  induction l with
  | nil => intro h; cases h
  | cons e l ih =>
    intro h
    unfold lookP at h
    cases hb : (veq1 x e.1 && ieq m e.2.1) with
    | true =>
      rw [hb] at h
      simp only [Bool.and_eq_true] at hb
      have e1 : e.2.2 = r := Option.some.inj h
      rw [veq1_eq hb.1, ieqB_eq hb.2, ← e1]
      exact List.mem_cons_self
    | false => rw [hb] at h; exact List.mem_cons_of_mem _ (ih h)

/-- What is kept where nothing of ours is touched. -/
def Same (w w' : World) : Prop := (w'.os = w.os ∧ w'.output = w.output) ∧ w.heap.size ≤ w'.heap.size ∧ ∀ b, b < w.heap.size → w'.heap[b]? = w.heap[b]?

def PickOK (P : Program) (pk : Nat) : Prop := ∀ (c m : Int) (w : World), -9223372036854775808 ≤ c → 0 < m → (∃ fn code, P.funcs[pk]? = some fn ∧ fn.body = some code) ∧ CallsIn Fence.wide 0 P pk #[.int .i64 c, .int .i64 m] w (fun e w' => e = .returned (.int .i64 (pickv c m)) ∧ Same w w')

theorem orc_ok {P : Program} {ρ : Nat → Int} {pk : Nat} {l : List (Value × Int × Value)} {F : AS → FuncId → List Value → KVS → Prop} (hF : CallOK P ρ F) (hp : PickOK P pk)
    (hl : ∀ e ∈ l, 0 < e.2.1 ∧ ∃ c, -9223372036854775808 ≤ c ∧ num ρ .i64 c e.1 ∧ num ρ .i64 (pickv c e.2.1) e.2.2) : CallOK P ρ (orc pk l F) := by
  intro s f args K X w us hρ h hR hv
  rcases ife_ex h with ⟨e1, h1⟩ | ⟨_, h1⟩
  · have e1 := Nat.eq_of_beq_eq_true e1
    subst e1
    obtain ⟨x, y, rfl, h2⟩ := two_ex h1
    obtain ⟨k, m, rfl, h3⟩ := vInt_ex h2
    obtain ⟨h4, h5⟩ := yes_ex h3
    have h4 := keqB_eq h4
    subst h4
    obtain ⟨r, h6, h7⟩ := ok_ex h5
    obtain ⟨h8, c, h9, h10, h11⟩ := hl _ (lookP_ex h6)
    obtain ⟨u, us, rfl, k1, k2⟩ := VRl_cons.1 hv
    obtain ⟨u', us, rfl, k3, k4⟩ := VRl_cons.1 k2
    rw [VRl_nil] at k4
    subst k4
    have e2 := h10.eq hρ k1
    rw [VR_int] at k3
    subst e2; subst k3
    obtain ⟨q1, q2⟩ := hp c m w h9 h8
    refine ⟨q1, CallsIn.mono q2 fun e w' ⟨q3, q4, q5, q6⟩ => ?_⟩
    obtain ⟨r1, r2⟩ := hR.grow q5 q6 q4
    exact ⟨r, s, X, _, q3, h7, r1, r2, h11.vr hρ⟩
  · exact hF s f args K X w us hρ h1 hR hv

/-! Its contract, out of two runs of it. -/
def L3 (i : Nat) : Value := .complex .f64 3 i
def pT (neg : Bool) : Tab := match neg with
  | false => tabOf [(.lss, L3 0, .int .i64 0, .bool false), (.rem, L3 0, L3 1, L3 2)] [] [] []
  | true => tabOf [(.lss, L3 0, .int .i64 0, .bool true), (.add, L3 0, .int .i64 1, L3 3), (.rem, L3 4, L3 1, L3 2)] [] [(.neg, L3 3, L3 4)] []
def pRho (c m : Int) : Nat → Int
  | 0 => c
  | 1 => m
  | 2 => pickv c m
  | 3 => c + 1
  | 4 => -(c + 1)
  | _ => 0

theorem pT_ok {P : Program} {c m : Int} (hc : -9223372036854775808 ≤ c) (hm : 0 < m) : TabOK P (pRho c m) (pT (decide (c < 0))) := by
  have n3 : ∀ i, num (pRho c m) .i64 (pRho c m i) (L3 i) := fun i => .inr ⟨.f64, 3, i, rfl, rfl, rfl⟩
  by_cases h : c < 0
  · rw [decide_eq_true h]
    refine tab_ok (fun x hx => ?_) (fun x hx => by cases hx) (fun x hx => ?_) (fun i hi => by cases hi)
    · simp only [List.mem_cons, List.not_mem_nil, or_false] at hx
      rcases hx with rfl | rfl | rfl
      · exact says_lss (n3 0) num_i (by change Value.bool true = .bool (decide (c < 0)); rw [decide_eq_true h])
      · exact says_add (n3 0) num_i (by
          change num (pRho c m) .i64 (IntKind.i64.wrap (c + 1)) (L3 3)
          rw [IntWalk.i64_in _ (by omega)]; exact n3 3)
      · exact says_rem (n3 4) (n3 1) (by change m ≠ 0; omega) (by
          change num (pRho c m) .i64 ((-(c + 1)).tmod m) (L3 2)
          have : (-(c + 1)).tmod m = pickv c m := by unfold pickv; rw [if_pos h]
          rw [this]; exact n3 2)
    · simp only [List.mem_cons, List.not_mem_nil, or_false] at hx
      subst hx
      exact says_neg (n3 3) (by
        change num (pRho c m) .i64 (IntKind.i64.wrap (0 - (c + 1))) (L3 4)
        rw [IntWalk.i64_in _ (by omega), show (0 : Int) - (c + 1) = -(c + 1) by omega]; exact n3 4)
  · rw [decide_eq_false h]
    refine tab_ok (fun x hx => ?_) (fun x hx => by cases hx) (fun x hx => by cases hx) (fun i hi => by cases hi)
    simp only [List.mem_cons, List.not_mem_nil, or_false] at hx
    rcases hx with rfl | rfl
    · exact says_lss (n3 0) num_i (by change Value.bool false = .bool (decide (c < 0)); rw [decide_eq_false h])
    · exact says_rem (n3 0) (n3 1) (by change m ≠ 0; omega) (by
        change num (pRho c m) .i64 (c.tmod m) (L3 2)
        have : c.tmod m = pickv c m := by unfold pickv; rw [if_neg h]
        rw [this]; exact n3 2)

theorem picks_ok {P : Program} {pk : Nat} {noop : FuncId → Bool} (hP : ProgOK P) (hN : NoopOK P noop) (hrun : ∀ neg nx K, go 3 P (pT neg) noop false ⟨.nil, nx⟩ pk [L3 0, L3 1] K = K (L3 2) ⟨.nil, nx⟩) : PickOK P pk := by
  intro c m w hc hm
  let X : Cx := ⟨pRho c m, fun i => ⟨i, 0, 0⟩, NG⟩
  have hR : Rel X ⟨.nil, NG⟩ w := ⟨rfl, fun id b (hb : getT .nil id = some b) => (by rw [getT_nil] at hb; cases hb), fun id _ b _ (hb : getT .nil id = some b) => (by rw [getT_nil] at hb; cases hb), Nat.le_refl _, fun i _ => ⟨rfl, rfl⟩⟩
  have hv : VRl X [L3 0, L3 1] [.int .i64 c, .int .i64 m] := VRl_cons.2 ⟨_, _, rfl, rfl, VRl_cons.2 ⟨_, _, rfl, rfl, rfl⟩⟩
  have h : go 3 P (pT (decide (c < 0))) noop false ⟨.nil, NG⟩ pk [L3 0, L3 1] (fun v s => v = L3 2 ∧ s = ⟨.nil, NG⟩) := by rw [hrun]; exact ⟨rfl, rfl⟩
  obtain ⟨h1, h2⟩ := (go_ok hP (pT_ok hc hm) hN 3).1 ⟨.nil, NG⟩ pk _ _ X w _ rfl h hR hv
  refine ⟨h1, CallsIn.mono h2 fun e w' ⟨v, s', Y, u, k1, k2, k3, k4, k5⟩ => ?_⟩
  obtain ⟨rfl, rfl⟩ := k2
  have e1 : u = .int .i64 (pickv c m) := by
    have : u = .int (kOf 3) (Y.ρ 2) := VR_complex.1 k5
    rw [this, k4.le.ρ]; rfl
  subst e1
  exact ⟨k1, k4.io, k4.size, fun b hb => (k4.keep b hb (fun id c hc => by rw [getT_nil] at hc; cases hc)).1⟩

end Go.Proofs.YtiflgmdblkapgaaGreatDoor
