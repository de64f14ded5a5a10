import Derived.Test.YtkpfafehcmammaaGreatDoorA3
namespace Go.Proofs.YtkpfafehcmammaaGreatDoor
open Go.Deep

section
variable {P : Program} {T : Tab} {e : Env} {r : Option Nat}

/-- A code, by its first parts and the rest. -/
theorem split_ok : ∀ (k : Nat) (c : Code) (aa : AA) (a : Act) (X : Cx) (s : AS) (w : World) (Kn : KA) (Kx : KX) (Q : Exit → Act → World → Prop), EnvOK P X.ρ T e r → evCode (preC k c) P T e aa s Kn Kx → Rel X s w → AAR X aa a →
    (∀ Y aa' s' a' w', Kn aa' s' → Rel Y s' w' → Ext X s w Y s' w' → AAR Y aa' a' → (postC k c).wpIn (Fw r) 0 P Q a' w') →
    (∀ x Y aa' s' a' w', Kx x aa' s' → Rel Y s' w' → Ext X s w Y s' w' → AAR Y aa' a' → x ≠ .normal → Q x a' w') → c.wpIn (Fw r) 0 P Q a w := by
  intro k
  induction k with
  | zero =>
    intro c aa a X s w Kn Kx Q hE h hR ha hn hx
    have h' : Kn aa s := h
    exact hn X aa s a w h' hR (Ext.refl X s w) ha
  | succ k ih =>
    intro c aa a X s w Kn Kx Q hE h hR ha hn hx
    cases c
    case seq x y =>
      have h' : evCode x P T e aa s (fun a s => evCode (preC k y) P T e a s Kn Kx) Kx := h
      refine wpIn_seq (code_ok x aa a X s w _ Kx _ hE h' hR ha (fun Y aa' s' a' w' k1 k2 k3 k4 => ?_) (fun x Y aa' s' a' w' k1 k2 k3 k4 k5 => ?_))
      · exact ih y aa' a' Y s' w' Kn Kx Q (by rw [k3.le.ρ]; exact hE) k1 k2 k4 (fun Z aa2 s2 a2 w2 q1 q2 q3 q4 => hn Z aa2 s2 a2 w2 q1 q2 (k3.trans q3) q4) (fun x Z aa2 s2 a2 w2 q1 q2 q3 q4 q5 => hx x Z aa2 s2 a2 w2 q1 q2 (k3.trans q3) q4 q5)
      · have := hx x Y aa' s' a' w' k1 k2 k3 k4 k5
        cases x <;> first | exact absurd rfl k5 | exact this
    all_goals
      have h' : Kn aa s := h
      exact hn X aa s a w h' hR (Ext.refl X s w) ha

theorem wpIn_true {c : Code} {a : Act} {w : World} {Z : Prop} (h : c.wpIn (Fw none) 0 P (fun _ _ _ => Z) a w) : Z := by
  obtain ⟨_, _, _, h, _⟩ := h { (default : Frame) with roundOf := none } [] [] rfl trivial (by unfold Fence.room; trivial)
  exact h

theorem sameR_ex : ∀ {l : List Value} {i : Nat} {t : TV} {K : Prop}, sameR l i t K → K ∧ ∀ m v, l[m]? = some v → getT t (i + m) = some v := by
  intro l
  induction l with
  | nil => intro i t K h; exact ⟨h, fun m v hv => by simp at hv⟩
  | cons x l ih =>
    intro i t K h
    obtain ⟨u, h1, h2⟩ := gv_ex (K := fun u => yes (veq x u) (sameR l (Nat.succ i) t K)) h
    obtain ⟨h3, h4⟩ := yes_ex h2
    have h5 := veq_eq h3
    subst h5
    obtain ⟨h6, h7⟩ := ih h4
    refine ⟨h6, fun m v hv => ?_⟩
    cases m with
    | zero => simp at hv; subst hv; simpa using h1
    | succ m =>
      have := h7 m v (by simpa using hv)
      rw [show i + (m + 1) = Nat.succ i + m by omega]; exact this

theorem setArgs_at : ∀ {vs : List Value} {i : Nat} {t : TV} {K : TV → Prop}, setArgs vs i t K → ∃ t', K t' ∧ ∀ m, getT t' m = if i ≤ m ∧ m < i + vs.length then vs[m - i]? else getT t m := by
  intro vs
  induction vs with
  | nil => intro i t K h; exact ⟨t, h, fun m => by rw [if_neg (by simp)]⟩
  | cons v vs ih =>
    intro i t K h
    obtain ⟨t1, h3, h4⟩ := setV_ex (K := fun t => setArgs vs (Nat.succ i) t K) h
    obtain ⟨t2, h5, h6⟩ := ih h4
    refine ⟨t2, h5, fun m => ?_⟩
    rw [h6 m, h3 m]
    simp only [Nat.succ_eq_add_one, List.length_cons]
    by_cases hm : m = i
    · subst hm; rw [if_neg (by omega), if_pos rfl, if_pos (by omega)]; simp
    · by_cases h8 : i ≤ m ∧ m < i + (vs.length + 1)
      · rw [if_pos (by omega), if_pos h8]
        have : m - i = (m - (i + 1)) + 1 := by omega
        rw [this]; rfl
      · rw [if_neg (by omega), if_neg hm, if_neg h8]

/-- What a law's call leaves. -/
def Good (Y : Cx) (s : AS) (w : World) (e : Ending) (w' : World) : Prop := e = .returned (.bool true) ∧ ∃ Z s', Ext Y s w Z s' w'

theorem fin_ex {fn : Func} {Z : Prop} {aa : AA} {a : Act} {X : Cx} {s : AS} {w : World} (h : fin fn P Z aa s) (hR : Rel X s w) (ha : AAR X aa a) : Z ∧ a.defers = [] ∧ (Go.results fn a.tmps).run P w = .ok (.bool true) w := by
  obtain ⟨h1, h2⟩ := yes_ex h
  have h3 : aa.defers = [] := by simpa using h1
  obtain ⟨vs, u, h4, h5, h6⟩ := results_run (P := P) hR ha.regs h2
  obtain ⟨b, h7, h8⟩ := vBool_ex h4
  obtain ⟨rfl, h9⟩ := yes_ex h8
  rw [h7, VR_bool] at h5
  subst h5
  have := ha.defers
  rw [h3] at this
  exact ⟨h9, this, h6⟩

theorem chain_ok {c : Code} {fn : Func} {X : Cx} {s : AS} {w : World} {aa : AA} {a : Act} (hE : EnvOK P X.ρ T e none) (hR : Rel X s w) (ha : AAR X aa a) {p us : List Value} (hp : VRl X p us) (hu : ∀ (m : Nat) (u : Value), us[m]? = some u → a.tmps[m]? = some u) :
    ∀ {l : List (List Value)}, chain l c fn P T e aa s → (∀ q ∈ l, ∃ us, VRl X q us) → p ∈ l → c.wpIn (Fw none) 0 P (bodyPost P fn (Good X s w)) a w := by
  intro l
  induction l with
  | nil => intro _ _ h; cases h
  | cons q l ih =>
    intro h hall hmem
    have h' : setArgs q 0 aa.regs (fun t => evCode c P T e ⟨t, aa.n, aa.defers⟩ s (fin fn P (chain l c fn P T e aa s)) (finX fn P (chain l c fn P T e aa s))) := h
    obtain ⟨t, h1, h2⟩ := setArgs_at h'
    by_cases hpq : p = q
    · subst hpq
      have hlen := hp.length
      have hA : AAR X ⟨t, aa.n, aa.defers⟩ a := ⟨⟨ha.regs.1, fun m v hv => by
        change getT t m = some v at hv
        rw [h2 m] at hv
        split at hv
        · obtain ⟨u, h5, h6⟩ := hp.get hv
          exact ⟨u, hu m u (by simpa using h5), h6⟩
        · exact ha.regs.2 m v hv⟩, ha.defers⟩
      refine code_ok c _ a X s w _ _ _ hE h1 hR hA (fun Y aa' s' a' w' k1 k2 k3 k4 => ?_) (fun x Y aa' s' a' w' k1 k2 k3 k4 k5 => ?_)
      · obtain ⟨_, f1, f2⟩ := fin_ex k1 k2 k4
        exact ⟨f1, _, f2, rfl, Y, s', k3⟩
      · cases x <;> first | exact k1.elim | skip
        obtain ⟨_, f1, f2⟩ := fin_ex (show fin fn P _ aa' s' from k1) k2 k4
        exact ⟨f1, _, f2, rfl, Y, s', k3⟩
    · obtain ⟨us0, hv0⟩ := hall q List.mem_cons_self
      have hlen := hv0.length
      have hA : AAR X ⟨t, aa.n, aa.defers⟩ ⟨us0.toArray ++ a.tmps.extract us0.length a.tmps.size, a.defers⟩ := ⟨⟨by
        have := ha.regs.1
        simp; omega, fun m v hv => by
        change getT t m = some v at hv
        rw [h2 m] at hv
        split at hv
        · obtain ⟨u, h5, h6⟩ := hv0.get hv
          refine ⟨u, ?_, h6⟩
          rw [Array.getElem?_append_left (by simpa using by omega)]
          simpa using h5
        · rename_i hm
          obtain ⟨u, h5, h6⟩ := ha.regs.2 m v hv
          refine ⟨u, ?_, h6⟩
          have hlt := (Array.getElem?_eq_some_iff.1 h5).1
          rw [Array.getElem?_append_right (by simpa using by omega)]
          have e1 : m - us0.toArray.size + us0.length = m := by simp; omega
          simp only [Array.getElem?_extract, List.size_toArray]
          rw [if_pos (by omega)]
          rw [show us0.length + (m - us0.length) = m by omega]; exact h5⟩, ha.defers⟩
      have hz : chain l c fn P T e aa s := wpIn_true (P := P) (c := c) (a := ⟨us0.toArray ++ a.tmps.extract us0.length a.tmps.size, a.defers⟩) (w := w) (code_ok c _ _ X s w _ _ _ hE h1 hR hA (fun Y aa' s' a' w' k1 k2 k3 k4 => (fin_ex k1 k2 k4).1) (fun x Y aa' s' a' w' k1 k2 k3 k4 k5 => by
        cases x <;> first | exact k1.elim | skip
        exact (fin_ex (show fin fn P _ aa' s' from k1) k2 k4).1))
      refine ih hz (fun q hq => hall q (List.mem_cons_of_mem _ hq)) ?_
      rcases List.mem_cons.1 hmem with h | h
      · exact absurd h hpq
      · exact h

/-- A law's call answers true. -/
theorem law_ok (hP : ProgOK P) {noop : FuncId → Bool} (hN : NoopOK P noop) {X : Cx} (hT : TabOK P X.ρ T) {k n : Nat} {args us p : List Value} {l : List (List Value)} {s : AS} {w : World} {f : FuncId} {fn : Func} (hf : P.funcs[f]? = some fn)
    (h : law k n args l P T noop s fn) (hR : Rel X s w) (hl : VRl X args us) (hc : ∀ v ∈ args, ∃ k i, v = .complex .f64 k i) (hp : VRl X p us) (hall : ∀ q ∈ l, ∃ us, VRl X q us) (hmem : p ∈ l) : Calls P f us.toArray w (Good X s w) := by
  rw [← callsIn_wide (n := 0)]
  obtain ⟨c, hb, h1⟩ := ok_ex h
  obtain ⟨t, h2, h3⟩ := setArgs_at h1
  have hlen := hl.length
  have hE : EnvOK P X.ρ T ⟨noop, go n P T noop false, go n P T noop true, false⟩ none := ⟨hP, hT, (go_ok hP hT hN n).1, (go_ok hP hT hN n).2, rfl⟩
  refine callsIn_of_wp hf hb trivial ?_
  have ha : AAR X ⟨t, fn.ntmps, []⟩ { tmps := us.toArray ++ Array.replicate (fn.ntmps - us.toArray.size) undef, defers := [] } := by
    refine ⟨⟨by simp; omega, fun m v hv => ?_⟩, rfl⟩
    change getT t m = some v at hv
    rw [h3 m] at hv
    split at hv
    · obtain ⟨u, h5, h6⟩ := hl.get hv
      refine ⟨u, ?_, h6⟩
      rw [Array.getElem?_append_left (by simpa using by omega)]
      simpa using h5
    · rw [getT_nil] at hv; cases hv
  refine split_ok (r := none) k c _ _ X s w _ _ _ hE h2 hR ha (fun Y aa' s' a' w' k1 k2 k3 k4 => ?_) (fun x Y aa' s' a' w' k1 _ _ _ _ => k1.elim)
  obtain ⟨q1, q2⟩ := sameR_ex k1
  have hreg : ∀ (m : Nat) (u : Value), us[m]? = some u → a'.tmps[m]? = some u := fun m u hm => by
    have hlt : m < args.length := by rw [← hlen]; exact (List.getElem?_eq_some_iff.1 hm).1
    have q3 := q2 m _ (List.getElem?_eq_getElem hlt)
    rw [Nat.zero_add] at q3
    obtain ⟨u', q4, q5⟩ := k4.regs.2 m _ q3
    obtain ⟨u2, q6, q7⟩ := hl.get (List.getElem?_eq_getElem hlt)
    rw [hm] at q6
    cases q6
    obtain ⟨k', i', e1⟩ := hc _ (List.getElem_mem hlt)
    rw [e1, VR_complex] at q5 q7
    rw [k3.le.ρ] at q5
    rw [q4, q5, q7]
  have hmono : ∀ (e : Ending) (w2 : World), Good Y s' w' e w2 → Good X s w e w2 := fun e w2 ⟨g1, Z, s2, g2⟩ => ⟨g1, Z, s2, k3.trans g2⟩
  have := chain_ok (c := postC k c) (fn := fn) (by rw [k3.le.ρ]; exact hE) k2 k4 (hp.mono k3.le) hreg q1 (fun q hq => let ⟨us, h⟩ := hall q hq; ⟨us, h.mono k3.le⟩) hmem
  exact Code.wpIn_mono (fun x a2 w2 h2 => by
    cases x <;> first
      | exact h2.elim
      | exact ⟨h2.1, h2.2.choose, h2.2.choose_spec.1, hmono _ _ h2.2.choose_spec.2⟩
      | exact ⟨h2.1, hmono _ _ h2.2⟩
      | exact hmono _ _ h2) this

end
end Go.Proofs.YtkpfafehcmammaaGreatDoor
namespace Go.Proofs.YtkpfafehcmammaaGreatDoor
open Go.Deep

/-! What is known of letters, as lists. -/
abbrev BE := BinOp × Value × Value × Value
def bno : BinOp → Nat
  | .add => 0 | .sub => 1 | .mul => 2 | .quo => 3 | .rem => 4 | .and => 5 | .or => 6 | .xor => 7 | .shl => 8 | .shr => 9 | .andNot => 10 | .eql => 11 | .neq => 12 | .lss => 13 | .leq => 14 | .gtr => 15 | .geq => 16
theorem bno_eq {a b : BinOp} (h : Nat.beq (bno a) (bno b) = true) : a = b := by
  have h := Nat.eq_of_beq_eq_true h
  cases a <;> cases b <;> first | rfl | (cases h)
def uno : UnOp → Nat
  | .neg => 0
  | .not => 1
  | .xor => 2
  | .plus => 3
theorem uno_eq {a b : UnOp} (h : Nat.beq (uno a) (uno b) = true) : a = b := by
  have h := Nat.eq_of_beq_eq_true h
  cases a <;> cases b <;> first | rfl | (cases h)
def lookB (op : BinOp) (x y : Value) : List BE → Option Value
  | [] => none
  | e :: l => bif Nat.beq (bno op) (bno e.1) && veq1 x e.2.1 && veq1 y e.2.2.1 then some e.2.2.2 else lookB op x y l
def lookC (k : IntKind) (x : Value) : List (IntKind × Value × Value) → Option Value
  | [] => none
  | e :: l => bif keq k e.1 && veq1 x e.2.1 then some e.2.2 else lookC k x l
def lookU (op : UnOp) (x : Value) : List (UnOp × Value × Value) → Option Value
  | [] => none
  | e :: l => bif Nat.beq (uno op) (uno e.1) && veq1 x e.2.1 then some e.2.2 else lookU op x l
def tabOf (b : List BE) (c : List (IntKind × Value × Value)) (u : List (UnOp × Value × Value)) (y : List Nat) : Tab := ⟨fun op x z => lookB op x z b, fun k x => lookC k x c, fun op x => lookU op x u, fun i => memT i y⟩

theorem lookB_ex {op : BinOp} {x y r : Value} : ∀ {l : List BE}, lookB op x y l = some r → (op, x, y, r) ∈ l := by
  intro l
  induction l with
  | nil => intro h; cases h
  | cons e l ih =>
    intro h
    unfold lookB at h
    cases hb : (Nat.beq (bno op) (bno e.1) && veq1 x e.2.1 && veq1 y e.2.2.1) with
    | true =>
      rw [hb] at h
      simp only [Bool.and_eq_true] at hb
      have e1 : e.2.2.2 = r := Option.some.inj h
      rw [bno_eq hb.1.1, veq1_eq hb.1.2, veq1_eq hb.2, ← e1]
      exact List.mem_cons_self
    | false => rw [hb] at h; exact List.mem_cons_of_mem _ (ih h)
theorem lookC_ex {k : IntKind} {x r : Value} : ∀ {l : List (IntKind × Value × Value)}, lookC k x l = some r → (k, x, r) ∈ l := by
  intro l
  induction l with
  | nil => intro h; cases h
  | cons e l ih =>
    intro h
    unfold lookC at h
    cases hb : (keq k e.1 && veq1 x e.2.1) with
    | true =>
      rw [hb] at h
      simp only [Bool.and_eq_true] at hb
      have e1 : e.2.2 = r := Option.some.inj h
      rw [keqB_eq hb.1, veq1_eq hb.2, ← e1]
      exact List.mem_cons_self
    | false => rw [hb] at h; exact List.mem_cons_of_mem _ (ih h)
theorem lookU_ex {op : UnOp} {x r : Value} : ∀ {l : List (UnOp × Value × Value)}, lookU op x l = some r → (op, x, r) ∈ l := by
  intro l
  induction l with
  | nil => intro h; cases h
  | cons e l ih =>
    intro h
    unfold lookU at h
    cases hb : (Nat.beq (uno op) (uno e.1) && veq1 x e.2.1) with
    | true =>
      rw [hb] at h
      simp only [Bool.and_eq_true] at hb
      have e1 : e.2.2 = r := Option.some.inj h
      rw [uno_eq hb.1, veq1_eq hb.2, ← e1]
      exact List.mem_cons_self
    | false => rw [hb] at h; exact List.mem_cons_of_mem _ (ih h)
theorem memT_ex {i : Nat} : ∀ {y : List Nat}, memT i y = true → i ∈ y
  | [], h => by cases h
  | a :: y, h => by
    simp only [memT, Bool.or_eq_true] at h
    rcases h with h | h
    · rw [Nat.eq_of_beq_eq_true h]; exact List.mem_cons_self
    · exact List.mem_cons_of_mem _ (memT_ex h)

/-- A number: known, or a letter. -/
def num (ρ : Nat → Int) (k : IntKind) (n : Int) (r : Value) : Prop := r = .int k n ∨ ∃ f re i, r = .complex f re i ∧ kOf re = k ∧ ρ i = n
theorem num.vr {X : Cx} {ρ : Nat → Int} {k : IntKind} {n : Int} {r : Value} (h : num ρ k n r) (hX : X.ρ = ρ) : VR X r (.int k n) := by
  rcases h with rfl | ⟨f, re, i, rfl, h1, h2⟩
  · exact VR_int.2 rfl
  · rw [VR_complex, h1, hX, h2]
theorem num.eq {X : Cx} {ρ : Nat → Int} {k : IntKind} {n : Int} {r v : Value} (h : num ρ k n r) (hX : X.ρ = ρ) (hv : VR X r v) : v = .int k n := by
  rcases h with rfl | ⟨f, re, i, rfl, h1, h2⟩
  · exact VR_int.1 hv
  · rw [VR_complex, h1, hX, h2] at hv; exact hv

/-- What an entry says is so. -/
def saysB (ρ : Nat → Int) (e : BE) : Prop := ∃ k a k' b v, num ρ k a e.2.1 ∧ num ρ k' b e.2.2.1 ∧ (∀ (P : Program) (w : World) (t : TypeId), (Go.binOp e.1 t (.int k a) (.int k' b)).run P w = .ok v w) ∧ ((∃ q, v = .bool q ∧ e.2.2.2 = v) ∨ ∃ kr n, v = .int kr n ∧ num ρ kr n e.2.2.2)
def saysC (ρ : Nat → Int) (e : IntKind × Value × Value) : Prop := ∃ k a, num ρ k a e.2.1 ∧ num ρ e.1 (e.1.wrap a) e.2.2
def saysU (ρ : Nat → Int) (e : UnOp × Value × Value) : Prop := ∃ k a n, num ρ k a e.2.1 ∧ (∀ (P : Program) (w : World), (Op.unary e.1 (.int k a)).run P w = .ok (.int k n) w) ∧ num ρ k n e.2.2

theorem tab_ok {P : Program} {ρ : Nat → Int} {b : List BE} {c : List (IntKind × Value × Value)} {u : List (UnOp × Value × Value)} {y : List Nat} (hb : ∀ e ∈ b, saysB ρ e) (hc : ∀ e ∈ c, saysC ρ e) (hu : ∀ e ∈ u, saysU ρ e) (hy : ∀ i ∈ y, 0 ≤ ρ i ∧ ρ i < 256) : TabOK P ρ (tabOf b c u y) := by
  refine ⟨fun i hi => hy i (memT_ex hi), fun X hX op t x y r vx vy w h hx hy => ?_, fun X hX k x r k' m h hx => ?_, fun X hX op x r vx w h hx => ?_⟩
  · obtain ⟨k, a, k', b', v, h1, h2, h3, h4⟩ := hb _ (lookB_ex h)
    have e1 := h1.eq hX hx
    have e2 := h2.eq hX hy
    subst e1; subst e2
    refine ⟨v, h3 P w t, ?_⟩
    rcases h4 with ⟨q, rfl, h5⟩ | ⟨kr, n, rfl, h5⟩
    · rw [show r = .bool q from h5]; rfl
    · exact h5.vr hX
  · obtain ⟨k2, a, h1, h2⟩ := hc _ (lookC_ex h)
    have e1 := h1.eq hX hx
    cases e1
    exact h2.vr hX
  · obtain ⟨k, a, n, h1, h2, h3⟩ := hu _ (lookU_ex h)
    have e1 := h1.eq hX hx
    subst e1
    exact ⟨_, h2 P w, h3.vr hX⟩

section
variable {ρ : Nat → Int} {x y r : Value} {k k' : IntKind} {a b n : Int}
theorem says_lss (hx : num ρ k a x) (hy : num ρ k b y) (hr : r = .bool (decide (a < b))) : saysB ρ (.lss, x, y, r) := ⟨k, a, k, b, .bool (decide (a < b)), hx, hy, fun P w t => by simp [Go.binOp, Op.intCmp], .inl ⟨_, rfl, hr⟩⟩
theorem says_eql (hx : num ρ k a x) (hy : num ρ k b y) (hr : r = .bool (decide (a = b))) : saysB ρ (.eql, x, y, r) := ⟨k, a, k, b, .bool (a == b), hx, hy, fun P w t => by simp [Go.binOp, Op.intCmp], .inl ⟨_, rfl, hr⟩⟩
theorem says_neq (hx : num ρ k a x) (hy : num ρ k b y) (hr : r = .bool (!decide (a = b))) : saysB ρ (.neq, x, y, r) := ⟨k, a, k, b, .bool (a != b), hx, hy, fun P w t => by simp [Go.binOp, Op.intCmp], .inl ⟨_, rfl, hr⟩⟩
theorem says_add (hx : num ρ k a x) (hy : num ρ k b y) (hr : num ρ k (k.wrap (a + b)) r) : saysB ρ (.add, x, y, r) := ⟨k, a, k, b, _, hx, hy, fun P w t => by simp [Go.binOp, Op.intArith], .inr ⟨_, _, rfl, hr⟩⟩
theorem says_rem (hx : num ρ k a x) (hy : num ρ k b y) (hb : b ≠ 0) (hr : num ρ k (a.tmod b) r) : saysB ρ (.rem, x, y, r) := ⟨k, a, k, b, _, hx, hy, fun P w t => by simp [Go.binOp, Op.intDiv, hb], .inr ⟨_, _, rfl, hr⟩⟩
theorem says_shr (hx : num ρ k a x) (hy : num ρ k' b y) (hb : 0 ≤ b) (hr : num ρ k (a.fdiv (2 ^ (min b.toNat k.bits))) r) : saysB ρ (.shr, x, y, r) := ⟨k, a, k', b, .int k (a.fdiv (2 ^ (min b.toNat k.bits))), hx, hy, fun P w t => by
  have : ¬ b < 0 := by omega
  simp [Go.binOp, Op.shift, this], .inr ⟨_, _, rfl, hr⟩⟩
theorem says_shl (hx : num ρ k a x) (hy : num ρ k' b y) (hb : 0 ≤ b) (hr : num ρ k (k.wrap (a * 2 ^ (min b.toNat k.bits))) r) : saysB ρ (.shl, x, y, r) := ⟨k, a, k', b, .int k (k.wrap (a * 2 ^ (min b.toNat k.bits))), hx, hy, fun P w t => by
  have : ¬ b < 0 := by omega
  simp [Go.binOp, Op.shift, this], .inr ⟨_, _, rfl, hr⟩⟩
theorem says_or (hx : num ρ k a x) (hy : num ρ k b y) (hr : num ρ k (k.wrap (BitVec.ofInt k.bits a ||| BitVec.ofInt k.bits b).toNat) r) : saysB ρ (.or, x, y, r) := ⟨k, a, k, b, .int k (k.wrap (BitVec.ofInt k.bits a ||| BitVec.ofInt k.bits b).toNat), hx, hy, fun P w t => by simp [Go.binOp, Op.intBits], .inr ⟨_, _, rfl, hr⟩⟩
theorem says_neg (hx : num ρ k a x) (hr : num ρ k (k.wrap (0 - a)) r) : saysU ρ (.neg, x, r) := ⟨k, a, k.wrap (0 - a), hx, fun P w => by simp [Op.unary, Op.intArith], hr⟩
end
theorem num_l {ρ : Nat → Int} {re i : Nat} {n : Int} (h : ρ i = n) : num ρ (kOf re) n (.complex .f64 re i) := .inr ⟨.f64, re, i, rfl, rfl, h⟩
theorem num_i {ρ : Nat → Int} {k : IntKind} {n : Int} : num ρ k n (.int k n) := .inl rfl
end Go.Proofs.YtkpfafehcmammaaGreatDoor
