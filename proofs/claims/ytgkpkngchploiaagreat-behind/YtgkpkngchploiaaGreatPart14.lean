/-
  Part 14 of the proof: Fm3, Fm2, Pl4, Pl5, Fit1.
-/
import Derived.Test.YtgkpkngchploiaaGreatPart12
import Derived.Test.YtgkpkngchploiaaGreatPart13
/-
  What is kept while a code is gone through: floors lie below what lies there, lists are short; errors lie among the bytes.
-/
namespace Go.Proofs.YtgkpkngchploiaaGreat
open Go.RowKit

/-- No block's floor is higher than what lies there, and than the floor of those within it. -/
def Floors : List Blo → Nat → Prop
  | [], _ => True
  | b :: bs, n => b.floor ≤ n ∧ Floors bs b.floor

theorem Floors.le : ∀ {bs : List Blo} {n m : Nat}, Floors bs n → n ≤ m → Floors bs m
  | [], _, _, _, _ => trivial
  | _ :: _, _, _, h, hm => ⟨Nat.le_trans h.1 hm, h.2⟩

structure Tidy (st : Bd) : Prop where
  floors : Floors st.blocks st.stack.length
  short : ∀ b ∈ st.blocks, b.takes.length ≤ 8 ∧ b.gives.length ≤ 8

theorem Tidy.floor {st : Bd} (h : Tidy st) : st.inner.floor ≤ st.stack.length := by
  obtain ⟨stk, bs, a⟩ := st
  cases bs with
  | nil => exact Nat.zero_le _
  | cons b bs => exact h.floors.1

theorem takeAnyM_facts {bl : Blo} {a k : Nat} {stk stk' : List Nat} (hf : bl.floor ≤ stk.length) (h : takeAnyM bl a stk = .ok (k, stk')) : bl.floor ≤ stk'.length ∧ stk'.length ≤ stk.length ∧ stk' = stk.take stk'.length := by
  unfold takeAnyM at h
  split at h
  · split at h <;> cases h
    exact ⟨hf, Nat.le_refl _, by simp⟩
  · cases h
    rename_i hne
    refine ⟨by simp; omega, by simp, ?_⟩
    simp

theorem takeAnyM_err {bl : Blo} {a q p : Nat} {stk : List Nat} (h : takeAnyM bl a stk = .error (q, p)) : q = 4 ∧ p = a := by
  unfold takeAnyM at h
  split at h
  · split at h <;> cases h; exact ⟨rfl, rfl⟩
  · cases h

theorem takeGo_facts {bl : Blo} {a : Nat} {ks : List Nat} : ∀ (i : Nat) {stk stk' : List Nat}, bl.floor ≤ stk.length → takeGo bl a ks i stk = .ok stk' → bl.floor ≤ stk'.length ∧ stk'.length ≤ stk.length ∧ stk' = stk.take stk'.length := by
  intro i
  induction i with
  | zero => intro stk stk' hf h; simp [takeGo] at h; subst h; exact ⟨hf, Nat.le_refl _, by simp⟩
  | succ i ih =>
    intro stk stk' hf h
    unfold takeGo at h
    cases ho : takeAnyM bl a stk with
    | error e => rw [ho] at h; cases h
    | ok x =>
      obtain ⟨got, stk1⟩ := x
      rw [ho] at h
      simp only at h
      have h1 := takeAnyM_facts hf ho
      split at h
      · cases h
      · have h2 := ih h1.1 h
        refine ⟨h2.1, by omega, ?_⟩
        rw [h2.2.2, h1.2.2, List.take_take]
        congr 1
        have := h2.2.1
        simp
        omega

theorem takeGo_err {bl : Blo} {a : Nat} {ks : List Nat} : ∀ (i : Nat) {stk : List Nat} {q p : Nat}, takeGo bl a ks i stk = .error (q, p) → q = 4 ∧ p = a := by
  intro i
  induction i with
  | zero => intro stk q p h; simp [takeGo] at h
  | succ i ih =>
    intro stk q p h
    unfold takeGo at h
    cases ho : takeAnyM bl a stk with
    | error e => rw [ho] at h; cases h; exact takeAnyM_err ho
    | ok x =>
      obtain ⟨got, stk1⟩ := x
      rw [ho] at h
      simp only at h
      split at h
      · cases h; exact ⟨rfl, rfl⟩
      · exact ih h

theorem takeM_facts {st st' : Bd} {ks : List Nat} (hf : st.inner.floor ≤ st.stack.length) (h : takeM st ks = .ok st') : st'.blocks = st.blocks ∧ st'.at_ = st.at_ ∧ st.inner.floor ≤ st'.stack.length ∧ st'.stack.length ≤ st.stack.length ∧ st'.stack = st.stack.take st'.stack.length := by
  unfold takeM at h
  cases ho : takeGo st.inner st.at_ ks ks.length st.stack with
  | error e => rw [ho] at h; cases h
  | ok stk =>
    rw [ho] at h
    cases h
    have := takeGo_facts _ hf ho
    exact ⟨rfl, rfl, this⟩

theorem takeM_err {st : Bd} {ks : List Nat} {q p : Nat} (h : takeM st ks = .error (q, p)) : q = 4 ∧ p = st.at_ := by
  unfold takeM at h
  cases ho : takeGo st.inner st.at_ ks ks.length st.stack with
  | error e => rw [ho] at h; cases h; exact takeGo_err _ ho
  | ok stk => rw [ho] at h; cases h

theorem Tidy.take {st st' : Bd} {ks : List Nat} (ht : Tidy st) (h : takeM st ks = .ok st') : Tidy st' := by
  obtain ⟨h1, -, h3, -, -⟩ := takeM_facts ht.floor h
  obtain ⟨stk, bs, a⟩ := st
  obtain ⟨stk', bs', a'⟩ := st'
  simp only at h1
  subst h1
  cases bs' with
  | nil => exact ⟨trivial, by simp⟩
  | cons b bs => exact ⟨⟨h3, ht.floors.2⟩, ht.short⟩

theorem Tidy.put {st : Bd} (ht : Tidy st) (ks : List Nat) : Tidy (putM st ks) := ⟨ht.floors.le (by simp [putM]), ht.short⟩

theorem Tidy.cutOff {st : Bd} (ht : Tidy st) (hb : st.blocks ≠ []) : Tidy (cutOffM st) := by
  have hf := ht.floor
  obtain ⟨stk, bs, a⟩ := st
  cases bs with
  | nil => exact absurd rfl hb
  | cons b bs =>
    simp only [Bd.inner, List.headD_cons] at hf
    refine ⟨⟨?_, ht.floors.2⟩, ?_⟩
    · simp [cutOffM, Bd.inner]; omega
    · intro c hc
      simp [cutOffM, Bd.inner] at hc
      rcases hc with rfl | hc
      · exact ht.short b (by simp)
      · exact ht.short c (by simp [hc])

/-- A step: its errors are of the fitting kind and lie no further than N; else all stays tidy, k kinds more at most, d blocks more. -/
def Tame (N : Nat) (d : Int) (k : Nat) (f : Bd → Except Err Bd) : Prop := ∀ st, Tidy st → st.blocks ≠ [] → st.at_ ≤ N →
  (∀ q p, f st = .error (q, p) → (q = 3 ∨ q = 4) ∧ p ≤ N) ∧ ∀ st', f st = .ok st' → Tidy st' ∧ st'.at_ = st.at_ ∧ st'.stack.length ≤ st.stack.length + k ∧ (st'.blocks.length : Int) = st.blocks.length + d

section
variable {N : Nat} {d : Int} {k k' : Nat} {f g : Bd → Except Err Bd}

theorem Tame.then (hf : Tame N 0 k f) (hg : Tame N d k' g) {F : Bd → Except Err Bd} (he : ∀ st e, f st = .error e → F st = .error e) (hk : ∀ st st1, f st = .ok st1 → F st = g st1) : Tame N d (k + k') F := by
  intro st ht hb ha
  obtain ⟨h1, h2⟩ := hf st ht hb ha
  cases ho : f st with
  | error e =>
    obtain ⟨q, p⟩ := e
    rw [he _ _ ho]
    exact ⟨fun q' p' h => by cases h; exact h1 _ _ ho, fun _ h => by cases h⟩
  | ok st1 =>
    obtain ⟨t1, a1, l1, b1⟩ := h2 _ ho
    have hb1 : st1.blocks ≠ [] := by
      intro c
      rw [c] at b1
      have : st.blocks.length ≠ 0 := by simpa using hb
      simp at b1
      omega
    obtain ⟨h3, h4⟩ := hg st1 t1 hb1 (by omega)
    rw [hk _ _ ho]
    refine ⟨h3, fun st' h => ?_⟩
    obtain ⟨t2, a2, l2, b2⟩ := h4 _ h
    exact ⟨t2, by omega, by omega, by omega⟩

theorem Tame.take (ks : List Nat) : Tame N 0 0 (fun st => takeM st ks) := by
  intro st ht hb ha
  refine ⟨fun q p h => ?_, fun st' h => ?_⟩
  · have := takeM_err h; exact ⟨.inr this.1, by omega⟩
  · have := takeM_facts ht.floor h
    exact ⟨ht.take h, this.2.1, by omega, by rw [this.1]; simp⟩

theorem Tame.put (ks : List Nat) (h : ks.length ≤ k) : Tame N 0 k (fun st => .ok (putM st ks)) := by
  intro st ht hb ha
  refine ⟨fun q p h => (by cases h), fun st' h => ?_⟩
  cases h
  exact ⟨ht.put ks, rfl, by simp [putM]; omega, by simp [putM]⟩

theorem Tame.cutOff : Tame N 0 0 (fun st => .ok (cutOffM st)) := by
  intro st ht hb ha
  refine ⟨fun q p h => (by cases h), fun st' h => ?_⟩
  cases h
  refine ⟨ht.cutOff hb, rfl, by simp [cutOffM]; omega, ?_⟩
  have : st.blocks.length ≠ 0 := by simpa using hb
  simp [cutOffM]
  omega

theorem Tame.weak (hf : Tame N d k f) (hk : k ≤ k') : Tame N d k' f := fun st ht hb ha => ⟨(hf st ht hb ha).1, fun st' h => ⟨((hf st ht hb ha).2 st' h).1, ((hf st ht hb ha).2 st' h).2.1, by have := ((hf st ht hb ha).2 st' h).2.2.1; omega, ((hf st ht hb ha).2 st' h).2.2.2⟩⟩

theorem Tame.same : Tame N 0 k (fun st => .ok st) := fun st ht _ _ => ⟨fun _ _ h => (by cases h), fun st' h => by cases h; exact ⟨ht, rfl, by omega, by simp⟩⟩

theorem Tame.fail {q p : Nat} (hq : q = 3 ∨ q = 4) (hp : p ≤ N) : Tame N d k (fun _ => .error (q, p)) := fun st _ _ _ => ⟨fun _ _ h => by cases h; exact ⟨hq, hp⟩, fun st' h => by cases h⟩

theorem Tame.here {q : Nat} (hq : q = 3 ∨ q = 4) : Tame N d k (fun st => .error (q, st.at_)) := fun st _ _ ha => ⟨fun _ _ h => by cases h; exact ⟨hq, ha⟩, fun st' h => by cases h⟩

theorem Tame.ite {c : Prop} [Decidable c] (hf : c → Tame N d k f) (hg : ¬ c → Tame N d k g) : Tame N d k (fun st => if c then f st else g st) := by
  by_cases h : c
  · simp only [if_pos h]; exact hf h
  · simp only [if_neg h]; exact hg h

/-- Ahead of it something is looked up that hangs on no stack: an error of the fitting kind, or an x of which P holds. -/
theorem Tame.ask {α : Type} {r : Except Err α} {P : α → Prop} {G : α → Bd → Except Err Bd} (he : ∀ q p, r = .error (q, p) → (q = 3 ∨ q = 4) ∧ p ≤ N) (hp : ∀ x, r = .ok x → P x) (hg : ∀ x, P x → Tame N d k (G x)) {F : Bd → Except Err Bd} (h1 : ∀ e st, r = .error e → F st = .error e) (h2 : ∀ x st, r = .ok x → F st = G x st) : Tame N d k F := by
  intro st ht hb ha
  cases r with
  | error e =>
    obtain ⟨q, p⟩ := e
    rw [h1 _ st rfl]
    exact ⟨fun _ _ h => by cases h; exact he _ _ rfl, fun _ h => by cases h⟩
  | ok x =>
    rw [h2 _ st rfl]
    exact hg x (hp _ rfl) st ht hb ha
end

theorem thereM_err {x : Int × Nat} {many q p N : Nat} (hx : numOk N x) (h : thereM x many = .error (q, p)) : (q = 3 ∨ q = 4) ∧ p ≤ N := by
  unfold thereM at h
  split at h <;> cases h
  exact ⟨.inl rfl, hx.2.2⟩

theorem thereM_ok {x : Int × Nat} {many k : Nat} (hx : 0 ≤ x.1) (h : thereM x many = .ok k) : k < many ∧ x.1 = (k : Int) := by
  unfold thereM at h
  split at h <;> cases h
  omega

theorem Tame.enter {N : Nat} (word : Nat) {t : Ty} (h1 : t.ins.length ≤ 8) (h2 : t.outs.length ≤ 8) : Tame N 1 8 (enterM word t) := by
  intro st ht hb ha
  unfold enterM
  cases ho : takeM st t.ins with
  | error e => obtain ⟨q, p⟩ := e; have := takeM_err ho; exact ⟨fun _ _ h => by cases h; exact ⟨.inr this.1, by omega⟩, fun _ h => by cases h⟩
  | ok st1 =>
    have hf := takeM_facts ht.floor ho
    have t1 := ht.take ho
    refine ⟨fun _ _ h => (by cases h), fun st' h => ?_⟩
    cases h
    refine ⟨⟨⟨by simp, t1.floors⟩, ?_⟩, hf.2.1, by simp; omega, by simp [hf.1]⟩
    intro b hb
    simp at hb
    rcases hb with rfl | hb
    · exact ⟨h1, h2⟩
    · exact t1.short b hb

theorem leaveM_facts {st : Bd} (ht : Tidy st) (hb : st.blocks ≠ []) : (∀ q p, leaveM st = .error (q, p) → q = 4 ∧ p = st.at_) ∧ ∀ left st', leaveM st = .ok (left, st') → left = st.inner ∧ Tidy st' ∧ st'.at_ = st.at_ ∧ st'.stack.length ≤ st.stack.length ∧ st'.blocks = st.blocks.tail ∧ left.takes.length ≤ 8 ∧ left.gives.length ≤ 8 := by
  unfold leaveM
  cases ho : takeM st st.inner.gives with
  | error e => obtain ⟨q, p⟩ := e; have := takeM_err ho; exact ⟨fun _ _ h => by cases h; exact this, fun _ _ h => by cases h⟩
  | ok st1 =>
    have hf := takeM_facts ht.floor ho
    have t1 := ht.take ho
    simp only
    split
    · rename_i hl
      refine ⟨fun _ _ h => (by cases h), fun left st' h => ?_⟩
      cases h
      obtain ⟨stk, bs, a⟩ := st
      obtain ⟨stk1, bs1, a1⟩ := st1
      simp only at hf
      obtain ⟨rfl, rfl, -⟩ := hf
      cases bs1 with
      | nil => exact absurd rfl hb
      | cons b bs =>
        simp only [Bd.inner, List.headD_cons] at hl
        exact ⟨rfl, ⟨by simpa [hl] using t1.floors.2, fun c hc => t1.short c (by simp at hc ⊢; exact .inr hc)⟩, rfl, by simpa using (takeM_facts ht.floor ho).2.2.2.1, rfl, ht.short b (by simp)⟩
    · exact ⟨fun _ _ h => by cases h; exact ⟨rfl, rfl⟩, fun _ _ h => by cases h⟩

theorem inner_mem {st : Bd} (hb : st.blocks ≠ []) : st.inner ∈ st.blocks := by
  obtain ⟨stk, bs, a⟩ := st
  cases bs with
  | nil => exact absurd rfl hb
  | cons b bs => simp [Bd.inner]

theorem labelM_facts {st : Bd} {x : Int × Nat} {N : Nat} (ht : Tidy st) (hx : numOk N x) : (∀ q p, labelM st x = .error (q, p) → (q = 3 ∨ q = 4) ∧ p ≤ N) ∧ ∀ ks, labelM st x = .ok ks → ks.length ≤ 8 := by
  unfold labelM
  cases ho : thereM x st.blocks.length with
  | error e => obtain ⟨q, p⟩ := e; exact ⟨fun _ _ h => by cases h; exact thereM_err hx ho, fun _ h => by cases h⟩
  | ok k =>
    refine ⟨fun _ _ h => (by cases h), fun ks h => ?_⟩
    cases h
    have hk := (thereM_ok hx.1 ho).1
    have hm : st.blocks.getD k Blo.none ∈ st.blocks := by simp [hk]
    have := ht.short _ hm
    unfold labelTakesM
    split <;> omega

theorem labelM_stack {st st' : Bd} (h : st'.blocks = st.blocks) (x : Int × Nat) : labelM st' x = labelM st x := by unfold labelM; rw [h]

theorem typeAtM_facts {m : Mdl} {x : Int × Nat} {N : Nat} (hm : ModOk N m) (hx : numOk N x) : (∀ q p, typeAtM m x = .error (q, p) → (q = 3 ∨ q = 4) ∧ p ≤ N) ∧ ∀ t, typeAtM m x = .ok t → t.ins.length ≤ 8 ∧ t.outs.length ≤ 8 := by
  unfold typeAtM
  cases ho : thereM x m.types.length with
  | error e => obtain ⟨q, p⟩ := e; exact ⟨fun _ _ h => by cases h; exact thereM_err hx ho, fun _ h => by cases h⟩
  | ok k =>
    refine ⟨fun _ _ h => (by cases h), fun t h => ?_⟩
    cases h
    have hk := (thereM_ok hx.1 ho).1
    have := hm.types.2 _ (show m.types.getD k ⟨[], []⟩ ∈ m.types by simp [hk])
    exact ⟨this.1, Nat.le_trans this.2 (by omega)⟩

theorem typeOfM_facts {m : Mdl} {N : Nat} (hm : ModOk N m) (f : Nat) : (typeOfM m f).ins.length ≤ 8 ∧ (typeOfM m f).outs.length ≤ 8 := by
  unfold typeOfM
  generalize (m.funcs.getD f (0, 0)).1.toNat = k
  by_cases h : k < m.types.length
  · have := hm.types.2 _ (show m.types.getD k ⟨[], []⟩ ∈ m.types by simp [h])
    exact ⟨this.1, Nat.le_trans this.2 (by omega)⟩
  · have : m.types.getD k ⟨[], []⟩ = ⟨[], []⟩ := by simp [show m.types.length ≤ k by omega]
    rw [this]
    simp

theorem blockTypeM_facts {m : Mdl} {y : Beh} {N : Nat} (hm : ModOk N m) (hy : behOk N y) : (∀ q p, blockTypeM m y = .error (q, p) → (q = 3 ∨ q = 4) ∧ p ≤ N) ∧ ∀ t, blockTypeM m y = .ok t → t.ins.length ≤ 8 ∧ t.outs.length ≤ 8 := by
  unfold blockTypeM
  split
  · exact typeAtM_facts hm hy.1
  · refine ⟨fun _ _ h => (by cases h), fun t h => ?_⟩
    cases h
    exact ⟨by simp, Nat.le_trans hy.2.2.2.1 (by omega)⟩

theorem Tame.call {N : Nat} {t : Ty} (h : t.outs.length ≤ 8) : Tame N 0 8 (callM t) :=
  ((Tame.take t.ins).then (Tame.put t.outs h) (F := callM t) (fun st e h => by simp only [callM, h] <;> rfl) (fun st st1 h => by simp only [callM, h] <;> rfl)).weak (by omega)

/-- How many blocks more an instruction opens. -/
def opens (x : Nat) : Int := if x = 2 ∨ x = 3 ∨ x = 4 then 1 else if x = 11 then -1 else 0

theorem checkBlock_tame {m : Mdl} {y : Beh} {N : Nat} (hm : ModOk N m) (hy : behOk N y) (x : Nat) : Tame N (opens x) 16 (checkBlockM m x y) := by
  obtain ⟨b1, b2⟩ := blockTypeM_facts hm hy
  unfold checkBlockM
  refine Tame.ite (fun h => ?_) (fun h0 => Tame.ite (fun h => ?_) (fun h1 => Tame.ite (fun h => ?_) (fun h2 => Tame.ite (fun h => ?_) (fun h3 => Tame.ite (fun h => ?_) (fun h4 => ?_)))))
  · subst h; exact Tame.cutOff.weak (by omega)
  · have : opens x = 1 := by unfold opens; rw [if_pos (by omega)]
    rw [this]
    exact Tame.ask (G := fun t => enterM x t) b1 b2 (fun t ht => (Tame.enter x ht.1 ht.2).weak (by omega)) (fun e st h => by simp only [h] <;> rfl) (fun t st h => by simp only [h] <;> rfl)
  · subst h
    refine Tame.ask (G := fun t => fun st => match takeM st [127] with
      | .error e => .error e
      | .ok st1 => enterM 4 t st1) b1 b2 (fun t ht => ?_) (fun e st h => by simp only [h] <;> rfl) (fun t st h => by simp only [h] <;> rfl)
    exact ((Tame.take [127]).then (Tame.enter 4 ht.1 ht.2) (fun st e h => by simp only [h] <;> rfl) (fun st st1 h => by simp only [h] <;> rfl)).weak (by omega)
  · subst h
    intro st ht hb ha
    obtain ⟨l1, l2⟩ := leaveM_facts ht hb
    dsimp only
    cases ho : leaveM st with
    | error e => obtain ⟨q, p⟩ := e; have := l1 _ _ ho; exact ⟨fun _ _ h => by cases h; exact ⟨.inr this.1, by omega⟩, fun _ h => by cases h⟩
    | ok x =>
      obtain ⟨left, st1⟩ := x
      obtain ⟨rfl, t1, a1, s1, e1, k1, k2⟩ := l2 _ _ ho
      simp only
      have hlen : st.blocks.length ≠ 0 := by simpa using hb
      by_cases hb1 : st1.blocks = []
      · -- the outermost block: what is put is taken again
        have tp := t1.put st.inner.takes
        unfold enterM
        simp only
        cases hk : takeM (putM st1 st.inner.takes) st.inner.takes with
        | error e => obtain ⟨q, p⟩ := e; have := takeM_err hk; exact ⟨fun _ _ h => by cases h; exact ⟨.inr this.1, by have := this.2; simp [putM] at this; omega⟩, fun _ h => by cases h⟩
        | ok st2 =>
          have hf := takeM_facts tp.floor hk
          have t2 := tp.take hk
          refine ⟨fun _ _ h => (by cases h), fun st' h => ?_⟩
          cases h
          have hl : st1.blocks.length = 0 := by rw [hb1]; rfl
          rw [e1] at hl
          simp at hl
          refine ⟨⟨⟨by simp, t2.floors⟩, ?_⟩, by rw [hf.2.1]; simp [putM, a1], ?_, ?_⟩
          · intro b hbm
            simp at hbm
            rcases hbm with rfl | hbm
            · exact ⟨k1, k2⟩
            · exact t2.short b hbm
          · have := hf.2.2.2.1
            simp [putM] at this ⊢
            omega
          · rw [show opens 5 = 0 from rfl]
            simp [hf.1, putM, hb1]
            omega
      · have hte := (Tame.put (N := N) (k := 8) st.inner.takes k1).then (Tame.enter (N := N) 5 (t := ⟨st.inner.takes, st.inner.gives⟩) k1 k2) (F := fun st1 => enterM 5 ⟨st.inner.takes, st.inner.gives⟩ (putM st1 st.inner.takes)) (fun _ _ h => by cases h) (fun _ _ h => by cases h; rfl)
        obtain ⟨h5, h6⟩ := hte st1 t1 hb1 (by omega)
        refine ⟨h5, fun st' h => ?_⟩
        obtain ⟨t2, a2, s2, e2⟩ := h6 _ h
        refine ⟨t2, by omega, by omega, ?_⟩
        rw [e2, e1, show opens 5 = 0 from rfl]
        simp
        omega
  · subst h
    intro st ht hb ha
    obtain ⟨l1, l2⟩ := leaveM_facts ht hb
    dsimp only
    cases ho : leaveM st with
    | error e => obtain ⟨q, p⟩ := e; have := l1 _ _ ho; exact ⟨fun _ _ h => by cases h; exact ⟨.inr this.1, by omega⟩, fun _ h => by cases h⟩
    | ok x =>
      obtain ⟨left, st1⟩ := x
      obtain ⟨rfl, t1, a1, s1, e1, k1, k2⟩ := l2 _ _ ho
      have hlen : st.blocks.length ≠ 0 := by simpa using hb
      simp only
      split
      · exact ⟨fun _ _ h => by cases h; exact ⟨.inr rfl, ha⟩, fun _ h => by cases h⟩
      · refine ⟨fun _ _ h => (by cases h), fun st' h => ?_⟩
        cases h
        refine ⟨t1.put _, a1, by simp [putM]; omega, ?_⟩
        rw [show opens 11 = -1 from rfl]
        simp [putM, e1]
        omega
  · have : opens x = 0 := by unfold opens; rw [if_neg (by omega), if_neg h4]
    rw [this]
    exact Tame.same

theorem labelsGo_facts {st : Bd} {N : Nat} (ht : Tidy st) : ∀ (xs : List (Int × Nat)) (acc : List (List Nat)), (∀ x ∈ xs, numOk N x) → (∀ ks ∈ acc, ks.length ≤ 8) →
    (∀ q p, labelsGo st xs acc = .error (q, p) → (q = 3 ∨ q = 4) ∧ p ≤ N) ∧ ∀ r, labelsGo st xs acc = .ok r → r.length = acc.length + xs.length ∧ ∀ ks ∈ r, ks.length ≤ 8
  | [], acc, _, h2 => ⟨fun _ _ h => by simp [labelsGo] at h, fun r h => by simp [labelsGo] at h; subst h; exact ⟨by simp, h2⟩⟩
  | x :: xs, acc, h1, h2 => by
    obtain ⟨l1, l2⟩ := labelM_facts ht (h1 x (by simp))
    unfold labelsGo
    cases ho : labelM st x with
    | error e => obtain ⟨q, p⟩ := e; exact ⟨fun _ _ h => by cases h; exact l1 _ _ ho, fun _ h => by cases h⟩
    | ok ks =>
      have := labelsGo_facts ht xs (acc ++ [ks]) (fun y hy => h1 y (by simp [hy])) (fun k hk => by rcases List.mem_append.1 hk with h | h; exact h2 k h; simp at h; subst h; exact l2 _ ho)
      exact ⟨this.1, fun r h => ⟨by have := (this.2 r h).1; simp at this ⊢; omega, (this.2 r h).2⟩⟩

theorem lookGo_err {st : Bd} {last : List Nat} : ∀ (r : List (List Nat)) {q p : Nat}, lookGo st last r = .error (q, p) → q = 4 ∧ p = st.at_
  | [], q, p, h => by simp [lookGo] at h
  | ks :: r, q, p, h => by
    unfold lookGo at h
    split at h
    · cases h; exact ⟨rfl, rfl⟩
    · split at h
      · rename_i ho; cases h; exact takeM_err ho
      · exact lookGo_err r h

theorem checkTable_tame {y : Beh} {N : Nat} (hy : behOk N y) : Tame N 0 16 (checkTableM y) := by
  intro st ht hb ha
  unfold checkTableM
  obtain ⟨l1, -⟩ := labelsGo_facts ht y.labels [] hy.2.2.1 (by simp)
  obtain ⟨l3, -⟩ := labelM_facts ht hy.1
  cases h1 : labelsGo st y.labels [] with
  | error e => obtain ⟨q, p⟩ := e; exact ⟨fun _ _ h => by cases h; exact l1 _ _ h1, fun _ h => by cases h⟩
  | ok others =>
    simp only
    cases h2 : labelM st y.num with
    | error e => obtain ⟨q, p⟩ := e; exact ⟨fun _ _ h => by cases h; exact l3 _ _ h2, fun _ h => by cases h⟩
    | ok last =>
      simp only
      cases h3 : takeM st [127] with
      | error e => obtain ⟨q, p⟩ := e; have := takeM_err h3; exact ⟨fun _ _ h => by cases h; exact ⟨.inr this.1, by omega⟩, fun _ h => by cases h⟩
      | ok st1 =>
        have f1 := takeM_facts ht.floor h3
        have t1 := ht.take h3
        simp only
        cases h4 : lookGo st1 last others with
        | error e => obtain ⟨q, p⟩ := e; have := lookGo_err _ h4; exact ⟨fun _ _ h => by cases h; exact ⟨.inr this.1, by omega⟩, fun _ h => by cases h⟩
        | ok u =>
          simp only
          have hb1 : st1.blocks ≠ [] := by rw [f1.1]; exact hb
          obtain ⟨h5, h6⟩ := ((Tame.take (N := N) last).then Tame.cutOff (F := fun st => match takeM st last with
            | .error e => .error e
            | .ok st2 => .ok (cutOffM st2)) (fun st e h => by simp only [h] <;> rfl) (fun st st1 h => by simp only [h] <;> rfl)) st1 t1 hb1 (by omega)
          refine ⟨h5, fun st' h => ?_⟩
          obtain ⟨t2, a2, s2, e2⟩ := h6 _ h
          exact ⟨t2, by omega, by omega, by rw [e2, f1.1]⟩

/-- A label's kinds, then something with them. -/
theorem Tame.label {N : Nat} {x : Int × Nat} (hx : numOk N x) {d : Int} {k : Nat} {G : List Nat → Bd → Except Err Bd} (hg : ∀ ks, ks.length ≤ 8 → Tame N d k (G ks)) {F : Bd → Except Err Bd} (h1 : ∀ e st, labelM st x = .error e → F st = .error e) (h2 : ∀ ks st, labelM st x = .ok ks → F st = G ks st) : Tame N d k F := by
  intro st ht hb ha
  obtain ⟨l1, l2⟩ := labelM_facts ht hx
  cases ho : labelM st x with
  | error e => obtain ⟨q, p⟩ := e; rw [h1 _ _ ho]; exact ⟨fun _ _ h => by cases h; exact l1 _ _ ho, fun _ h => by cases h⟩
  | ok ks => rw [h2 _ _ ho]; exact hg ks (l2 _ ho) st ht hb ha

theorem checkJump_tame {m : Mdl} {y : Beh} {N : Nat} (hm : ModOk N m) (hy : behOk N y) (x : Nat) : Tame N 0 16 (checkJumpM m x y) := by
  unfold checkJumpM
  refine Tame.ite (fun h => ?_) (fun h0 => Tame.ite (fun h => ?_) (fun h1 => Tame.ite (fun h => ?_) (fun h2 => Tame.ite (fun h => ?_) (fun h3 => Tame.ite (fun h => ?_) (fun h4 => Tame.ite (fun h => ?_) (fun h5 => Tame.same))))))
  · refine Tame.label hy.1 (G := fun ks => fun st => match takeM st ks with
      | .error e => .error e
      | .ok st1 => .ok (cutOffM st1)) (fun ks _ => ?_) (fun e st h => by simp only [h] <;> rfl) (fun t st h => by simp only [h] <;> rfl)
    exact ((Tame.take ks).then Tame.cutOff (fun st e h => by simp only [h] <;> rfl) (fun st st1 h => by simp only [h] <;> rfl)).weak (by omega)
  · refine Tame.label hy.1 (G := fun ks => fun st => match takeM st [127] with
      | .error e => .error e
      | .ok st1 => match takeM st1 ks with
        | .error e => .error e
        | .ok st2 => .ok (putM st2 ks)) (fun ks hks => ?_) (fun e st h => by simp only [h] <;> rfl) (fun t st h => by simp only [h] <;> rfl)
    exact ((Tame.take [127]).then (((Tame.take ks).then (Tame.put (k := 8) ks hks) (F := fun st1 => match takeM st1 ks with
        | .error e => .error e
        | .ok st2 => .ok (putM st2 ks)) (fun st e h => by simp only [h] <;> rfl) (fun st st1 h => by simp only [h] <;> rfl))) (fun st e h => by simp only [h] <;> rfl) (fun st st1 h => by simp only [h] <;> rfl)).weak (by omega)
  · exact checkTable_tame hy
  · intro st ht hb ha
    exact (((Tame.take (N := N) (st.blocks.getD (st.blocks.length - 1) Blo.none).gives).then Tame.cutOff (F := fun st' => match takeM st' (st.blocks.getD (st.blocks.length - 1) Blo.none).gives with
      | .error e => .error e
      | .ok st1 => .ok (cutOffM st1)) (fun st e h => by simp only [h] <;> rfl) (fun st st1 h => by simp only [h] <;> rfl)).weak (k' := 16) (by omega)) st ht hb ha
  · exact Tame.ask (P := fun _ => True) (r := thereM y.num m.funcs.length) (G := fun f => callM (typeOfM m f)) (fun q p h => thereM_err hy.1 h) (fun _ _ => trivial) (fun f _ => (Tame.call (typeOfM_facts hm f).2).weak (by omega)) (fun e st h => by simp only [h] <;> rfl) (fun t st h => by simp only [h] <;> rfl)
  · refine Tame.ite (fun _ => Tame.here (.inl rfl)) (fun _ => ?_)
    obtain ⟨b1, b2⟩ := typeAtM_facts hm hy.1
    refine Tame.ask (G := fun t => fun st => match takeM st [127] with
      | .error e => .error e
      | .ok st1 => callM t st1) b1 b2 (fun t ht => ?_) (fun e st h => by simp only [h] <;> rfl) (fun t st h => by simp only [h] <;> rfl)
    exact ((Tame.take [127]).then (Tame.call ht.2) (fun st e h => by simp only [h] <;> rfl) (fun st st1 h => by simp only [h] <;> rfl)).weak (by omega)

theorem Tame.top {N : Nat} {d : Int} {k : Nat} {G : Nat → Bd → Except Err Bd} (hg : ∀ x, Tame N d k (G x)) {F : Bd → Except Err Bd} (h1 : ∀ e st, takeTop st = .error e → F st = .error e) (h2 : ∀ x st st1, takeTop st = .ok (x, st1) → F st = G x st1) : Tame N d k F := by
  intro st ht hb ha
  cases ho : takeTop st with
  | error e =>
    obtain ⟨q, p⟩ := e
    rw [h1 _ _ ho]
    unfold takeTop at ho
    split at ho
    · rename_i h; cases ho; have := takeAnyM_err h; exact ⟨fun _ _ h => by cases h; exact ⟨.inr this.1, by omega⟩, fun _ h => by cases h⟩
    · cases ho
  | ok x =>
    obtain ⟨x, st1⟩ := x
    rw [h2 _ _ _ ho]
    unfold takeTop at ho
    split at ho
    · cases ho
    · rename_i h
      cases ho
      have hf := takeAnyM_facts ht.floor h
      rename_i stk
      have t1 : Tidy { st with stack := stk } := by
        obtain ⟨s0, bs, a⟩ := st
        cases bs with
        | nil => exact absurd rfl hb
        | cons b bs => exact ⟨⟨hf.1, ht.floors.2⟩, ht.short⟩
      obtain ⟨h5, h6⟩ := hg x { st with stack := stk } t1 hb ha
      exact ⟨h5, fun st' h => ⟨(h6 st' h).1, (h6 st' h).2.1, by have := (h6 st' h).2.2.1; simp at this; omega, (h6 st' h).2.2.2⟩⟩

theorem checkSelect_tame {N : Nat} : Tame N 0 16 checkSelectM := by
  intro st0 ht0 hb0 ha0
  have key : Tame N 0 16 (fun st => match takeM st [127] with
    | .error e => .error e
    | .ok st1 => match takeTop st1 with
      | .error e => .error e
      | .ok (second, st2) => match takeTop st2 with
        | .error e => .error e
        | .ok (first, st3) => if second ≠ 0 ∧ second ≠ (if first = 0 then second else first) then .error (4, st0.at_) else .ok (putM st3 [if first = 0 then second else first])) := by
    refine ((Tame.take [127]).then (k' := 16) (g := fun st1 => match takeTop st1 with
      | .error e => .error e
      | .ok (second, st2) => match takeTop st2 with
        | .error e => .error e
        | .ok (first, st3) => if second ≠ 0 ∧ second ≠ (if first = 0 then second else first) then .error (4, st0.at_) else .ok (putM st3 [if first = 0 then second else first])) ?_ (fun st e h => by simp only [h] <;> rfl) (fun st st1 h => by simp only [h] <;> rfl)).weak (by omega)
    refine Tame.top (G := fun second => fun st2 => match takeTop st2 with
        | .error e => .error e
        | .ok (first, st3) => if second ≠ 0 ∧ second ≠ (if first = 0 then second else first) then .error (4, st0.at_) else .ok (putM st3 [if first = 0 then second else first])) (fun second => ?_) (fun e st h => by simp only [h] <;> rfl) (fun x st st1 h => by simp only [h] <;> rfl)
    refine Tame.top (G := fun first => fun st3 => if second ≠ 0 ∧ second ≠ (if first = 0 then second else first) then .error (4, st0.at_) else .ok (putM st3 [if first = 0 then second else first])) (fun first => ?_) (fun e st h => by simp only [h] <;> rfl) (fun x st st1 h => by simp only [h] <;> rfl)
    exact Tame.ite (fun _ => Tame.fail (.inr rfl) ha0) (fun _ => Tame.put _ (by simp))
  exact key st0 ht0 hb0 ha0

theorem globalAtM_facts {m : Mdl} {x : Int × Nat} {N : Nat} (hx : numOk N x) : ∀ q p, globalAtM m x = .error (q, p) → (q = 3 ∨ q = 4) ∧ p ≤ N := by
  unfold globalAtM
  cases ho : thereM x m.globals.length with
  | error e => obtain ⟨q, p⟩ := e; exact fun _ _ h => by cases h; exact thereM_err hx ho
  | ok k => exact fun _ _ h => by cases h

theorem checkLocal_tame {ls : List Nat} {y : Beh} {N : Nat} (hy : behOk N y) (x : Nat) : Tame N 0 16 (checkLocalM ls x y) := by
  refine Tame.ask (P := fun _ => True) (r := thereM y.num ls.length) (G := fun k => fun st => match (if x = 32 then .ok st else takeM st [ls.getD k 0]) with
    | .error e => .error e
    | .ok st1 => if x = 33 then .ok st1 else .ok (putM st1 [ls.getD k 0])) (fun q p h => thereM_err hy.1 h) (fun _ _ => trivial) (fun k _ => ?_) (fun e st h => by simp only [checkLocalM, h] <;> rfl) (fun t st h => by simp only [checkLocalM, h] <;> rfl)
  refine (Tame.then (k := 0) (k' := 16) (f := fun st => if x = 32 then .ok st else takeM st [ls.getD k 0]) (Tame.ite (fun _ => Tame.same) (fun _ => Tame.take _)) (g := fun st1 => if x = 33 then .ok st1 else .ok (putM st1 [ls.getD k 0])) (Tame.ite (fun _ => Tame.same) (fun _ => Tame.put _ (by simp))) (fun st e h => by simp only [h] <;> rfl) (fun st st1 h => by simp only [h] <;> rfl)).weak (by omega)

theorem checkVariable_tame {m : Mdl} {ls : List Nat} {y : Beh} {N : Nat} (hy : behOk N y) (x : Nat) : Tame N 0 16 (checkVariableM m ls x y) := by
  unfold checkVariableM
  refine Tame.ite (fun h => ?_) (fun h0 => Tame.ite (fun h => ?_) (fun h1 => Tame.ite (fun h => ?_) (fun h2 => Tame.ite (fun h => ?_) (fun h3 => checkLocal_tame hy x))))
  · exact Tame.top (G := fun _ => fun st => .ok st) (fun _ => Tame.same) (fun e st h => by simp only [h] <;> rfl) (fun x st st1 h => by simp only [h] <;> rfl)
  · exact checkSelect_tame
  · exact Tame.ask (P := fun _ => True) (r := globalAtM m y.num) (G := fun g => fun st => .ok (putM st [g.kind])) (globalAtM_facts hy.1) (fun _ _ => trivial) (fun g _ => Tame.put _ (by simp)) (fun e st h => by simp only [h] <;> rfl) (fun t st h => by simp only [h] <;> rfl)
  · exact Tame.ask (P := fun _ => True) (r := globalAtM m y.num) (G := fun g => fun st => if g.set_ then takeM st [g.kind] else .error (4, st.at_)) (globalAtM_facts hy.1) (fun _ _ => trivial) (fun g _ => Tame.ite (fun _ => (Tame.take _).weak (by omega)) (fun _ => Tame.here (.inr rfl))) (fun e st h => by simp only [h] <;> rfl) (fun t st h => by simp only [h] <;> rfl)

theorem compute_tame {N : Nat} (puts : Nat) (takes : List Nat) : Tame N 0 16 (computeM puts takes) :=
  ((Tame.take takes).then (k' := 16) (Tame.put [puts] (by simp)) (fun st e h => by simp only [computeM, h] <;> rfl) (fun st st1 h => by simp only [computeM, h] <;> rfl)).weak (by omega)

theorem load_tame {N : Nat} (x k : Nat) (y : Beh) : Tame N 0 16 (loadM x k y) := by
  unfold loadM
  refine Tame.ite (fun _ => Tame.here (.inr rfl)) (fun _ => ?_)
  exact ((Tame.take [127]).then (k' := 16) (Tame.put [k] (by simp)) (fun st e h => by simp only [h] <;> rfl) (fun st st1 h => by simp only [h] <;> rfl)).weak (by omega)

theorem store_tame {N : Nat} (x k : Nat) (y : Beh) : Tame N 0 16 (storeM x k y) := by
  unfold storeM
  exact Tame.ite (fun _ => Tame.here (.inr rfl)) (fun _ => (Tame.take _).weak (by omega))

theorem checkMemory_tame {m : Mdl} {y : Beh} {N : Nat} (x : Nat) : Tame N 0 16 (checkMemoryM m x y) := by
  unfold checkMemoryM
  refine Tame.ite (fun _ => Tame.here (.inl rfl)) (fun _ => Tame.ite (fun _ => Tame.put _ (by simp)) (fun _ => Tame.ite (fun _ => ?_) (fun _ => Tame.ite (fun _ => load_tame _ _ _) (fun _ => Tame.ite (fun _ => load_tame _ _ _) (fun _ => Tame.ite (fun _ => store_tame _ _ _) (fun _ => Tame.ite (fun _ => store_tame _ _ _) (fun _ => Tame.same)))))))
  exact ((Tame.take [127]).then (k' := 16) (Tame.put [127] (by simp)) (fun st e h => by simp only [h] <;> rfl) (fun st st1 h => by simp only [h] <;> rfl)).weak (by omega)

theorem checkNumber_tame {N : Nat} (x : Nat) : Tame N 0 16 (checkNumberM x) := by
  unfold checkNumberM
  exact Tame.ite (fun _ => Tame.put _ (by simp)) (fun _ => Tame.ite (fun _ => Tame.put _ (by simp)) (fun _ => Tame.ite (fun _ => compute_tame _ _) (fun _ => Tame.ite (fun _ => compute_tame _ _) (fun _ => Tame.ite (fun _ => compute_tame _ _) (fun _ => Tame.ite (fun _ => compute_tame _ _) (fun _ => Tame.ite (fun _ => compute_tame _ _) (fun _ => Tame.ite (fun _ => compute_tame _ _) (fun _ => Tame.ite (fun _ => compute_tame _ _) (fun _ => Tame.ite (fun _ => compute_tame _ _) (fun _ => Tame.ite (fun _ => compute_tame _ _) (fun _ => compute_tame _ _)))))))))))

theorem check_tame {m : Mdl} {ls : List Nat} {y : Beh} {N : Nat} (hm : ModOk N m) (hy : behOk N y) (x : Nat) : Tame N (opens x) 16 (checkM m ls x y) := by
  unfold checkM
  refine Tame.ite (fun _ => checkBlock_tame hm hy x) (fun h => ?_)
  have : opens x = 0 := by unfold opens; rw [if_neg (by omega), if_neg (by omega)]
  rw [this]
  exact Tame.ite (fun _ => checkJump_tame hm hy x) (fun _ => Tame.ite (fun _ => checkVariable_tame hy x) (fun _ => Tame.ite (fun _ => checkMemory_tame x) (fun _ => checkNumber_tame x)))

/-- As many blocks are gone through as are open. -/
theorem turns_some {os os' : List Nat} {j x : Nat} (h : Turns os (some os') j x) : (os'.length : Int) = os.length + opens x := by
  rcases h with ⟨_, _, h⟩ | ⟨h1, os2, h2, h3⟩
  · cases h
  · cases h3
    unfold nestM at h2
    unfold opens
    split at h2
    · rename_i hx
      rw [if_pos (by simpa using hx)]
      split at h2 <;> cases h2
      simp
    · rename_i hx
      rw [if_neg (by simpa using hx)]
      split at h2
      · rename_i h5
        subst h5
        split at h2 <;> cases h2
        rename_i hl
        rw [if_neg (by omega)]
        cases os with
        | nil => simp at hl
        | cons o os => simp
      · split at h2
        · rename_i h11
          cases h2
          rw [if_pos h11]
          cases os with
          | nil => exact absurd ⟨h11, rfl⟩ h1
          | cons o os => simp; omega
        · rename_i h11
          cases h2
          rw [if_neg h11]
          simp

end Go.Proofs.YtgkpkngchploiaaGreat
/-
  A code that is gone through, in memory.
-/
namespace Go.Proofs.YtgkpkngchploiaaGreat
open Go.RowKit

/-- The cells of a block. -/
def elBlo (K : Nat → Prop) (x : Blo) (w : World) (cs : List Value) : Prop :=
  ∃ tv gv, cs = [.int .u8 (x.word : Nat), tv, gv, .int .i64 (x.floor : Nat), .bool x.cut] ∧ isKinds K x.takes w tv ∧ isKinds K x.gives w gv

theorem elBlo.kept {S K : Nat → Prop} {w w' : World} {x : Blo} {cs : List Value} (h : elBlo K x w cs) (hk : Kept S w w') (hs : ∀ g, g < w.heap.size → K g → ¬ S g) : elBlo K x w' cs := by
  obtain ⟨tv, gv, e, a, c⟩ := h
  exact ⟨tv, gv, e, Row.kept a hk hs, Row.kept c hk hs⟩

theorem elBlo.mono {K K' : Nat → Prop} {w : World} {x : Blo} {cs : List Value} (h : elBlo K x w cs) (hs : ∀ g, K g → K' g) : elBlo K' x w cs := by
  obtain ⟨tv, gv, e, a, c⟩ := h
  exact ⟨tv, gv, e, Row.mono a (fun g _ hg => hs g hg), Row.mono c (fun g _ hg => hs g hg)⟩

/-- A code that is gone through lies at block bb: its stack sv, its blocks bv. What it owns: the blocks of O; the lists of kinds that it only reads: those of K. -/
structure BodyV (K O : Nat → Prop) (w : World) (bb : Nat) (mp lv sv bv : Value) (st : Bd) : Prop where
  blk : Blk w bb [mp, lv, sv, bv, .int .i64 (st.at_ : Nat)]
  own : O bb
  stk : isKinds (fun g => O g ∧ g ≠ bb) st.stack w sv
  bls : isLst 125 5 (fun _ => elBlo K) (fun g => O g ∧ g ≠ bb) st.blocks.reverse w bv
  dis : ∀ k, O k → ¬ K k
  kb : ∀ k, K k → k < w.heap.size

def BodyAt (K O : Nat → Prop) (w : World) (bb : Nat) (mp lv : Value) (st : Bd) : Prop := ∃ sv bv, BodyV K O w bb mp lv sv bv st

section
variable {K O S : Nat → Prop} {w w' : World} {bb : Nat} {mp lv sv bv : Value} {st : Bd}

theorem BodyV.lt (h : BodyV K O w bb mp lv sv bv st) : bb < w.heap.size := h.blk.lt

theorem BodyV.kept (h : BodyV K O w bb mp lv sv bv st) (hk : Kept S w w') (hs : ∀ k, k < w.heap.size → S k → ¬ O k ∧ ¬ K k) : BodyV K O w' bb mp lv sv bv st :=
  ⟨h.blk.kept hk h.lt (fun c => (hs _ h.lt c).1 h.own), h.own, Row.kept h.stk hk (fun g hg ho c => (hs g hg c).1 ho.1), h.bls.kept hk (fun g hg ho c => (hs g hg c).1 ho.1) (fun _ _ e => e.kept hk (fun g hg ho c => (hs g hg c).2 ho)), h.dis, fun k hk0 => Nat.lt_of_lt_of_le (h.kb k hk0) hk.size⟩

theorem BodyV.drewN (h : BodyV K O w bb mp lv sv bv st) (k : Nat) : BodyV K O (w.drewN k) bb mp lv sv bv st :=
  h.kept (S := fun _ => False) ((Kept.refl _ _).drewN k) (fun _ _ c => c.elim)

theorem BodyV.drew (h : BodyV K O w bb mp lv sv bv st) : BodyV K O w.drew bb mp lv sv bv st :=
  h.kept (S := fun _ => False) ((Kept.refl _ _).drew) (fun _ _ c => c.elim)

theorem BodyV.alloc (h : BodyV K O w bb mp lv sv bv st) (o : Obj) : BodyV K O (w.alloc o) bb mp lv sv bv st :=
  h.kept (S := fun _ => False) ((Kept.refl _ _).alloc o) (fun _ _ c => c.elim)

/-- More is owned. -/
theorem BodyV.more {O' : Nat → Prop} (h : BodyV K O w bb mp lv sv bv st) (ho : ∀ k, O k → O' k) (hd : ∀ k, O' k → ¬ K k) : BodyV K O' w bb mp lv sv bv st :=
  ⟨h.blk, ho _ h.own, Row.mono h.stk (fun g _ hg => ⟨ho g hg.1, hg.2⟩), by
    obtain ⟨css, h1, h2⟩ := h.bls
    exact ⟨css, Row.mono h1 (fun g _ hg => ⟨ho g hg.1, hg.2⟩), h2⟩, hd, h.kb⟩

/-- The rest, behind a change of the body's own cells alone. -/
theorem BodyV.cells {sv' bv' : Value} {st' : Bd} (h : BodyV K O w bb mp lv sv bv st) (hk : Kept (only bb) w w') (hb : Blk w' bb [mp, lv, sv', bv', .int .i64 (st'.at_ : Nat)])
    (hs : isKinds (fun g => O g ∧ g ≠ bb) st'.stack w sv') (hl : isLst 125 5 (fun _ => elBlo K) (fun g => O g ∧ g ≠ bb) st'.blocks.reverse w bv') : BodyV K O w' bb mp lv sv' bv' st' :=
  ⟨hb, h.own, Row.kept hs hk (fun g _ ho (c : g = bb) => ho.2 c), hl.kept hk (fun g _ ho (c : g = bb) => ho.2 c) (fun _ _ e => e.kept hk (fun g _ hg (c : g = bb) => h.dis bb h.own (c ▸ hg))), h.dis, fun k hk0 => Nat.lt_of_lt_of_le (h.kb k hk0) hk.size⟩

end

/-- A list that is cut: its beginning. -/
theorem Row.cut {ok : Nat → Prop} {w : World} {E : TypeId} {size n k : Nat} {p : Option Addr} {c : Nat} {xs : List Value} (h : Row ok w E size (.slice p n c) n xs) (hk : k ≤ n) : Row ok w E size (.slice p k c) k (xs.take (k * size)) := by
  refine ⟨⟨?_, ?_⟩, fun g hg => h.at_ g (by cases p <;> simp_all [Value.ownBlock])⟩
  · have := h.own.1
    have h2 : k * size ≤ n * size := Nat.mul_le_mul_right _ hk
    simp; omega
  · rcases h.own.2 with ⟨hv, hn⟩ | ⟨g, cap, cur, hv, hb, hgg, hcap, hmax, hsz, htake⟩
    · cases hv
      have : k = 0 := by omega
      subst this
      exact .inl ⟨rfl, rfl⟩
    · cases hv
      refine .inr ⟨g, c, cur, rfl, hb, hgg, by omega, hmax, hsz, ?_⟩
      have h2 : k * size ≤ n * size := Nat.mul_le_mul_right _ hk
      rw [← htake, List.take_take, Nat.min_eq_left h2]

theorem isKinds.cut {ok : Nat → Prop} {w : World} {ks : List Nat} {p : Option Addr} {c : Nat} (k : Nat) (h : isKinds ok ks w (.slice p ks.length c)) (hk : k ≤ ks.length) : isKinds ok (ks.take k) w (.slice p k c) := by
  have q := Row.cut h hk
  unfold isKinds
  have e1 : (ks.take k).length = k := by simp; omega
  rw [e1]
  have e2 : kindCells (ks.take k) = (kindCells ks).take (k * 1) := by simp [kindCells]
  rw [e2]
  exact q

/-- A kind of a list in memory, by its place. -/
theorem isKinds.cell {ok : Nat → Prop} {w : World} {ks : List Nat} {v : Value} (h : isKinds ok ks w v) {i : Nat} (hi : i < ks.length) : ∃ g cap, v = .slice (some ⟨g, 0, none⟩) ks.length cap ∧ ok g ∧ g < w.heap.size ∧ ks.length ≤ cap ∧ w.cell? ⟨g, i, none⟩ = some (.int .u8 (ks.getD i 0 : Nat)) := by
  have hcells := fun g => h.own.cells (g := g)
  rcases h.own.2 with ⟨_, hn⟩ | ⟨g, cap, cur, rfl, hb, hgg, hcap, hmax, hsz, htake⟩
  · omega
  · refine ⟨g, cap, rfl, h.at_ g rfl, (Array.getElem?_eq_some_iff.1 hgg).1, hcap, ?_⟩
    have := hcells g rfl i (.int .u8 (ks.getD i 0 : Nat)) (by simp [kindCells, hi])
    have hadd : (⟨g, 0, none⟩ : Addr).add i = ⟨g, i, none⟩ := by unfold Addr.add; split <;> simp_all
    rwa [hadd] at this

theorem isKinds.len {ok : Nat → Prop} {w : World} {ks : List Nat} {v : Value} (h : isKinds ok ks w v) : ks.length ≤ maxLen := by
  rcases h.own.2 with ⟨_, hn⟩ | ⟨g, cap, cur, rfl, hb, hgg, hcap, hmax, hsz, htake⟩
  · omega
  · omega

/-- The blocks: the k-th from within. -/
theorem blocks_cell {K ok : Nat → Prop} {w : World} {bs : List Blo} {v : Value} (h : isLst 125 5 (fun _ => elBlo K) ok bs.reverse w v) {k : Nat} (hk : k < bs.length) :
    ∃ g cap tv gv, v = .slice (some ⟨g, 0, none⟩) bs.length cap ∧ ok g ∧ g < w.heap.size ∧ bs.length ≤ cap ∧ isKinds K bs[k].takes w tv ∧ isKinds K bs[k].gives w gv ∧
      w.cell? ⟨g, (bs.length - 1 - k) * 5, none⟩ = some (.int .u8 (bs[k].word : Nat)) ∧ w.cell? ⟨g, (bs.length - 1 - k) * 5 + 1, none⟩ = some tv ∧ w.cell? ⟨g, (bs.length - 1 - k) * 5 + 2, none⟩ = some gv ∧
      w.cell? ⟨g, (bs.length - 1 - k) * 5 + 3, none⟩ = some (.int .i64 (bs[k].floor : Nat)) ∧ w.cell? ⟨g, (bs.length - 1 - k) * 5 + 4, none⟩ = some (.bool bs[k].cut) := by
  obtain ⟨css, hrow, hea⟩ := h
  have hcells := fun g => hrow.own.cells (g := g)
  have hlen : bs.reverse.length = bs.length := by simp
  have hget : bs.reverse[bs.length - 1 - k]? = some bs[k] := by
    rw [List.getElem?_reverse (by omega)]
    rw [show bs.length - 1 - (bs.length - 1 - k) = k by omega]
    exact List.getElem?_eq_getElem hk
  obtain ⟨cs, hcs, ⟨tv, gv, rfl, ht, hg⟩, -⟩ := hea.get hget
  rcases hrow.own.2 with ⟨_, hn⟩ | ⟨g, cap, cur, hv, hb, hgg, hcap, hmax, hsz, htake⟩
  · omega
  · have hadd : ∀ i, (⟨g, 0, none⟩ : Addr).add i = ⟨g, i, none⟩ := by intro i; unfold Addr.add; split <;> simp_all
    have key : ∀ o u, o < 5 → ([Value.int .u8 (bs[k].word : Nat), tv, gv, .int .i64 (bs[k].floor : Nat), .bool bs[k].cut] : List Value)[o]? = some u → w.cell? ⟨g, (bs.length - 1 - k) * 5 + o, none⟩ = some u := by
      intro o u ho hu
      have := hcells g (by rw [hv]; rfl) ((bs.length - 1 - k) * 5 + o) u ((Each.flat hea hcs ho).trans hu)
      rwa [hadd] at this
    refine ⟨g, cap, tv, gv, by rw [hv, hlen], hrow.at_ g (by rw [hv]; rfl), (Array.getElem?_eq_some_iff.1 hgg).1, by omega, ht, hg, ?_, key 1 _ (by omega) rfl, key 2 _ (by omega) rfl, key 3 _ (by omega) rfl, key 4 _ (by omega) rfl⟩
    exact key 0 _ (by omega) rfl

end Go.Proofs.YtgkpkngchploiaaGreat
/-
  The document's first example fits; a byte that begins no section behind the head does not.
-/
namespace Go.Proofs.YtgkpkngchploiaaGreat
open Go.RowKit

def exBytes : ByteArray := ⟨#[0, 97, 115, 109, 1, 0, 0, 0, 1, 6, 1, 96, 1, 127, 1, 127, 3, 2, 1, 0, 7, 6, 1, 2, 105, 100, 0, 0, 10, 6, 1, 4, 0, 32, 0, 11, 0, 20, 4, 110, 97, 109, 101, 1, 5, 1, 0, 2, 105, 100, 2, 6, 1, 0, 1, 0, 1, 120]⟩

def exOther : ByteArray := ⟨#[0, 97, 115, 109, 1, 0, 0, 0, 2]⟩

/-- Read, and does it fit? -/
def checkAll (s : ByteArray) : Except Err Unit := match readM s with
  | .error e => .error e
  | .ok (m, _) => fitM s m

def answer (r : Except Err Unit) : Nat × Nat := match r with
  | .error e => e
  | .ok _ => (0, 0)

theorem ex_fits : answer (checkAll exBytes) = (0, 0) := by decide +kernel

theorem ex_other : answer (checkAll exOther) = (2, 8) := by decide +kernel

end Go.Proofs.YtgkpkngchploiaaGreat
/-
  Where the errors of fitting lie.
-/
namespace Go.Proofs.YtgkpkngchploiaaGreat
open Go.RowKit

/-- An error of the check, among the bytes. -/
def Told (N q p : Nat) : Prop := 2 ≤ q ∧ q ≤ 6 ∧ p ≤ N

theorem insFit_err {m : Mdl} {ls : List Nat} {s : ByteArray} {n N : Nat} (hm : ModOk N m) (hn : n ≤ N) : ∀ (fuel : Nat) (os : List Nat) (j : Nat) (st : Bd) {q p : Nat}, j ≤ n → Tidy st → st.blocks.length = os.length + 1 → insFit m ls s n fuel os j st = .error (q, p) → Told N q p := by
  intro fuel
  induction fuel with
  | zero => intro os j st q p hj ht hb h; simp [insFit] at h; obtain ⟨rfl, rfl⟩ := h; exact ⟨by omega, by omega, hn⟩
  | succ fuel ih =>
    intro os j st q p hj ht hb h
    unfold insFit at h
    by_cases hjn : j < n
    · rw [byteM_more hjn] at h
      simp only at h
      have tame : ∀ y e, behM j (bt s j) s n (j + 1) = .ok (y, e) → behOk N y ∧ e ≤ n := by
        intro y e hb
        have := (beh_fine j (bt s j)).ok (by omega) (by omega) hb
        obtain ⟨-, h2, h3, h4, h5, h6, h7⟩ := this
        exact ⟨⟨h3.le hn, h4, fun x hx => (h5 x hx).le hn, h6, h7⟩, h2⟩
      have hst : Tidy { st with at_ := j } := ⟨ht.floors, ht.short⟩
      have hne : ({ st with at_ := j } : Bd).blocks ≠ [] := by
        intro c
        have : st.blocks.length = 0 := by simp at c; simp [c]
        omega
      by_cases hl : bt s j = 11 ∧ os = []
      · rw [if_pos hl] at h
        simp only at h
        split at h
        · rename_i hbe; cases h
          have := (beh_fine j (bt s j)).err (by omega) (by omega) hbe
          exact ⟨by omega, by omega, by omega⟩
        · rename_i y e hbe
          obtain ⟨hy, he⟩ := tame _ _ hbe
          split at h
          · rename_i hc; cases h
            have := (check_tame (ls := ls) hm hy (bt s j) _ hst hne (by simp; omega)).1 _ _ hc
            exact ⟨by omega, by omega, this.2⟩
          · rw [if_pos hl] at h; cases h
      · rw [if_neg hl] at h
        cases hnm : nestM os j (bt s j) with
        | error e => obtain ⟨q', p'⟩ := e; rw [hnm] at h; cases h; have := nestM_err hnm; exact ⟨by omega, by omega, by omega⟩
        | ok os' =>
          rw [hnm] at h
          simp only at h
          split at h
          · rename_i hbe; cases h
            have := (beh_fine j (bt s j)).err (by omega) (by omega) hbe
            exact ⟨by omega, by omega, by omega⟩
          · rename_i y e hbe
            obtain ⟨hy, he⟩ := tame _ _ hbe
            split at h
            · rename_i hc; cases h
              have := (check_tame (ls := ls) hm hy (bt s j) _ hst hne (by simp; omega)).1 _ _ hc
              exact ⟨by omega, by omega, this.2⟩
            · rename_i st' hc
              rw [if_neg hl] at h
              obtain ⟨t2, -, -, b2⟩ := (check_tame (ls := ls) hm hy (bt s j) _ hst hne (by simp; omega)).2 _ hc
              have := turns_some (.inr ⟨hl, os', hnm, rfl⟩)
              refine ih os' e st' he t2 ?_ h
              simp at b2
              omega
    · rw [byteM_end hjn] at h; cases h; exact ⟨by omega, by omega, hn⟩

theorem eachM_err {α : Type} {f : α → Except Err Unit} {R : Nat → Nat → Prop} : ∀ {xs : List α} {q p : Nat}, (∀ x ∈ xs, ∀ q p, f x = .error (q, p) → R q p) → eachM f xs = .error (q, p) → R q p
  | [], q, p, _, h => by simp [eachM] at h
  | x :: xs, q, p, h1, h => by
    unfold eachM at h
    split at h
    · rename_i ho; cases h; exact h1 x (by simp) _ _ ho
    · exact eachM_err (fun y hy => h1 y (by simp [hy])) h

theorem thenM_err {a b : Except Err Unit} {R : Nat → Nat → Prop} {q p : Nat} (h1 : ∀ q p, a = .error (q, p) → R q p) (h2 : ∀ q p, b = .error (q, p) → R q p) (h : thenM a b = .error (q, p)) : R q p := by
  unfold thenM at h
  split at h
  · cases h; exact h1 _ _ rfl
  · exact h2 _ _ h

theorem thereU_err {many q p N : Nat} {x : Int × Nat} (hx : numOk N x) (h : thereU many x = .error (q, p)) : Told N q p := by
  unfold thereU at h
  split at h <;> cases h
  exact ⟨by omega, by omega, hx.2.2⟩

theorem cstFit_err {k q p N : Nat} {c : Cst} (hx : c.at_ ≤ N) (h : cstFit k c = .error (q, p)) : Told N q p := by
  unfold cstFit at h
  split at h <;> cases h
  exact ⟨by omega, by omega, hx⟩

theorem codeFit_err {s : ByteArray} {m : Mdl} {f q p N : Nat} (hm : ModOk N m) (hf : f < m.codes.length) (h : codeFit s m f = .error (q, p)) : Told N q p := by
  have hc := hm.codes.2 _ (show m.codes.getD f ([], 0, 0) ∈ m.codes by simp [hf])
  unfold codeFit at h
  have ht : Tidy ⟨[], [⟨2, [], (typeOfM m f).outs, 0, false⟩], 0⟩ := by
    refine ⟨⟨Nat.le_refl _, trivial⟩, ?_⟩
    intro b hb
    simp at hb
    subst hb
    exact ⟨by simp, (typeOfM_facts hm f).2⟩
  exact insFit_err hm hc.2.2 _ _ _ _ hc.2.1 ht (by simp) h

theorem fitM_err {s : ByteArray} {m : Mdl} {q p N : Nat} (hm : ModOk N m) (h : fitM s m = .error (q, p)) : Told N q p := by
  unfold fitM at h
  refine thenM_err (fun q p => eachM_err (fun x hx _ _ h => thereU_err (hm.funcs.2 x hx) h)) (fun q p => thenM_err (fun q p => eachM_err (fun x hx q p h => ?_)) (fun q p => thenM_err (fun q p => eachM_err (fun x hx q p h => ?_)) (fun q p => thenM_err (fun q p => eachM_err (fun x hx q p h => cstFit_err (hm.globals.2 x hx) h))
    (fun q p => thenM_err (fun q p => eachM_err (fun x hx q p h => ?_)) (fun q p => thenM_err (fun q p => eachM_err (fun x hx q p h => ?_)) (fun q p => thenM_err (fun q p => eachM_err (fun x hx q p h => ?_)) (fun q p => thenM_err (fun q p => eachM_err (fun x hx q p h => codeFit_err hm (by simpa using hx) h)) (fun q p => eachM_err (fun x hx q p h => ?_))))))))) h
  · have := hm.tables.2 x hx
    unfold limFit at h
    split at h <;> cases h
    exact ⟨by omega, by omega, this⟩
  · have := hm.mems.2 x hx
    unfold limFit at h
    split at h <;> cases h
    exact ⟨by omega, by omega, this⟩
  · unfold exportFit at h
    split at h
    · cases h
    · rename_i e he
      have := hm.exports.2 e (List.mem_of_getElem? he)
      split at h
      · cases h; exact ⟨by omega, by omega, this.1⟩
      · exact thereU_err this.2.1 h
  · have := hm.starts.2 x hx
    unfold startFit at h
    split at h
    · rename_i ho; cases h; have h1 := thereM_err this ho; exact ⟨by omega, by omega, h1.2⟩
    · split at h <;> cases h
      exact ⟨by omega, by omega, this.2.2⟩
  · have := hm.elems.2 x hx
    unfold elemFit at h
    split at h
    · cases h; exact ⟨by omega, by omega, this.1⟩
    · split at h
      · rename_i ho; cases h; exact cstFit_err this.2.1 ho
      · exact eachM_err (fun y hy _ _ h => thereU_err (this.2.2.2 y hy) h) h
  · have := hm.data.2 x hx
    unfold dataFit at h
    split at h
    · cases h; exact ⟨by omega, by omega, this.1⟩
    · exact cstFit_err this.2 h

end Go.Proofs.YtgkpkngchploiaaGreat
/-
  Whether a module fits: how a check ends; there; one after the other.
-/
namespace Go.Proofs.YtgkpkngchploiaaGreat
open Go.RowKit

/-- It answers as r does, or gives up so; nothing but the blocks of S has turned. -/
structure Says {α : Type} (S : Nat → Prop) (w : World) (r : Except Err α) (V : α → World → Value → Prop) (e : Ending) (w' : World) : Prop where
  kept : Kept S w w'
  ok : ∀ x, r = .ok x → ∃ v, e = .returned v ∧ V x w' v
  err : ∀ q p, r = .error (q, p) → e = gaveUp q p

/-- It answers nothing. -/
def isNothing (_ : Unit) (_ : World) (v : Value) : Prop := v = .tuple #[]

abbrev Looks (w : World) (r : Except Err Unit) (e : Ending) (w' : World) : Prop := Says (fun _ => False) w r isNothing e w'

section
variable {α : Type} {S : Nat → Prop} {w w' : World} {r : Except Err α} {V : α → World → Value → Prop}

theorem Says.ok_mk {x : α} {v : Value} (hr : r = .ok x) (hk : Kept S w w') (hv : V x w' v) : Says S w r V (.returned v) w' :=
  ⟨hk, fun x' h => by rw [hr] at h; cases h; exact ⟨v, rfl, hv⟩, fun q p h => by rw [hr] at h; cases h⟩

theorem Says.err_mk {q p : Nat} (hr : r = .error (q, p)) (hk : Kept S w w') : Says S w r V (gaveUp q p) w' :=
  ⟨hk, fun x' h => by (rw [hr] at h; cases h), fun q' p' h => by rw [hr] at h; cases h; rfl⟩
end

set_option maxHeartbeats 400000 in
theorem there_any (v : Int) (a many : Nat) (w : World) (h0 : 0 ≤ v) (h1 : v ≤ 4294967295) :
    Calls Tryz.prog 19 #[.agg #[.int .u32 v, .int .i64 (a : Nat)], .int .i64 (many : Nat)] w (Says (fun _ => False) w (thereM (v, a) many) fun k _ u => u = .int .i64 v ∧ v = (k : Int) ∧ k < many) := by
  by_cases hlt : v < (many : Int)
  · go_enter Tryz.func19, Tryz.ntmps19
    go_wp2
    go_ret
    exact Says.ok_mk (x := v.toNat) (by simp [thereM, hlt]) ((Kept.refl _ _).alloc _) ⟨rfl, by omega, by omega⟩
  · have hge : (many : Int) ≤ v := by omega
    go_enter Tryz.func19, Tryz.ntmps19
    go_wp2_with fail
    refine (giveUp_any _ _ _).mono ?_
    rintro e w3 ⟨rfl, rfl⟩
    exact ⟨rfl, Says.err_mk (by simp [thereM, hlt]) ((Kept.refl _ _).alloc _)⟩

theorem thereU_of {x : Int × Nat} {many : Nat} : (∀ k, thereM x many = .ok k → thereU many x = .ok ()) ∧ ∀ e, thereM x many = .error e → thereU many x = .error e := by
  unfold thereM thereU
  split
  · exact ⟨fun _ _ => rfl, fun _ h => by cases h⟩
  · exact ⟨fun _ h => (by cases h), fun _ h => by cases h; rfl⟩

section
variable {α : Type} {f : α → Except Err Unit} {xs : List α} {k : Nat}

theorem eachM_ok (hk : k < xs.length) (h : f xs[k] = .ok ()) : eachM f (xs.drop k) = eachM f (xs.drop (k + 1)) := by
  rw [List.drop_eq_getElem_cons hk]
  simp [eachM, h]

theorem eachM_bad {e : Err} (hk : k < xs.length) (h : f xs[k] = .error e) : eachM f (xs.drop k) = .error e := by
  rw [List.drop_eq_getElem_cons hk]
  simp [eachM, h]

theorem eachM_done (hk : ¬ k < xs.length) : eachM f (xs.drop k) = .ok () := by
  rw [List.drop_eq_nil_of_le (by omega)]
  rfl
end

end Go.Proofs.YtgkpkngchploiaaGreat
