/-
  Part 13 of the proof: Pl1, Pl2, Pl3.
-/
import Derived.Test.YtgkpkngchploiaaGreatPart12
/-
  Readers in plain words: where their errors lie, that they go on and not beyond the end, what they tell, and that they look at nothing behind the end.
-/
namespace Go.Proofs.YtgkpkngchploiaaGreat
open Go.RowKit

/-- Alike up to place n. -/
structure Alike (n : Nat) (s s' : ByteArray) : Prop where
  l : n ≤ s.size
  r : n ≤ s'.size
  b : ∀ k, k < n → bt s k = bt s' k

theorem Alike.less {n m : Nat} {s s' : ByteArray} (h : Alike n s s') (hm : m ≤ n) : Alike m s s' := ⟨Nat.le_trans hm h.l, Nat.le_trans hm h.r, fun k hk => h.b k (Nat.lt_of_lt_of_le hk hm)⟩

/-- Where H holds of the end: errors are 2 and lie no further than the end; it goes on, not beyond, and tells what Pr says; it sees the bytes ahead of the end alone. -/
structure Fine {α : Type} (H : Nat → Prop) (Pr : Nat → α → Prop) (f : ByteArray → Nat → Nat → Except Err (α × Nat)) : Prop where
  err : ∀ {s n i q p}, H n → i ≤ n → f s n i = .error (q, p) → q = 2 ∧ p ≤ n
  ok : ∀ {s n i x j}, H n → i ≤ n → f s n i = .ok (x, j) → i ≤ j ∧ j ≤ n ∧ Pr n x
  cong : ∀ {s s' n i}, H n → Alike n s s' → i ≤ n → f s n i = f s' n i

section
variable {α β : Type} {H H' : Nat → Prop} {P : Nat → α → Prop} {Q : Nat → β → Prop}

theorem Fine.bind {f : ByteArray → Nat → Nat → Except Err (α × Nat)} {g : Nat → α → ByteArray → Nat → Nat → Except Err (β × Nat)} {F : ByteArray → Nat → Nat → Except Err (β × Nat)} (hf : Fine H P f) (hg : ∀ i x, Fine (fun n => H n ∧ i ≤ n ∧ P n x) Q (g i x))
    (he : ∀ s n i e, f s n i = .error e → F s n i = .error e) (hk : ∀ s n i x j, f s n i = .ok (x, j) → F s n i = g i x s n j) : Fine H Q F := by
  refine ⟨?_, ?_, ?_⟩
  · intro s n i q p hH hi h
    cases ho : f s n i with
    | error e => obtain ⟨q', p'⟩ := e; rw [he _ _ _ _ ho] at h; cases h; exact hf.err hH hi ho
    | ok xj =>
      obtain ⟨x, j⟩ := xj
      rw [hk _ _ _ _ _ ho] at h
      obtain ⟨h1, h2, h3⟩ := hf.ok hH hi ho
      exact (hg i x).err ⟨hH, hi, h3⟩ h2 h
  · intro s n i y k hH hi h
    cases ho : f s n i with
    | error e => rw [he _ _ _ _ ho] at h; cases h
    | ok xj =>
      obtain ⟨x, j⟩ := xj
      rw [hk _ _ _ _ _ ho] at h
      obtain ⟨h1, h2, h3⟩ := hf.ok hH hi ho
      obtain ⟨h4, h5, h6⟩ := (hg i x).ok ⟨hH, hi, h3⟩ h2 h
      exact ⟨by omega, h5, h6⟩
  · intro s s' n i hH ha hi
    have hc := hf.cong hH ha hi
    cases ho : f s n i with
    | error e => rw [he _ _ _ _ ho, he _ _ _ _ (hc.symm.trans ho)]
    | ok xj =>
      obtain ⟨x, j⟩ := xj
      obtain ⟨h1, h2, h3⟩ := hf.ok hH hi ho
      rw [hk _ _ _ _ _ ho, hk _ _ _ _ _ (hc.symm.trans ho)]
      exact (hg i x).cong ⟨hH, hi, h3⟩ ha h2

theorem Fine.pure {y : α} (h : ∀ n, H n → P n y) : Fine H P (fun _ _ j => .ok (y, j)) :=
  ⟨fun _ _ h => (by cases h), fun hH hi h' => (by cases h'; exact ⟨Nat.le_refl _, hi, h _ hH⟩), fun _ _ _ => rfl⟩

theorem Fine.fail {p : Nat} (h : ∀ n, H n → p ≤ n) : Fine H P (fun _ _ _ => .error (2, p)) :=
  ⟨fun hH _ h' => (by cases h'; exact ⟨rfl, h _ hH⟩), fun _ _ h => (by cases h), fun _ _ _ => rfl⟩

theorem Fine.ite {c : Prop} [Decidable c] {f g : ByteArray → Nat → Nat → Except Err (α × Nat)} (hf : c → Fine H P f) (hg : ¬ c → Fine H P g) : Fine H P (fun s n i => if c then f s n i else g s n i) := by
  by_cases h : c
  · simp only [if_pos h]; exact hf h
  · simp only [if_neg h]; exact hg h

theorem Fine.weak {f : ByteArray → Nat → Nat → Except Err (α × Nat)} {P' : Nat → α → Prop} (hf : Fine H P f) (hh : ∀ n, H' n → H n) (hp : ∀ n x, H' n → P n x → P' n x) : Fine H' P' f :=
  ⟨fun hH hi h => hf.err (hh _ hH) hi h, fun hH hi h => ⟨(hf.ok (hh _ hH) hi h).1, (hf.ok (hh _ hH) hi h).2.1, hp _ _ hH (hf.ok (hh _ hH) hi h).2.2⟩, fun hH ha hi => hf.cong (hh _ hH) ha hi⟩

theorem Fine.to {f : ByteArray → Nat → Nat → Except Err (α × Nat)} (hf : Fine (fun _ => True) P f) : Fine H P f := hf.weak (fun _ _ => trivial) (fun _ _ _ h => h)
end

abbrev Any : Nat → Prop := fun _ => True

theorem byte_fine : Fine Any (fun _ x => x < 256) byteM := by
  refine ⟨?_, ?_, ?_⟩
  · intro s n i q p _ hi h
    unfold byteM at h; split at h <;> cases h; exact ⟨rfl, Nat.le_refl _⟩
  · intro s n i x j _ hi h
    unfold byteM at h; split at h <;> cases h; exact ⟨by omega, by omega, bt_lt _ _⟩
  · intro s s' n i _ ha hi
    unfold byteM
    split
    · rw [ha.b i (by assumption)]
    · rfl

theorem one_fine (ts : List Nat) : Fine Any (fun _ x => x ∈ ts) (oneM ts) := by
  refine ⟨?_, ?_, ?_⟩
  · intro s n i q p _ hi h
    unfold oneM at h; split at h
    · split at h <;> cases h; exact ⟨rfl, hi⟩
    · cases h; exact ⟨rfl, Nat.le_refl _⟩
  · intro s n i x j _ hi h
    have := oneM_facts h
    exact ⟨by omega, by omega, this.1⟩
  · intro s s' n i _ ha hi
    unfold oneM
    split
    · rw [ha.b i (by assumption)]
    · rfl

theorem exactly_fine : ∀ ts : List Nat, Fine Any (fun _ _ => True) (exactlyM ts)
  | [] => Fine.weak (P := fun _ _ => True) (H := Any) (Fine.pure (fun _ _ => trivial)) (fun _ h => h) (fun _ _ _ h => h)
  | t :: ts => (one_fine [t]).bind (g := fun _ _ => exactlyM ts) (fun _ _ => (exactly_fine ts).to) (fun s n i e h => by simp [exactlyM, h]) (fun s n i x j h => by simp [exactlyM, h])

theorem uGo_fine {s : ByteArray} {n start : Nat} : ∀ (m k : Nat) (z : Int) (j : Nat) {q p : Nat}, start ≤ n → j ≤ n → uGo s n start m k z j = .error (q, p) → q = 2 ∧ p ≤ n := by
  intro m
  induction m with
  | zero => intro k z j q p hs hj h; simp [uGo] at h; obtain ⟨rfl, rfl⟩ := h; exact ⟨rfl, hj⟩
  | succ m ih =>
    intro k z j q p hs hj h
    unfold uGo at h
    by_cases hjn : j < n
    · rw [byteM_more hjn] at h
      simp only at h
      split at h
      · cases h; exact ⟨rfl, hj⟩
      · split at h
        · cases h
        · exact ih _ _ _ hs (by omega) h
    · rw [byteM_end hjn] at h; cases h; exact ⟨rfl, Nat.le_refl _⟩

theorem uGo_cong {s s' : ByteArray} {n start : Nat} (ha : Alike n s s') : ∀ (m k : Nat) (z : Int) (j : Nat), j ≤ n → uGo s n start m k z j = uGo s' n start m k z j := by
  intro m
  induction m with
  | zero => intro k z j hj; rfl
  | succ m ih =>
    intro k z j hj
    unfold uGo
    rw [byte_fine.cong trivial ha hj]
    by_cases hjn : j < n
    · rw [byteM_more hjn]
      simp only
      rw [ih _ _ _ (by omega)]
    · rw [byteM_end hjn]

/-- What a number that was read is. -/
def numOk (n : Nat) (x : Int × Nat) : Prop := 0 ≤ x.1 ∧ x.1 ≤ 4294967295 ∧ x.2 ≤ n

theorem u_fine : Fine Any numOk uM :=
  ⟨fun _ hi h => uGo_fine _ _ _ _ hi hi h, fun {s n i x j} _ hi h => by obtain ⟨v, a⟩ := x; have := uM_facts h; exact ⟨by omega, by omega, this.1, this.2.1, by simp; omega⟩, fun _ ha hi => uGo_cong ha _ _ _ _ hi⟩

theorem sGo_fine {K room : Nat} {s : ByteArray} {n : Nat} : ∀ (m k : Nat) (z : Int) (j : Nat) {q p : Nat}, j ≤ n → sGo K room s n m k z j = .error (q, p) → q = 2 ∧ p ≤ n := by
  intro m
  induction m with
  | zero => intro k z j q p hj h; simp [sGo] at h; obtain ⟨rfl, rfl⟩ := h; exact ⟨rfl, hj⟩
  | succ m ih =>
    intro k z j q p hj h
    unfold sGo at h
    by_cases hjn : j < n
    · rw [byteM_more hjn] at h
      simp only at h
      split at h
      · cases h; exact ⟨rfl, hj⟩
      · split at h
        · cases h
        · exact ih _ _ _ (by omega) h
    · rw [byteM_end hjn] at h; cases h; exact ⟨rfl, Nat.le_refl _⟩

theorem sGo_cong {K room : Nat} {s s' : ByteArray} {n : Nat} (ha : Alike n s s') : ∀ (m k : Nat) (z : Int) (j : Nat), j ≤ n → sGo K room s n m k z j = sGo K room s' n m k z j := by
  intro m
  induction m with
  | zero => intro k z j hj; rfl
  | succ m ih =>
    intro k z j hj
    unfold sGo
    rw [byte_fine.cong trivial ha hj]
    by_cases hjn : j < n
    · rw [byteM_more hjn]
      simp only
      rw [ih _ _ _ (by omega)]
    · rw [byteM_end hjn]

theorem s_fine (K room : Nat) : Fine Any (fun _ _ => True) (sM K room) :=
  ⟨fun _ hi h => sGo_fine _ _ _ _ hi h, fun _ hi h => by have := sM_facts h; exact ⟨by omega, by omega, trivial⟩, fun _ ha hi => sGo_cong ha _ _ _ _ hi⟩

theorem count_fine (most : Nat) : Fine Any (fun _ k => k ≤ most) (countM most) :=
  u_fine.bind (g := fun _ x => fun _ _ j => if (most : Int) < x.1 then .error (2, x.2) else .ok (x.1.toNat, j)) (fun i x => Fine.ite (fun _ => Fine.fail (fun n h => h.2.2.2.2)) (fun h => Fine.pure (fun n _ => by omega)))
    (fun s n i e h => by simp [countM, h]) (fun s n i x j h => by simp [countM, h])

theorem bytes_same {s s' : ByteArray} {n i k : Nat} (ha : Alike n s s') (hk : i + k ≤ n) : s.extract i (i + k) = s'.extract i (i + k) := by
  have e1 := ha.l
  have e2 := ha.r
  apply ByteArray.ext
  apply Array.ext
  · simp [ByteArray.data_extract]
    have h1 : s.data.size = s.size := rfl
    have h2 : s'.data.size = s'.size := rfl
    omega
  · intro j h1 h2
    simp only [ByteArray.data_extract] at h1 h2 ⊢
    simp only [Array.getElem_extract]
    simp at h1
    have h3 : s.data.size = s.size := rfl
    have h4 := ha.b (i + j) (by omega)
    rw [bt_eq (by omega), bt_eq (by omega)] at h4
    exact UInt8.toNat_inj.1 h4

theorem text_fine (k : Nat) : Fine Any (fun _ t => t.size ≤ k) (textM k) := by
  refine ⟨?_, ?_, ?_⟩
  · intro s n i q p _ hi h
    unfold textM at h; split at h <;> cases h; exact ⟨rfl, Nat.le_refl _⟩
  · intro s n i x j _ hi h
    unfold textM at h; split at h <;> cases h
    refine ⟨by omega, by omega, ?_⟩
    simp; omega
  · intro s s' n i _ ha hi
    unfold textM
    split
    · rfl
    · rw [bytes_same ha (by omega)]

theorem listGo_fine {α : Type} {H : Nat → Prop} {P : Nat → α → Prop} {tM : ByteArray → Nat → Nat → Except Err (α × Nat)} (ht : Fine H P tM) : ∀ (k : Nat) (acc : List α), Fine (fun n => H n ∧ ∀ x ∈ acc, P n x) (fun n xs => xs.length = acc.length + k ∧ ∀ x ∈ xs, P n x) (fun s n j => listGo tM s n k acc j)
  | 0, acc => Fine.pure (fun n h => ⟨by simp, h.2⟩)
  | k + 1, acc => (ht.weak (H' := fun n => H n ∧ ∀ x ∈ acc, P n x) (fun _ h => h.1) (fun _ _ _ h => h)).bind (g := fun _ x => fun s n j => listGo tM s n k (acc ++ [x]) j)
      (fun i x => (listGo_fine ht k (acc ++ [x])).weak (fun n h => ⟨h.1.1, fun y hy => by rcases List.mem_append.1 hy with h1 | h1; exact h.1.2 y h1; simp at h1; subst h1; exact h.2.2⟩) (fun n xs _ h => ⟨by have := h.1; simp at this; omega, h.2⟩))
      (fun s n i e h => by simp [listGo, h]) (fun s n i x j h => by simp [listGo, h])

theorem list_fine {α : Type} {H : Nat → Prop} {P : Nat → α → Prop} {tM : ByteArray → Nat → Nat → Except Err (α × Nat)} (most : Nat) (ht : Fine H P tM) : Fine H (fun n xs => xs.length ≤ most ∧ ∀ x ∈ xs, P n x) (listM most tM) :=
  (count_fine most).to.bind (g := fun _ k => fun s n j => listGo tM s n k [] j) (fun i k => (listGo_fine ht k []).weak (fun n h => ⟨h.1, by simp⟩) (fun n xs h hh => ⟨by have := hh.1; have := h.2.2; simp at *; omega, hh.2⟩))
    (fun s n i e h => by simp [listM, h]) (fun s n i x j h => by simp [listM, h])

theorem within_fine {α : Type} {P : Nat → α → Prop} {tM : ByteArray → Nat → Nat → Except Err (α × Nat)} (ht : Fine Any P tM) (hm : ∀ n n' x, n' ≤ n → P n' x → P n x) : Fine Any P (withinM tM) := by
  refine ⟨?_, ?_, ?_⟩
  · intro s n i q p _ hi h
    cases ho : uM s n i with
    | error e => obtain ⟨q', p'⟩ := e; unfold withinM at h; rw [ho] at h; cases h; exact u_fine.err trivial hi ho
    | ok x =>
      obtain ⟨⟨v, a⟩, j⟩ := x
      have hf := uM_facts ho
      unfold withinM at h
      rw [ho] at h
      simp only at h
      split at h
      · cases h2 : tM s n j with
        | error e => obtain ⟨q', p'⟩ := e; rw [h2] at h; cases h; exact ht.err trivial (by omega) h2
        | ok y => obtain ⟨y, k⟩ := y; rw [h2] at h; cases h; exact ⟨rfl, (ht.ok trivial (by omega) h2).2.1⟩
      · cases h2 : tM s (j + v.toNat) j with
        | error e => obtain ⟨q', p'⟩ := e; rw [h2] at h; cases h; have := ht.err trivial (by omega) h2; exact ⟨this.1, by omega⟩
        | ok y =>
          obtain ⟨y, k⟩ := y
          rw [h2] at h
          have := ht.ok trivial (by omega) h2
          simp only at h
          split at h <;> cases h
          exact ⟨rfl, by omega⟩
  · intro s n i y k _ hi h
    cases ho : uM s n i with
    | error e => unfold withinM at h; rw [ho] at h; cases h
    | ok x =>
      obtain ⟨⟨v, a⟩, j⟩ := x
      have hf := uM_facts ho
      unfold withinM at h
      rw [ho] at h
      simp only at h
      split at h
      · cases h2 : tM s n j with
        | error e => rw [h2] at h; cases h
        | ok y => obtain ⟨y, k⟩ := y; rw [h2] at h; cases h
      · cases h2 : tM s (j + v.toNat) j with
        | error e => rw [h2] at h; cases h
        | ok z =>
          obtain ⟨z, k'⟩ := z
          rw [h2] at h
          have := ht.ok trivial (by omega) h2
          simp only at h
          split at h <;> cases h
          exact ⟨by omega, by omega, hm _ _ _ (by omega) this.2.2⟩
  · intro s s' n i _ ha hi
    unfold withinM
    rw [← u_fine.cong trivial ha hi]
    cases ho : uM s n i with
    | error e => rfl
    | ok x =>
      obtain ⟨⟨v, a⟩, j⟩ := x
      have hf := uM_facts ho
      simp only
      split
      · rw [ht.cong trivial ha (by omega)]
      · rw [ht.cong trivial (ha.less (by omega)) (by omega)]

end Go.Proofs.YtgkpkngchploiaaGreat
/-
  Each part of a module, so read.
-/
namespace Go.Proofs.YtgkpkngchploiaaGreat
open Go.RowKit

def cstOk (n : Nat) (c : Cst) : Prop := c.at_ ≤ n
def limOk (n : Nat) (x : Lim) : Prop := x.at_ ≤ n
def glbOk (n : Nat) (x : Glb) : Prop := x.first.at_ ≤ n
def expOk (n : Nat) (x : Exp) : Prop := x.nameAt ≤ n ∧ numOk n x.idx ∧ x.of_ ≤ 3
def tyOk (_ : Nat) (x : Ty) : Prop := x.ins.length ≤ 8 ∧ x.outs.length ≤ 4
def elmOk (n : Nat) (x : Elm) : Prop := x.at_ ≤ n ∧ x.place.at_ ≤ n ∧ x.funcs.length ≤ 20 ∧ ∀ y ∈ x.funcs, numOk n y
def datOk (n : Nat) (x : Dat) : Prop := x.at_ ≤ n ∧ x.place.at_ ≤ n
def codOk (n : Nat) (x : Cod) : Prop := x.1.length ≤ 50 ∧ x.2.1 ≤ x.2.2 ∧ x.2.2 ≤ n
def behOk (n : Nat) (y : Beh) : Prop := numOk n y.num ∧ y.labels.length ≤ 20 ∧ (∀ x ∈ y.labels, numOk n x) ∧ y.gives.length ≤ 1 ∧ 0 ≤ y.align

theorem kind_fine : Fine Any (fun _ x => x = 127 ∨ x = 126) kindM := (one_fine [127, 126]).weak (fun _ h => h) (fun _ x _ h => by simpa using h)

theorem const_fine : Fine Any cstOk constM := by
  refine (one_fine [65, 66]).bind (g := fun i x => fun s n j => match (if x = 65 then sM 4 4 s n j else sM 9 1 s n j) with
    | .error e => .error e
    | .ok (v, j2) => match oneM [11] s n j2 with
      | .error e => .error e
      | .ok (_, j3) => .ok (⟨i, if x = 65 then 127 else 126, v⟩, j3)) (fun i x => ?_) (fun s n i e h => by simp only [constM, h] <;> rfl) (fun s n i x j h => by simp only [constM, h] <;> rfl)
  refine Fine.bind (P := fun _ _ => True) (f := fun s n j => if x = 65 then sM 4 4 s n j else sM 9 1 s n j) (Fine.ite (fun _ => (s_fine 4 4).to) (fun _ => (s_fine 9 1).to))
    (g := fun _ v => fun s n j2 => match oneM [11] s n j2 with
      | .error e => .error e
      | .ok (_, j3) => .ok (⟨i, if x = 65 then 127 else 126, v⟩, j3)) (fun k v => ?_) (fun s n i e h => by simp only [h] <;> rfl) (fun s n i x j h => by simp only [h] <;> rfl)
  exact (one_fine [11]).to.bind (g := fun _ _ => fun _ _ j => .ok (⟨i, if x = 65 then 127 else 126, v⟩, j)) (fun _ _ => Fine.pure (fun n h => h.1.1.2.1)) (fun s n i e h => by simp only [h] <;> rfl) (fun s n i x j h => by simp only [h] <;> rfl)

theorem lim_fine : Fine Any limOk limM := by
  refine (one_fine [0, 1]).bind (g := fun i x => fun s n j => match uM s n j with
    | .error e => .error e
    | .ok ((v, _), j2) => if x = 1 then (match uM s n j2 with
        | .error e => .error e
        | .ok ((m, _), j3) => .ok (⟨i, v, m, true⟩, j3)) else .ok (⟨i, v, 0, false⟩, j2)) (fun i x => ?_) (fun s n i e h => by simp only [limM, h] <;> rfl) (fun s n i x j h => by simp only [limM, h] <;> rfl)
  refine u_fine.to.bind (g := fun _ u => fun s n j2 => if x = 1 then (match uM s n j2 with
        | .error e => .error e
        | .ok ((m, _), j3) => .ok (⟨i, u.1, m, true⟩, j3)) else .ok (⟨i, u.1, 0, false⟩, j2)) (fun k u => ?_) (fun s n i e h => by simp only [h] <;> rfl) (fun s n i x j h => by simp only [h] <;> rfl)
  refine Fine.ite (fun _ => ?_) (fun _ => Fine.pure (fun n h => h.1.2.1))
  exact u_fine.to.bind (g := fun _ w => fun _ _ j3 => .ok (⟨i, u.1, w.1, true⟩, j3)) (fun _ _ => Fine.pure (fun n h => h.1.1.2.1)) (fun s n i e h => by simp only [h] <;> rfl) (fun s n i x j h => by simp only [h] <;> rfl)

theorem table_fine : Fine Any limOk tableM :=
  (one_fine [112]).bind (g := fun _ _ => limM) (fun _ _ => lim_fine.to) (fun s n i e h => by simp only [tableM, h] <;> rfl) (fun s n i x j h => by simp only [tableM, h] <;> rfl)

theorem global_fine : Fine Any glbOk globalM := by
  refine kind_fine.bind (g := fun _ k => fun s n j => match oneM [0, 1] s n j with
    | .error e => .error e
    | .ok (x, j2) => match constM s n j2 with
      | .error e => .error e
      | .ok (c, j3) => .ok (⟨k, x == 1, c⟩, j3)) (fun i k => ?_) (fun s n i e h => by simp only [globalM, h] <;> rfl) (fun s n i x j h => by simp only [globalM, h] <;> rfl)
  refine (one_fine [0, 1]).to.bind (g := fun _ x => fun s n j2 => match constM s n j2 with
      | .error e => .error e
      | .ok (c, j3) => .ok (⟨k, x == 1, c⟩, j3)) (fun _ x => ?_) (fun s n i e h => by simp only [h] <;> rfl) (fun s n i x j h => by simp only [h] <;> rfl)
  exact const_fine.to.bind (g := fun _ c => fun _ _ j3 => .ok (⟨k, x == 1, c⟩, j3)) (fun _ c => Fine.pure (fun n h => h.2.2)) (fun s n i e h => by simp only [h] <;> rfl) (fun s n i x j h => by simp only [h] <;> rfl)

theorem export_fine : Fine Any expOk exportM := by
  refine (count_fine 20).bind (g := fun i k => fun s n j => match textM k s n j with
    | .error e => .error e
    | .ok (t, j2) => if allExp t 0 = false then .error (2, i) else match oneM [0, 1, 2, 3] s n j2 with
      | .error e => .error e
      | .ok (x, j3) => match uM s n j3 with
        | .error e => .error e
        | .ok (u, j4) => .ok (⟨i, t, x, u⟩, j4)) (fun i k => ?_) (fun s n i e h => by simp only [exportM, h] <;> rfl) (fun s n i x j h => by simp only [exportM, h] <;> rfl)
  refine (text_fine k).to.bind (g := fun _ t => fun s n j2 => if allExp t 0 = false then .error (2, i) else match oneM [0, 1, 2, 3] s n j2 with
      | .error e => .error e
      | .ok (x, j3) => match uM s n j3 with
        | .error e => .error e
        | .ok (u, j4) => .ok (⟨i, t, x, u⟩, j4)) (fun _ t => ?_) (fun s n i e h => by simp only [h] <;> rfl) (fun s n i x j h => by simp only [h] <;> rfl)
  refine Fine.ite (fun _ => Fine.fail (fun n h => h.1.2.1)) (fun _ => ?_)
  refine (one_fine [0, 1, 2, 3]).to.bind (g := fun _ x => fun s n j3 => match uM s n j3 with
        | .error e => .error e
        | .ok (u, j4) => .ok (⟨i, t, x, u⟩, j4)) (fun _ x => ?_) (fun s n i e h => by simp only [h] <;> rfl) (fun s n i x j h => by simp only [h] <;> rfl)
  refine u_fine.to.bind (g := fun _ u => fun _ _ j4 => .ok (⟨i, t, x, u⟩, j4)) (fun _ u => Fine.pure (fun n h => ?_)) (fun s n i e h => by simp only [h] <;> rfl) (fun s n i x j h => by simp only [h] <;> rfl)
  refine ⟨h.1.1.1.2.1, h.2.2, ?_⟩
  have := h.1.2.2
  simp at this
  show x ≤ 3
  omega

theorem data_fine : Fine Any datOk dataM := by
  refine (one_fine [0]).bind (g := fun i _ => fun s n j => match constM s n j with
    | .error e => .error e
    | .ok (c, j2) => match countM 100 s n j2 with
      | .error e => .error e
      | .ok (k, j3) => match textM k s n j3 with
        | .error e => .error e
        | .ok (t, j4) => .ok (⟨i, c, t⟩, j4)) (fun i _ => ?_) (fun s n i e h => by simp only [dataM, h] <;> rfl) (fun s n i x j h => by simp only [dataM, h] <;> rfl)
  refine const_fine.to.bind (g := fun _ c => fun s n j2 => match countM 100 s n j2 with
      | .error e => .error e
      | .ok (k, j3) => match textM k s n j3 with
        | .error e => .error e
        | .ok (t, j4) => .ok (⟨i, c, t⟩, j4)) (fun _ c => ?_) (fun s n i e h => by simp only [h] <;> rfl) (fun s n i x j h => by simp only [h] <;> rfl)
  refine (count_fine 100).to.bind (g := fun _ k => fun s n j3 => match textM k s n j3 with
        | .error e => .error e
        | .ok (t, j4) => .ok (⟨i, c, t⟩, j4)) (fun _ k => ?_) (fun s n i e h => by simp only [h] <;> rfl) (fun s n i x j h => by simp only [h] <;> rfl)
  exact (text_fine k).to.bind (g := fun _ t => fun _ _ j4 => .ok (⟨i, c, t⟩, j4)) (fun _ t => Fine.pure (fun n h => ⟨h.1.1.1.2.1, h.1.1.2.2⟩)) (fun s n i e h => by simp only [h] <;> rfl) (fun s n i x j h => by simp only [h] <;> rfl)

theorem type_fine : Fine Any tyOk typeM := by
  refine (one_fine [96]).bind (g := fun _ _ => fun s n j => match listM 8 kindM s n j with
    | .error e => .error e
    | .ok (a, j2) => match listM 4 kindM s n j2 with
      | .error e => .error e
      | .ok (c, j3) => .ok (⟨a, c⟩, j3)) (fun i _ => ?_) (fun s n i e h => by simp only [typeM, h] <;> rfl) (fun s n i x j h => by simp only [typeM, h] <;> rfl)
  refine (list_fine 8 kind_fine).to.bind (g := fun _ a => fun s n j2 => match listM 4 kindM s n j2 with
      | .error e => .error e
      | .ok (c, j3) => .ok (⟨a, c⟩, j3)) (fun _ a => ?_) (fun s n i e h => by simp only [h] <;> rfl) (fun s n i x j h => by simp only [h] <;> rfl)
  exact (list_fine 4 kind_fine).to.bind (g := fun _ c => fun _ _ j3 => .ok (⟨a, c⟩, j3)) (fun _ c => Fine.pure (fun n h => ⟨h.1.2.2.1, h.2.2.1⟩)) (fun s n i e h => by simp only [h] <;> rfl) (fun s n i x j h => by simp only [h] <;> rfl)

theorem elem_fine : Fine Any elmOk elemM := by
  refine (one_fine [0]).bind (g := fun i _ => fun s n j => match constM s n j with
    | .error e => .error e
    | .ok (c, j2) => match listM 20 uM s n j2 with
      | .error e => .error e
      | .ok (l, j3) => .ok (⟨i, c, l⟩, j3)) (fun i _ => ?_) (fun s n i e h => by simp only [elemM, h] <;> rfl) (fun s n i x j h => by simp only [elemM, h] <;> rfl)
  refine const_fine.to.bind (g := fun _ c => fun s n j2 => match listM 20 uM s n j2 with
      | .error e => .error e
      | .ok (l, j3) => .ok (⟨i, c, l⟩, j3)) (fun _ c => ?_) (fun s n i e h => by simp only [h] <;> rfl) (fun s n i x j h => by simp only [h] <;> rfl)
  exact (list_fine 20 u_fine).to.bind (g := fun _ l => fun _ _ j3 => .ok (⟨i, c, l⟩, j3)) (fun _ l => Fine.pure (fun n h => ⟨h.1.1.2.1, h.1.2.2, h.2.2.1, h.2.2.2⟩)) (fun s n i e h => by simp only [h] <;> rfl) (fun s n i x j h => by simp only [h] <;> rfl)

theorem peek_fine : Fine Any (fun _ _ => True) peekM := by
  refine ⟨?_, ?_, ?_⟩
  · intro s n i q p _ hi h
    unfold peekM at h; split at h <;> cases h; exact ⟨rfl, Nat.le_refl _⟩
  · intro s n i x j _ hi h
    unfold peekM at h; split at h <;> cases h; exact ⟨by omega, by omega, trivial⟩
  · intro s s' n i _ ha hi
    unfold peekM
    split
    · rw [ha.b i (by assumption)]
    · rfl

theorem beh_none {n : Nat} : behOk n Beh.none := ⟨⟨by simp [Beh.none], by simp [Beh.none], by simp [Beh.none]⟩, by simp [Beh.none], by simp [Beh.none], by simp [Beh.none], by simp [Beh.none]⟩

theorem block_fine : Fine Any behOk blockM := by
  refine ⟨?_, ?_, ?_⟩
  · intro s n i q p _ hi h
    unfold blockM at h
    cases hp : peekM s n i with
    | error e => obtain ⟨q', p'⟩ := e; rw [hp] at h; cases h; exact peek_fine.err trivial hi hp
    | ok x =>
      obtain ⟨x, j⟩ := x
      rw [hp] at h
      simp only at h
      split at h
      · cases h
      · split at h
        · cases h
        · cases hs : sM 4 5 s n i with
          | error e => obtain ⟨q', p'⟩ := e; rw [hs] at h; cases h; exact (s_fine 4 5).err trivial hi hs
          | ok v =>
            obtain ⟨v, j2⟩ := v
            rw [hs] at h
            simp only at h
            split at h <;> cases h
            exact ⟨rfl, hi⟩
  · intro s n i y e _ hi h
    have hle := blockM_le h
    unfold blockM at h
    cases hp : peekM s n i with
    | error e => rw [hp] at h; cases h
    | ok x =>
      obtain ⟨x, j⟩ := x
      have hin : i < n := by unfold peekM at hp; split at hp; assumption; cases hp
      rw [hp] at h
      simp only at h
      split at h
      · cases h; exact ⟨hle, by omega, ⟨by simp [Beh.none], by simp [Beh.none], by simp [Beh.none]⟩, by simp [Beh.none], by simp [Beh.none], by simp, by simp [Beh.none]⟩
      · split at h
        · cases h; exact ⟨hle, by omega, beh_none⟩
        · cases hs : sM 4 5 s n i with
          | error e => rw [hs] at h; cases h
          | ok v =>
            obtain ⟨v, j2⟩ := v
            have hj := sM_facts hs
            rw [hs] at h
            simp only at h
            split at h <;> cases h
            exact ⟨hle, by omega, ⟨by simp; omega, by simp; omega, hi⟩, by simp [Beh.none], by simp [Beh.none], by simp [Beh.none], by simp [Beh.none]⟩
  · intro s s' n i _ ha hi
    unfold blockM
    rw [peek_fine.cong trivial ha hi, (s_fine 4 5).cong trivial ha hi]

theorem beh_fine (a x : Nat) : Fine (fun n => a ≤ n) behOk (behM a x) := by
  unfold behM
  refine Fine.ite (fun _ => block_fine.to) (fun _ => Fine.ite (fun _ => ?_) (fun _ => Fine.ite (fun _ => ?_) (fun _ => Fine.ite (fun _ => ?_) (fun _ => Fine.ite (fun _ => ?_) (fun _ => Fine.ite (fun _ => ?_) (fun _ => Fine.ite (fun _ => ?_) (fun _ => Fine.ite (fun _ => ?_) (fun _ => Fine.ite (fun _ => ?_) (fun _ => ?_)))))))))
  · refine (list_fine 20 u_fine).to.bind (g := fun _ ls => fun s n j => match uM s n j with
      | .error e => .error e
      | .ok (u, j2) => .ok ({ Beh.none with num := u, labels := ls }, j2)) (fun _ ls => ?_) (fun s n i e h => by simp only [h] <;> rfl) (fun s n i x j h => by simp only [h] <;> rfl)
    exact u_fine.to.bind (g := fun _ u => fun _ _ j2 => .ok ({ Beh.none with num := u, labels := ls }, j2)) (fun _ u => Fine.pure (fun n h => ⟨h.2.2, h.1.2.2.1, h.1.2.2.2, by simp [Beh.none], by simp [Beh.none]⟩)) (fun s n i e h => by simp only [h] <;> rfl) (fun s n i x j h => by simp only [h] <;> rfl)
  · refine u_fine.to.bind (g := fun _ al => fun s n j => match uM s n j with
      | .error e => .error e
      | .ok (u, j2) => .ok ({ Beh.none with align := al.1, num := u }, j2)) (fun _ al => ?_) (fun s n i e h => by simp only [h] <;> rfl) (fun s n i x j h => by simp only [h] <;> rfl)
    exact u_fine.to.bind (g := fun _ u => fun _ _ j2 => .ok ({ Beh.none with align := al.1, num := u }, j2)) (fun _ u => Fine.pure (fun n h => ⟨h.2.2, by simp [Beh.none], by simp [Beh.none], by simp [Beh.none], h.1.2.2.1⟩)) (fun s n i e h => by simp only [h] <;> rfl) (fun s n i x j h => by simp only [h] <;> rfl)
  · exact u_fine.to.bind (g := fun _ u => fun _ _ j => .ok ({ Beh.none with num := u }, j)) (fun _ u => Fine.pure (fun n h => ⟨h.2.2, by simp [Beh.none], by simp [Beh.none], by simp [Beh.none], by simp [Beh.none]⟩)) (fun s n i e h => by simp only [h] <;> rfl) (fun s n i x j h => by simp only [h] <;> rfl)
  · refine u_fine.to.bind (g := fun _ u => fun s n j => match oneM [0] s n j with
      | .error e => .error e
      | .ok (_, j2) => .ok ({ Beh.none with num := u }, j2)) (fun _ u => ?_) (fun s n i e h => by simp only [h] <;> rfl) (fun s n i x j h => by simp only [h] <;> rfl)
    exact (one_fine [0]).to.bind (g := fun _ _ => fun _ _ j2 => .ok ({ Beh.none with num := u }, j2)) (fun _ _ => Fine.pure (fun n h => ⟨h.1.2.2, by simp [Beh.none], by simp [Beh.none], by simp [Beh.none], by simp [Beh.none]⟩)) (fun s n i e h => by simp only [h] <;> rfl) (fun s n i x j h => by simp only [h] <;> rfl)
  · exact (one_fine [0]).to.bind (g := fun _ _ => fun _ _ j => .ok (Beh.none, j)) (fun _ _ => Fine.pure (fun n h => beh_none)) (fun s n i e h => by simp only [h] <;> rfl) (fun s n i x j h => by simp only [h] <;> rfl)
  · exact (s_fine 4 4).to.bind (g := fun _ v => fun _ _ j => .ok ({ Beh.none with val := v }, j)) (fun _ _ => Fine.pure (fun n _ => ⟨⟨by simp [Beh.none], by simp [Beh.none], by simp [Beh.none]⟩, by simp [Beh.none], by simp [Beh.none], by simp [Beh.none], by simp [Beh.none]⟩)) (fun s n i e h => by simp only [h] <;> rfl) (fun s n i x j h => by simp only [h] <;> rfl)
  · exact (s_fine 9 1).to.bind (g := fun _ v => fun _ _ j => .ok ({ Beh.none with val := v }, j)) (fun _ _ => Fine.pure (fun n _ => ⟨⟨by simp [Beh.none], by simp [Beh.none], by simp [Beh.none]⟩, by simp [Beh.none], by simp [Beh.none], by simp [Beh.none], by simp [Beh.none]⟩)) (fun s n i e h => by simp only [h] <;> rfl) (fun s n i x j h => by simp only [h] <;> rfl)
  · exact Fine.pure (fun n h => beh_none)
  · exact Fine.fail (fun n h => h)

end Go.Proofs.YtgkpkngchploiaaGreat
/-
  Codes, names, sections, so read; a module whole; what stands behind it.
-/
namespace Go.Proofs.YtgkpkngchploiaaGreat
open Go.RowKit

theorem nestM_err {os : List Nat} {a x q p : Nat} (h : nestM os a x = .error (q, p)) : q = 2 ∧ p = a := by
  unfold nestM at h
  repeat' split at h
  all_goals first | (cases h; exact ⟨rfl, rfl⟩) | cases h

theorem insGo_fine {s : ByteArray} {n : Nat} : ∀ (fuel : Nat) (os : List Nat) (j : Nat), j ≤ n →
    (∀ {q p}, insGo s n fuel os j = .error (q, p) → q = 2 ∧ p ≤ n) ∧ (∀ {e}, insGo s n fuel os j = .ok e → j ≤ e ∧ e ≤ n) ∧ ∀ {s'}, Alike n s s' → insGo s n fuel os j = insGo s' n fuel os j := by
  intro fuel
  induction fuel with
  | zero =>
    intro os j hj
    refine ⟨fun h => ?_, fun h => ?_, fun _ => rfl⟩
    · simp [insGo] at h; obtain ⟨rfl, rfl⟩ := h; exact ⟨rfl, Nat.le_refl _⟩
    · simp [insGo] at h
  | succ fuel ih =>
    intro os j hj
    by_cases hjn : j < n
    · refine ⟨?_, ?_, ?_⟩
      · intro q p h
        unfold insGo at h
        rw [byteM_more hjn] at h
        simp only at h
        split at h
        · rename_i e hn
          split at hn
          · cases hn
          · cases h
            have := nestM_err hn
            exact ⟨this.1, by omega⟩
        · split at h
          · rename_i hb
            cases h
            exact (beh_fine j (bt s j)).err (by omega) (by omega) hb
          · rename_i hb
            have := (beh_fine j (bt s j)).ok (by omega) (by omega) hb
            split at h
            · cases h
            · exact (ih _ _ this.2.1).1 h
      · intro e h
        unfold insGo at h
        rw [byteM_more hjn] at h
        simp only at h
        split at h
        · cases h
        · split at h
          · cases h
          · rename_i hb
            have := (beh_fine j (bt s j)).ok (by omega) (by omega) hb
            split at h
            · cases h; exact ⟨by omega, this.2.1⟩
            · have := (ih _ _ this.2.1).2.1 h; omega
      · intro s' ha
        unfold insGo
        rw [byteM_more hjn, byteM_more hjn, ← ha.b j hjn]
        simp only
        rw [← (beh_fine j (bt s j)).cong (by omega) ha (by omega)]
        split
        · rfl
        · split
          · rfl
          · rename_i hb
            have := (beh_fine j (bt s j)).ok (by omega) (by omega) hb
            split
            · rfl
            · exact (ih _ _ this.2.1).2.2 ha
    · refine ⟨fun {q p} h => ?_, fun {e} h => ?_, fun {s'} ha => ?_⟩
      · unfold insGo at h; rw [byteM_end hjn] at h; cases h; exact ⟨rfl, Nat.le_refl _⟩
      · unfold insGo at h; rw [byteM_end hjn] at h; cases h
      · unfold insGo; rw [byteM_end hjn, byteM_end hjn]

theorem localsGo_fine : ∀ (k : Nat) (acc : List Nat), acc.length ≤ 50 → Fine Any (fun _ ls => ls.length ≤ 50) (fun s n j => localsGo s n k acc j)
  | 0, acc, h => Fine.pure (fun _ _ => h)
  | k + 1, acc, h => by
    refine (count_fine (50 - acc.length)).bind (g := fun _ m => fun s n j1 => match kindM s n j1 with
      | .error e => .error e
      | .ok (kd, j2) => localsGo s n k (acc ++ List.replicate m kd) j2) (fun _ m => ?_) (fun s n i e h => by simp only [localsGo, h] <;> rfl) (fun s n i x j h => by simp only [localsGo, h] <;> rfl)
    by_cases hm : m ≤ 50 - acc.length
    · exact kind_fine.to.bind (g := fun _ kd => fun s n j2 => localsGo s n k (acc ++ List.replicate m kd) j2) (fun _ kd => (localsGo_fine k _ (by simp; omega)).to) (fun s n i e h => by simp only [h] <;> rfl) (fun s n i x j h => by simp only [h] <;> rfl)
    · exact ⟨fun hh => absurd hh.2.2 hm, fun hh => absurd hh.2.2 hm, fun hh => absurd hh.2.2 hm⟩

theorem locals_fine : Fine Any (fun _ ls => ls.length ≤ 50) localsM :=
  u_fine.bind (g := fun _ u => fun s n j => localsGo s n u.1.toNat [] j) (fun _ u => (localsGo_fine _ [] (by simp)).to) (fun s n i e h => by simp only [localsM, h] <;> rfl) (fun s n i x j h => by simp only [localsM, h] <;> rfl)

/-- What is within a code: where its instructions begin, where it ends. -/
theorem codeIn_fine : Fine Any codOk codeInM := by
  refine locals_fine.bind (g := fun _ ls => fun s n j => match insM s n j with
    | .error e => .error e
    | .ok e => .ok ((ls, j, n), e)) (fun _ ls => ?_) (fun s n i e h => by simp only [codeInM, h] <;> rfl) (fun s n i x j h => by simp only [codeInM, h] <;> rfl)
  refine ⟨?_, ?_, ?_⟩
  · intro s n i q p _ hi h
    cases ho : insM s n i with
    | error e => obtain ⟨q', p'⟩ := e; rw [ho] at h; cases h; exact (insGo_fine _ _ _ hi).1 ho
    | ok e => rw [ho] at h; cases h
  · intro s n i x j hH hi h
    cases ho : insM s n i with
    | error e => rw [ho] at h; cases h
    | ok e => rw [ho] at h; cases h; have := (insGo_fine _ _ _ hi).2.1 ho; exact ⟨this.1, this.2, hH.2.2, hi, Nat.le_refl _⟩
  · intro s s' n i _ ha hi
    have : insM s n i = insM s' n i := (insGo_fine _ _ _ hi).2.2 ha
    simp only [this]

theorem code_fine : Fine Any codOk codeM := within_fine codeIn_fine (fun _ _ _ hn h => ⟨h.1, h.2.1, Nat.le_trans h.2.2 hn⟩)

theorem index_fine (least end_ : Nat) : Fine Any (fun _ _ => True) (indexM least end_) :=
  u_fine.bind (g := fun _ x => fun _ _ j => if x.1 < (least : Int) ∨ (end_ : Int) ≤ x.1 then .error (2, x.2) else .ok (x.1.toNat, j)) (fun i x => Fine.ite (fun _ => Fine.fail (fun n h => h.2.2.2.2)) (fun _ => Fine.pure (fun _ _ => trivial)))
    (fun s n i e h => by simp only [indexM, h] <;> rfl) (fun s n i x j h => by simp only [indexM, h] <;> rfl)

theorem name_fine (ns : List Nam) (least many : Nat) : Fine Any (fun _ _ => True) (nameM ns least many) := by
  refine (index_fine least many).bind (g := fun _ ix => fun s n j => match countM 20 s n j with
    | .error e => .error e
    | .ok (k, j2) => match textM k s n j2 with
      | .error e => .error e
      | .ok (t, j3) => if nameableB t && !namedB ns t then .ok ((ix, t), j3) else .error (2, j)) (fun _ ix => ?_) (fun s n i e h => by simp only [nameM, h] <;> rfl) (fun s n i x j h => by simp only [nameM, h] <;> rfl)
  refine (count_fine 20).to.bind (g := fun i k => fun s n j2 => match textM k s n j2 with
      | .error e => .error e
      | .ok (t, j3) => if nameableB t && !namedB ns t then .ok ((ix, t), j3) else .error (2, i)) (fun i k => ?_) (fun s n i e h => by simp only [h] <;> rfl) (fun s n i x j h => by simp only [h] <;> rfl)
  exact (text_fine k).to.bind (g := fun _ t => fun _ _ j3 => if nameableB t && !namedB ns t then .ok ((ix, t), j3) else .error (2, i)) (fun _ t => Fine.ite (fun _ => Fine.pure (fun _ _ => trivial)) (fun _ => Fine.fail (fun n h => h.1.2.1))) (fun s n i e h => by simp only [h] <;> rfl) (fun s n i x j h => by simp only [h] <;> rfl)

theorem namesGo_fine (many : Nat) : ∀ (k least : Nat) (acc : List Nam), Fine Any (fun _ _ => True) (fun s n j => namesGo many s n k least acc j)
  | 0, _, acc => Fine.pure (fun _ _ => trivial)
  | k + 1, least, acc => (name_fine acc least many).bind (g := fun _ x => fun s n j => namesGo many s n k (x.1 + 1) (acc ++ [x]) j) (fun _ x => (namesGo_fine many k _ _).to) (fun s n i e h => by simp only [namesGo, h] <;> rfl) (fun s n i x j h => by simp only [namesGo, h] <;> rfl)

theorem namesOf_fine (many : Nat) : Fine Any (fun _ _ => True) (namesOfM many) :=
  (count_fine many).bind (g := fun _ k => fun s n j => namesGo many s n k 0 [] j) (fun _ k => (namesGo_fine many k 0 []).to) (fun s n i e h => by simp only [namesOfM, h] <;> rfl) (fun s n i x j h => by simp only [namesOfM, h] <;> rfl)

theorem loc_fine (m : Mdl) (least : Nat) : Fine Any (fun _ _ => True) (locM m least) := by
  refine (index_fine least m.funcs.length).bind (g := fun _ f => fun s n j => match namesOfM (manyOf m f) s n j with
    | .error e => .error e
    | .ok (ns, j2) => .ok ((f, ns), j2)) (fun _ f => ?_) (fun s n i e h => by simp only [locM, h] <;> rfl) (fun s n i x j h => by simp only [locM, h] <;> rfl)
  exact (namesOf_fine (manyOf m f)).to.bind (g := fun _ ns => fun _ _ j2 => .ok ((f, ns), j2)) (fun _ _ => Fine.pure (fun _ _ => trivial)) (fun s n i e h => by simp only [h] <;> rfl) (fun s n i x j h => by simp only [h] <;> rfl)

theorem locGo_fine (m : Mdl) : ∀ (k least : Nat) (acc : List (Nat × List Nam)), Fine Any (fun _ _ => True) (fun s n j => locGo m s n k least acc j)
  | 0, _, acc => Fine.pure (fun _ _ => trivial)
  | k + 1, least, acc => (loc_fine m least).bind (g := fun _ x => fun s n j => locGo m s n k (x.1 + 1) (acc ++ [x]) j) (fun _ x => (locGo_fine m k _ _).to) (fun s n i e h => by simp only [locGo, h] <;> rfl) (fun s n i x j h => by simp only [locGo, h] <;> rfl)

/-- What is known of a module that was read up to place N. -/
structure ModOk (N : Nat) (m : Mdl) : Prop where
  types : m.types.length ≤ 20 ∧ ∀ x ∈ m.types, tyOk N x
  funcs : m.funcs.length ≤ 20 ∧ ∀ x ∈ m.funcs, numOk N x
  tables : m.tables.length ≤ 1 ∧ ∀ x ∈ m.tables, limOk N x
  mems : m.mems.length ≤ 1 ∧ ∀ x ∈ m.mems, limOk N x
  globals : m.globals.length ≤ 10 ∧ ∀ x ∈ m.globals, glbOk N x
  exports : m.exports.length ≤ 20 ∧ ∀ x ∈ m.exports, expOk N x
  starts : m.starts.length ≤ 1 ∧ ∀ x ∈ m.starts, numOk N x
  elems : m.elems.length ≤ 5 ∧ ∀ x ∈ m.elems, elmOk N x
  codes : m.codes.length ≤ 20 ∧ ∀ x ∈ m.codes, codOk N x
  data : m.data.length ≤ 10 ∧ ∀ x ∈ m.data, datOk N x

/-- It stays so. -/
def Grows (m : Mdl) (n : Nat) (m1 : Mdl) : Prop := ∀ N, n ≤ N → ModOk N m → ModOk N m1

theorem Grows.refl (m : Mdl) (n : Nat) : Grows m n m := fun _ _ h => h

theorem numOk.le {n N : Nat} {x : Int × Nat} (h : numOk n x) (hn : n ≤ N) : numOk N x := ⟨h.1, h.2.1, Nat.le_trans h.2.2 hn⟩

theorem cont1_fine (m : Mdl) : Fine Any (Grows m) (cont1M m) :=
  (list_fine 20 type_fine).bind (g := fun _ xs => fun _ _ j => .ok ({ m with types := xs }, j)) (fun _ xs => Fine.pure (fun n h N hN hm => ⟨h.2.2, hm.funcs, hm.tables, hm.mems, hm.globals, hm.exports, hm.starts, hm.elems, hm.codes, hm.data⟩)) (fun s n i e h => by simp only [cont1M, h] <;> rfl) (fun s n i x j h => by simp only [cont1M, h] <;> rfl)

theorem cont3_fine (m : Mdl) : Fine Any (Grows m) (cont3M m) :=
  (list_fine 20 u_fine).bind (g := fun _ xs => fun _ _ j => .ok ({ m with funcs := xs }, j)) (fun _ xs => Fine.pure (fun n h N hN hm => ⟨hm.types, ⟨h.2.2.1, fun x hx => (h.2.2.2 x hx).le hN⟩, hm.tables, hm.mems, hm.globals, hm.exports, hm.starts, hm.elems, hm.codes, hm.data⟩)) (fun s n i e h => by simp only [cont3M, h] <;> rfl) (fun s n i x j h => by simp only [cont3M, h] <;> rfl)

theorem cont4_fine (m : Mdl) : Fine Any (Grows m) (cont4M m) :=
  (list_fine 1 table_fine).bind (g := fun _ xs => fun _ _ j => .ok ({ m with tables := xs }, j)) (fun _ xs => Fine.pure (fun n h N hN hm => ⟨hm.types, hm.funcs, ⟨h.2.2.1, fun x hx => Nat.le_trans (h.2.2.2 x hx) hN⟩, hm.mems, hm.globals, hm.exports, hm.starts, hm.elems, hm.codes, hm.data⟩)) (fun s n i e h => by simp only [cont4M, h] <;> rfl) (fun s n i x j h => by simp only [cont4M, h] <;> rfl)

theorem cont5_fine (m : Mdl) : Fine Any (Grows m) (cont5M m) :=
  (list_fine 1 lim_fine).bind (g := fun _ xs => fun _ _ j => .ok ({ m with mems := xs }, j)) (fun _ xs => Fine.pure (fun n h N hN hm => ⟨hm.types, hm.funcs, hm.tables, ⟨h.2.2.1, fun x hx => Nat.le_trans (h.2.2.2 x hx) hN⟩, hm.globals, hm.exports, hm.starts, hm.elems, hm.codes, hm.data⟩)) (fun s n i e h => by simp only [cont5M, h] <;> rfl) (fun s n i x j h => by simp only [cont5M, h] <;> rfl)

theorem cont6_fine (m : Mdl) : Fine Any (Grows m) (cont6M m) :=
  (list_fine 10 global_fine).bind (g := fun _ xs => fun _ _ j => .ok ({ m with globals := xs }, j)) (fun _ xs => Fine.pure (fun n h N hN hm => ⟨hm.types, hm.funcs, hm.tables, hm.mems, ⟨h.2.2.1, fun x hx => Nat.le_trans (h.2.2.2 x hx) hN⟩, hm.exports, hm.starts, hm.elems, hm.codes, hm.data⟩)) (fun s n i e h => by simp only [cont6M, h] <;> rfl) (fun s n i x j h => by simp only [cont6M, h] <;> rfl)

theorem cont7_fine (m : Mdl) : Fine Any (Grows m) (cont7M m) :=
  (list_fine 20 export_fine).bind (g := fun _ xs => fun _ _ j => .ok ({ m with exports := xs }, j)) (fun _ xs => Fine.pure (fun n h N hN hm => ⟨hm.types, hm.funcs, hm.tables, hm.mems, hm.globals, ⟨h.2.2.1, fun x hx => ⟨Nat.le_trans (h.2.2.2 x hx).1 hN, (h.2.2.2 x hx).2.1.le hN, (h.2.2.2 x hx).2.2⟩⟩, hm.starts, hm.elems, hm.codes, hm.data⟩)) (fun s n i e h => by simp only [cont7M, h] <;> rfl) (fun s n i x j h => by simp only [cont7M, h] <;> rfl)

theorem cont8_fine (m : Mdl) : Fine Any (Grows m) (cont8M m) :=
  u_fine.bind (g := fun _ x => fun _ _ j => .ok ({ m with starts := [x] }, j)) (fun _ x => Fine.pure (fun n h N hN hm => ⟨hm.types, hm.funcs, hm.tables, hm.mems, hm.globals, hm.exports, ⟨by simp, fun y hy => by simp at hy; subst hy; exact h.2.2.le hN⟩, hm.elems, hm.codes, hm.data⟩)) (fun s n i e h => by simp only [cont8M, h] <;> rfl) (fun s n i x j h => by simp only [cont8M, h] <;> rfl)

theorem cont9_fine (m : Mdl) : Fine Any (Grows m) (cont9M m) :=
  (list_fine 5 elem_fine).bind (g := fun _ xs => fun _ _ j => .ok ({ m with elems := xs }, j)) (fun _ xs => Fine.pure (fun n h N hN hm => ⟨hm.types, hm.funcs, hm.tables, hm.mems, hm.globals, hm.exports, hm.starts, ⟨h.2.2.1, fun x hx => ⟨Nat.le_trans (h.2.2.2 x hx).1 hN, Nat.le_trans (h.2.2.2 x hx).2.1 hN, (h.2.2.2 x hx).2.2.1, fun y hy => ((h.2.2.2 x hx).2.2.2 y hy).le hN⟩⟩, hm.codes, hm.data⟩)) (fun s n i e h => by simp only [cont9M, h] <;> rfl) (fun s n i x j h => by simp only [cont9M, h] <;> rfl)

theorem cont11_fine (m : Mdl) : Fine Any (Grows m) (cont11M m) :=
  (list_fine 10 data_fine).bind (g := fun _ xs => fun _ _ j => .ok ({ m with data := xs }, j)) (fun _ xs => Fine.pure (fun n h N hN hm => ⟨hm.types, hm.funcs, hm.tables, hm.mems, hm.globals, hm.exports, hm.starts, hm.elems, hm.codes, ⟨h.2.2.1, fun x hx => ⟨Nat.le_trans (h.2.2.2 x hx).1 hN, Nat.le_trans (h.2.2.2 x hx).2 hN⟩⟩⟩)) (fun s n i e h => by simp only [cont11M, h] <;> rfl) (fun s n i x j h => by simp only [cont11M, h] <;> rfl)

theorem codes_fine (m : Mdl) : Fine Any (Grows m) (codesM m) := by
  refine u_fine.bind (g := fun _ u => fun s n j => if u.1 = (m.funcs.length : Int) then (match listGo codeM s n m.funcs.length [] j with
      | .error e => .error e
      | .ok (cs, j2) => .ok ({ m with codes := cs }, j2)) else .error (2, u.2)) (fun _ u => ?_) (fun s n i e h => by simp only [codesM, h] <;> rfl) (fun s n i x j h => by simp only [codesM, h] <;> rfl)
  refine Fine.ite (fun _ => ?_) (fun _ => Fine.fail (fun n h => h.2.2.2.2))
  refine ((listGo_fine code_fine m.funcs.length []).weak (fun n h => ⟨trivial, by simp⟩) (fun n x _ h => h)).bind (g := fun _ cs => fun _ _ j2 => .ok ({ m with codes := cs }, j2)) (fun _ cs => Fine.pure (fun n h N hN hm => ?_)) (fun s n i e h => by simp only [h] <;> rfl) (fun s n i x j h => by simp only [h] <;> rfl)
  refine ⟨hm.types, hm.funcs, hm.tables, hm.mems, hm.globals, hm.exports, hm.starts, hm.elems, ⟨?_, fun x hx => ?_⟩, hm.data⟩
  · have h1 := h.2.2.1
    have h2 := hm.funcs.1
    simp at h1
    show cs.length ≤ 20
    omega
  · have := h.2.2.2 x hx
    exact ⟨this.1, this.2.1, Nat.le_trans this.2.2 hN⟩

theorem part_fine {α : Type} {P : Nat → α → Prop} {tM : ByteArray → Nat → Nat → Except Err (α × Nat)} (which : Nat) (x0 : α) (ht : Fine Any P tM) (hm : ∀ n n' x, n' ≤ n → P n' x → P n x) (h0 : ∀ n, P n x0) : Fine Any P (partM which x0 tM) := by
  have hw := within_fine ht hm
  refine ⟨?_, ?_, ?_⟩
  · intro s n i q p _ hi h
    unfold partM at h
    split at h
    · split at h
      · exact hw.err trivial (by omega) h
      · cases h
    · cases h
  · intro s n i x j _ hi h
    unfold partM at h
    split at h
    · split at h
      · have := hw.ok trivial (by omega) h; exact ⟨by omega, this.2⟩
      · cases h; exact ⟨Nat.le_refl _, hi, h0 _⟩
    · cases h; exact ⟨Nat.le_refl _, hi, h0 _⟩
  · intro s s' n i _ ha hi
    unfold partM
    split
    · rename_i hlt
      rw [ha.b i hlt, hw.cong trivial ha (by omega)]
    · rfl

theorem grows_le {m : Mdl} : ∀ (n n' : Nat) (x : Mdl), n' ≤ n → Grows m n' x → Grows m n x := fun _ _ _ hn h N hN hm => h N (Nat.le_trans hn hN) hm

theorem funcNames_fine (m : Mdl) : Fine Any (Grows m) (funcNamesM m) :=
  (namesOf_fine m.funcs.length).bind (g := fun _ xs => fun _ _ j => .ok ({ m with nfuncs := xs }, j)) (fun _ xs => Fine.pure (fun n h N hN hm => ⟨hm.types, hm.funcs, hm.tables, hm.mems, hm.globals, hm.exports, hm.starts, hm.elems, hm.codes, hm.data⟩)) (fun s n i e h => by simp only [funcNamesM, h] <;> rfl) (fun s n i x j h => by simp only [funcNamesM, h] <;> rfl)

theorem localNames_fine (m : Mdl) : Fine Any (Grows m) (localNamesM m) := by
  refine (count_fine m.funcs.length).bind (g := fun _ k => fun s n j => match locGo m s n k 0 [] j with
    | .error e => .error e
    | .ok (xs, j2) => .ok ({ m with nlocals := xs }, j2)) (fun _ k => ?_) (fun s n i e h => by simp only [localNamesM, h] <;> rfl) (fun s n i x j h => by simp only [localNamesM, h] <;> rfl)
  exact (locGo_fine m k 0 []).to.bind (g := fun _ xs => fun _ _ j2 => .ok ({ m with nlocals := xs }, j2)) (fun _ xs => Fine.pure (fun n h N hN hm => ⟨hm.types, hm.funcs, hm.tables, hm.mems, hm.globals, hm.exports, hm.starts, hm.elems, hm.codes, hm.data⟩)) (fun s n i e h => by simp only [h] <;> rfl) (fun s n i x j h => by simp only [h] <;> rfl)

theorem names_fine (m : Mdl) : Fine Any (Grows m) (namesM m) := by
  refine (exactly_fine [4, 110, 97, 109, 101]).bind (g := fun _ _ => fun s n j => match partM 1 m (funcNamesM m) s n j with
    | .error e => .error e
    | .ok (m1, j2) => partM 2 m1 (localNamesM m1) s n j2) (fun _ _ => ?_) (fun s n i e h => by simp only [namesM, h] <;> rfl) (fun s n i x j h => by simp only [namesM, h] <;> rfl)
  refine (part_fine 1 m (funcNames_fine m) grows_le (fun n => Grows.refl m n)).to.bind (g := fun _ m1 => partM 2 m1 (localNamesM m1)) (fun _ m1 => ?_) (fun s n i e h => by simp only [h] <;> rfl) (fun s n i x j h => by simp only [h] <;> rfl)
  exact (part_fine 2 m1 (localNames_fine m1) grows_le (fun n => Grows.refl m1 n)).weak (fun _ _ => trivial) (fun n x hh h N hN hm => h N hN (hh.2.2 N hN hm))

theorem cont_fine (m : Mdl) (which : Nat) : Fine Any (Grows m) (contM m which) := by
  unfold contM
  split
  · exact names_fine m
  · exact cont1_fine m
  · exact cont3_fine m
  · exact cont4_fine m
  · exact cont5_fine m
  · exact cont6_fine m
  · exact cont7_fine m
  · exact cont8_fine m
  · exact cont9_fine m
  · exact codes_fine m
  · exact cont11_fine m
  · exact Fine.pure (fun n _ => Grows.refl m n)

theorem sec_fine (m : Mdl) (last : Nat) : Fine Any (fun n x => Grows m n x.1) (secM m last) := by
  refine byte_fine.bind (g := fun i x => fun s n j => if rankN x ≤ last then .error (2, i) else if 10 < rankN x ∧ m.codes.length ≠ m.funcs.length then .error (2, i) else match withinM (contM m x) s n j with
      | .error e => .error e
      | .ok (m1, j1) => .ok ((m1, rankN x), j1)) (fun i x => ?_) (fun s n i e h => by simp only [secM, h] <;> rfl) (fun s n i x j h => by simp only [secM, h] <;> rfl)
  refine Fine.ite (fun _ => Fine.fail (fun n h => h.2.1)) (fun _ => Fine.ite (fun _ => Fine.fail (fun n h => h.2.1)) (fun _ => ?_))
  exact (within_fine (cont_fine m x) grows_le).to.bind (g := fun _ m1 => fun _ _ j1 => .ok ((m1, rankN x), j1)) (fun _ m1 => Fine.pure (fun n h => h.2.2)) (fun s n i e h => by simp only [h] <;> rfl) (fun s n i x j h => by simp only [h] <;> rfl)

theorem readGo_fine {s : ByteArray} {n : Nat} : ∀ (k : Nat) (m : Mdl) (last i : Nat), i ≤ n → (∀ {q p}, readGo s n k m last i = .error (q, p) → q = 2 ∧ p ≤ n) ∧ ∀ {m1 j}, readGo s n k m last i = .ok (m1, j) → (ModOk n m → ModOk n m1) ∧ m1.codes.length = m1.funcs.length := by
  intro k
  induction k with
  | zero => intro m last i hi; exact ⟨fun h => by simp [readGo] at h; obtain ⟨rfl, rfl⟩ := h; exact ⟨rfl, hi⟩, fun h => by simp [readGo] at h⟩
  | succ k ih =>
    intro m last i hi
    refine ⟨fun h => ?_, fun h => ?_⟩
    · unfold readGo at h
      split at h
      · split at h <;> cases h; exact ⟨rfl, hi⟩
      · split at h
        · rename_i hs; cases h; exact (sec_fine m last).err trivial hi hs
        · rename_i hs
          have := (sec_fine m last).ok trivial hi hs
          exact (ih _ _ _ this.2.1).1 h
    · unfold readGo at h
      split at h
      · split at h <;> cases h
        rename_i hc
        exact ⟨fun h => h, hc⟩
      · split at h
        · cases h
        · rename_i hs
          have := (sec_fine m last).ok trivial hi hs
          have h2 := (ih _ _ _ this.2.1).2 h
          exact ⟨fun hm => h2.1 (this.2.2 n (Nat.le_refl _) hm), h2.2⟩

theorem ModOk.new (N : Nat) : ModOk N Mdl.new := by
  refine ⟨⟨?_, ?_⟩, ⟨?_, ?_⟩, ⟨?_, ?_⟩, ⟨?_, ?_⟩, ⟨?_, ?_⟩, ⟨?_, ?_⟩, ⟨?_, ?_⟩, ⟨?_, ?_⟩, ⟨?_, ?_⟩, ⟨?_, ?_⟩⟩ <;> simp [Mdl.new]

theorem readM_err {s : ByteArray} {q p : Nat} (h : readM s = .error (q, p)) : q = 2 ∧ p ≤ s.size := by
  unfold readM at h
  split at h
  · rename_i he; cases h; exact (exactly_fine _).err trivial (Nat.zero_le _) he
  · rename_i he
    have := (exactly_fine _).ok trivial (Nat.zero_le _) he
    exact (readGo_fine _ _ _ _ this.2.1).1 h

theorem readM_ok {s : ByteArray} {m : Mdl} {j : Nat} (h : readM s = .ok (m, j)) : ModOk s.size m ∧ m.codes.length = m.funcs.length := by
  unfold readM at h
  split at h
  · cases h
  · rename_i he
    have := (exactly_fine _).ok trivial (Nat.zero_le _) he
    have h2 := (readGo_fine _ _ _ _ this.2.1).2 h
    exact ⟨h2.1 (ModOk.new _), h2.2⟩

/-! Behind a module nothing can stand. -/

theorem byteM_more_end {s s' : ByteArray} {n n' i x j : Nat} (ha : Alike n s s') (hn : n ≤ n') (h : byteM s n i = .ok (x, j)) : byteM s' n' i = .ok (x, j) := by
  unfold byteM at h
  split at h <;> cases h
  rename_i hi
  rw [byteM_more (by omega), ha.b i hi]

theorem oneM_more_end {ts : List Nat} {s s' : ByteArray} {n n' i x j : Nat} (ha : Alike n s s') (hn : n ≤ n') (h : oneM ts s n i = .ok (x, j)) : oneM ts s' n' i = .ok (x, j) := by
  unfold oneM at h ⊢
  split at h
  · rename_i hi
    rw [if_pos (show i < n' by omega), ← ha.b i hi]
    exact h
  · cases h

theorem exactlyM_more_end {s s' : ByteArray} {n n' : Nat} (ha : Alike n s s') (hn : n ≤ n') : ∀ (ts : List Nat) (i : Nat) {j : Nat}, exactlyM ts s n i = .ok ((), j) → exactlyM ts s' n' i = .ok ((), j)
  | [], i, j, h => h
  | t :: ts, i, j, h => by
    unfold exactlyM at h ⊢
    cases ho : oneM [t] s n i with
    | error e => rw [ho] at h; cases h
    | ok x =>
      obtain ⟨x, k⟩ := x
      rw [ho] at h
      rw [oneM_more_end ha hn ho]
      exact exactlyM_more_end ha hn ts k h

theorem uGo_more_end {s s' : ByteArray} {n n' start : Nat} (ha : Alike n s s') (hn : n ≤ n') : ∀ (m k : Nat) (z : Int) (j : Nat) {x : Int × Nat} {j' : Nat}, uGo s n start m k z j = .ok (x, j') → uGo s' n' start m k z j = .ok (x, j') := by
  intro m
  induction m with
  | zero => intro k z j x j' h; simp [uGo] at h
  | succ m ih =>
    intro k z j x j' h
    unfold uGo at h ⊢
    by_cases hj : j < n
    · rw [byteM_more hj] at h
      rw [byteM_more (show j < n' by omega), ← ha.b j hj]
      simp only at h ⊢
      split
      · rename_i hc; rw [if_pos hc] at h; cases h
      · rename_i hc
        rw [if_neg hc] at h
        split
        · rename_i hl; rw [if_pos hl] at h; exact h
        · rename_i hl; rw [if_neg hl] at h; exact ih _ _ _ h
    · rw [byteM_end hj] at h; cases h

theorem uM_more_end {s s' : ByteArray} {n n' i : Nat} {x : Int × Nat} {j : Nat} (ha : Alike n s s') (hn : n ≤ n') (h : uM s n i = .ok (x, j)) : uM s' n' i = .ok (x, j) := uGo_more_end ha hn _ _ _ _ h

theorem withinM_more_end {α : Type} {P : Nat → α → Prop} {tM : ByteArray → Nat → Nat → Except Err (α × Nat)} (ht : Fine Any P tM) {s s' : ByteArray} {n n' i : Nat} {x : α} {j : Nat} (ha : Alike n s s') (hn : n ≤ n') (h : withinM tM s n i = .ok (x, j)) : withinM tM s' n' i = .ok (x, j) := by
  unfold withinM at h ⊢
  cases ho : uM s n i with
  | error e => rw [ho] at h; cases h
  | ok u =>
    obtain ⟨⟨v, a⟩, k⟩ := u
    have hf := uM_facts ho
    rw [ho] at h
    rw [uM_more_end ha hn ho]
    simp only at h ⊢
    by_cases hv : (n : Int) - (k : Int) < v
    · rw [if_pos hv] at h
      split at h <;> cases h
    · rw [if_neg hv] at h
      rw [if_neg (show ¬ (n' : Int) - (k : Int) < v by omega)]
      rw [← ht.cong trivial (ha.less (by omega)) (by omega)]
      exact h

theorem secM_more_end {m : Mdl} {last : Nat} {s s' : ByteArray} {n n' i : Nat} {x : Mdl × Nat} {j : Nat} (ha : Alike n s s') (hn : n ≤ n') (h : secM m last s n i = .ok (x, j)) : secM m last s' n' i = .ok (x, j) := by
  unfold secM at h ⊢
  cases ho : byteM s n i with
  | error e => rw [ho] at h; cases h
  | ok u =>
    obtain ⟨u, k⟩ := u
    rw [ho] at h
    rw [byteM_more_end ha hn ho]
    simp only at h ⊢
    split
    · rename_i hc; rw [if_pos hc] at h; cases h
    · rename_i hc
      rw [if_neg hc] at h
      split
      · rename_i hc2; rw [if_pos hc2] at h; cases h
      · rename_i hc2
        rw [if_neg hc2] at h
        cases hw : withinM (contM m u) s n k with
        | error e => rw [hw] at h; cases h
        | ok y =>
          obtain ⟨m1, j1⟩ := y
          rw [hw] at h
          rw [withinM_more_end (cont_fine m u) ha hn hw]
          exact h

/-- One section more, of one byte: it can't stand there. -/
theorem secM_one {m : Mdl} {last : Nat} {s : ByteArray} {n : Nat} : ∃ p, secM m last s (n + 1) n = .error (2, p) ∧ (p = n ∨ p = n + 1) := by
  unfold secM
  rw [byteM_more (Nat.lt_succ_self n)]
  simp only
  split
  · exact ⟨n, rfl, .inl rfl⟩
  · split
    · exact ⟨n, rfl, .inl rfl⟩
    · have hu : uM s (n + 1) (n + 1) = .error (2, n + 1) := by
        unfold uM
        rw [show (5 : Nat) = 4 + 1 from rfl]
        unfold uGo
        rw [byteM_end (by omega)]
      refine ⟨n + 1, ?_, .inr rfl⟩
      simp only [withinM, hu]

theorem readGo_behind {s s' : ByteArray} {n : Nat} (ha : Alike n s s') : ∀ (k : Nat) (m : Mdl) (last i : Nat) {m1 : Mdl} {j : Nat}, i ≤ n → 12 < last + k → (∀ {m2 r j2}, secM m last s n i = .ok ((m2, r), j2) → last < r) → readGo s n k m last i = .ok (m1, j) → ∃ p, readGo s' (n + 1) k m last i = .error (2, p) ∧ (p = n ∨ p = n + 1) := by
  intro k
  induction k with
  | zero => intro m last i m1 j hi hk hr h; simp [readGo] at h
  | succ k ih =>
    intro m last i m1 j hi hk hr h
    unfold readGo at h ⊢
    by_cases hn : n ≤ i
    · have hin : i = n := by omega
      subst hin
      obtain ⟨p, hp, hpp⟩ := secM_one (m := m) (last := last) (s := s') (n := i)
      rw [if_neg (show ¬ i + 1 ≤ i by omega), hp]
      exact ⟨p, rfl, hpp⟩
    · rw [if_neg hn] at h
      rw [if_neg (show ¬ n + 1 ≤ i by omega)]
      cases hs : secM m last s n i with
      | error e => rw [hs] at h; cases h
      | ok x =>
        obtain ⟨⟨m2, r⟩, j2⟩ := x
        rw [hs] at h
        rw [secM_more_end ha (Nat.le_succ n) hs]
        simp only at h ⊢
        have h1 := (sec_fine m last).ok trivial hi hs
        have h2 := hr hs
        refine ih _ _ _ h1.2.1 (by omega) ?_ h
        intro m3 r3 j3 h3
        unfold secM at h3
        split at h3
        · cases h3
        · split at h3
          · cases h3
          · rename_i hrk
            split at h3
            · cases h3
            · split at h3
              · cases h3
              · cases h3; omega

theorem readM_behind {s s' : ByteArray} {m : Mdl} {j : Nat} (hz : s'.size = s.size + 1) (ha : Alike s.size s s') (h : readM s = .ok (m, j)) : ∃ p, readM s' = .error (2, p) ∧ (p = s.size ∨ p = s.size + 1) := by
  unfold readM at h ⊢
  rw [hz]
  cases ho : exactlyM [0, 97, 115, 109, 1, 0, 0, 0] s s.size 0 with
  | error e => rw [ho] at h; cases h
  | ok x =>
    obtain ⟨⟨⟩, k⟩ := x
    rw [ho] at h
    rw [exactlyM_more_end ha (Nat.le_succ _) _ _ ho]
    simp only at h ⊢
    have h1 := (exactly_fine _).ok trivial (Nat.zero_le _) ho
    refine readGo_behind ha _ _ _ _ h1.2.1 (by omega) ?_ h
    intro m3 r3 j3 h3
    unfold secM at h3
    split at h3
    · cases h3
    · split at h3
      · cases h3
      · split at h3
        · cases h3
        · split at h3
          · cases h3
          · cases h3; omega

end Go.Proofs.YtgkpkngchploiaaGreat
