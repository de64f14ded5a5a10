/-
  Part 21 of the proof: Body26, Pl6, Body27, Body27a, Body28, Fit4.
-/
import Derived.Test.YtgkpkngchploiaaGreatPart20
import Derived.Test.YtgkpkngchploiaaGreatPart07
import Derived.Test.YtgkpkngchploiaaGreatPart13
import Derived.Test.YtgkpkngchploiaaGreatPart17
import Derived.Test.YtgkpkngchploiaaGreatPart19
import Derived.Test.YtgkpkngchploiaaGreatPart15
/-
  A code that is gone through, in memory: what stands between two instructions.
-/
namespace Go.Proofs.YtgkpkngchploiaaGreat
open Go.RowKit

section
variable {K O N : Nat → Prop} {w W : World} {bb mb : Nat} {mp lv : Value} {st : Bd} {s : ByteArray} {m : Mdl}

/-- More is only read. -/
theorem BodyAt.moreK {K' : Nat → Prop} (h : BodyAt K O w bb mp lv st) (hk : ∀ k, K k → K' k) (hd : ∀ k, O k → ¬ K' k) (hl : ∀ k, K' k → k < w.heap.size) : BodyAt K' O w bb mp lv st := by
  obtain ⟨sv, bv, h⟩ := h
  refine ⟨sv, bv, h.blk, h.own, h.stk, ?_, hd, hl⟩
  obtain ⟨css, h1, h2⟩ := h.bls
  refine ⟨css, h1, h2.to (fun x cs hx => ⟨?_, hx.2⟩)⟩
  obtain ⟨tv, gv, e, a, c⟩ := hx.1
  exact ⟨tv, gv, e, Row.mono a (fun g _ => hk g), Row.mono c (fun g _ => hk g)⟩

theorem BodyAt.keep {S : Nat → Prop} (h : BodyAt K O w bb mp lv st) (hk : Kept S w W) (hs : ∀ k, k < w.heap.size → S k → ¬ O k ∧ ¬ K k) : BodyAt K O W bb mp lv st := by
  obtain ⟨sv, bv, h⟩ := h
  exact ⟨sv, bv, h.kept hk hs⟩

/-- The place is put down. -/
theorem BodyAt.place (h : BodyAt K O w bb mp lv st) (j : Nat) : BodyAt K O (w.setCell ⟨bb, 4, none⟩ (.int .i64 (j : Nat))) bb mp lv { st with at_ := j } := by
  obtain ⟨sv, bv, h⟩ := h
  exact ⟨sv, bv, h.cells ((Kept.refl _ _).own _) (h.blk.set 4 _) h.stk h.bls⟩

/-- Between two instructions: the body at bb, its box at vb; what was there before and is only read (K0) is as it was (w). -/
def Gone (K0 : Nat → Prop) (w : World) (m : Mdl) (ls : List Nat) (s : ByteArray) (n : Nat) (whole : Except Err Unit) (vb bb : Nat) (mp lv : Value) (o : Option (List Nat)) (j : Nat) (F : Nat → Prop) (W : World) : Prop :=
  ∃ (K O : Nat → Prop) (st : Bd), (∀ k, K0 k → K k) ∧ (∀ k, F k ↔ K k ∨ O k ∨ k = vb) ∧ (∀ k, O k → k < W.heap.size) ∧ ¬ O vb ∧ ¬ K vb ∧ vb < W.heap.size ∧
    BodyAt K O W bb mp lv st ∧ Tidy st ∧ Kept (fun k => ¬ K0 k) w W ∧ Blk W vb [.pointer (some ⟨bb, 0, none⟩)] ∧ Stands m ls s n whole o j st

theorem Gone.still {K0 F S : Nat → Prop} {W' : World} {ls : List Nat} {n vb j : Nat} {whole : Except Err Unit} {o : Option (List Nat)} (h : Gone K0 w m ls s n whole vb bb mp lv o j F W) (hk : Kept S W W') (hs : ∀ k, k < W.heap.size → S k → ¬ F k) : Gone K0 w m ls s n whole vb bb mp lv o j F W' := by
  obtain ⟨K, O, st, h1, h2, h3, h4, h5, h6, h7, h8, h9, h10, h11⟩ := h
  have hsz := hk.size
  refine ⟨K, O, st, h1, h2, fun k hk0 => Nat.lt_of_lt_of_le (h3 k hk0) hsz, h4, h5, Nat.lt_of_lt_of_le h6 hsz, h7.keep hk (fun k hl hS => ⟨fun c => hs k hl hS ((h2 k).2 (.inr (.inl c))), fun c => hs k hl hS ((h2 k).2 (.inl c))⟩), h8, h9.fresh hk (fun i hi hS c => hs i (Nat.lt_of_lt_of_le hi h9.size) hS ((h2 i).2 (.inl (h1 i c)))), h10.kept hk h6 (fun c => hs vb h6 c ((h2 vb).2 (.inr (.inr rfl)))), h11⟩

theorem Gone.lt {K0 F : Nat → Prop} {ls : List Nat} {n vb j k : Nat} {whole : Except Err Unit} {o : Option (List Nat)} (h : Gone K0 w m ls s n whole vb bb mp lv o j F W) (hF : F k) : k < W.heap.size := by
  obtain ⟨K, O, st, h1, h2, h3, h4, h5, h6, h7, h8, h9, h10, h11⟩ := h
  rcases (h2 k).1 hF with c | c | c
  · exact h7.kb k c
  · exact h3 k c
  · omega

end

section
variable {F : Fence} {n : Nat} {P : Program}

theorem wpAt_block {f0 : FuncId} {id : Nat} {c : Code} {Q : Exit → Act → World → Prop} {a : Act} {w : World} (h : wpAt f0 F n P c (fun e a w => match e with | .normal => Q .normal a w | .panic chain => Q (.panic chain) a w | _ => False) a w) : wpAt f0 F n P (.block id c) Q a w := by
  intro b k cs hf hro hb hr
  have h0 : (lone (b.atR a (.code (.block id c) :: k)) cs w).fenced P F := fenced_calm hb hr rfl
  obtain ⟨e, a₁, w₁, hq, harr⟩ := h b (.inBlock id :: k) cs hf hro hb hr
  cases e with
  | normal => exact ⟨.normal, a₁, w₁, hq, .head h0 stepR_block (StepsIn.trans harr (.one (fenced_calm hb hr rfl) stepR_inBlock))⟩
  | panic chain =>
    obtain ⟨todo, up⟩ := harr
    exact ⟨.panic chain, a₁, w₁, hq, todo, .head h0 stepR_block up⟩
  | ret => exact hq.elim
  | exit id => exact hq.elim
  | goto t => exact hq.elim
  | outgrown => exact hq.elim
end

end Go.Proofs.YtgkpkngchploiaaGreat
/-
  Each code of a module that was read: its instructions can be read.
-/
namespace Go.Proofs.YtgkpkngchploiaaGreat
open Go.RowKit

/-- Where it answers x, x is so. -/
def Tell {α : Type} (s : ByteArray) (Pr : α → Prop) (f : ByteArray → Nat → Nat → Except Err (α × Nat)) : Prop := ∀ ⦃n i x j⦄, f s n i = .ok (x, j) → Pr x

theorem Tell.within {α : Type} {s : ByteArray} {Pr : α → Prop} {f : ByteArray → Nat → Nat → Except Err (α × Nat)} (h : Tell s Pr f) : Tell s Pr (withinM f) := by
  intro n i x j hx
  unfold withinM at hx
  split at hx
  · cases hx
  · split at hx
    · split at hx <;> cases hx
    · split at hx
      · cases hx
      · rename_i ho
        split at hx <;> cases hx
        exact h ho

theorem Tell.listGo {α : Type} {s : ByteArray} {Pr : α → Prop} {f : ByteArray → Nat → Nat → Except Err (α × Nat)} (h : Tell s Pr f) {n : Nat} : ∀ (k : Nat) (acc : List α) (j : Nat) {xs : List α} {j' : Nat}, (∀ x ∈ acc, Pr x) → listGo f s n k acc j = .ok (xs, j') → ∀ x ∈ xs, Pr x := by
  intro k
  induction k with
  | zero => intro acc j xs j' ha hx; unfold Go.Proofs.YtgkpkngchploiaaGreat.listGo at hx; cases hx; exact ha
  | succ k ih =>
    intro acc j xs j' ha hx
    unfold Go.Proofs.YtgkpkngchploiaaGreat.listGo at hx
    split at hx
    · cases hx
    · rename_i ho
      refine ih _ _ (fun x hx0 => ?_) hx
      rcases List.mem_append.1 hx0 with c | c
      · exact ha x c
      · simp at c; subst c; exact h ho

/-- Its codes' instructions can be read. -/
def AllRead (s : ByteArray) (m : Mdl) : Prop := ∀ c ∈ m.codes, ∃ j, insM s c.2.2 c.2.1 = .ok j

theorem code_tell (s : ByteArray) : Tell s (fun c : Cod => ∃ j, insM s c.2.2 c.2.1 = .ok j) codeM := by
  refine Tell.within (f := codeInM) ?_
  intro n i x j h
  unfold codeInM at h
  split at h
  · cases h
  · split at h
    · cases h
    · rename_i ho; cases h; exact ⟨_, ho⟩

theorem part_tell {α : Type} {s : ByteArray} {Pr : α → Prop} {f : ByteArray → Nat → Nat → Except Err (α × Nat)} (which : Nat) (x0 : α) (h0 : Pr x0) (h : Tell s Pr f) : Tell s Pr (partM which x0 f) := by
  intro n i x j hx
  unfold partM at hx
  split at hx
  · split at hx
    · exact h.within hx
    · cases hx; exact h0
  · cases hx; exact h0

theorem funcNames_tell {s : ByteArray} {m : Mdl} (hm : AllRead s m) : Tell s (AllRead s) (funcNamesM m) := by
  intro n i x j h
  unfold funcNamesM at h
  split at h <;> cases h
  exact hm

theorem localNames_tell {s : ByteArray} {m : Mdl} (hm : AllRead s m) : Tell s (AllRead s) (localNamesM m) := by
  intro n i x j h
  unfold localNamesM at h
  split at h
  · cases h
  · split at h <;> cases h
    exact hm

theorem names_tell {s : ByteArray} {m : Mdl} (hm : AllRead s m) : Tell s (AllRead s) (namesM m) := by
  intro n i x j h
  unfold namesM at h
  split at h
  · cases h
  · split at h
    · cases h
    · rename_i ho
      have h1 := part_tell 1 m hm (funcNames_tell hm) ho
      exact part_tell 2 _ h1 (localNames_tell h1) h

theorem codes_tell {s : ByteArray} (m : Mdl) : Tell s (AllRead s) (codesM m) := by
  intro n i x j h
  unfold codesM at h
  split at h
  · cases h
  · split at h
    · split at h
      · cases h
      · rename_i ho
        cases h
        exact (code_tell s).listGo _ _ _ (by simp) ho
    · cases h

theorem cont_tell {s : ByteArray} {m : Mdl} (hm : AllRead s m) (which : Nat) : Tell s (AllRead s) (contM m which) := by
  intro n i x j h
  unfold contM at h
  split at h
  · exact names_tell hm h
  · unfold cont1M at h; split at h <;> cases h; exact hm
  · unfold cont3M at h; split at h <;> cases h; exact hm
  · unfold cont4M at h; split at h <;> cases h; exact hm
  · unfold cont5M at h; split at h <;> cases h; exact hm
  · unfold cont6M at h; split at h <;> cases h; exact hm
  · unfold cont7M at h; split at h <;> cases h; exact hm
  · unfold cont8M at h; split at h <;> cases h; exact hm
  · unfold cont9M at h; split at h <;> cases h; exact hm
  · exact codes_tell m h
  · unfold cont11M at h; split at h <;> cases h; exact hm
  · cases h; exact hm

theorem sec_tell {s : ByteArray} {m : Mdl} (hm : AllRead s m) (last : Nat) : Tell s (fun x : Mdl × Nat => AllRead s x.1) (secM m last) := by
  intro n i x j h
  unfold secM at h
  split at h
  · cases h
  · split at h
    · cases h
    · split at h
      · cases h
      · split at h
        · cases h
        · rename_i ho; cases h; exact (cont_tell hm _).within ho

theorem readGo_tell {s : ByteArray} {n : Nat} : ∀ (k : Nat) (m : Mdl) (last i : Nat) {m1 : Mdl} {j : Nat}, AllRead s m → readGo s n k m last i = .ok (m1, j) → AllRead s m1 := by
  intro k
  induction k with
  | zero => intro m last i m1 j hm h; simp [readGo] at h
  | succ k ih =>
    intro m last i m1 j hm h
    unfold readGo at h
    split at h
    · split at h <;> cases h
      exact hm
    · split at h
      · cases h
      · rename_i ho
        exact ih _ _ _ (sec_tell hm last ho) h

theorem readM_reads {s : ByteArray} {m : Mdl} {j : Nat} (h : readM s = .ok (m, j)) : AllRead s m := by
  unfold readM at h
  split at h
  · cases h
  · exact readGo_tell _ _ _ _ (by intro c hc; simp [Mdl.new] at hc) h

end Go.Proofs.YtgkpkngchploiaaGreat
/-
  checkCode.
-/
namespace Go.Proofs.YtgkpkngchploiaaGreat
open Go.RowKit

section
variable {K : Nat → Prop} {w : World} {mb : Nat} {s : ByteArray} {m : Mdl}

/-- A code of the module, by its index. -/
theorem codes_cell {ts : List Cod} {v : Value} (h : isLst 92 2 (elCode s) K ts w v) {k : Nat} (hk : k < ts.length) :
    ∃ g cap lv fv, v = .slice (some ⟨g, 0, none⟩) ts.length cap ∧ g < w.heap.size ∧ ts.length ≤ cap ∧ isKinds K ts[k].1 w lv ∧ isIter K s ts[k].2.1 ts[k].2.2 w fv ∧ w.cell? ⟨g, k * 2, none⟩ = some lv ∧ w.cell? ⟨g, k * 2 + 1, none⟩ = some fv := by
  obtain ⟨css, hrow, hea⟩ := h
  obtain ⟨g, cap, hv, -, hg, hc, hcell⟩ := Row.cells hrow (by omega)
  have hy : ts[k]? = some ts[k] := List.getElem?_eq_getElem hk
  obtain ⟨cs, hcs, ⟨⟨lv, fv, rfl, h1, h2⟩, -⟩⟩ := hea.get hy
  exact ⟨g, cap, lv, fv, hv, hg, hc, h1, h2, (hcell (k * 2) (by omega)).trans (Each.flat (o := 0) hea hcs (by omega)), (hcell (k * 2 + 1) (by omega)).trans (Each.flat (o := 1) hea hcs (by omega))⟩

/-- The module's codes, and where one of them lies. -/
theorem MV.code (h : MV s K w mb m) {k : Nat} (hk : k < m.codes.length) : ∃ g cap lv fv, w.cell? ⟨mb, 8, none⟩ = some (.slice (some ⟨g, 0, none⟩) m.codes.length cap) ∧ g < w.heap.size ∧ m.codes.length ≤ cap ∧ isKinds K m.codes[k].1 w lv ∧ isIter K s m.codes[k].2.1 m.codes[k].2.2 w fv ∧ w.cell? ⟨g, k * 2, none⟩ = some lv ∧ w.cell? ⟨g, k * 2 + 1, none⟩ = some fv := by
  obtain ⟨hK, f, hM, hH⟩ := h
  obtain ⟨g, cap, lv, fv, hv, hr⟩ := codes_cell hH.h8 hk
  have := (hM 8 (by simp [Fields.cells])).1
  refine ⟨g, cap, lv, fv, ?_, hr⟩
  rw [this, ← hv]
  rfl

theorem isLst.mono {α : Type} {E : TypeId} {size : Nat} {El : (Nat → Prop) → α → World → List Value → Prop} {ok ok' : Nat → Prop} {xs : List α} {v : Value} (h : isLst E size El ok xs w v) (hm : ∀ g, g < w.heap.size → ok g → ok' g)
    (he : ∀ x cs, El ok x w cs → El ok' x w cs) : isLst E size El ok' xs w v := by
  obtain ⟨css, h1, h2⟩ := h
  exact ⟨css, h1.mono hm, h2.to (fun x cs c => ⟨he x cs c.1, c.2⟩)⟩

/-- More may be read. -/
theorem MV.mono {K' : Nat → Prop} (h : MV s K w mb m) (hm : ∀ g, g < w.heap.size → K g → K' g) : MV s K' w mb m := by
  have hl := h.lt
  obtain ⟨hK, f, hM, H⟩ := h
  refine ⟨hm mb hl hK, f, hM, H.h0.mono hm ?_, Row.mono H.h1 hm, Row.mono H.h2 hm, Row.mono H.h3 hm, Row.mono H.h4 hm, Row.mono H.h5 hm, Row.mono H.h6 hm, H.h7.mono hm ?_, H.h8.mono hm ?_, Row.mono H.h9 hm, Row.mono H.h10 hm, H.h11.mono hm ?_, H.nil6, H.nil8, H.nil11⟩
  · rintro x cs ⟨a, b, e, c, d⟩; exact ⟨a, b, e, Row.mono c hm, Row.mono d hm⟩
  · rintro x cs ⟨a, e, c⟩; exact ⟨a, e, Row.mono c hm⟩
  · rintro x cs ⟨a, b, e, c, d⟩; exact ⟨a, b, e, Row.mono c hm, d.mono hm⟩
  · rintro x cs ⟨a, e, c⟩; exact ⟨a, e, Row.mono c hm⟩

end

end Go.Proofs.YtgkpkngchploiaaGreat
/-
  A code that is gone through: one instruction.
-/
namespace Go.Proofs.YtgkpkngchploiaaGreat
open Go.RowKit

theorem behOk.up {n N : Nat} {y : Beh} (h : behOk n y) (hn : n ≤ N) : behOk N y :=
  ⟨⟨h.1.1, h.1.2.1, Nat.le_trans h.1.2.2 hn⟩, h.2.1, fun z hz => ⟨(h.2.2.1 z hz).1, (h.2.2.1 z hz).2.1, Nat.le_trans (h.2.2.1 z hz).2.2 hn⟩, h.2.2.2⟩

theorem turns_else {os : List Nat} {o' : Option (List Nat)} {j x : Nat} (h : Turns os o' j x) (hx : x = 5) : 1 ≤ os.length := by
  subst hx
  rcases h with ⟨h, _⟩ | ⟨_, os2, h2, _⟩
  · omega
  · cases os with
    | nil => simp [nestM] at h2
    | cons a l => simp

theorem checkM_at_len {m : Mdl} {ls : List Nat} {s : ByteArray} {n j : Nat} {whole : Except Err Unit} {os : List Nat} {st : Bd} (h : Stands m ls s n whole (some os) j st) : st.blocks.length = os.length + 1 ∧ st.stack.length ≤ 16 * j := ⟨h.1, h.2.1⟩

section
variable {K0 F hand : Nat → Prop} {w W W2 : World} {mb vb bb l : Nat} {s : ByteArray} {m : Mdl}

theorem Gone.check {ls os : List Nat} {o' : Option (List Nat)} {n jj ee x : Nat} {whole : Except Err Unit} {y : Beh} {p0 pg pq : Option Addr} {c0 cg cq : Nat}
    (hG : Gone K0 w m ls s n whole vb bb (.pointer (some ⟨mb, 0, none⟩)) (.slice p0 ls.length c0) (some os) jj F W) (hMV : MV s K0 w mb m) (hLS : isKinds K0 ls w (.slice p0 ls.length c0)) (hbb : ¬ K0 bb)
    (ho : ModOk s.size m) (hs : s.size ≤ 5000) (hn : n ≤ s.size) (hfs : ∀ x ∈ m.funcs, 0 ≤ x.1 ∧ x.1 < (m.types.length : Int))
    (hos : os.length ≤ 50) (hT : Turns os o' jj x) (hx : x = bt s jj) (hjn : jj < n) (hje : jj < ee) (hbe : behM jj x s n (jj + 1) = .ok (y, ee))
    (hgv : isKinds hand y.gives W (.slice pg y.gives.length cg)) (hlv : isRow 62 2 numCells hand y.labels W (.slice pq y.labels.length cq))
    (hh : ∀ k, hand k → k < W.heap.size ∧ ¬ F k) (hFl : ¬ F l) (hhl : ¬ hand l) (kW2 : Kept (only l) W W2) :
    Calls Tryz.prog 40 #[.pointer (some ⟨bb, 0, none⟩), .agg (yC jj ee x y (.slice pg y.gives.length cg) (.slice pq y.labels.length cq)).toArray]
      (W2.setCell ⟨bb, 4, none⟩ (.int .i64 (jj : Nat))) fun e W3 =>
        (e = .returned (.tuple #[]) ∧ ∃ F', Gone K0 w m ls s n whole vb bb (.pointer (some ⟨mb, 0, none⟩)) (.slice p0 ls.length c0) o' ee F' W3 ∧ Kept F W2 W3 ∧ ∀ k, F' k → F k ∨ hand k ∨ W.heap.size ≤ k) ∨
        (∃ q p : Nat, e = gaveUp q p ∧ whole = .error (q, p) ∧ Kept (fun k => ¬ K0 k) w W3 ∧ Kept F W2 W3) := by
  obtain ⟨K, O, st, h1, h2, h3, h4, h5, h6, h7, h8, h9, h10, h11⟩ := hG
  obtain ⟨hbl, hst⟩ := checkM_at_len h11
  have hlO : ¬ O l := fun c => hFl ((h2 l).2 (.inr (.inl c)))
  have hlK : ¬ K l := fun c => hFl ((h2 l).2 (.inl c))
  have hlv' : l ≠ vb := fun c => hFl ((h2 l).2 (.inr (.inr c)))
  have hOb : O bb := h7.own
  have hFb : F bb := (h2 bb).2 (.inr (.inl hOb))
  have hbv : bb ≠ vb := fun c => h4 (c ▸ hOb)
  have hsz := kW2.size
  have hset : ∀ u, (W2.setCell ⟨bb, 4, none⟩ u).heap.size = W2.heap.size := fun u => by simp
  -- the state in W2, and behind the store
  have b2 : BodyAt K O W2 bb (.pointer (some ⟨mb, 0, none⟩)) (.slice p0 ls.length c0) st := h7.keep kW2 (fun k _ (e : k = l) => e ▸ ⟨hlO, hlK⟩)
  have hK3l : ∀ k, K k ∨ hand k → k < W2.heap.size := fun k hk => Nat.lt_of_lt_of_le (hk.elim (h7.kb k) (fun c => (hh k c).1)) hsz
  have b3 := (b2.moreK (K' := fun k => K k ∨ hand k) (fun k => .inl) (fun k hk c => c.elim (h7.dis k hk) (fun c => (hh k c).2 ((h2 k).2 (.inr (.inl hk))))) hK3l).place jj
  have k9 : Kept (fun k => ¬ K0 k) w (W2.setCell ⟨bb, 4, none⟩ (.int .i64 (jj : Nat))) := (h9.fresh kW2 (fun i hi (e : i = l) c => hlK (e ▸ h1 i c))).fresh (S' := only bb) ((Kept.refl _ _).own _) (fun i _ (e : i = bb) => e ▸ hbb)
  have kp : Kept (fun k => k = l ∨ k = bb) W (W2.setCell ⟨bb, 4, none⟩ (.int .i64 (jj : Nat))) := (kW2.mono (fun k _ (e : k = l) => .inl e)).fresh (S' := only bb) ((Kept.refl _ _).own _) (fun i _ (e : i = bb) => .inr e)
  have hhb : ¬ hand bb := fun c => (hh bb c).2 hFb
  have hno : ∀ g, g < W.heap.size → hand g → ¬ (g = l ∨ g = bb) := fun g _ hg c => c.elim (fun e => hhl (e ▸ hg)) (fun e => hhb (e ▸ hg))
  have hmv : MV s (fun k => K k ∨ hand k) (W2.setCell ⟨bb, 4, none⟩ (.int .i64 (jj : Nat))) mb m := (hMV.kept k9 (fun g _ hg c => c hg)).mono (fun g _ hg => .inl (h1 g hg))
  have hls : isKinds (fun k => K k ∨ hand k) ls (W2.setCell ⟨bb, 4, none⟩ (.int .i64 (jj : Nat))) (.slice p0 ls.length c0) := Row.mono (Row.kept hLS k9 (fun g _ hg c => c hg)) (fun g _ hg => .inl (h1 g hg))
  have hgs : isKinds (fun k => K k ∨ hand k) y.gives (W2.setCell ⟨bb, 4, none⟩ (.int .i64 (jj : Nat))) (.slice pg y.gives.length cg) := Row.mono (Row.kept hgv kp hno) (fun g _ hg => .inr hg)
  have hlb : isRow 62 2 numCells (fun k => K k ∨ hand k) y.labels (W2.setCell ⟨bb, 4, none⟩ (.int .i64 (jj : Nat))) (.slice pq y.labels.length cq) := Row.mono (Row.kept hlv kp hno) (fun g _ hg => .inr hg)
  have hy := (behM_ok hjn hbe).up hn
  have hstep := h11.step ho hn h8 hT hx hjn hje hbe
  have V2 : Blk (W2.setCell ⟨bb, 4, none⟩ (.int .i64 (jj : Nat))) vb [.pointer (some ⟨bb, 0, none⟩)] := (h10.kept kW2 h6 (fun (e : vb = l) => hlv' e.symm)).set_other hbv _
  have hkF : Kept F W2 (W2.setCell ⟨bb, 4, none⟩ (.int .i64 (jj : Nat))) := ((Kept.refl (only bb) _).own _).mono (fun k _ (e : k = bb) => e ▸ hFb)
  have hvb2 : vb < W2.heap.size := Nat.lt_of_lt_of_le h6 hsz
  refine (check_at (At.new b3 ⟨h8.floors, h8.short⟩ (by simp; omega) (by simp; omega)) (by simp; intro c; rw [c] at hbl; simp at hbl) hmv hls jj ee x y ⟨hy.1.1, hy.1.2.1⟩ (fun z hz => ⟨(hy.2.2.1 z hz).1, (hy.2.2.1 z hz).2.1⟩) hy.2.1 hlb hgs (by simp; omega) (by simp; omega) (fun h => by have := turns_else hT h; simp; omega) hfs (blockTypeM_facts ho hy).2 (typeAtM_facts ho hy.1).2 (typeOfM_facts ho)).mono ?_
  rintro e W3 ⟨hok3, herr3, hk3, -⟩
  have hsz3 := hk3.size
  rw [hset] at hsz3
  have kF3 : Kept F W2 W3 := hkF.fresh hk3 (fun i _ hO => (h2 i).2 (.inr (.inl hO)))
  have k93 : Kept (fun k => ¬ K0 k) w W3 := k9.fresh hk3 (fun i _ hO c => h7.dis i hO (h1 i c))
  cases hc : checkM m ls x y { st with at_ := jj } with
  | error qp =>
    obtain ⟨q, p⟩ := qp
    exact .inr ⟨q, p, herr3 _ _ hc, hstep.1 _ _ hc, k93, kF3⟩
  | ok st' =>
    obtain ⟨rfl, hA⟩ := hok3 _ hc
    obtain ⟨hS', hT'⟩ := hstep.2 _ hc
    obtain ⟨sv, bv, hB⟩ := hA.body
    refine .inl ⟨rfl, fun k => (K k ∨ hand k) ∨ ((O k ∨ W2.heap.size ≤ k) ∧ k < W3.heap.size) ∨ k = vb, ⟨fun k => K k ∨ hand k, fun k => (O k ∨ W2.heap.size ≤ k) ∧ k < W3.heap.size, st', fun k hk => .inl (h1 k hk), fun k => Iff.rfl, fun k hk => hk.2, ?_, ?_, by omega, ?_, hT', k93, V2.kept hk3 (by rw [hset]; exact hvb2) h4, hS'⟩, kF3, ?_⟩
    · rintro ⟨c | c, -⟩
      · exact h4 c
      · omega
    · rintro (c | c)
      · exact h5 c
      · exact (hh vb c).2 ((h2 vb).2 (.inr (.inr rfl)))
    · refine ⟨sv, bv, hB.more (fun k hk => ?_) (fun k hk c => ?_)⟩
      · obtain ⟨a, b⟩ := hk
        rw [hset] at b
        refine ⟨a.imp id (fun c => by rwa [hset] at c), by omega⟩
      · rcases hk with ⟨a | a, -⟩
        · exact c.elim (h7.dis k a) (fun c => (hh k c).2 ((h2 k).2 (.inr (.inl a))))
        · have := hK3l k c; omega
    · rintro k ((c | c) | ⟨c | c, -⟩ | c)
      · exact .inl ((h2 k).2 (.inl c))
      · exact .inr (.inl c)
      · exact .inl ((h2 k).2 (.inr (.inl c)))
      · exact .inr (.inr (by omega))
      · exact .inl ((h2 k).2 (.inr (.inr c)))

end

end Go.Proofs.YtgkpkngchploiaaGreat
/-
  checkCode.
-/
namespace Go.Proofs.YtgkpkngchploiaaGreat
open Go.RowKit

attribute [local go_sem] Oper.semAt_some

section
variable {K : Nat → Prop} {w : World} {mb : Nat} {s : ByteArray} {m : Mdl}

theorem Kept.sharp {S : Nat → Prop} {a b : World} (h : Kept S a b) (hs : ∀ k, k < a.heap.size → b.heap[k]? = a.heap[k]?) : Kept (fun _ => False) a b :=
  ⟨h.os, h.tape, h.output, h.size, fun k hk _ => hs k hk⟩

set_option maxRecDepth 100000 in
set_option maxHeartbeats 3200000 in
theorem checkCode_any {f : Nat} (hm : MV s K w mb m) (ho : ModOk s.size m) (hs : s.size ≤ 5000) (hr : AllRead s m) (hfs : ∀ x ∈ m.funcs, 0 ≤ x.1 ∧ x.1 < (m.types.length : Int)) (hf : f < m.funcs.length) (hc : m.codes.length = m.funcs.length) :
    Calls Tryz.prog 25 #[.pointer (some ⟨mb, 0, none⟩), .int .i64 (f : Nat)] w (Looks w (codeFit s m f)) := by
  have hmw := hm.lt
  have HM := hide hm
  have hfx := hfs _ (List.getElem_mem hf)
  refine (callsIn_wide (n := 10)).1 ?_
  refine callsIn_at Tryz.func25 rfl trivial ?_ ?_
  · simp only [Tryz.ntmps25, List.size_toArray, List.length_cons, List.length_nil, Nat.reduceAdd, Nat.reduceSub, Array.replicate_succ, Array.replicate_zero, List.push_toArray, List.append_toArray, List.nil_append, List.cons_append]
    refine wpAt_then ?_
    gi_wp2_with fail
    refine ⟨trivial, (callsIn_wide.2 (typeOf_any f hm hf hfx)).mono ?_⟩
    rintro e w1 ⟨hk1, v, rfl, hv⟩
    obtain ⟨vi, vo, rfl, hvi, hvo⟩ := hv
    obtain ⟨pi, ci, rfl⟩ := Row.shape hvi
    obtain ⟨po, co, rfl⟩ := Row.shape hvo
    have hm1 := hm.kept hk1 (fun _ _ _ c => c)
    have hfc : f < m.codes.length := by omega
    obtain ⟨g, cap, lv, fv, F8, hg, hcap, hlv, hit, G0, G1⟩ := hm1.code hfc
    obtain ⟨fb, rfl, -, hfb⟩ := hit
    have hfbl : fb < w1.heap.size := (Array.getElem?_eq_some_iff.1 hfb).1
    have HFB := hide hfb
    clear hfb
    obtain ⟨pl, cl, rfl⟩ := Row.shape hlv
    have hsz1 := hk1.size
    have hmw1 : mb < w1.heap.size := by omega
    have HVI := hide hvi
    have HVO := hide hvo
    have HLV := hide hlv
    have HM1 := hide hm1
    have HK1 := hide hk1
    have hfl : (f : Int) < (m.codes.length : Int) := by omega
    clear hvi hvo hlv hm hm1 hk1
    have HF : Hid (codeFit s m f = insFit m ((typeOfM m f).ins ++ (m.codes[f]).1) s (m.codes[f]).2.2 ((m.codes[f]).2.2 - (m.codes[f]).2.1) [] (m.codes[f]).2.1 ⟨[], [⟨2, [], (typeOfM m f).outs, 0, false⟩], 0⟩) := by
      show _ = _
      have hgd : m.codes.getD f ([], 0, 0) = m.codes[f] := by simp [hfc]
      unfold codeFit
      rw [hgd]
    have hty := typeOfM_facts ho f
    have hco : codOk s.size m.codes[f] := ho.codes.2 _ (List.getElem_mem hfc)
    have HRD := hide (hr _ (List.getElem_mem hfc))
    generalize m.codes[f] = cd at *
    obtain ⟨ls, from_, to_⟩ := cd
    have hco1 : ls.length ≤ 50 := hco.1
    have hco2 : from_ ≤ to_ := hco.2.1
    have hco3 : to_ ≤ s.size := hco.2.2
    generalize typeOfM m f = ty at *
    gi_wp2
    refine wpAt_then ?_
    gi_wp2
    refine wpAt_then ?_
    gi_wp2_with fail
    refine ⟨trivial, (callsIn_wide.2 (concat_any (ok := K) (us := ty.ins) (vs := ls) (pa := pi) (pb := pl) (ca := ci) (cb := cl) ?c0 ?c1 ?c2 ?c3 ?c4 (by omega) hco1)).mono ?_⟩
    case c0 => simp [go_sem]
    case c1 => simp [go_sem]
    case c2 => simp
    case c3 => exact Row.alloc (Row.alloc (Row.alloc HVI.out _) _) _
    case c4 => exact Row.alloc (Row.alloc (Row.alloc HLV.out _) _) _
    rintro e w2 ⟨v2, rfl, hk2, hr2⟩
    obtain ⟨p2, c2, rfl⟩ := Row.shape hr2
    have hsz2 := hk2.size
    simp at hsz2
    have K2 : Kept (fun _ => False) w1 w2 := ((((Kept.refl _ _).alloc _).alloc _).alloc _).trans hk2
    have HR2 := hide hr2
    have HK2 := hide K2
    have kB : Kept (fun _ => False) (w1.alloc (.cells #[.slice pi ty.ins.length ci, .slice po ty.outs.length co] 85)) w2 := (((Kept.refl _ _).alloc _).alloc _).trans hk2
    have B0 : w2.cell? ⟨w1.heap.size, 0, none⟩ = some (.slice pi ty.ins.length ci) := (kB.cell (p := ⟨w1.heap.size, 0, none⟩) (by simp) (fun c => c)).trans (by simp [go_sem])
    have B1 : w2.cell? ⟨w1.heap.size, 1, none⟩ = some (.slice po ty.outs.length co) := (kB.cell (p := ⟨w1.heap.size, 1, none⟩) (by simp) (fun c => c)).trans (by simp [go_sem])
    have C0 : w2.cell? ⟨w1.heap.size + 1, 0, none⟩ = some (.slice pl ls.length cl) := (hk2.cell (p := ⟨w1.heap.size + 1, 0, none⟩) (by simp) (fun c => c)).trans (by simp [go_sem])
    have C1 : w2.cell? ⟨w1.heap.size + 1, 1, none⟩ = some (.func (.func 114) #[] #[.pointer (some ⟨fb, 0, none⟩)]) := (hk2.cell (p := ⟨w1.heap.size + 1, 1, none⟩) (by simp) (fun c => c)).trans (by simp [go_sem])
    have hw12 : w1.heap.size + 1 < w2.heap.size := by omega
    have hw11 : w1.heap.size < w2.heap.size := by omega
    clear hk2 hr2 K2 kB F8 G0 G1
    gi_wp2
    refine wpAt_then ?_
    gi_wp2_with fail
    have hb3 : BodyAt (fun k => k < w2.heap.size) (fun k => k = w2.heap.size) ((w2.alloc (.cells #[(.pointer (some ⟨mb, 0, none⟩)), (.slice p2 (ty.ins.length + ls.length) c2), .slice none 0 0, .slice none 0 0, .int .i64 0] 97)).alloc (.cells #[.pointer (some ⟨w2.heap.size, 0, none⟩)] 93)) w2.heap.size (.pointer (some ⟨mb, 0, none⟩)) (.slice p2 (ty.ins.length + ls.length) c2) ⟨[], [], 0⟩ :=
      ⟨.slice none 0 0, .slice none 0 0, (Blk.new w2 #[(.pointer (some ⟨mb, 0, none⟩)), (.slice p2 (ty.ins.length + ls.length) c2), .slice none 0 0, .slice none 0 0, .int .i64 0] 97).kept ((Kept.refl (fun _ => False) _).alloc _) (by simp) (fun c => c), rfl, Row.nil _ _ _ _, ⟨[], Row.nil _ _ _ _, trivial⟩, fun k hk c => by omega, fun k hk => by simp; omega⟩
    have hk3 : ∀ o1 o2, Kept (fun _ => False) w2 ((w2.alloc o1).alloc o2) := fun o1 o2 => ((Kept.refl _ _).alloc _).alloc _
    have hvo2 : isKinds (fun k => k < w2.heap.size) ty.outs w2 (.slice po ty.outs.length co) := Row.mono (Row.kept HVO.out HK2.out (fun _ _ _ c => c)) (fun g hg _ => hg)
    refine ⟨trivial, (callsIn_wide.2 (enter_at (t := ⟨[], ty.outs⟩) 2 (At.new hb3 ⟨trivial, by simp⟩ (by simp) (by simp)) (fun c => absurd rfl c) (Row.nil _ _ _ _) (Row.kept hvo2 (hk3 _ _) (fun _ _ _ c => c)) (by simp) hty.2 (by simp) (by simp))).mono ?_⟩
    rintro e w4 ⟨hok4, -, hk4, -⟩
    obtain ⟨rfl, hA4⟩ := hok4 _ rfl
    have k24 : Kept (fun _ => False) w2 w4 := (hk3 _ _).fresh hk4 (fun i hi (c : i = w2.heap.size) => by omega)
    have hsz4 := hk4.size
    simp at hsz4
    have D0 : w4.cell? ⟨w1.heap.size + 1, 0, none⟩ = some (.slice pl ls.length cl) := (k24.cell (p := ⟨w1.heap.size + 1, 0, none⟩) hw12 (fun c => c)).trans C0
    have D1 : w4.cell? ⟨w1.heap.size + 1, 1, none⟩ = some (.func (.func 114) #[] #[.pointer (some ⟨fb, 0, none⟩)]) := (k24.cell (p := ⟨w1.heap.size + 1, 1, none⟩) hw12 (fun c => c)).trans C1
    have V4 : Blk w4 (w2.heap.size + 1) [.pointer (some ⟨w2.heap.size, 0, none⟩)] := (Blk.new' (w := w2.alloc (.cells #[(.pointer (some ⟨mb, 0, none⟩)), (.slice p2 (ty.ins.length + ls.length) c2), .slice none 0 0, .slice none 0 0, .int .i64 0] 97)) (c := #[.pointer (some ⟨w2.heap.size, 0, none⟩)]) (t := 93) (by simp)).kept hk4 (by simp) (fun (c : w2.heap.size + 1 = w2.heap.size) => by omega)
    have HA4 := hide hA4
    have HV4 := hide V4
    have HK4 := hide k24
    clear hok4 hA4 hk4 hb3 hvo2 hk3 C0 C1 B0 B1 k24 V4
    gi_wp2
    refine wpAt_then ?_
    gi_wp2
    refine wpAt_block ?_
    have hA5 := HA4.out
    have k25 := HK4.out
    have V5 := HV4.out
    have hfb4 := (HK4.out.block fb (by omega) (fun c => c)).trans ((HK2.out.block fb hfbl (fun c => c)).trans HFB.out)
    refine wpAt_range (m := 8) (fb := fb) (s := s) (i := from_) (n := to_) (Bad := fun q p W => codeFit s m f = .error (q, p) ∧ Kept (fun k => ¬ k < w2.heap.size) w2 W) (I := Gone (fun k => k < w2.heap.size) w2 m (ty.ins ++ ls) s to_ (codeFit s m f) (w2.heap.size + 1) w2.heap.size (.pointer (some ⟨mb, 0, none⟩)) (.slice p2 (ty.ins ++ ls).length c2)) (F0 := fun k => k < w2.heap.size ∨ (k = w2.heap.size ∨ w2.heap.size + 2 ≤ k ∧ k < w4.heap.size) ∨ k = w2.heap.size + 1) ⟨_, Tryz.func25⟩ (by rfl) enters_iter ?hf ?hI ?hw ?hdone ?hstop ?hbad
    case hf => exact rd_of_heap hfb4 hco2 hco3 hs
    case hI =>
      rw [List.length_append]
      obtain ⟨sv, bv, hB⟩ := hA5.body
      refine ⟨fun k => k < w2.heap.size, fun k => k = w2.heap.size ∨ w2.heap.size + 2 ≤ k ∧ k < w4.heap.size, ⟨[], [⟨2, [], ty.outs, 0, false⟩], 0⟩, fun k h => h, fun k => Iff.rfl, fun k hk => by omega, by omega, by omega, by omega, ⟨sv, bv, hB.more (fun k hk => ?_) (fun k hk c => by omega)⟩, hA5.tidy, k25.mono (fun _ _ c => c.elim), V5, rfl, Nat.zero_le _, to_ - from_, Nat.le_refl _, HF.out⟩
      obtain ⟨h1, h2⟩ := hk
      simp [More] at h1 h2
      omega
    case hw =>
      have HMV2 : Hid (MV s (fun k => k < w2.heap.size) w2 mb m) := (HM1.out.kept HK2.out (fun _ _ _ c => c)).mono (fun g hg _ => hg)
      have HLS2 : Hid (isKinds (fun k => k < w2.heap.size) (ty.ins ++ ls) w2 (.slice p2 (ty.ins ++ ls).length c2)) := Row.mono HR2.out (fun g hg _ => hg)
      clear hA5 k25 V5 HA4 HV4 HR2 D0 D1 hfb4
      refine ⟨fun o j F W W' S h hk hs => h.still hk hs, fun o j F W k h hk => h.lt hk, ?_⟩
      rintro l os o' jj F W ee x y gv lvl hand hG he hj hos hT hxe hjn hbe hgv hlv hh hFl hlW hhl
      obtain ⟨pg, cg, rfl⟩ := Row.shape hgv
      obtain ⟨pq, cq, rfl⟩ := Row.shape hlv
      have HCK := hide (fun W2 (kW2 : Kept (only l) W W2) => hG.check (l := l) HMV2.out HLS2.out (Nat.lt_irrefl _) ho hs hco3 hfs hos hT hxe hjn hj hbe hgv hlv hh hFl hhl kW2)
      obtain ⟨K2, O2, st2, h1, h2, -, -, -, h6, h7, -, -, h10, -⟩ := hG
      have hlv' : l ≠ w2.heap.size + 1 := fun c => hFl ((h2 l).2 (.inr (.inr c)))
      have hlO : ¬ O2 l := fun c => hFl ((h2 l).2 (.inr (.inl c)))
      have hlK : ¬ K2 l := fun c => hFl ((h2 l).2 (.inl c))
      clear hT hxe hbe hgv hlv hh hhl h1 h2
      refine ⟨W.alloc (.cells (yC jj ee x y (.slice pg y.gives.length cg) (.slice pq y.labels.length cq)).toArray 100), { tmps := #[.pointer (some ⟨mb, 0, none⟩), .int .i64 (f : Nat), undef, undef, .pointer (some ⟨w1.heap.size, 0, none⟩), .pointer (some ⟨w1.heap.size + 1, 0, none⟩), .pointer (some ⟨w2.heap.size + 1, 0, none⟩), .pointer (some ⟨W.heap.size, 0, none⟩), .pointer (some ⟨mb, 0, none⟩), .int .i64 (f : Nat), .agg #[.slice pi ty.ins.length ci, .slice po ty.outs.length co], .pointer (some ⟨mb, 0, none⟩), .pointer (some ⟨mb, 0, none⟩), .pointer (some ⟨mb, 8, none⟩), .slice (some ⟨g, 0, none⟩) m.funcs.length cap, .int .i64 (f : Nat), .pointer (some ⟨g, f * 2, none⟩), .agg #[.slice pl ls.length cl, .func (.func 114) #[] #[.pointer (some ⟨fb, 0, none⟩)]], .pointer (some ⟨mb, 0, none⟩), .pointer (some ⟨w1.heap.size, 0, none⟩), .slice pi ty.ins.length ci, .pointer (some ⟨w1.heap.size + 1, 0, none⟩), .slice pl ls.length cl, .slice (some ⟨w1.heap.size + 1 + 1, 0, none⟩) 2 2, .slice p2 (ty.ins.length + ls.length) c2, .agg #[.pointer (some ⟨mb, 0, none⟩), .slice p2 (ty.ins.length + ls.length) c2, .slice none 0 0, .slice none 0 0, .int .i64 0], .pointer (some ⟨w2.heap.size, 0, none⟩), .pointer (some ⟨w2.heap.size, 0, none⟩), .pointer (some ⟨w1.heap.size, 1, none⟩), .slice po ty.outs.length co, .agg #[.slice none 0 0, .slice po ty.outs.length co], .tuple #[], .pointer (some ⟨w1.heap.size + 1, 1, none⟩), .func (.func 114) #[] #[.pointer (some ⟨fb, 0, none⟩)], .agg (yC jj ee x y (.slice pg y.gives.length cg) (.slice pq y.labels.length cq)).toArray, undef, undef, undef, undef, undef, undef, undef, undef], defers := [] }, fun KK hK => ?_, (Kept.refl _ _).alloc _, fun W2 hk2 => ?_⟩
      · simp only [insCells]
        gi_wp2
        exact hK
      · have hb2 : Blk W2 W.heap.size (yC jj ee x y (.slice pg y.gives.length cg) (.slice pq y.labels.length cq)) := (Blk.new W (yC jj ee x y (.slice pg y.gives.length cg) (.slice pq y.labels.length cq)).toArray 100).kept hk2 (by simp) (fun (e : W.heap.size = l) => by omega)
        have h72 := (h7.alloc (.cells (yC jj ee x y (.slice pg y.gives.length cg) (.slice pq y.labels.length cq)).toArray 100)).keep hk2 (fun k _ (e : k = l) => e ▸ ⟨hlO, hlK⟩)
        have V2 := (h10.alloc h6 (.cells (yC jj ee x y (.slice pg y.gives.length cg) (.slice pq y.labels.length cq)).toArray 100)).kept hk2 (by simp; omega) (fun e => hlv' e.symm)
        have kW2 : Kept (only l) W W2 := ((Kept.refl _ _).alloc _).trans hk2
        have hbb := h7.lt
        have hvW2 : w2.heap.size + 1 < W2.heap.size := Nat.lt_of_lt_of_le h6 kW2.size
        have hbW2 : w2.heap.size < W2.heap.size := by omega
        have hne : ¬ W.heap.size = w2.heap.size := by omega
        obtain ⟨⟨I0, J0⟩, ⟨I1, J1⟩, ⟨I2, J2⟩, ⟨I3, J3⟩, ⟨I4, J4⟩, ⟨I5, J5⟩, ⟨I6, J6⟩, ⟨I7, J7⟩, ⟨I8, J8⟩, ⟨I9, J9⟩⟩ := hb2.ten
        obtain ⟨P0, P1⟩ := V2.oneC
        obtain ⟨Q4, R4⟩ : ∃ u, W2.cell? ⟨w2.heap.size, 4, none⟩ = some u ∧ W2.frozen? ⟨w2.heap.size, 4, none⟩ = false := by
          obtain ⟨sv, bv, hBV⟩ := h72
          obtain ⟨-, -, -, -, ⟨a, b⟩⟩ := hBV.blk.five
          exact ⟨_, a, b⟩
        obtain ⟨R4, S4⟩ := R4
        have HC2 := hide (HCK.out W2 kW2)
        clear h72 hb2 V2 h7 h10 HCK
        dsimp only
        gi_wp2_with fail
        refine ⟨trivial, (CallsIn.inRound l (callsIn_wide.2 HC2.out)).mono ?_⟩
        rintro e W3 (⟨rfl, F', hG', hk', hF'⟩ | ⟨q, p, rfl, hw, hkk, hk'⟩)
        · gi_wp2
          exact ⟨F', hG', hk', hF'⟩
        · exact ⟨q, p, rfl, ⟨hw, hkk.mono (fun k _ c => by omega)⟩, hk'⟩
    case hdone =>
      intro D j2 F' W' hins hI' hD hdef hkw
      obtain ⟨K2, O2, st2, -, -, -, -, -, -, -, -, hsame, -, hst⟩ := hI'
      have hst : codeFit s m f = .ok () := hst
      have hD0 : w2.heap.size ≤ D := by have := k25.size; omega
      have hkw3 : Kept (fun _ => False) w (W'.putObj D (.deferred none)) := ((HK1.out.trans HK2.out).trans (((k25.mono (fun _ _ c => c.elim)).trans hkw).sharp (fun k hk => hsame.block k hk (fun c => c hk)))).fresh Kept.putObj (fun k hk (e : k = D) => by omega)
      refine ⟨by simp, .inl ⟨D, _, rfl, run_takeDeferred hdef, ?_⟩⟩
      exact ⟨_, results_none rfl _ _ _, Says.ok_mk hst hkw3 rfl⟩
    case hstop =>
      intro D q p chain W' hins hch hD hdef hkw
      obtain ⟨j, hj⟩ := HRD.out
      have hj : insM s to_ from_ = .ok j := hj
      rw [hj] at hins
      cases hins
    case hbad =>
      intro D q p chain W' hb hch hD hdef hkw
      have hD0 : w2.heap.size ≤ D := by have := k25.size; omega
      have hkw3 : Kept (fun _ => False) w (W'.putObj D (.deferred none)) := ((HK1.out.trans HK2.out).trans (((k25.mono (fun _ _ c => c.elim)).trans hkw).sharp (fun k hk => hb.2.block k hk (fun c => c hk)))).fresh Kept.putObj (fun k hk (e : k = D) => by omega)
      refine ⟨by simp, .inl ⟨D, _, rfl, run_takeDeferred hdef, ?_⟩⟩
      show Looks _ _ (Ending.panicked chain) _
      rw [hch]
      exact Says.err_mk hb.1 hkw3
  · intro w' h
    cases hr : codeFit s m f with
    | error qp =>
      have := h.err qp.1 qp.2 hr
      cases this
    | ok x =>
      obtain ⟨v, e, -⟩ := h.ok _ hr
      cases e

end

end Go.Proofs.YtgkpkngchploiaaGreat
/-
  many, checkExports.
-/
namespace Go.Proofs.YtgkpkngchploiaaGreat
open Go.RowKit

section
variable {K : Nat → Prop} {w : World} {mb : Nat} {s : ByteArray} {m : Mdl}

/-- The lengths of what an export may be of. -/
theorem MV.four (h : MV s K w mb m) : ∃ p1 c1 p2 c2 p3 c3 p4 c4, w.cell? ⟨mb, 1, none⟩ = some (.slice p1 m.funcs.length c1) ∧ w.cell? ⟨mb, 2, none⟩ = some (.slice p2 m.tables.length c2) ∧ w.cell? ⟨mb, 3, none⟩ = some (.slice p3 m.mems.length c3) ∧ w.cell? ⟨mb, 4, none⟩ = some (.slice p4 m.globals.length c4) := by
  obtain ⟨-, f, hM, hH⟩ := h
  obtain ⟨-, ⟨F1, -⟩, ⟨F2, -⟩, ⟨F3, -⟩, ⟨F4, -⟩, -⟩ := hM.twelve.1
  obtain ⟨p1, c1, h1⟩ := Row.shape hH.h1
  obtain ⟨p2, c2, h2⟩ := Row.shape hH.h2
  obtain ⟨p3, c3, h3⟩ := Row.shape hH.h3
  obtain ⟨p4, c4, h4⟩ := Row.shape hH.h4
  rw [h1] at F1
  rw [h2] at F2
  rw [h3] at F3
  rw [h4] at F4
  exact ⟨p1, c1, p2, c2, p3, c3, p4, c4, F1, F2, F3, F4⟩

set_option maxHeartbeats 800000 in
theorem many_any (hm : MV s K w mb m) (x : Nat) :
    Calls Tryz.prog 36 #[.pointer (some ⟨mb, 0, none⟩), .int .u8 (x : Nat)] w fun e w' => e = .returned (.int .i64 (manyM m x : Nat)) ∧ w' = w := by
  have hmw := hm.lt
  obtain ⟨p1, c1, p2, c2, p3, c3, p4, c4, F1, F2, F3, F4⟩ := hm.four
  clear hm
  by_cases h0 : x = 0
  · have t0 : ((x : Int) == 0) = true := by simp; omega
    have HH : Hid (manyM m x = m.funcs.length) := by show _ = _; simp [manyM, h0]
    clear h0
    go_enter Tryz.func36, Tryz.ntmps36
    go_wp2
    go_ret
    exact ⟨by rw [HH.out]; rfl, rfl⟩
  have t0 : ((x : Int) == 0) = false := by simp; omega
  by_cases h1 : x = 1
  · have t1 : ((x : Int) == 1) = true := by simp; omega
    have HH : Hid (manyM m x = m.tables.length) := by show _ = _; simp [manyM, h1]
    clear h0 h1
    go_enter Tryz.func36, Tryz.ntmps36
    go_wp2
    go_ret
    exact ⟨by rw [HH.out]; rfl, rfl⟩
  have t1 : ((x : Int) == 1) = false := by simp; omega
  by_cases h2 : x = 2
  · have t2 : ((x : Int) == 2) = true := by simp; omega
    have HH : Hid (manyM m x = m.mems.length) := by show _ = _; simp [manyM, h2]
    clear h0 h1 h2
    go_enter Tryz.func36, Tryz.ntmps36
    go_wp2
    go_ret
    exact ⟨by rw [HH.out]; rfl, rfl⟩
  have t2 : ((x : Int) == 2) = false := by simp; omega
  have HH : Hid (manyM m x = m.globals.length) := by show _ = _; simp [manyM, h0, h1, h2]
  clear h0 h1 h2
  go_enter Tryz.func36, Tryz.ntmps36
  go_wp2
  go_ret
  exact ⟨by rw [HH.out]; rfl, rfl⟩

theorem manyM_le (x : Nat) (h1 : m.funcs.length ≤ 20) (h2 : m.tables.length ≤ 20) (h3 : m.mems.length ≤ 20) (h4 : m.globals.length ≤ 20) : manyM m x ≤ 20 := by
  unfold manyM
  split
  · exact h1
  split
  · exact h2
  split
  · exact h3
  exact h4

/-- Is the name of the k-th export that of an earlier one? -/
def twiceB (m : Mdl) (k : Nat) (t : ByteArray) : Bool := (m.exports.take k).any (fun e' => decide (e'.name.data.toList = t.data.toList))

theorem twice_step {t : ByteArray} {i : Nat} (hi : i < m.exports.length) : twiceB m (i + 1) t = (twiceB m i t || (m.exports[i].name.toList == t.toList)) := by
  unfold twiceB
  rw [List.take_succ_eq_append_getElem hi, List.any_append]
  simp only [List.any_cons, List.any_nil, Bool.or_false, ByteArray.toList_eq]
  congr 1
  rw [Bool.eq_iff_iff]
  simp

theorem twice_more {t : ByteArray} {i k : Nat} (hik : i ≤ k) (h : twiceB m i t = true) : twiceB m k t = true := by
  unfold twiceB at *
  rw [List.any_eq_true] at *
  obtain ⟨x, hx, hp⟩ := h
  exact ⟨x, (List.take_subset_take_left _ hik) hx, hp⟩

theorem exportFit_twice {k : Nat} (hk : k < m.exports.length) (h : twiceB m k m.exports[k].name = true) : exportFit m k = .error (6, m.exports[k].nameAt) := by
  unfold exportFit
  rw [List.getElem?_eq_getElem hk]
  exact if_pos h

theorem exportFit_once {k : Nat} (hk : k < m.exports.length) (h : twiceB m k m.exports[k].name = false) : exportFit m k = thereU (manyM m m.exports[k].of_) m.exports[k].idx := by
  unfold exportFit
  rw [List.getElem?_eq_getElem hk]
  exact if_neg (fun c => by unfold twiceB at h; rw [h] at c; cases c)

set_option maxRecDepth 100000 in
set_option maxHeartbeats 6400000 in
theorem checkExports_any (hm : MV s K w mb m) (hl : m.exports.length ≤ 50) (hx : ∀ x ∈ m.exports, 0 ≤ x.idx.1 ∧ x.idx.1 ≤ 4294967295) :
    Calls Tryz.prog 22 #[.pointer (some ⟨mb, 0, none⟩)] w (Looks w (eachM (exportFit m) (List.range m.exports.length))) := by
  have hmw := hm.lt
  have HMV := hide hm
  obtain ⟨hK, f, hM, hH⟩ := hm
  obtain ⟨F, G⟩ := hM.twelve.1.2.2.2.2.2
  obtain ⟨p, c, hf⟩ := Row.shape hH.h5
  have hr := hH.h5
  rw [hf] at F hr
  have HX := hide hx
  clear hH hM hf hx hK
  have H0 : Hid (eachM (exportFit m) (List.range m.exports.length) = eachM (exportFit m) ((List.range m.exports.length).drop 0)) := by show _ = _; simp
  go_enter Tryz.func22, Tryz.ntmps22
  go_wp2
  go_loopw [11] (fun q wo => ∃ k : Nat, k ≤ m.exports.length ∧ q = .int .i64 k ∧ Kept (fun _ => False) w wo ∧ eachM (exportFit m) (List.range m.exports.length) = eachM (exportFit m) ((List.range m.exports.length).drop k)) (fun q _ => m.exports.length - (intOf q).toNat)
  case atStart => exact ⟨0, Nat.zero_le _, rfl, Kept.refl _ _, H0.out⟩
  case round =>
    obtain ⟨k, hk, rfl, hkp, hme⟩ := hrel
    obtain ⟨wo, hwo⟩ : ∃ x, x = wr := ⟨wr, rfl⟩
    subst hwo
    have HE := hide hme
    clear hme H0
    by_cases hlt : k < m.exports.length
    · have hlt' : (k : Int) < (m.exports.length : Int) := by omega
      have hrr : isRow 81 5 Exp.cells K m.exports wo (.slice p m.exports.length c) := Row.kept hr hkp (fun _ _ _ hc => hc)
      have HRW := hide hrr
      obtain ⟨g, cap, hv, -, hgl, hcap, hcell⟩ := Row.cells hrr (by omega)
      cases hv
      have hy : m.exports[k]? = some m.exports[k] := List.getElem?_eq_getElem hlt
      have hrk : (List.range m.exports.length)[k]'(by simpa using hlt) = k := by simp
      have HB : Hid (∀ e, exportFit m k = .error e → eachM (exportFit m) (List.range m.exports.length) = .error e) := fun e he => HE.out.trans (eachM_bad (by simpa using hlt) (by rw [hrk]; exact he))
      have HO : Hid (exportFit m k = .ok () → eachM (exportFit m) (List.range m.exports.length) = eachM (exportFit m) ((List.range m.exports.length).drop (k + 1))) := fun he => HE.out.trans (eachM_ok (by simpa using hlt) (by rw [hrk]; exact he))
      have c0 : wo.cell? ⟨g, k * 5, none⟩ = some (.int .i64 (m.exports[k].nameAt : Nat)) := (hcell (k * 5) (by omega)).trans (flat_get (m := 5) (o := 0) (fun _ => rfl) hy (by omega))
      have c1 : wo.cell? ⟨g, k * 5 + 1, none⟩ = some (.string m.exports[k].name) := (hcell (k * 5 + 1) (by omega)).trans (flat_get (m := 5) (o := 1) (fun _ => rfl) hy (by omega))
      have c2 : wo.cell? ⟨g, k * 5 + 2, none⟩ = some (.int .u8 (m.exports[k].of_ : Nat)) := (hcell (k * 5 + 2) (by omega)).trans (flat_get (m := 5) (o := 2) (fun _ => rfl) hy (by omega))
      have c3 : wo.cell? ⟨g, k * 5 + 3, none⟩ = some (.int .u32 m.exports[k].idx.1) := (hcell (k * 5 + 3) (by omega)).trans (flat_get (m := 5) (o := 3) (fun _ => rfl) hy (by omega))
      have c4 : wo.cell? ⟨g, k * 5 + 4, none⟩ = some (.int .i64 (m.exports[k].idx.2 : Nat)) := (hcell (k * 5 + 4) (by omega)).trans (flat_get (m := 5) (o := 4) (fun _ => rfl) hy (by omega))
      have HF2 := hide (exportFit_twice hlt)
      have HF1 := hide (exportFit_once hlt)
      have hxk := HX.out _ (List.getElem_mem hlt)
      have Fr := (hkp.cell (p := ⟨mb, 5, none⟩) hmw (fun c => c)).trans F
      have hmr : mb < wo.heap.size := Nat.lt_of_lt_of_le hmw hkp.size
      have hck : (k : Int) ≤ (c : Int) := by omega
      have n1 := World.new_ne wo _ Fr
      clear hcell hrr hy hrk F
      generalize m.exports[k] = x at *
      obtain ⟨xa, xn, xo, xi, xp⟩ := x
      simp only at c0 c1 c2 c3 c4 HF1 HF2 hxk
      obtain ⟨hx0, hx1⟩ := hxk
      go_wp2
      go_loopw [23] (fun q wr => ∃ i : Nat, i ≤ k ∧ q = .int .i64 i ∧ Kept (fun _ => False) (wo.alloc (.cells #[.int .i64 (xa : Nat), .string xn, .int .u8 (xo : Nat), .int .u32 xi, .int .i64 (xp : Nat)] 81)) wr ∧ twiceB m i xn = false) (fun q _ => k - (intOf q).toNat)
      case atStart => exact ⟨0, Nat.zero_le _, rfl, Kept.refl _ _, rfl⟩
      case round =>
        obtain ⟨i, hi, rfl, hkv, htw⟩ := hrel
        have HT := hide htw
        clear htw
        have hwr : wo.heap.size < (wo.alloc (.cells #[.int .i64 (xa : Nat), .string xn, .int .u8 (xo : Nat), .int .u32 xi, .int .i64 (xp : Nat)] 81)).heap.size := by simp
        have hwv : wo.heap.size < wr.heap.size := Nat.lt_of_lt_of_le hwr hkv.size
        have V0 : wr.cell? ⟨wo.heap.size, 0, none⟩ = some (.int .i64 (xa : Nat)) := (hkv.cell (p := ⟨wo.heap.size, 0, none⟩) hwr (fun c => c)).trans (by simp)
        have V1 : wr.cell? ⟨wo.heap.size, 1, none⟩ = some (.string xn) := (hkv.cell (p := ⟨wo.heap.size, 1, none⟩) hwr (fun c => c)).trans (by simp)
        have V2 : wr.cell? ⟨wo.heap.size, 2, none⟩ = some (.int .u8 (xo : Nat)) := (hkv.cell (p := ⟨wo.heap.size, 2, none⟩) hwr (fun c => c)).trans (by simp)
        have V3 : wr.cell? ⟨wo.heap.size, 3, none⟩ = some (.int .u32 xi) := (hkv.cell (p := ⟨wo.heap.size, 3, none⟩) hwr (fun c => c)).trans (by simp)
        have V4 : wr.cell? ⟨wo.heap.size, 4, none⟩ = some (.int .i64 (xp : Nat)) := (hkv.cell (p := ⟨wo.heap.size, 4, none⟩) hwr (fun c => c)).trans (by simp)
        have hkv0 : Kept (fun _ => False) wo wr := ((Kept.refl _ _).alloc _).trans hkv
        by_cases hik : i < k
        · have hik' : (i : Int) < (k : Int) := by omega
          have hil : i < m.exports.length := by omega
          have hry : isRow 81 5 Exp.cells K m.exports wr (.slice (some ⟨g, 0, none⟩) m.exports.length c) := Row.kept HRW.out hkv0 (fun _ _ _ hc => hc)
          obtain ⟨g', cap', hv', -, hgl', hcap', hcell'⟩ := Row.cells hry (by omega)
          cases hv'
          have hyi : m.exports[i]? = some m.exports[i] := List.getElem?_eq_getElem hil
          have d0 : wr.cell? ⟨g, i * 5, none⟩ = some (.int .i64 (m.exports[i].nameAt : Nat)) := (hcell' (i * 5) (by omega)).trans (flat_get (m := 5) (o := 0) (fun _ => rfl) hyi (by omega))
          have d1 : wr.cell? ⟨g, i * 5 + 1, none⟩ = some (.string m.exports[i].name) := (hcell' (i * 5 + 1) (by omega)).trans (flat_get (m := 5) (o := 1) (fun _ => rfl) hyi (by omega))
          have d2 : wr.cell? ⟨g, i * 5 + 2, none⟩ = some (.int .u8 (m.exports[i].of_ : Nat)) := (hcell' (i * 5 + 2) (by omega)).trans (flat_get (m := 5) (o := 2) (fun _ => rfl) hyi (by omega))
          have d3 : wr.cell? ⟨g, i * 5 + 3, none⟩ = some (.int .u32 m.exports[i].idx.1) := (hcell' (i * 5 + 3) (by omega)).trans (flat_get (m := 5) (o := 3) (fun _ => rfl) hyi (by omega))
          have d4 : wr.cell? ⟨g, i * 5 + 4, none⟩ = some (.int .i64 (m.exports[i].idx.2 : Nat)) := (hcell' (i * 5 + 4) (by omega)).trans (flat_get (m := 5) (o := 4) (fun _ => rfl) hyi (by omega))
          have HS := hide (twice_step (t := xn) hil)
          clear hcell' hry hyi
          generalize m.exports[i] = z at *
          cases hz : (z.name.toList == xn.toList) with
          | true =>
            have HN : Hid (eachM (exportFit m) (List.range m.exports.length) = .error (6, xa)) := HB.out _ (HF2.out (twice_more (i := i + 1) (by omega) (by rw [HS.out, hz, Bool.or_true])))
            clear HB HO HF1 HF2 HS HT HE HRW
            go_wp2_with fail
            refine (giveUp_any _ _ _).mono ?_
            rintro e w3 ⟨rfl, rfl⟩
            exact ⟨rfl, Says.err_mk HN.out ((hkp.trans hkv0).alloc _)⟩
          | false =>
            have HN : Hid (twiceB m (i + 1) xn = false) := by show _ = _; rw [HS.out, HT.out, hz]; rfl
            clear HB HO HF1 HF2 HS HT HE
            go_wp2
            go_roundw
            case rel => exact ⟨i + 1, by omega, by go_num, hkv.alloc _, HN.out⟩
            case measure => simp [intOf]; omega
        · have hik2 : i = k := by omega
          subst hik2
          have hf1 := HF1.out HT.out
          have HHeld : Hid ((fun w' : World => w'.cell? ⟨wo.heap.size, 2, none⟩ = some (.int .u8 (xo : Nat)) ∧ w'.cell? ⟨wo.heap.size, 3, none⟩ = some (.int .u32 xi) ∧ w'.cell? ⟨wo.heap.size, 4, none⟩ = some (.int .i64 (xp : Nat))) wr.drew) := ⟨V2, V3, V4⟩
          have HMW := hide (HMV.out.kept ((hkp.trans hkv0).drew) (fun _ _ _ c => c))
          by_cases hth : xi < (manyM m xo : Int)
          · have HN : Hid (eachM (exportFit m) (List.range m.exports.length) = eachM (exportFit m) ((List.range m.exports.length).drop (i + 1))) := HO.out (by rw [hf1]; simp [thereU, hth])
            clear HB HO HF1 HF2 HT HE HRW hf1
            go_wp2_with fail
            refine wp_region_held_drew (S := fun w' : World => w'.cell? ⟨wo.heap.size, 2, none⟩ = some (.int .u8 (xo : Nat)) ∧ w'.cell? ⟨wo.heap.size, 3, none⟩ = some (.int .u32 xi) ∧ w'.cell? ⟨wo.heap.size, 4, none⟩ = some (.int .i64 (xp : Nat))) (by kernel_rfl) HHeld.out (fun _ => ?_)
            refine tkh 0 HHeld.out (h := ?_)
            refine tkh 1 HHeld.out (h := ?_)
            refine tkh 2 HHeld.out (h := ?_)
            refine tkh 3 HHeld.out (h := ?_)
            refine tkh 4 HHeld.out (h := ?_)
            refine wpAnyH_all (rs := [5]) (by kernel_rfl) (by simp) ?_
            intro i hi
            rw [List.mem_singleton] at hi
            subst hi
            refine wpOp_calls (f := 36) (args := #[.pointer (some ⟨mb, 0, none⟩), .int .u8 (xo : Nat)]) rfl rfl (by kernel_rfl) (many_any HMW.out xo) ?_
            rintro ee w2 ⟨rfl, rfl⟩
            refine .inl ⟨_, rfl, HHeld.out, ?_⟩
            refine wpAnyH_all (rs := [6]) (by kernel_rfl) (by simp) ?_
            intro i hi
            rw [List.mem_singleton] at hi
            subst hi
            refine wpOp_calls (f := 19) (args := #[.agg #[.int .u32 xi, .int .i64 (xp : Nat)], .int .i64 (manyM m xo : Nat)]) rfl rfl (by kernel_rfl) (there_ok _ hth hx0 hx1) ?_
            rintro ee w2 ⟨rfl, rfl⟩
            refine .inl ⟨_, rfl, ?_, ?_⟩
            · obtain ⟨q0, q1, q2⟩ := HHeld.out
              exact ⟨(World.cell?_alloc_lt _ _ _ hwv).trans q0, (World.cell?_alloc_lt _ _ _ hwv).trans q1, (World.cell?_alloc_lt _ _ _ hwv).trans q2⟩
            refine wpAnyH_done (by kernel_rfl) ?_ _
            dsimp only [Act.put, List.setIfInBounds_toArray, List.set_cons_zero, List.set_cons_succ]
            go_wp2
            go_roundw
            case rel => exact ⟨i + 1, by omega, by go_num, (hkp.trans hkv0).drew.alloc _, HN.out⟩
            case measure => simp [intOf]; omega
          · have HN : Hid (eachM (exportFit m) (List.range m.exports.length) = .error (3, xp)) := HB.out _ (by rw [hf1]; simp [thereU, hth])
            have hge : (manyM m xo : Int) ≤ xi := by omega
            clear HB HO HF1 HF2 HT HE HRW hf1
            go_wp2_with fail
            refine wp_region_held_drew (S := fun w' : World => w'.cell? ⟨wo.heap.size, 2, none⟩ = some (.int .u8 (xo : Nat)) ∧ w'.cell? ⟨wo.heap.size, 3, none⟩ = some (.int .u32 xi) ∧ w'.cell? ⟨wo.heap.size, 4, none⟩ = some (.int .i64 (xp : Nat))) (by kernel_rfl) HHeld.out (fun _ => ?_)
            refine tkh 0 HHeld.out (h := ?_)
            refine tkh 1 HHeld.out (h := ?_)
            refine tkh 2 HHeld.out (h := ?_)
            refine tkh 3 HHeld.out (h := ?_)
            refine tkh 4 HHeld.out (h := ?_)
            refine wpAnyH_all (rs := [5]) (by kernel_rfl) (by simp) ?_
            intro i hi
            rw [List.mem_singleton] at hi
            subst hi
            refine wpOp_calls (f := 36) (args := #[.pointer (some ⟨mb, 0, none⟩), .int .u8 (xo : Nat)]) rfl rfl (by kernel_rfl) (many_any HMW.out xo) ?_
            rintro ee w2 ⟨rfl, rfl⟩
            refine .inl ⟨_, rfl, HHeld.out, ?_⟩
            refine wpAnyH_all (rs := [6]) (by kernel_rfl) (by simp) ?_
            intro i hi
            rw [List.mem_singleton] at hi
            subst hi
            refine wpOp_dies (f := 19) (args := #[.agg #[.int .u32 xi, .int .i64 (xp : Nat)], .int .i64 (manyM m xo : Nat)]) rfl rfl (by kernel_rfl) (there_bad _ hge hx0 hx1) ?_
            rintro e w2 ⟨rfl, rfl⟩
            refine ⟨_, rfl, ?_⟩
            exact ⟨rfl, Says.err_mk HN.out ((hkp.trans hkv0).drew.alloc _)⟩
    · have HN := hide (HE.out.trans (eachM_done (by simpa using hlt)))
      clear HE
      go_wp2
      go_end0
      exact Says.ok_mk HN.out hkp rfl

end

end Go.Proofs.YtgkpkngchploiaaGreat
