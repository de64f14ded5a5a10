import Derived.Test.YtkpfafehcmammaaGreatDoorA3
import Derived.Test.YtkpfafehcmammaaGreatDoorB1
import Derived.Test.YtkpfafehcmammaaGreatDoorProg
import Derived.RecoverIn
import Derived.KernelRfl
import Derived.Test.YtkpfafehcmammaaGreatDoorB2
import Derived.Test.YtkpfafehcmammaaGreatDoorRows
namespace Go.Proofs.YtkpfafehcmammaaGreatDoor
open Go.Deep Go.Proofs
theorem noop_ok : NoopOK Tryz.prog np := by
  intro f hf args w
  have h : f = 21 := Nat.eq_of_beq_eq_true hf
  subst h
  refine ⟨⟨_, _, Tryz.func21, rfl⟩, callsDIn_of_wpSIn Tryz.func21 rfl trivial fun c₀ cs hu => ?_⟩
  rw [Tryz.ntmps21]
  have hsz : 20 ≤ (args ++ Array.replicate (20 - args.size) undef).size := by simp; omega
  generalize args ++ Array.replicate (20 - args.size) undef = tmps at hsz
  apply wpSIn_seq
  apply wpSIn_region
  have h2 : 2 < tmps.size := by omega
  have h5 : 5 < tmps.size := by omega
  have h6 : 6 < tmps.size := by omega
  have h7 : 7 < tmps.size := by omega
  simp [wpOpsSIn, go_sem, recoverD, hu, Exit.thenS, Oper.about, Act.eval, Act.put, h5, Array.getD_eq_getD_getElem?]
  apply wpSIn_seq
  apply wpSIn_seq
  apply wpSIn_region
  simp [wpOpsSIn, go_sem, Exit.thenS, Oper.about, Act.eval, Act.put, h2, h6, Array.getD_eq_getD_getElem?]
  refine wpSIn_cond (t := true) (by simp [Act.eval, h7, Array.getD_eq_getD_getElem?]) ?_
  simp only [if_true]
  refine wpSIn_of_wpIn rfl (wpIn_ret ?_)
  cases c₀
  simp_all [bodyPostS, Exit.thenS]
  exact ⟨.tuple #[], by simp [Go.results, Tryz.results21]⟩
end Go.Proofs.YtkpfafehcmammaaGreatDoor
namespace Go.Proofs.YtkpfafehcmammaaGreatDoor
open Go.Proofs
theorem pick_run (neg : Bool) (nx : Nat) (K : KVS) : go 3 Tryz.prog (pT neg) np false ⟨.nil, nx⟩ 6 [L3 0, L3 1] K = K (L3 2) ⟨.nil, nx⟩ := by
  cases neg
  · kernel_rfl
  · kernel_rfl
end Go.Proofs.YtkpfafehcmammaaGreatDoor
namespace Go.Proofs.YtkpfafehcmammaaGreatDoor
open Go.Deep Go.Lib Go.Proofs Go.Proofs.YtkpfafehcmammaaGreatDoor

def litsOf : DataW Unit → List Lit
  | .agg l => l.map fun d => match d with | .lit x => x | _ => .bool false
  | _ => []

/-- A table's block holds what the datum says. -/
def agree (c : AB) (l : List Value) : Bool := match c with
  | .inl c => c.ro && Nat.beq c.n l.length && c.d.isNone && (List.range l.length).all (fun i => match getT c.vs i with | some v => (match l[i]? with | some u => veq v u && plain1 v && one v | none => false) | none => false)
  | _ => false

theorem agree_CR {X : Cx} {w : World} {c : CB} {l : List Value} {g : Nat} {ty : TypeId} {fz : Nat × Nat} (h : agree (.inl c) l = true) (hty : c.ty = ty) (hw : w.heap[g]? = some (.cells l.toArray ty fz)) : CR X w ⟨g, 0, l.length⟩ c := by
  unfold agree at h
  simp only [Bool.and_eq_true] at h
  obtain ⟨⟨⟨h1, h2⟩, h3⟩, h4⟩ := h
  have h2 := Nat.eq_of_beq_eq_true h2
  refine ⟨l.toArray, fz, by rw [hty]; exact hw, by rw [h2]; exact Nat.le_refl _, by simp, (fun e => by rw [h1] at e; cases e), fun i v hv => ?_⟩
  unfold cbAt at hv
  split at hv
  · rename_i hi
    rw [List.all_eq_true] at h4
    have := h4 i (List.mem_range.2 (by omega))
    split at this
    · rename_i u hu
      rw [hu] at hv
      simp only [Option.some.injEq] at hv
      subst hv
      split at this
      · rename_i u' hu'
        simp only [Bool.and_eq_true] at this
        obtain ⟨⟨k1, k2⟩, k3⟩ := this
        have k1 := veq_eq k1
        subst k1
        refine ⟨k3, u, ?_, plain1_VR X k2⟩
        simpa using hu'
      · cases this
    · cases this
  · cases hv

theorem gLaid {W : World} (h : laidMetH Tryz.prog Rows.loopedRow.laid W) : laidMet Tryz.prog Rows.loopedRow.laid W := by
  have h' : laidMet Tryz.prog Rows.loopedRow.laid W := h
  exact h'

def lv0 : List Value := (litsOf Rows.laid_loom_code_early).map valOf
theorem lay0 {W : World} (h : laidMet Tryz.prog Rows.loopedRow.laid W) : ∃ ty fz, W.heap[0]? = some (.cells lv0.toArray ty fz) :=
  table_of (ls := litsOf Rows.laid_loom_code_early) (g := 0) (t := 228) (e := 9) (n := 67) (laidMet.reads h (show ("loom/code.early", (.agg ((litsOf Rows.laid_loom_code_early).map .lit) : DataW Unit)) ∈ Rows.loopedRow.laid from (.tail _ (.tail _ (.tail _ (.tail _ (.tail _ (.head _)))))))) (by kernel_rfl) (by kernel_rfl) (by kernel_rfl) (by kernel_rfl) (by kernel_rfl) (lit_string (by kernel_rfl))
theorem agr0 (ty : Nat → TypeId) : agree (hb0 ty) lv0 = true := by kernel_rfl
def lv1 : List Value := (litsOf Rows.laid_loom_code_compares).map valOf
theorem lay1 {W : World} (h : laidMet Tryz.prog Rows.loopedRow.laid W) : ∃ ty fz, W.heap[1]? = some (.cells lv1.toArray ty fz) :=
  table_of (ls := litsOf Rows.laid_loom_code_compares) (g := 1) (t := 229) (e := 9) (n := 11) (laidMet.reads h (show ("loom/code.compares", (.agg ((litsOf Rows.laid_loom_code_compares).map .lit) : DataW Unit)) ∈ Rows.loopedRow.laid from (.tail _ (.tail _ (.tail _ (.tail _ (.tail _ (.tail _ (.head _))))))))) (by kernel_rfl) (by kernel_rfl) (by kernel_rfl) (by kernel_rfl) (by kernel_rfl) (lit_string (by kernel_rfl))
theorem agr1 (ty : Nat → TypeId) : agree (hb1 ty) lv1 = true := by kernel_rfl
def lv2 : List Value := (litsOf Rows.laid_loom_code_computes).map valOf
theorem lay2 {W : World} (h : laidMet Tryz.prog Rows.loopedRow.laid W) : ∃ ty fz, W.heap[2]? = some (.cells lv2.toArray ty fz) :=
  table_of (ls := litsOf Rows.laid_loom_code_computes) (g := 2) (t := 230) (e := 9) (n := 18) (laidMet.reads h (show ("loom/code.computes", (.agg ((litsOf Rows.laid_loom_code_computes).map .lit) : DataW Unit)) ∈ Rows.loopedRow.laid from (.tail _ (.tail _ (.tail _ (.tail _ (.tail _ (.tail _ (.tail _ (.head _)))))))))) (by kernel_rfl) (by kernel_rfl) (by kernel_rfl) (by kernel_rfl) (by kernel_rfl) (lit_string (by kernel_rfl))
theorem agr2 (ty : Nat → TypeId) : agree (hb2 ty) lv2 = true := by kernel_rfl
def lv4 : List Value := (litsOf Rows.laid_math_bits_deBruijn64tab).map valOf
theorem lay4 {W : World} (h : laidMet Tryz.prog Rows.loopedRow.laid W) : ∃ ty fz, W.heap[4]? = some (.cells lv4.toArray ty fz) :=
  table_of (ls := litsOf Rows.laid_math_bits_deBruijn64tab) (g := 4) (t := 394) (e := 5) (n := 64) (laidMet.reads h (show ("math/bits.deBruijn64tab", (.agg ((litsOf Rows.laid_math_bits_deBruijn64tab).map .lit) : DataW Unit)) ∈ Rows.loopedRow.laid from (.tail _ (.head _)))) (by kernel_rfl) (by kernel_rfl) (by kernel_rfl) (by kernel_rfl) (by kernel_rfl) (lit_int (k := .u8) (by kernel_rfl))
theorem agr4 (ty : Nat → TypeId) : agree (hb4 ty) lv4 = true := by kernel_rfl
def lv5 : List Value := (litsOf Rows.laid_math_bits_deBruijn32tab).map valOf
theorem lay5 {W : World} (h : laidMet Tryz.prog Rows.loopedRow.laid W) : ∃ ty fz, W.heap[5]? = some (.cells lv5.toArray ty fz) :=
  table_of (ls := litsOf Rows.laid_math_bits_deBruijn32tab) (g := 5) (t := 395) (e := 5) (n := 32) (laidMet.reads h (show ("math/bits.deBruijn32tab", (.agg ((litsOf Rows.laid_math_bits_deBruijn32tab).map .lit) : DataW Unit)) ∈ Rows.loopedRow.laid from (.head _))) (by kernel_rfl) (by kernel_rfl) (by kernel_rfl) (by kernel_rfl) (by kernel_rfl) (lit_int (k := .u8) (by kernel_rfl))
theorem agr5 (ty : Nat → TypeId) : agree (hb5 ty) lv5 = true := by kernel_rfl
def lv8 : List Value := (litsOf Rows.laid_internal_strconv_uint64pow10).map valOf
theorem lay8 {W : World} (h : laidMet Tryz.prog Rows.loopedRow.laid W) : ∃ ty fz, W.heap[8]? = some (.cells lv8.toArray ty fz) :=
  table_of (ls := litsOf Rows.laid_internal_strconv_uint64pow10) (g := 8) (t := 413) (e := 254) (n := 20) (laidMet.reads h (show ("internal/strconv.uint64pow10", (.agg ((litsOf Rows.laid_internal_strconv_uint64pow10).map .lit) : DataW Unit)) ∈ Rows.loopedRow.laid from (.tail _ (.tail _ (.head _))))) (by kernel_rfl) (by kernel_rfl) (by kernel_rfl) (by kernel_rfl) (by kernel_rfl) (lit_int (k := .u64) (by kernel_rfl))
theorem agr8 (ty : Nat → TypeId) : agree (hb8 ty) lv8 = true := by kernel_rfl
theorem star : "*" ++ "errors.errorString" = "*errors.errorString" := by decide
theorem row404 (u : TypeId) (h : Tryz.prog.typeName? 3 u = some "*errors.errorString") : u = 404 :=
  typeName_ptr_named (nm := "errors.errorString") (by rw [star]; kernel_rfl) (by kernel_rfl) (by decide) u (by rw [star]; exact h)
theorem lay6 {W : World} (h : laidMet Tryz.prog Rows.loopedRow.laid W) : ∃ ty fz b o, W.heap[6]? = some (.cells #[.iface 404 (.pointer (some ⟨b, o, none⟩))] ty fz) :=
  sentinel_of (name := "strconv.ErrSyntax") (g := 6) (ti := 391) (te := 406) (ts := 9) h ((.tail _ (.tail _ (.tail _ (.tail _ (.head _)))))) (by kernel_rfl) (by kernel_rfl) Tryz.underlying391 row404 Tryz.underlying404 Tryz.underlying406 rfl rfl Tryz.underlying9 (by kernel_rfl) (by kernel_rfl)
theorem lay7 {W : World} (h : laidMet Tryz.prog Rows.loopedRow.laid W) : ∃ ty fz b o, W.heap[7]? = some (.cells #[.iface 404 (.pointer (some ⟨b, o, none⟩))] ty fz) :=
  sentinel_of (name := "strconv.ErrRange") (g := 7) (ti := 391) (te := 406) (ts := 9) h ((.tail _ (.tail _ (.tail _ (.head _))))) (by kernel_rfl) (by kernel_rfl) Tryz.underlying391 row404 Tryz.underlying404 Tryz.underlying406 rfl rfl Tryz.underlying9 (by kernel_rfl) (by kernel_rfl)

def start (ρ : Nat → Int) (b o b' o' : Nat) : Cx := ⟨ρ, fun i => if i = 9 then ⟨b, o, 0⟩ else if i = 10 then ⟨b', o', 0⟩ else ⟨i, 0, match i with | 0 => lv0.length | 1 => lv1.length | 2 => lv2.length | 4 => lv4.length | 5 => lv5.length | 6 => 1 | 7 => 1 | 8 => lv8.length | _ => 0⟩, 11⟩

theorem h0_ids {ty : Nat → TypeId} {id : Nat} {b : AB} (h : getT (h0 ty) id = some b) : (id = 0 ∧ b = hb0 ty) ∨ (id = 1 ∧ b = hb1 ty) ∨ (id = 2 ∧ b = hb2 ty) ∨ (id = 4 ∧ b = hb4 ty) ∨ (id = 5 ∧ b = hb5 ty) ∨ (id = 6 ∧ b = hb6 ty) ∨ (id = 7 ∧ b = hb7 ty) ∨ (id = 8 ∧ b = hb8 ty) := by
  have hm := getT_mem h
  have hL : toL (h0 ty) = [(0, hb0 ty), (1, hb1 ty), (7, hb7 ty), (5, hb5 ty), (2, hb2 ty), (4, hb4 ty), (8, hb8 ty), (6, hb6 ty)] := rfl
  rw [hL] at hm
  simp only [List.mem_cons, List.not_mem_nil, or_false, Prod.mk.injEq] at hm
  rcases hm with ⟨rfl, rfl⟩ | ⟨rfl, rfl⟩ | ⟨rfl, rfl⟩ | ⟨rfl, rfl⟩ | ⟨rfl, rfl⟩ | ⟨rfl, rfl⟩ | ⟨rfl, rfl⟩ | ⟨rfl, rfl⟩
  · exact .inl ⟨rfl, rfl⟩
  · exact .inr (.inl ⟨rfl, rfl⟩)
  · exact .inr (.inr (.inr (.inr (.inr (.inr (.inl ⟨rfl, rfl⟩))))))
  · exact .inr (.inr (.inr (.inr (.inl ⟨rfl, rfl⟩))))
  · exact .inr (.inr (.inl ⟨rfl, rfl⟩))
  · exact .inr (.inr (.inr (.inl ⟨rfl, rfl⟩)))
  · exact .inr (.inr (.inr (.inr (.inr (.inr (.inr (⟨rfl, rfl⟩)))))))
  · exact .inr (.inr (.inr (.inr (.inr (.inl ⟨rfl, rfl⟩)))))

theorem start_ok {W : World} (h : laidMetH Tryz.prog Rows.loopedRow.laid W) (ρ : Nat → Int) : ∃ X ty, X.ρ = ρ ∧ Rel X ⟨h0 ty, 11⟩ W := by
  have hl := gLaid h
  obtain ⟨t0, f0, w0⟩ := lay0 hl
  obtain ⟨t1, f1, w1⟩ := lay1 hl
  obtain ⟨t2, f2, w2⟩ := lay2 hl
  obtain ⟨t4, f4, w4⟩ := lay4 hl
  obtain ⟨t5, f5, w5⟩ := lay5 hl
  obtain ⟨t8, f8, w8⟩ := lay8 hl
  obtain ⟨t6, f6, b, o, w6⟩ := lay6 hl
  obtain ⟨t7, f7, b', o', w7⟩ := lay7 hl
  let ty : Nat → TypeId := fun i => match i with | 0 => t0 | 1 => t1 | 2 => t2 | 4 => t4 | 5 => t5 | 6 => t6 | 7 => t7 | 8 => t8 | _ => 0
  have hj : ∀ i, i ≤ 8 → ((start ρ b o b' o').j i).b = i ∧ ((start ρ b o b' o').j i).base = 0 := fun i hi => by
    simp only [start]
    rw [if_neg (by omega), if_neg (by omega)]
    exact ⟨rfl, rfl⟩
  have hle : ∀ id c, getT (h0 ty) id = some c → id ≤ 8 := fun id c hc => by
    rcases h0_ids hc with ⟨h, _⟩ | ⟨h, _⟩ | ⟨h, _⟩ | ⟨h, _⟩ | ⟨h, _⟩ | ⟨h, _⟩ | ⟨h, _⟩ | ⟨h, _⟩ <;> omega
  refine ⟨start ρ b o b' o', ty, rfl, rfl, fun id c hc => ?_, fun id id' c c' hc hc' e => ?_, (show (9 : Nat) ≤ 11 by decide), fun i hi => hj i (by unfold NG at hi; omega)⟩
  · refine ⟨Nat.lt_of_le_of_lt (hle id c hc) (show (8 : Nat) < 11 by decide), ?_⟩
    rcases h0_ids hc with ⟨rfl, rfl⟩ | ⟨rfl, rfl⟩ | ⟨rfl, rfl⟩ | ⟨rfl, rfl⟩ | ⟨rfl, rfl⟩ | ⟨rfl, rfl⟩ | ⟨rfl, rfl⟩ | ⟨rfl, rfl⟩
    · exact agree_CR (agr0 ty) rfl w0
    · exact agree_CR (agr1 ty) rfl w1
    · exact agree_CR (agr2 ty) rfl w2
    · exact agree_CR (agr4 ty) rfl w4
    · exact agree_CR (agr5 ty) rfl w5
    · refine ⟨_, f6, w6, Nat.le_refl _, (show (0 : Nat) + 1 ≤ 1 by decide), (fun e => by cases e), fun i v hv => ?_⟩
      have hi : i < 1 := by unfold cbAt at hv; split at hv; assumption; cases hv
      obtain rfl : i = 0 := by omega
      have hv' : some (Value.iface 404 (.pointer (some ⟨9, 0, none⟩))) = some v := hv
      cases hv'
      exact ⟨rfl, _, rfl, VR_iface.2 ⟨_, rfl, VR_ptr.2 ⟨(show (9 : Nat) < 11 by decide), rfl⟩⟩⟩
    · refine ⟨_, f7, w7, Nat.le_refl _, (show (0 : Nat) + 1 ≤ 1 by decide), (fun e => by cases e), fun i v hv => ?_⟩
      have hi : i < 1 := by unfold cbAt at hv; split at hv; assumption; cases hv
      obtain rfl : i = 0 := by omega
      have hv' : some (Value.iface 404 (.pointer (some ⟨10, 0, none⟩))) = some v := hv
      cases hv'
      exact ⟨rfl, _, rfl, VR_iface.2 ⟨_, rfl, VR_ptr.2 ⟨(show (10 : Nat) < 11 by decide), rfl⟩⟩⟩
    · exact agree_CR (agr8 ty) rfl w8
  · rw [(hj id (hle _ _ hc)).1, (hj id' (hle _ _ hc')).1] at e
    exact e

/-- Nothing of the start may be written. -/
theorem start_fr {X : Cx} {ty : Nat → TypeId} (b : Nat) : Fr X ⟨h0 ty, 11⟩ b := fun id c hc hw => by
  rcases h0_ids hc with ⟨_, rfl⟩ | ⟨_, rfl⟩ | ⟨_, rfl⟩ | ⟨_, rfl⟩ | ⟨_, rfl⟩ | ⟨_, rfl⟩ | ⟨_, rfl⟩ | ⟨_, rfl⟩ <;> cases hw

end Go.Proofs.YtkpfafehcmammaaGreatDoor
