import Derived.Test.YtogohcefjffahaaGreatDoorA3
import Derived.Test.YtogohcefjffahaaGreatDoorB1
import Derived.Test.YtogohcefjffahaaGreatDoorProg
import Derived.RecoverIn
import Derived.KernelRfl
import Derived.Lib.LaidU8
import Derived.LaidLaws
import Derived.Test.YtogohcefjffahaaGreatDoorRows
namespace Go.Proofs.YtogohcefjffahaaGreatDoor
open Go.Deep Go.Proofs
theorem noop_ok : NoopOK Tryz.prog np := by
  intro f hf args w
  have h : f = 21 := Nat.eq_of_beq_eq_true hf
  subst h
  refine ⟨⟨_, _, Tryz.func21, rfl⟩, callsDIn_of_wpSIn Tryz.func21 rfl trivial fun c₀ cs hu => ?_⟩
  rw [Tryz.ntmps21]
  have hsz : 20 ≤ (args ++ Array.replicate (20 - args.size) undef).size := by simp; omega
  generalize args ++ Array.replicate (20 - args.size) undef = tmps at hsz
  apply wpSIn_seq
  apply wpSIn_region
  have h2 : 2 < tmps.size := by omega
  have h5 : 5 < tmps.size := by omega
  have h6 : 6 < tmps.size := by omega
  have h7 : 7 < tmps.size := by omega
  simp [wpOpsSIn, go_sem, recoverD, hu, Exit.thenS, Oper.about, Act.eval, Act.put, h5, Array.getD_eq_getD_getElem?]
  apply wpSIn_seq
  apply wpSIn_seq
  apply wpSIn_region
  simp [wpOpsSIn, go_sem, Exit.thenS, Oper.about, Act.eval, Act.put, h2, h6, Array.getD_eq_getD_getElem?]
  refine wpSIn_cond (t := true) (by simp [Act.eval, h7, Array.getD_eq_getD_getElem?]) ?_
  simp only [if_true]
  refine wpSIn_of_wpIn rfl (wpIn_ret ?_)
  cases c₀
  simp_all [bodyPostS, Exit.thenS]
  exact ⟨.tuple #[], by simp [Go.results, Tryz.results21]⟩
end Go.Proofs.YtogohcefjffahaaGreatDoor
namespace Go.Proofs.YtogohcefjffahaaGreatDoor
open Go.Deep Go.Lib

/-- All that a tree holds. -/
def toL {α : Type} : BT (Option α) → List (Nat × α)
  | .nil => []
  | .node _ _ v l r => (match v with | some x => [(0, x)] | none => []) ++ (toL l).map (fun p => (2 * p.1 + 1, p.2)) ++ (toL r).map (fun p => (2 * p.1 + 2, p.2))

theorem getT_mem {α : Type} : ∀ {t : BT (Option α)} {id : Nat} {b : α}, getT t id = some b → (id, b) ∈ toL t := by
  intro t
  induction t with
  | nil => intro id b h; rw [getT_nil] at h; cases h
  | node x y v l r ihl ihr =>
    intro id b h
    unfold toL
    cases id with
    | zero =>
      change v = some b at h
      subst h
      exact List.mem_append_left _ (List.mem_append_left _ (by simp))
    | succ m =>
      simp only [getT] at h
      split at h
      · have := ihl h
        refine List.mem_append_left _ (List.mem_append_right _ (List.mem_map.2 ⟨_, this, ?_⟩))
        simp; omega
      · have := ihr h
        refine List.mem_append_right _ (List.mem_map.2 ⟨_, this, ?_⟩)
        simp; omega

def valOf : Lit → Value
  | .int k z => .int k z
  | .string s => .string ⟨⟨s⟩⟩
  | .bool b => .bool b
  | _ => .nilFunc

/-- An array of numbers or texts that reads as a table holds it, cell for cell. -/
theorem cells_of_lits {P : Program} {w : World} {fuel : Nat} {t e : TypeId} {n : Nat} {cs : List Value} {ls : List Lit} {p : List MemPlace}
    (ht : P.underlying t = some (.array n e)) (hce : P.cellsOf e = 1) (hct : P.cellsOf t = n)
    (he : ∀ fuel c l q, DataW.trod (fun _ => ()) P w 0 (fun _ => true) false fuel e [c] = some (.lit l, q) → c = valOf l)
    (h : DataW.trod (fun _ => ()) P w 0 (fun _ => true) false fuel t cs = some (.agg (ls.map .lit), p)) : cs = ls.map valOf := by
  cases fuel with
  | zero => simp [DataW.trod] at h
  | succ fuel =>
    simp only [DataW.trod, ht, hce, hct, Nat.mul_one] at h
    split at h
    · rename_i hl
      obtain ⟨xs, hm, hx⟩ := Option.map_eq_some_iff.1 h
      have hxs : xs.map (·.1) = ls.map fun z => (DataW.lit z : DataW Unit) := by
        have := congrArg Prod.fst hx
        simpa using this
      have hxl : xs.length = n := by simpa using mapM_length hm
      have hzl : ls.length = n := by
        have := congrArg List.length hxs
        simp at this
        omega
      have hcl : cs.length = n := by simpa using hl
      apply List.ext_getElem?
      intro i
      by_cases hi : i < n
      · obtain ⟨b, hb, hf⟩ := mapM_at hm i i (by simp [hi])
        have h2 : (xs.map (·.1))[i]? = some b.1 := by simp [hb]
        rw [hxs] at h2
        simp only [List.getElem?_map, Option.map_eq_some_iff] at h2
        obtain ⟨z, hz, hzb⟩ := h2
        have hci : (cs.drop i).take 1 = [cs[i]'(by omega)] := by
          rw [List.drop_eq_getElem_cons (by omega)]
          rfl
        rw [hci] at hf
        have hv := he fuel _ z b.2 (by rw [hf, hzb])
        simp only [List.getElem?_map, hz, Option.map_some]
        rw [List.getElem?_eq_getElem (by omega), hv]
      · rw [List.getElem?_eq_none (by omega), List.getElem?_eq_none (by simp; omega)]
    · cases h

theorem lit_int {P : Program} {w : World} {e : TypeId} {k : IntKind} (he : P.underlying e = some (.int k)) : ∀ fuel c l q, DataW.trod (fun _ => ()) P w 0 (fun _ => true) false fuel e [c] = some (.lit l, q) → c = valOf l := by
  intro fuel c l q h
  obtain ⟨z, hc, hx, _⟩ := DataW.trod_int he h
  have e1 : l = .int k z := by have := congrArg Prod.fst hx; simpa using this
  subst e1
  simpa [valOf] using hc
theorem lit_string {P : Program} {w : World} {e : TypeId} (he : P.underlying e = some .string) : ∀ fuel c l q, DataW.trod (fun _ => ()) P w 0 (fun _ => true) false fuel e [c] = some (.lit l, q) → c = valOf l := by
  intro fuel c l q h
  obtain ⟨s, hc, hx, _⟩ := DataW.trod_string he h
  have e1 : l = .string s.data.toList := by have := congrArg Prod.fst hx; simpa using this
  subst e1
  simpa [valOf] using hc

/-- A listed table: its block. -/
theorem table_of {P : Program} {w : World} {name : String} {ls : List Lit} {g : Nat} {t e : TypeId} {n : Nat} (h : VarReads P w name (.agg (ls.map .lit))) (hg : P.globalNamed name = some g) (hty : (P.globals[g]?).map (·.type) = some t)
    (ht : P.underlying t = some (.array n e)) (hce : P.cellsOf e = 1) (hct : P.cellsOf t = n) (he : ∀ fuel c l q, DataW.trod (fun _ => ()) P w 0 (fun _ => true) false fuel e [c] = some (.lit l, q) → c = valOf l) :
    ∃ ty fz, w.heap[g]? = some (.cells (ls.map valOf).toArray ty fz) := by
  obtain ⟨g', t', cs, fuel, p, h1, h2, h3, h4⟩ := h
  obtain rfl := Option.some.inj (hg.symm.trans h1)
  obtain rfl := Option.some.inj (hty.symm.trans h2)
  have := cells_of_lits ht hce hct he h4
  unfold World.var? at h3
  rw [hg] at h3
  simp only [Option.bind_some] at h3
  split at h3
  · rename_i c ty fz hh
    cases h3
    exact ⟨ty, fz, by rw [hh, ← this]⟩
  · cases h3

theorem laid_row {P : Program} {w : World} : ∀ {l : List (String × DataW Unit)} {ps : List MemPlace}, DataW.LaidVars P w l ps → ∀ n d, (n, d) ∈ l →
    ∃ g t cs fuel p, P.globalNamed n = some g ∧ (P.globals[g]?).map (·.type) = some t ∧ w.var? P n = some cs ∧ DataW.trod (fun _ => ()) P w 0 (fun _ => true) false fuel t cs.toList = some (d, p) ∧ ∀ x ∈ MemPlace.row ⟨g, 0, none⟩ cs.size, x ∈ ps
  | [], _, _, _, _, hm => by cases hm
  | (n', d') :: r, ps, h, n, d, hm => by
    obtain ⟨g, t, cs, fuel, p, q, h1, h2, h3, h4, h5, h6⟩ := h
    rcases List.mem_cons.1 hm with e | e
    · cases e
      exact ⟨g, t, cs, fuel, p, h1, h2, h3, h4, fun x hx => by rw [h6]; exact List.mem_append_left _ (List.mem_append_left _ hx)⟩
    · obtain ⟨g', t', cs', fuel', p', k1, k2, k3, k4, k5⟩ := laid_row h5 n d e
      exact ⟨g', t', cs', fuel', p', k1, k2, k3, k4, fun x hx => by rw [h6]; exact List.mem_append_right _ (k5 x hx)⟩

/-- A listed sentinel: its cell. -/
theorem sentinel_of {P : Program} {w : World} {l : List (String × DataW Unit)} {name : String} {g : Nat} {ti tp te ts : TypeId} {ms : Array (String × TypeId)} {nm : String} {f : Field} {text : List UInt8} (hl : laidMet P l w) (hm : (name, .iface nm (.ptr (.agg [.lit (.string text)]))) ∈ l) (hg : P.globalNamed name = some g) (hty : (P.globals[g]?).map (·.type) = some ti)
    (hi : P.underlying ti = some (.interface ms)) (hrow : ∀ u, P.typeName? 3 u = some nm → u = tp)
    (hp : P.underlying tp = some (.pointer te)) (he : P.underlying te = some (.struct #[f])) (hft : f.type = ts) (hfo : f.offset = 0) (hs : P.underlying ts = some .string) (hc : P.cellsOf te = 1) (hcs : P.cellsOf ts = 1) :
    ∃ ty fz b o, w.heap[g]? = some (.cells #[.iface tp (.pointer (some ⟨b, o, none⟩))] ty fz) := by
  obtain ⟨ps, hv, _, hps⟩ := hl
  obtain ⟨g', t', cs, fuel, p, h1, h2, h3, h4, h5⟩ := laid_row hv _ _ hm
  obtain rfl := Option.some.inj (hg.symm.trans h1)
  obtain rfl := Option.some.inj (hty.symm.trans h2)
  unfold World.var? at h3
  rw [hg] at h3
  simp only [Option.bind_some] at h3
  split at h3
  · rename_i c ty fz hh
    cases h3
    obtain ⟨a, s, k1, k2, _⟩ := errorString_of_trod hi hrow hp he hft hfo hs hc hcs h4 (fun u v huv => by
      have hsz : cs.size = 1 := by have := congrArg List.length huv; simpa using this
      have hx := h5 (.cell g 0) (by unfold MemPlace.row; rw [hsz]; simp)
      refine (hps g 0 hx).2 u v ?_
      unfold World.cell?
      simp only [hh]
      have : cs[0]? = cs.toList[0]? := by simp
      simp [this, huv])
    obtain ⟨b, o, sp⟩ := a
    have hsp := Go.Proofs.cell_spot k2
    subst hsp
    refine ⟨ty, fz, b, o, ?_⟩
    rw [hh]
    have : cs = #[.iface tp (.pointer (some ⟨b, o, none⟩))] := by apply Array.ext'; simpa using k1
    rw [this]
  · cases h3
end Go.Proofs.YtogohcefjffahaaGreatDoor
namespace Go.Proofs.YtogohcefjffahaaGreatDoor
open Go.Deep Go.Lib Go.Proofs Go.Proofs.YtogohcefjffahaaGreatDoor

def litsOf : DataW Unit → List Lit
  | .agg l => l.map fun d => match d with | .lit x => x | _ => .bool false
  | _ => []

/-- A table's block holds what the datum says. -/
def agree (c : AB) (l : List Value) : Bool := match c with
  | .inl c => c.ro && Nat.beq c.n l.length && c.d.isNone && (List.range l.length).all (fun i => match getT c.vs i with | some v => (match l[i]? with | some u => veq v u && plain1 v && one v | none => false) | none => false)
  | _ => false

theorem agree_CR {X : Cx} {w : World} {c : CB} {l : List Value} {g : Nat} {ty : TypeId} {fz : Nat × Nat} (h : agree (.inl c) l = true) (hty : c.ty = ty) (hw : w.heap[g]? = some (.cells l.toArray ty fz)) : CR X w ⟨g, 0, l.length⟩ c := by
  unfold agree at h
  simp only [Bool.and_eq_true] at h
  obtain ⟨⟨⟨h1, h2⟩, h3⟩, h4⟩ := h
  have h2 := Nat.eq_of_beq_eq_true h2
  refine ⟨l.toArray, fz, by rw [hty]; exact hw, by rw [h2]; exact Nat.le_refl _, by simp, (fun e => by rw [h1] at e; cases e), fun i v hv => ?_⟩
  unfold cbAt at hv
  split at hv
  · rename_i hi
    rw [List.all_eq_true] at h4
    have := h4 i (List.mem_range.2 (by omega))
    split at this
    · rename_i u hu
      rw [hu] at hv
      simp only [Option.some.injEq] at hv
      subst hv
      split at this
      · rename_i u' hu'
        simp only [Bool.and_eq_true] at this
        obtain ⟨⟨k1, k2⟩, k3⟩ := this
        have k1 := veq_eq k1
        subst k1
        refine ⟨k3, u, ?_, plain1_VR X k2⟩
        simpa using hu'
      · cases this
    · cases this
  · cases hv

theorem gLaid {W : World} (h : laidMetH Tryz.prog Rows.chosenRow.laid W) : laidMet Tryz.prog Rows.chosenRow.laid W := by
  have h' : laidMet Tryz.prog Rows.chosenRow.laid W := h
  exact h'

def lv0 : List Value := (litsOf Rows.laid_loom_code_early).map valOf
theorem lay0 {W : World} (h : laidMet Tryz.prog Rows.chosenRow.laid W) : ∃ ty fz, W.heap[0]? = some (.cells lv0.toArray ty fz) :=
  table_of (ls := litsOf Rows.laid_loom_code_early) (g := 0) (t := 228) (e := 9) (n := 67) (laidMet.reads h (show ("loom/code.early", (.agg ((litsOf Rows.laid_loom_code_early).map .lit) : DataW Unit)) ∈ Rows.chosenRow.laid from (.tail _ (.tail _ (.tail _ (.tail _ (.tail _ (.head _)))))))) (by kernel_rfl) (by kernel_rfl) (by kernel_rfl) (by kernel_rfl) (by kernel_rfl) (lit_string (by kernel_rfl))
theorem agr0 (ty : Nat → TypeId) : agree (hb0 ty) lv0 = true := by kernel_rfl
def lv1 : List Value := (litsOf Rows.laid_loom_code_compares).map valOf
theorem lay1 {W : World} (h : laidMet Tryz.prog Rows.chosenRow.laid W) : ∃ ty fz, W.heap[1]? = some (.cells lv1.toArray ty fz) :=
  table_of (ls := litsOf Rows.laid_loom_code_compares) (g := 1) (t := 229) (e := 9) (n := 11) (laidMet.reads h (show ("loom/code.compares", (.agg ((litsOf Rows.laid_loom_code_compares).map .lit) : DataW Unit)) ∈ Rows.chosenRow.laid from (.tail _ (.tail _ (.tail _ (.tail _ (.tail _ (.tail _ (.head _))))))))) (by kernel_rfl) (by kernel_rfl) (by kernel_rfl) (by kernel_rfl) (by kernel_rfl) (lit_string (by kernel_rfl))
theorem agr1 (ty : Nat → TypeId) : agree (hb1 ty) lv1 = true := by kernel_rfl
def lv2 : List Value := (litsOf Rows.laid_loom_code_computes).map valOf
theorem lay2 {W : World} (h : laidMet Tryz.prog Rows.chosenRow.laid W) : ∃ ty fz, W.heap[2]? = some (.cells lv2.toArray ty fz) :=
  table_of (ls := litsOf Rows.laid_loom_code_computes) (g := 2) (t := 230) (e := 9) (n := 18) (laidMet.reads h (show ("loom/code.computes", (.agg ((litsOf Rows.laid_loom_code_computes).map .lit) : DataW Unit)) ∈ Rows.chosenRow.laid from (.tail _ (.tail _ (.tail _ (.tail _ (.tail _ (.tail _ (.tail _ (.head _)))))))))) (by kernel_rfl) (by kernel_rfl) (by kernel_rfl) (by kernel_rfl) (by kernel_rfl) (lit_string (by kernel_rfl))
theorem agr2 (ty : Nat → TypeId) : agree (hb2 ty) lv2 = true := by kernel_rfl
def lv4 : List Value := (litsOf Rows.laid_math_bits_deBruijn64tab).map valOf
theorem lay4 {W : World} (h : laidMet Tryz.prog Rows.chosenRow.laid W) : ∃ ty fz, W.heap[4]? = some (.cells lv4.toArray ty fz) :=
  table_of (ls := litsOf Rows.laid_math_bits_deBruijn64tab) (g := 4) (t := 394) (e := 5) (n := 64) (laidMet.reads h (show ("math/bits.deBruijn64tab", (.agg ((litsOf Rows.laid_math_bits_deBruijn64tab).map .lit) : DataW Unit)) ∈ Rows.chosenRow.laid from (.tail _ (.head _)))) (by kernel_rfl) (by kernel_rfl) (by kernel_rfl) (by kernel_rfl) (by kernel_rfl) (lit_int (k := .u8) (by kernel_rfl))
theorem agr4 (ty : Nat → TypeId) : agree (hb4 ty) lv4 = true := by kernel_rfl
def lv5 : List Value := (litsOf Rows.laid_math_bits_deBruijn32tab).map valOf
theorem lay5 {W : World} (h : laidMet Tryz.prog Rows.chosenRow.laid W) : ∃ ty fz, W.heap[5]? = some (.cells lv5.toArray ty fz) :=
  table_of (ls := litsOf Rows.laid_math_bits_deBruijn32tab) (g := 5) (t := 395) (e := 5) (n := 32) (laidMet.reads h (show ("math/bits.deBruijn32tab", (.agg ((litsOf Rows.laid_math_bits_deBruijn32tab).map .lit) : DataW Unit)) ∈ Rows.chosenRow.laid from (.head _))) (by kernel_rfl) (by kernel_rfl) (by kernel_rfl) (by kernel_rfl) (by kernel_rfl) (lit_int (k := .u8) (by kernel_rfl))
theorem agr5 (ty : Nat → TypeId) : agree (hb5 ty) lv5 = true := by kernel_rfl
def lv8 : List Value := (litsOf Rows.laid_internal_strconv_uint64pow10).map valOf
theorem lay8 {W : World} (h : laidMet Tryz.prog Rows.chosenRow.laid W) : ∃ ty fz, W.heap[8]? = some (.cells lv8.toArray ty fz) :=
  table_of (ls := litsOf Rows.laid_internal_strconv_uint64pow10) (g := 8) (t := 413) (e := 254) (n := 20) (laidMet.reads h (show ("internal/strconv.uint64pow10", (.agg ((litsOf Rows.laid_internal_strconv_uint64pow10).map .lit) : DataW Unit)) ∈ Rows.chosenRow.laid from (.tail _ (.tail _ (.head _))))) (by kernel_rfl) (by kernel_rfl) (by kernel_rfl) (by kernel_rfl) (by kernel_rfl) (lit_int (k := .u64) (by kernel_rfl))
theorem agr8 (ty : Nat → TypeId) : agree (hb8 ty) lv8 = true := by kernel_rfl
theorem star : "*" ++ "errors.errorString" = "*errors.errorString" := by decide
theorem row404 (u : TypeId) (h : Tryz.prog.typeName? 3 u = some "*errors.errorString") : u = 404 :=
  typeName_ptr_named (nm := "errors.errorString") (by rw [star]; kernel_rfl) (by kernel_rfl) (by decide) u (by rw [star]; exact h)
theorem lay6 {W : World} (h : laidMet Tryz.prog Rows.chosenRow.laid W) : ∃ ty fz b o, W.heap[6]? = some (.cells #[.iface 404 (.pointer (some ⟨b, o, none⟩))] ty fz) :=
  sentinel_of (name := "strconv.ErrSyntax") (g := 6) (ti := 391) (te := 406) (ts := 9) h ((.tail _ (.tail _ (.tail _ (.tail _ (.head _)))))) (by kernel_rfl) (by kernel_rfl) Tryz.underlying391 row404 Tryz.underlying404 Tryz.underlying406 rfl rfl Tryz.underlying9 (by kernel_rfl) (by kernel_rfl)
theorem lay7 {W : World} (h : laidMet Tryz.prog Rows.chosenRow.laid W) : ∃ ty fz b o, W.heap[7]? = some (.cells #[.iface 404 (.pointer (some ⟨b, o, none⟩))] ty fz) :=
  sentinel_of (name := "strconv.ErrRange") (g := 7) (ti := 391) (te := 406) (ts := 9) h ((.tail _ (.tail _ (.tail _ (.head _))))) (by kernel_rfl) (by kernel_rfl) Tryz.underlying391 row404 Tryz.underlying404 Tryz.underlying406 rfl rfl Tryz.underlying9 (by kernel_rfl) (by kernel_rfl)

def start (ρ : Nat → Int) (b o b' o' : Nat) : Cx := ⟨ρ, fun i => if i = 9 then ⟨b, o, 0⟩ else if i = 10 then ⟨b', o', 0⟩ else ⟨i, 0, match i with | 0 => lv0.length | 1 => lv1.length | 2 => lv2.length | 4 => lv4.length | 5 => lv5.length | 6 => 1 | 7 => 1 | 8 => lv8.length | _ => 0⟩, 11⟩

theorem h0_ids {ty : Nat → TypeId} {id : Nat} {b : AB} (h : getT (h0 ty) id = some b) : (id = 0 ∧ b = hb0 ty) ∨ (id = 1 ∧ b = hb1 ty) ∨ (id = 2 ∧ b = hb2 ty) ∨ (id = 4 ∧ b = hb4 ty) ∨ (id = 5 ∧ b = hb5 ty) ∨ (id = 6 ∧ b = hb6 ty) ∨ (id = 7 ∧ b = hb7 ty) ∨ (id = 8 ∧ b = hb8 ty) := by
  have hm := getT_mem h
  have hL : toL (h0 ty) = [(0, hb0 ty), (1, hb1 ty), (7, hb7 ty), (5, hb5 ty), (2, hb2 ty), (4, hb4 ty), (8, hb8 ty), (6, hb6 ty)] := rfl
  rw [hL] at hm
  simp only [List.mem_cons, List.not_mem_nil, or_false, Prod.mk.injEq] at hm
  rcases hm with ⟨rfl, rfl⟩ | ⟨rfl, rfl⟩ | ⟨rfl, rfl⟩ | ⟨rfl, rfl⟩ | ⟨rfl, rfl⟩ | ⟨rfl, rfl⟩ | ⟨rfl, rfl⟩ | ⟨rfl, rfl⟩
  · exact .inl ⟨rfl, rfl⟩
  · exact .inr (.inl ⟨rfl, rfl⟩)
  · exact .inr (.inr (.inr (.inr (.inr (.inr (.inl ⟨rfl, rfl⟩))))))
  · exact .inr (.inr (.inr (.inr (.inl ⟨rfl, rfl⟩))))
  · exact .inr (.inr (.inl ⟨rfl, rfl⟩))
  · exact .inr (.inr (.inr (.inl ⟨rfl, rfl⟩)))
  · exact .inr (.inr (.inr (.inr (.inr (.inr (.inr (⟨rfl, rfl⟩)))))))
  · exact .inr (.inr (.inr (.inr (.inr (.inl ⟨rfl, rfl⟩)))))

theorem start_ok {W : World} (h : laidMetH Tryz.prog Rows.chosenRow.laid W) (ρ : Nat → Int) : ∃ X ty, X.ρ = ρ ∧ Rel X ⟨h0 ty, 11⟩ W := by
  have hl := gLaid h
  obtain ⟨t0, f0, w0⟩ := lay0 hl
  obtain ⟨t1, f1, w1⟩ := lay1 hl
  obtain ⟨t2, f2, w2⟩ := lay2 hl
  obtain ⟨t4, f4, w4⟩ := lay4 hl
  obtain ⟨t5, f5, w5⟩ := lay5 hl
  obtain ⟨t8, f8, w8⟩ := lay8 hl
  obtain ⟨t6, f6, b, o, w6⟩ := lay6 hl
  obtain ⟨t7, f7, b', o', w7⟩ := lay7 hl
  let ty : Nat → TypeId := fun i => match i with | 0 => t0 | 1 => t1 | 2 => t2 | 4 => t4 | 5 => t5 | 6 => t6 | 7 => t7 | 8 => t8 | _ => 0
  have hj : ∀ i, i ≤ 8 → ((start ρ b o b' o').j i).b = i ∧ ((start ρ b o b' o').j i).base = 0 := fun i hi => by
    simp only [start]
    rw [if_neg (by omega), if_neg (by omega)]
    exact ⟨rfl, rfl⟩
  have hle : ∀ id c, getT (h0 ty) id = some c → id ≤ 8 := fun id c hc => by
    rcases h0_ids hc with ⟨h, _⟩ | ⟨h, _⟩ | ⟨h, _⟩ | ⟨h, _⟩ | ⟨h, _⟩ | ⟨h, _⟩ | ⟨h, _⟩ | ⟨h, _⟩ <;> omega
  refine ⟨start ρ b o b' o', ty, rfl, rfl, fun id c hc => ?_, fun id id' c c' hc hc' e => ?_, (show (9 : Nat) ≤ 11 by decide), fun i hi => hj i (by unfold NG at hi; omega)⟩
  · refine ⟨Nat.lt_of_le_of_lt (hle id c hc) (show (8 : Nat) < 11 by decide), ?_⟩
    rcases h0_ids hc with ⟨rfl, rfl⟩ | ⟨rfl, rfl⟩ | ⟨rfl, rfl⟩ | ⟨rfl, rfl⟩ | ⟨rfl, rfl⟩ | ⟨rfl, rfl⟩ | ⟨rfl, rfl⟩ | ⟨rfl, rfl⟩
    · exact agree_CR (agr0 ty) rfl w0
    · exact agree_CR (agr1 ty) rfl w1
    · exact agree_CR (agr2 ty) rfl w2
    · exact agree_CR (agr4 ty) rfl w4
    · exact agree_CR (agr5 ty) rfl w5
    · refine ⟨_, f6, w6, Nat.le_refl _, (show (0 : Nat) + 1 ≤ 1 by decide), (fun e => by cases e), fun i v hv => ?_⟩
      have hi : i < 1 := by unfold cbAt at hv; split at hv; assumption; cases hv
      obtain rfl : i = 0 := by omega
      have hv' : some (Value.iface 404 (.pointer (some ⟨9, 0, none⟩))) = some v := hv
      cases hv'
      exact ⟨rfl, _, rfl, VR_iface.2 ⟨_, rfl, VR_ptr.2 ⟨(show (9 : Nat) < 11 by decide), rfl⟩⟩⟩
    · refine ⟨_, f7, w7, Nat.le_refl _, (show (0 : Nat) + 1 ≤ 1 by decide), (fun e => by cases e), fun i v hv => ?_⟩
      have hi : i < 1 := by unfold cbAt at hv; split at hv; assumption; cases hv
      obtain rfl : i = 0 := by omega
      have hv' : some (Value.iface 404 (.pointer (some ⟨10, 0, none⟩))) = some v := hv
      cases hv'
      exact ⟨rfl, _, rfl, VR_iface.2 ⟨_, rfl, VR_ptr.2 ⟨(show (10 : Nat) < 11 by decide), rfl⟩⟩⟩
    · exact agree_CR (agr8 ty) rfl w8
  · rw [(hj id (hle _ _ hc)).1, (hj id' (hle _ _ hc')).1] at e
    exact e

/-- Nothing of the start may be written. -/
theorem start_fr {X : Cx} {ty : Nat → TypeId} (b : Nat) : Fr X ⟨h0 ty, 11⟩ b := fun id c hc hw => by
  rcases h0_ids hc with ⟨_, rfl⟩ | ⟨_, rfl⟩ | ⟨_, rfl⟩ | ⟨_, rfl⟩ | ⟨_, rfl⟩ | ⟨_, rfl⟩ | ⟨_, rfl⟩ | ⟨_, rfl⟩ <;> cases hw

end Go.Proofs.YtogohcefjffahaaGreatDoor
