import Derived.Test.YtkpfafehcmammaaGreatDoorA4
import Derived.IntWalk
import Derived.Test.YtkpfafehcmammaaGreatDoorB2
import Derived.Test.YtkpfafehcmammaaGreatDoorA1
namespace Go.Proofs.YtkpfafehcmammaaGreatDoor
open Go.Deep

theorem w_u64 (n : Int) : IntKind.u64.wrap n = n % 18446744073709551616 := by simp [IntKind.wrap, IntKind.bits, IntKind.signed]
theorem w_u32 (n : Int) : IntKind.u32.wrap n = n % 4294967296 := by simp [IntKind.wrap, IntKind.bits, IntKind.signed]
theorem w_i64 (n : Int) : IntKind.i64.wrap n = (n + 9223372036854775808) % 18446744073709551616 - 9223372036854775808 := by
  simp only [IntKind.wrap, IntKind.bits, IntKind.signed]
  simp
  split <;> omega
theorem w_i32 (n : Int) : IntKind.i32.wrap n = (n + 2147483648) % 4294967296 - 2147483648 := by
  simp only [IntKind.wrap, IntKind.bits, IntKind.signed]
  simp
  split <;> omega

section
variable {ρ : Nat → Int} {x y r : Value} {k : IntKind} {a b : Int}
theorem says_leq (hx : num ρ k a x) (hy : num ρ k b y) (hr : r = .bool (decide (a ≤ b))) : saysB ρ (.leq, x, y, r) := ⟨k, a, k, b, .bool (decide (a ≤ b)), hx, hy, fun P w t => by simp [Go.binOp, Op.intCmp], .inl ⟨_, rfl, hr⟩⟩
theorem says_gtr (hx : num ρ k a x) (hy : num ρ k b y) (hr : r = .bool (decide (a > b))) : saysB ρ (.gtr, x, y, r) := ⟨k, a, k, b, .bool (decide (a > b)), hx, hy, fun P w t => by simp [Go.binOp, Op.intCmp], .inl ⟨_, rfl, hr⟩⟩
theorem says_geq (hx : num ρ k a x) (hy : num ρ k b y) (hr : r = .bool (decide (a ≥ b))) : saysB ρ (.geq, x, y, r) := ⟨k, a, k, b, .bool (decide (a ≥ b)), hx, hy, fun P w t => by simp [Go.binOp, Op.intCmp], .inl ⟨_, rfl, hr⟩⟩
theorem says_sub (hx : num ρ k a x) (hy : num ρ k b y) (hr : num ρ k (k.wrap (a - b)) r) : saysB ρ (.sub, x, y, r) := ⟨k, a, k, b, _, hx, hy, fun P w t => by simp [Go.binOp, Op.intArith], .inr ⟨_, _, rfl, hr⟩⟩
theorem says_mul (hx : num ρ k a x) (hy : num ρ k b y) (hr : num ρ k (k.wrap (a * b)) r) : saysB ρ (.mul, x, y, r) := ⟨k, a, k, b, _, hx, hy, fun P w t => by simp [Go.binOp, Op.intArith], .inr ⟨_, _, rfl, hr⟩⟩
theorem says_quo (hx : num ρ k a x) (hy : num ρ k b y) (hb : b ≠ 0) (hr : num ρ k (k.wrap (a.tdiv b)) r) : saysB ρ (.quo, x, y, r) := ⟨k, a, k, b, _, hx, hy, fun P w t => by simp [Go.binOp, Op.intDiv, hb], .inr ⟨_, _, rfl, hr⟩⟩
theorem says_and (hx : num ρ k a x) (hy : num ρ k b y) (hr : num ρ k (k.wrap (BitVec.ofInt k.bits a &&& BitVec.ofInt k.bits b).toNat) r) : saysB ρ (.and, x, y, r) := ⟨k, a, k, b, .int k (k.wrap (BitVec.ofInt k.bits a &&& BitVec.ofInt k.bits b).toNat), hx, hy, fun P w t => by simp [Go.binOp, Op.intBits], .inr ⟨_, _, rfl, hr⟩⟩
theorem says_xor (hx : num ρ k a x) (hy : num ρ k b y) (hr : num ρ k (k.wrap (BitVec.ofInt k.bits a ^^^ BitVec.ofInt k.bits b).toNat) r) : saysB ρ (.xor, x, y, r) := ⟨k, a, k, b, .int k (k.wrap (BitVec.ofInt k.bits a ^^^ BitVec.ofInt k.bits b).toNat), hx, hy, fun P w t => by simp [Go.binOp, Op.intBits], .inr ⟨_, _, rfl, hr⟩⟩
end

section
variable {a b : Int}
theorem cmp_eql_t (h : a = b) : Value.bool true = .bool (decide (a = b)) := by simp [h]
theorem cmp_eql_f (h : ¬ a = b) : Value.bool false = .bool (decide (a = b)) := by simp [h]
theorem cmp_neq_t (h : ¬ a = b) : Value.bool true = .bool (!decide (a = b)) := by simp [h]
theorem cmp_neq_f (h : a = b) : Value.bool false = .bool (!decide (a = b)) := by simp [h]
theorem cmp_lss_t (h : a < b) : Value.bool true = .bool (decide (a < b)) := by simp [h]
theorem cmp_lss_f (h : ¬ a < b) : Value.bool false = .bool (decide (a < b)) := by rw [decide_eq_false h]
theorem cmp_leq_t (h : a ≤ b) : Value.bool true = .bool (decide (a ≤ b)) := by simp [h]
theorem cmp_leq_f (h : ¬ a ≤ b) : Value.bool false = .bool (decide (a ≤ b)) := by rw [decide_eq_false h]
theorem cmp_gtr_t (h : a > b) : Value.bool true = .bool (decide (a > b)) := by rw [decide_eq_true h]
theorem cmp_gtr_f (h : ¬ a > b) : Value.bool false = .bool (decide (a > b)) := by rw [decide_eq_false h]
theorem cmp_geq_t (h : a ≥ b) : Value.bool true = .bool (decide (a ≥ b)) := by rw [decide_eq_true h]
theorem cmp_geq_f (h : ¬ a ≥ b) : Value.bool false = .bool (decide (a ≥ b)) := by rw [decide_eq_false h]
end

theorem ofInt64 (a : Int) : BitVec.ofInt 64 (a % 18446744073709551616) = BitVec.ofInt 64 a := by
  apply BitVec.eq_of_toInt_eq
  simp [BitVec.toInt_ofInt]
  exact Int.emod_bmod (x := a) (n := 18446744073709551616)
theorem ofInt32 (a : Int) : BitVec.ofInt 32 (a % 4294967296) = BitVec.ofInt 32 a := by
  apply BitVec.eq_of_toInt_eq
  simp [BitVec.toInt_ofInt]
  exact Int.emod_bmod (x := a) (n := 4294967296)

theorem and64 (x y : Int) : IntKind.i64.wrap ((BitVec.ofInt 64 x &&& BitVec.ofInt 64 y).toNat : Int) = IntKind.i64.wrap (IntKind.u64.wrap ((BitVec.ofInt 64 (IntKind.u64.wrap x) &&& BitVec.ofInt 64 (IntKind.u64.wrap y)).toNat : Int)) := by
  rw [w_u64 x, w_u64 y, ofInt64, ofInt64, w_i64, w_i64, w_u64]; omega
theorem or64 (x y : Int) : IntKind.i64.wrap ((BitVec.ofInt 64 x ||| BitVec.ofInt 64 y).toNat : Int) = IntKind.i64.wrap (IntKind.u64.wrap ((BitVec.ofInt 64 (IntKind.u64.wrap x) ||| BitVec.ofInt 64 (IntKind.u64.wrap y)).toNat : Int)) := by
  rw [w_u64 x, w_u64 y, ofInt64, ofInt64, w_i64, w_i64, w_u64]; omega
theorem xor64 (x y : Int) : IntKind.i64.wrap ((BitVec.ofInt 64 x ^^^ BitVec.ofInt 64 y).toNat : Int) = IntKind.i64.wrap (IntKind.u64.wrap ((BitVec.ofInt 64 (IntKind.u64.wrap x) ^^^ BitVec.ofInt 64 (IntKind.u64.wrap y)).toNat : Int)) := by
  rw [w_u64 x, w_u64 y, ofInt64, ofInt64, w_i64, w_i64, w_u64]; omega
theorem and32 (x y : Int) : IntKind.i32.wrap ((BitVec.ofInt 32 x &&& BitVec.ofInt 32 y).toNat : Int) = IntKind.i32.wrap (IntKind.u32.wrap ((BitVec.ofInt 32 (IntKind.u32.wrap x) &&& BitVec.ofInt 32 (IntKind.u32.wrap y)).toNat : Int)) := by
  rw [w_u32 x, w_u32 y, ofInt32, ofInt32, w_i32, w_i32, w_u32]; omega
theorem or32 (x y : Int) : IntKind.i32.wrap ((BitVec.ofInt 32 x ||| BitVec.ofInt 32 y).toNat : Int) = IntKind.i32.wrap (IntKind.u32.wrap ((BitVec.ofInt 32 (IntKind.u32.wrap x) ||| BitVec.ofInt 32 (IntKind.u32.wrap y)).toNat : Int)) := by
  rw [w_u32 x, w_u32 y, ofInt32, ofInt32, w_i32, w_i32, w_u32]; omega
theorem xor32 (x y : Int) : IntKind.i32.wrap ((BitVec.ofInt 32 x ^^^ BitVec.ofInt 32 y).toNat : Int) = IntKind.i32.wrap (IntKind.u32.wrap ((BitVec.ofInt 32 (IntKind.u32.wrap x) ^^^ BitVec.ofInt 32 (IntKind.u32.wrap y)).toNat : Int)) := by
  rw [w_u32 x, w_u32 y, ofInt32, ofInt32, w_i32, w_i32, w_u32]; omega

theorem fdiv_rng {a M : Int} {n : Nat} (h1 : -M ≤ a) (h2 : a < M) (hM : 0 ≤ M) : -M ≤ a.fdiv (2 ^ n) ∧ a.fdiv (2 ^ n) < M := by
  have hc : (1 : Int) ≤ 2 ^ n := by
    have : (0 : Int) < 2 ^ n := Int.pow_pos (by decide)
    omega
  rw [Int.fdiv_eq_ediv_of_nonneg a (by omega)]
  generalize (2 : Int) ^ n = c at hc
  have h3 : M * 1 ≤ M * c := Int.mul_le_mul_of_nonneg_left hc hM
  rw [Int.mul_one] at h3
  refine ⟨Int.le_ediv_of_mul_le (by omega) ?_, Int.ediv_lt_of_lt_mul (by omega) (by omega)⟩
  rw [Int.neg_mul]; omega

theorem tmod_rng {a b M : Int} (h1 : -M ≤ a) (h2 : a < M) : -M ≤ a.tmod b ∧ a.tmod b < M := by
  have hn : (a.tmod b).natAbs ≤ a.natAbs := by
    rw [Int.natAbs_tmod]
    exact Nat.mod_le _ _
  rcases Int.lt_or_le a 0 with h | h
  · have := Int.tmod_nonneg (a := -a) b (by omega)
    rw [Int.neg_tmod] at this
    omega
  · have := Int.tmod_nonneg (a := a) b h
    omega
end Go.Proofs.YtkpfafehcmammaaGreatDoor
namespace Go.Proofs.YtkpfafehcmammaaGreatDoor
open Go.Deep
theorem wr64 {ρ : Nat → Int} {a : Int} {r : Value} (h : -9223372036854775808 ≤ a ∧ a ≤ 9223372036854775807) (h' : num ρ .i64 a r) : num ρ .i64 (IntKind.i64.wrap a) r := by rw [IntWalk.i64_in _ h]; exact h'
theorem wru {ρ : Nat → Int} {a : Int} {r : Value} (h : 0 ≤ a ∧ a ≤ 18446744073709551615) (h' : num ρ .u64 a r) : num ρ .u64 (IntKind.u64.wrap a) r := by
  have : IntKind.u64.wrap a = a := by rw [w_u64]; omega
  rw [this]; exact h'
/-- The numbers up to n, added up. -/
def tri : Nat → Int
  | 0 => 0
  | n + 1 => tri n + ((n + 1 : Nat) : Int)
theorem tri_nn : ∀ n, 0 ≤ tri n
  | 0 => by simp [tri]
  | n + 1 => by have := tri_nn n; simp only [tri]; omega
theorem tri_le {k n : Nat} (h : k ≤ n) : tri k ≤ tri n := by
  induction n with
  | zero => rw [show k = 0 by omega]; omega
  | succ n ih =>
    by_cases e : k = n + 1
    · rw [e]; omega
    · have := ih (by omega); simp only [tri]; omega
theorem tri_max : ∀ n, n ≤ 300 → tri n ≤ 300 * n
  | 0, _ => by simp [tri]
  | n + 1, h => by have := tri_max n (by omega); simp only [tri]; omega
theorem tri_two : ∀ n : Nat, (n : Int) * ((n : Int) + 1) = 2 * tri n
  | 0 => by simp [tri]
  | n + 1 => by
    have := tri_two n
    simp only [tri]
    have e : ((n + 1 : Nat) : Int) = (n : Int) + 1 := by simp
    rw [e]
    have : ((n : Int) + 1) * ((n : Int) + 1 + 1) = (n : Int) * ((n : Int) + 1) + 2 * ((n : Int) + 1) := by
      rw [Int.mul_add, Int.add_mul, Int.add_mul, Int.mul_one]; omega
    omega
def fu (N k : Nat) : Int := 99998 - 12 * ((N : Int) - k)
def rhoS (N k : Nat) : Nat → Int
  | 10 => (k : Int)
  | 11 => (tri N - tri k)
  | 12 => fu N k
  | 100 => fu N k - 1
  | 101 => fu N k - 1 - 1
  | 102 => (k : Int)
  | 103 => fu N k - 1 - 1 - 1
  | 104 => fu N k - 1 - 1 - 1 - 1
  | 105 => fu N k - 1 - 1 - 1 - 1 - 1
  | 106 => fu N k - 1 - 1 - 1 - 1 - 1 - 1
  | 107 => (tri N - tri k)
  | 108 => (tri N - tri k) + (k : Int)
  | 109 => (tri N - tri k) + (k : Int)
  | 110 => fu N k - 1 - 1 - 1 - 1 - 1 - 1 - 1
  | 111 => fu N k - 1 - 1 - 1 - 1 - 1 - 1 - 1 - 1
  | 112 => fu N k - 1 - 1 - 1 - 1 - 1 - 1 - 1 - 1 - 1
  | 113 => fu N k - 1 - 1 - 1 - 1 - 1 - 1 - 1 - 1 - 1 - 1
  | 114 => (k : Int) - 1
  | 115 => (k : Int) - 1
  | 116 => fu N k - 1 - 1 - 1 - 1 - 1 - 1 - 1 - 1 - 1 - 1 - 1
  | 117 => fu N k - 1 - 1 - 1 - 1 - 1 - 1 - 1 - 1 - 1 - 1 - 1 - 1
  | _ => 0
def uT1B : List BE := [(.eql, .complex .f64 3 12, .int .i64 0, .bool false), (.sub, .complex .f64 3 12, .int .i64 1, .complex .f64 3 100), (.eql, .complex .f64 3 100, .int .i64 0, .bool false), (.sub, .complex .f64 3 100, .int .i64 1, .complex .f64 3 101), (.eql, .complex .f64 7 102, .int .u64 0, .bool false), (.eql, .complex .f64 3 101, .int .i64 0, .bool false), (.sub, .complex .f64 3 101, .int .i64 1, .complex .f64 3 103), (.eql, .complex .f64 3 103, .int .i64 0, .bool false), (.sub, .complex .f64 3 103, .int .i64 1, .complex .f64 3 104), (.eql, .complex .f64 3 104, .int .i64 0, .bool false), (.sub, .complex .f64 3 104, .int .i64 1, .complex .f64 3 105), (.eql, .complex .f64 3 105, .int .i64 0, .bool false), (.sub, .complex .f64 3 105, .int .i64 1, .complex .f64 3 106), (.add, .complex .f64 7 107, .complex .f64 7 102, .complex .f64 7 108), (.eql, .complex .f64 3 106, .int .i64 0, .bool false), (.sub, .complex .f64 3 106, .int .i64 1, .complex .f64 3 110), (.eql, .complex .f64 3 110, .int .i64 0, .bool false), (.sub, .complex .f64 3 110, .int .i64 1, .complex .f64 3 111), (.eql, .complex .f64 3 111, .int .i64 0, .bool false), (.sub, .complex .f64 3 111, .int .i64 1, .complex .f64 3 112), (.eql, .complex .f64 3 112, .int .i64 0, .bool false), (.sub, .complex .f64 3 112, .int .i64 1, .complex .f64 3 113), (.sub, .complex .f64 7 102, .int .u64 1, .complex .f64 7 114), (.eql, .complex .f64 3 113, .int .i64 0, .bool false), (.sub, .complex .f64 3 113, .int .i64 1, .complex .f64 3 116), (.eql, .complex .f64 3 116, .int .i64 0, .bool false), (.sub, .complex .f64 3 116, .int .i64 1, .complex .f64 3 117)]
def uT1C : List (IntKind × Value × Value) := [(.u64, .complex .f64 3 10, .complex .f64 7 102), (.u64, .complex .f64 3 11, .complex .f64 7 107), (.i64, .complex .f64 7 108, .complex .f64 3 109), (.i64, .complex .f64 7 114, .complex .f64 3 115)]
def uT1 : Tab := tabOf uT1B uT1C [] []
def uT2B : List BE := [(.eql, .complex .f64 3 12, .int .i64 0, .bool false), (.sub, .complex .f64 3 12, .int .i64 1, .complex .f64 3 100), (.eql, .complex .f64 3 100, .int .i64 0, .bool false), (.sub, .complex .f64 3 100, .int .i64 1, .complex .f64 3 101), (.eql, .complex .f64 7 102, .int .u64 0, .bool true), (.eql, .complex .f64 3 101, .int .i64 0, .bool false), (.sub, .complex .f64 3 101, .int .i64 1, .complex .f64 3 103), (.eql, .complex .f64 3 103, .int .i64 0, .bool false), (.sub, .complex .f64 3 103, .int .i64 1, .complex .f64 3 104)]
def uT2C : List (IntKind × Value × Value) := [(.u64, .complex .f64 3 10, .complex .f64 7 102)]
def uT2 : Tab := tabOf uT2B uT2C [] []
theorem uT1_ok {P : Program} {N k : Nat} (hN : N < 300) (hk : k ≤ N) (h0 : 0 < k) : TabOK P (rhoS N k) uT1 := by
  have h1 := tri_nn k
  have h2 := tri_le (k := k) (n := N) (by omega)
  have h3 := tri_max N (by omega)
  have h4 : 96000 ≤ fu N k ∧ fu N k ≤ 99998 := by unfold fu; omega
  refine tab_ok (fun x hx => ?_) (fun x hx => ?_) (fun x hx => by cases hx) (fun i hi => by cases hi)
  · simp only [uT1B, List.mem_cons, List.not_mem_nil, or_false] at hx
    rcases hx with rfl | rfl | rfl | rfl | rfl | rfl | rfl | rfl | rfl | rfl | rfl | rfl | rfl | rfl | rfl | rfl | rfl | rfl | rfl | rfl | rfl | rfl | rfl | rfl | rfl | rfl | rfl
    · exact says_eql (num_l (re := 3) (i := 12) (n := fu N k) rfl) num_i (cmp_eql_f (by omega))
    · exact says_sub (num_l (re := 3) (i := 12) (n := fu N k) rfl) num_i (wr64 (by omega) (num_l (re := 3) (i := 100) rfl))
    · exact says_eql (num_l (re := 3) (i := 100) (n := fu N k - 1) rfl) num_i (cmp_eql_f (by omega))
    · exact says_sub (num_l (re := 3) (i := 100) (n := fu N k - 1) rfl) num_i (wr64 (by omega) (num_l (re := 3) (i := 101) rfl))
    · exact says_eql (num_l (re := 7) (i := 102) (n := (k : Int)) rfl) num_i (cmp_eql_f (by omega))
    · exact says_eql (num_l (re := 3) (i := 101) (n := fu N k - 1 - 1) rfl) num_i (cmp_eql_f (by omega))
    · exact says_sub (num_l (re := 3) (i := 101) (n := fu N k - 1 - 1) rfl) num_i (wr64 (by omega) (num_l (re := 3) (i := 103) rfl))
    · exact says_eql (num_l (re := 3) (i := 103) (n := fu N k - 1 - 1 - 1) rfl) num_i (cmp_eql_f (by omega))
    · exact says_sub (num_l (re := 3) (i := 103) (n := fu N k - 1 - 1 - 1) rfl) num_i (wr64 (by omega) (num_l (re := 3) (i := 104) rfl))
    · exact says_eql (num_l (re := 3) (i := 104) (n := fu N k - 1 - 1 - 1 - 1) rfl) num_i (cmp_eql_f (by omega))
    · exact says_sub (num_l (re := 3) (i := 104) (n := fu N k - 1 - 1 - 1 - 1) rfl) num_i (wr64 (by omega) (num_l (re := 3) (i := 105) rfl))
    · exact says_eql (num_l (re := 3) (i := 105) (n := fu N k - 1 - 1 - 1 - 1 - 1) rfl) num_i (cmp_eql_f (by omega))
    · exact says_sub (num_l (re := 3) (i := 105) (n := fu N k - 1 - 1 - 1 - 1 - 1) rfl) num_i (wr64 (by omega) (num_l (re := 3) (i := 106) rfl))
    · exact says_add (num_l (re := 7) (i := 107) (n := (tri N - tri k)) rfl) (num_l (re := 7) (i := 102) (n := (k : Int)) rfl) (wru (by omega) (num_l (re := 7) (i := 108) rfl))
    · exact says_eql (num_l (re := 3) (i := 106) (n := fu N k - 1 - 1 - 1 - 1 - 1 - 1) rfl) num_i (cmp_eql_f (by omega))
    · exact says_sub (num_l (re := 3) (i := 106) (n := fu N k - 1 - 1 - 1 - 1 - 1 - 1) rfl) num_i (wr64 (by omega) (num_l (re := 3) (i := 110) rfl))
    · exact says_eql (num_l (re := 3) (i := 110) (n := fu N k - 1 - 1 - 1 - 1 - 1 - 1 - 1) rfl) num_i (cmp_eql_f (by omega))
    · exact says_sub (num_l (re := 3) (i := 110) (n := fu N k - 1 - 1 - 1 - 1 - 1 - 1 - 1) rfl) num_i (wr64 (by omega) (num_l (re := 3) (i := 111) rfl))
    · exact says_eql (num_l (re := 3) (i := 111) (n := fu N k - 1 - 1 - 1 - 1 - 1 - 1 - 1 - 1) rfl) num_i (cmp_eql_f (by omega))
    · exact says_sub (num_l (re := 3) (i := 111) (n := fu N k - 1 - 1 - 1 - 1 - 1 - 1 - 1 - 1) rfl) num_i (wr64 (by omega) (num_l (re := 3) (i := 112) rfl))
    · exact says_eql (num_l (re := 3) (i := 112) (n := fu N k - 1 - 1 - 1 - 1 - 1 - 1 - 1 - 1 - 1) rfl) num_i (cmp_eql_f (by omega))
    · exact says_sub (num_l (re := 3) (i := 112) (n := fu N k - 1 - 1 - 1 - 1 - 1 - 1 - 1 - 1 - 1) rfl) num_i (wr64 (by omega) (num_l (re := 3) (i := 113) rfl))
    · exact says_sub (num_l (re := 7) (i := 102) (n := (k : Int)) rfl) num_i (wru (by omega) (num_l (re := 7) (i := 114) rfl))
    · exact says_eql (num_l (re := 3) (i := 113) (n := fu N k - 1 - 1 - 1 - 1 - 1 - 1 - 1 - 1 - 1 - 1) rfl) num_i (cmp_eql_f (by omega))
    · exact says_sub (num_l (re := 3) (i := 113) (n := fu N k - 1 - 1 - 1 - 1 - 1 - 1 - 1 - 1 - 1 - 1) rfl) num_i (wr64 (by omega) (num_l (re := 3) (i := 116) rfl))
    · exact says_eql (num_l (re := 3) (i := 116) (n := fu N k - 1 - 1 - 1 - 1 - 1 - 1 - 1 - 1 - 1 - 1 - 1) rfl) num_i (cmp_eql_f (by omega))
    · exact says_sub (num_l (re := 3) (i := 116) (n := fu N k - 1 - 1 - 1 - 1 - 1 - 1 - 1 - 1 - 1 - 1 - 1) rfl) num_i (wr64 (by omega) (num_l (re := 3) (i := 117) rfl))
  · simp only [uT1C, List.mem_cons, List.not_mem_nil, or_false] at hx
    rcases hx with rfl | rfl | rfl | rfl
    · exact ⟨_, _, (num_l (re := 3) (i := 10) (n := (k : Int)) rfl), wru (by omega) (num_l (re := 7) (i := 102) rfl)⟩
    · exact ⟨_, _, (num_l (re := 3) (i := 11) (n := (tri N - tri k)) rfl), wru (by omega) (num_l (re := 7) (i := 107) rfl)⟩
    · exact ⟨_, _, (num_l (re := 7) (i := 108) (n := (tri N - tri k) + (k : Int)) rfl), wr64 (by omega) (num_l (re := 3) (i := 109) rfl)⟩
    · exact ⟨_, _, (num_l (re := 7) (i := 114) (n := (k : Int) - 1) rfl), wr64 (by omega) (num_l (re := 3) (i := 115) rfl)⟩
theorem uT2_ok {P : Program} {N k : Nat} (hN : N < 300) (hk : k ≤ N) (h0 : k = 0) : TabOK P (rhoS N k) uT2 := by
  have h1 := tri_nn k
  have h2 := tri_le (k := k) (n := N) (by omega)
  have h3 := tri_max N (by omega)
  have h4 : 96000 ≤ fu N k ∧ fu N k ≤ 99998 := by unfold fu; omega
  refine tab_ok (fun x hx => ?_) (fun x hx => ?_) (fun x hx => by cases hx) (fun i hi => by cases hi)
  · simp only [uT2B, List.mem_cons, List.not_mem_nil, or_false] at hx
    rcases hx with rfl | rfl | rfl | rfl | rfl | rfl | rfl | rfl | rfl
    · exact says_eql (num_l (re := 3) (i := 12) (n := fu N k) rfl) num_i (cmp_eql_f (by omega))
    · exact says_sub (num_l (re := 3) (i := 12) (n := fu N k) rfl) num_i (wr64 (by omega) (num_l (re := 3) (i := 100) rfl))
    · exact says_eql (num_l (re := 3) (i := 100) (n := fu N k - 1) rfl) num_i (cmp_eql_f (by omega))
    · exact says_sub (num_l (re := 3) (i := 100) (n := fu N k - 1) rfl) num_i (wr64 (by omega) (num_l (re := 3) (i := 101) rfl))
    · exact says_eql (num_l (re := 7) (i := 102) (n := (k : Int)) rfl) num_i (cmp_eql_t (by omega))
    · exact says_eql (num_l (re := 3) (i := 101) (n := fu N k - 1 - 1) rfl) num_i (cmp_eql_f (by omega))
    · exact says_sub (num_l (re := 3) (i := 101) (n := fu N k - 1 - 1) rfl) num_i (wr64 (by omega) (num_l (re := 3) (i := 103) rfl))
    · exact says_eql (num_l (re := 3) (i := 103) (n := fu N k - 1 - 1 - 1) rfl) num_i (cmp_eql_f (by omega))
    · exact says_sub (num_l (re := 3) (i := 103) (n := fu N k - 1 - 1 - 1) rfl) num_i (wr64 (by omega) (num_l (re := 3) (i := 104) rfl))
  · simp only [uT2C, List.mem_cons, List.not_mem_nil, or_false] at hx
    rcases hx with rfl
    · exact ⟨_, _, (num_l (re := 3) (i := 10) (n := (k : Int)) rfl), wru (by omega) (num_l (re := 7) (i := 102) rfl)⟩
def rhoQ (k : Nat) : Nat → Int
  | 12 => k
  | 100 => (k : Int) - 1
  | _ => 0
def qT1B : List BE := [(.eql, .complex .f64 3 12, .int .i64 0, .bool false), (.sub, .complex .f64 3 12, .int .i64 1, .complex .f64 3 100)]
def qT1C : List (IntKind × Value × Value) := []
def qT1 : Tab := tabOf qT1B qT1C [] []
def qT2B : List BE := [(.eql, .complex .f64 3 12, .int .i64 0, .bool true)]
def qT2C : List (IntKind × Value × Value) := []
def qT2 : Tab := tabOf qT2B qT2C [] []
theorem qT1_ok {P : Program} {k : Nat} (h0 : 0 < k) (hk : k < 1000) : TabOK P (rhoQ k) qT1 := by
  refine tab_ok (fun x hx => ?_) (fun x hx => ?_) (fun x hx => by cases hx) (fun i hi => by cases hi)
  · simp only [qT1B, List.mem_cons, List.not_mem_nil, or_false] at hx
    rcases hx with rfl | rfl
    · exact says_eql (num_l (re := 3) (i := 12) (n := (k : Int)) rfl) num_i (cmp_eql_f (by omega))
    · exact says_sub (num_l (re := 3) (i := 12) (n := (k : Int)) rfl) num_i (wr64 (by omega) (num_l (re := 3) (i := 100) rfl))
  · cases hx
theorem qT2_ok {P : Program} {k : Nat} (h0 : k = 0) : TabOK P (rhoQ k) qT2 := by
  refine tab_ok (fun x hx => ?_) (fun x hx => ?_) (fun x hx => by cases hx) (fun i hi => by cases hi)
  · simp only [qT2B, List.mem_cons, List.not_mem_nil, or_false] at hx
    rcases hx with rfl
    · exact says_eql (num_l (re := 3) (i := 12) (n := (k : Int)) rfl) num_i (cmp_eql_t (by omega))
  · cases hx
end Go.Proofs.YtkpfafehcmammaaGreatDoor
namespace Go.Proofs.YtkpfafehcmammaaGreatDoor
open Go.Deep
/-- The n-th of the row each of which is the sum of the two ahead. -/
def fibv (n : Int) : Int := match n with
  | .ofNat 0 => 0
  | .ofNat 1 => 1
  | .ofNat 2 => 1
  | .ofNat 3 => 2
  | .ofNat 4 => 3
  | .ofNat 5 => 5
  | .ofNat 6 => 8
  | .ofNat 7 => 13
  | .ofNat 8 => 21
  | .ofNat 9 => 34
  | .ofNat 10 => 55
  | .ofNat 11 => 89
  | _ => 0
def whyv (F : Int) : Int := if F < 50 then 8 else 7
def leftv (F : Int) : Int := if F < 50 then 0 else F - 50
/-- What the letters stand for. -/
def rhoB (m f : Int) : Nat → Int
  | 0 => m
  | 1 => f
  | 4 => pickv m 300
  | 5 => pickv m 12
  | 6 => pickv f 1000
  | 7 => fibv (pickv m 12)
  | 8 => whyv (pickv f 1000)
  | 9 => leftv (pickv f 1000)
  | 13 => 99994 - 12 * pickv m 300
  | 14 => tri (pickv m 300).toNat
  | 15 => 0
  | 100 => pickv f 1000 - 50
  | 101 => pickv m 300 + 1
  | 102 => pickv m 300 * (pickv m 300 + 1)
  | 103 => (pickv m 300 * (pickv m 300 + 1)).tdiv 2
  | _ => 0
def rhoL (m f : Int) (i : Nat) : Int := bif Nat.ble 200 i then pickv f 1000 - ((Nat.sub i 200 : Nat) : Int) else rhoB m f i
theorem rho200 {m f : Int} (i : Nat) : rhoL m f (200 + i) = pickv f 1000 - (i : Int) := by
  have h1 : Nat.ble 200 (200 + i) = true := Nat.ble_eq_true_of_le (by omega)
  have h2 : Nat.sub (200 + i) 200 = i := by change 200 + i - 200 = i; omega
  unfold rhoL; rw [h1, h2]; rfl
theorem pickv_rng {c m : Int} (hm : 0 < m) : 0 ≤ pickv c m ∧ pickv c m < m := by
  unfold pickv
  split
  · exact ⟨Int.tmod_nonneg _ (by omega), Int.tmod_lt_of_pos _ hm⟩
  · exact ⟨Int.tmod_nonneg _ (by omega), Int.tmod_lt_of_pos _ hm⟩
theorem half {m : Int} : (pickv m 300 * (pickv m 300 + 1)).tdiv 2 = tri (pickv m 300).toNat := by
  have h := pickv_rng (c := m) (m := 300) (by decide)
  have e : (((pickv m 300).toNat : Nat) : Int) = pickv m 300 := Int.toNat_of_nonneg h.1
  have := tri_two (pickv m 300).toNat
  rw [e] at this
  rw [this, Int.mul_comm 2, Int.mul_tdiv_cancel _ (by decide)]
theorem fT_ok {P : Program} {ρ : Nat → Int} : TabOK P ρ (tabOf [] [] [] []) := tab_ok (fun x hx => by cases hx) (fun x hx => by cases hx) (fun x hx => by cases hx) (fun x hx => by cases hx)
def zTaB : List BE := [(.lss, .complex .f64 3 6, .int .i64 0, .bool false), (.gtr, .complex .f64 3 6, .int .i64 100000, .bool false), (.sub, .complex .f64 3 6, .int .i64 50, .complex .f64 3 100), (.lss, .complex .f64 3 6, .int .i64 50, .bool true), (.add, .complex .f64 3 4, .int .i64 1, .complex .f64 3 101), (.mul, .complex .f64 3 4, .complex .f64 3 101, .complex .f64 3 102), (.quo, .complex .f64 3 102, .int .i64 2, .complex .f64 3 103), (.eql, .complex .f64 3 14, .complex .f64 3 103, .bool true), (.eql, .complex .f64 3 7, .complex .f64 3 7, .bool true), (.eql, .complex .f64 3 8, .int .i64 8, .bool true), (.eql, .complex .f64 3 9, .int .i64 0, .bool true), (.eql, .complex .f64 3 15, .int .i64 0, .bool true)]
def zTaC : List (IntKind × Value × Value) := []
def zTa : Tab := tabOf zTaB zTaC [] []
theorem zTa_ok {P : Program} {m f : Int} (h0 : pickv f 1000 < 50) : TabOK P (rhoL m f) zTa := by
  have h1 := pickv_rng (c := m) (m := 300) (by decide)
  have h2 := pickv_rng (c := f) (m := 1000) (by decide)
  have h3 := half (m := m)
  have h4 : 0 ≤ pickv m 300 * (pickv m 300 + 1) ∧ pickv m 300 * (pickv m 300 + 1) ≤ 300 * 300 := ⟨Int.mul_nonneg h1.1 (by omega), Int.mul_le_mul (by omega) (by omega) (by omega) (by decide)⟩
  have h5 : (0 : Int) ≤ tri (pickv m 300).toNat := tri_nn _
  have h6 := tri_max (pickv m 300).toNat (by omega)
  have h7 : (((pickv m 300).toNat : Nat) : Int) = pickv m 300 := Int.toNat_of_nonneg h1.1
  refine tab_ok (fun x hx => ?_) (fun x hx => ?_) (fun x hx => by cases hx) (fun i hi => by cases hi)
  · simp only [zTaB, List.mem_cons, List.not_mem_nil, or_false] at hx
    rcases hx with rfl | rfl | rfl | rfl | rfl | rfl | rfl | rfl | rfl | rfl | rfl | rfl
    · exact says_lss (num_l (re := 3) (i := 6) (n := pickv f 1000) rfl) num_i (cmp_lss_f (by first | omega | (unfold whyv; omega) | (unfold leftv; omega) | (unfold whyv; rw [if_pos (by omega)]) | (unfold leftv; rw [if_pos (by omega)]) | (unfold whyv; rw [if_neg (by omega)]) | (unfold leftv; rw [if_neg (by omega)])))
    · exact says_gtr (num_l (re := 3) (i := 6) (n := pickv f 1000) rfl) num_i (cmp_gtr_f (by first | omega | (unfold whyv; omega) | (unfold leftv; omega) | (unfold whyv; rw [if_pos (by omega)]) | (unfold leftv; rw [if_pos (by omega)]) | (unfold whyv; rw [if_neg (by omega)]) | (unfold leftv; rw [if_neg (by omega)])))
    · exact says_sub (num_l (re := 3) (i := 6) (n := pickv f 1000) rfl) num_i (wr64 (by first | omega | (unfold whyv; omega) | (unfold leftv; omega) | (unfold whyv; rw [if_pos (by omega)]) | (unfold leftv; rw [if_pos (by omega)]) | (unfold whyv; rw [if_neg (by omega)]) | (unfold leftv; rw [if_neg (by omega)])) (num_l (re := 3) (i := 100) rfl))
    · exact says_lss (num_l (re := 3) (i := 6) (n := pickv f 1000) rfl) num_i (cmp_lss_t (by first | omega | (unfold whyv; omega) | (unfold leftv; omega) | (unfold whyv; rw [if_pos (by omega)]) | (unfold leftv; rw [if_pos (by omega)]) | (unfold whyv; rw [if_neg (by omega)]) | (unfold leftv; rw [if_neg (by omega)])))
    · exact says_add (num_l (re := 3) (i := 4) (n := pickv m 300) rfl) num_i (wr64 (by first | omega | (unfold whyv; omega) | (unfold leftv; omega) | (unfold whyv; rw [if_pos (by omega)]) | (unfold leftv; rw [if_pos (by omega)]) | (unfold whyv; rw [if_neg (by omega)]) | (unfold leftv; rw [if_neg (by omega)])) (num_l (re := 3) (i := 101) rfl))
    · exact says_mul (num_l (re := 3) (i := 4) (n := pickv m 300) rfl) (num_l (re := 3) (i := 101) (n := pickv m 300 + 1) rfl) (wr64 (by first | omega | (unfold whyv; omega) | (unfold leftv; omega) | (unfold whyv; rw [if_pos (by omega)]) | (unfold leftv; rw [if_pos (by omega)]) | (unfold whyv; rw [if_neg (by omega)]) | (unfold leftv; rw [if_neg (by omega)])) (num_l (re := 3) (i := 102) rfl))
    · exact says_quo (num_l (re := 3) (i := 102) (n := pickv m 300 * (pickv m 300 + 1)) rfl) num_i (by decide) (wr64 (by first | omega | (unfold whyv; omega) | (unfold leftv; omega) | (unfold whyv; rw [if_pos (by omega)]) | (unfold leftv; rw [if_pos (by omega)]) | (unfold whyv; rw [if_neg (by omega)]) | (unfold leftv; rw [if_neg (by omega)])) (num_l (re := 3) (i := 103) rfl))
    · exact says_eql (num_l (re := 3) (i := 14) (n := tri (pickv m 300).toNat) rfl) (num_l (re := 3) (i := 103) (n := (pickv m 300 * (pickv m 300 + 1)).tdiv 2) rfl) (cmp_eql_t (by first | omega | (unfold whyv; omega) | (unfold leftv; omega) | (unfold whyv; rw [if_pos (by omega)]) | (unfold leftv; rw [if_pos (by omega)]) | (unfold whyv; rw [if_neg (by omega)]) | (unfold leftv; rw [if_neg (by omega)])))
    · exact says_eql (num_l (re := 3) (i := 7) (n := fibv (pickv m 12)) rfl) (num_l (re := 3) (i := 7) (n := fibv (pickv m 12)) rfl) (cmp_eql_t (by first | omega | (unfold whyv; omega) | (unfold leftv; omega) | (unfold whyv; rw [if_pos (by omega)]) | (unfold leftv; rw [if_pos (by omega)]) | (unfold whyv; rw [if_neg (by omega)]) | (unfold leftv; rw [if_neg (by omega)])))
    · exact says_eql (num_l (re := 3) (i := 8) (n := whyv (pickv f 1000)) rfl) num_i (cmp_eql_t (by first | omega | (unfold whyv; omega) | (unfold leftv; omega) | (unfold whyv; rw [if_pos (by omega)]) | (unfold leftv; rw [if_pos (by omega)]) | (unfold whyv; rw [if_neg (by omega)]) | (unfold leftv; rw [if_neg (by omega)])))
    · exact says_eql (num_l (re := 3) (i := 9) (n := leftv (pickv f 1000)) rfl) num_i (cmp_eql_t (by first | omega | (unfold whyv; omega) | (unfold leftv; omega) | (unfold whyv; rw [if_pos (by omega)]) | (unfold leftv; rw [if_pos (by omega)]) | (unfold whyv; rw [if_neg (by omega)]) | (unfold leftv; rw [if_neg (by omega)])))
    · exact says_eql (num_l (re := 3) (i := 15) (n := 0) rfl) num_i (cmp_eql_t (by first | omega | (unfold whyv; omega) | (unfold leftv; omega) | (unfold whyv; rw [if_pos (by omega)]) | (unfold leftv; rw [if_pos (by omega)]) | (unfold whyv; rw [if_neg (by omega)]) | (unfold leftv; rw [if_neg (by omega)])))
  · cases hx
def zTbB : List BE := [(.lss, .complex .f64 3 6, .int .i64 0, .bool false), (.gtr, .complex .f64 3 6, .int .i64 100000, .bool false), (.sub, .complex .f64 3 6, .int .i64 50, .complex .f64 3 100), (.lss, .complex .f64 3 6, .int .i64 50, .bool false), (.add, .complex .f64 3 4, .int .i64 1, .complex .f64 3 101), (.mul, .complex .f64 3 4, .complex .f64 3 101, .complex .f64 3 102), (.quo, .complex .f64 3 102, .int .i64 2, .complex .f64 3 103), (.eql, .complex .f64 3 14, .complex .f64 3 103, .bool true), (.eql, .complex .f64 3 7, .complex .f64 3 7, .bool true), (.eql, .complex .f64 3 8, .int .i64 7, .bool true), (.eql, .complex .f64 3 9, .complex .f64 3 100, .bool true), (.eql, .complex .f64 3 15, .int .i64 0, .bool true)]
def zTbC : List (IntKind × Value × Value) := []
def zTb : Tab := tabOf zTbB zTbC [] []
theorem zTb_ok {P : Program} {m f : Int} (h0 : 50 ≤ pickv f 1000) : TabOK P (rhoL m f) zTb := by
  have h1 := pickv_rng (c := m) (m := 300) (by decide)
  have h2 := pickv_rng (c := f) (m := 1000) (by decide)
  have h3 := half (m := m)
  have h4 : 0 ≤ pickv m 300 * (pickv m 300 + 1) ∧ pickv m 300 * (pickv m 300 + 1) ≤ 300 * 300 := ⟨Int.mul_nonneg h1.1 (by omega), Int.mul_le_mul (by omega) (by omega) (by omega) (by decide)⟩
  have h5 : (0 : Int) ≤ tri (pickv m 300).toNat := tri_nn _
  have h6 := tri_max (pickv m 300).toNat (by omega)
  have h7 : (((pickv m 300).toNat : Nat) : Int) = pickv m 300 := Int.toNat_of_nonneg h1.1
  refine tab_ok (fun x hx => ?_) (fun x hx => ?_) (fun x hx => by cases hx) (fun i hi => by cases hi)
  · simp only [zTbB, List.mem_cons, List.not_mem_nil, or_false] at hx
    rcases hx with rfl | rfl | rfl | rfl | rfl | rfl | rfl | rfl | rfl | rfl | rfl | rfl
    · exact says_lss (num_l (re := 3) (i := 6) (n := pickv f 1000) rfl) num_i (cmp_lss_f (by first | omega | (unfold whyv; omega) | (unfold leftv; omega) | (unfold whyv; rw [if_pos (by omega)]) | (unfold leftv; rw [if_pos (by omega)]) | (unfold whyv; rw [if_neg (by omega)]) | (unfold leftv; rw [if_neg (by omega)])))
    · exact says_gtr (num_l (re := 3) (i := 6) (n := pickv f 1000) rfl) num_i (cmp_gtr_f (by first | omega | (unfold whyv; omega) | (unfold leftv; omega) | (unfold whyv; rw [if_pos (by omega)]) | (unfold leftv; rw [if_pos (by omega)]) | (unfold whyv; rw [if_neg (by omega)]) | (unfold leftv; rw [if_neg (by omega)])))
    · exact says_sub (num_l (re := 3) (i := 6) (n := pickv f 1000) rfl) num_i (wr64 (by first | omega | (unfold whyv; omega) | (unfold leftv; omega) | (unfold whyv; rw [if_pos (by omega)]) | (unfold leftv; rw [if_pos (by omega)]) | (unfold whyv; rw [if_neg (by omega)]) | (unfold leftv; rw [if_neg (by omega)])) (num_l (re := 3) (i := 100) rfl))
    · exact says_lss (num_l (re := 3) (i := 6) (n := pickv f 1000) rfl) num_i (cmp_lss_f (by first | omega | (unfold whyv; omega) | (unfold leftv; omega) | (unfold whyv; rw [if_pos (by omega)]) | (unfold leftv; rw [if_pos (by omega)]) | (unfold whyv; rw [if_neg (by omega)]) | (unfold leftv; rw [if_neg (by omega)])))
    · exact says_add (num_l (re := 3) (i := 4) (n := pickv m 300) rfl) num_i (wr64 (by first | omega | (unfold whyv; omega) | (unfold leftv; omega) | (unfold whyv; rw [if_pos (by omega)]) | (unfold leftv; rw [if_pos (by omega)]) | (unfold whyv; rw [if_neg (by omega)]) | (unfold leftv; rw [if_neg (by omega)])) (num_l (re := 3) (i := 101) rfl))
    · exact says_mul (num_l (re := 3) (i := 4) (n := pickv m 300) rfl) (num_l (re := 3) (i := 101) (n := pickv m 300 + 1) rfl) (wr64 (by first | omega | (unfold whyv; omega) | (unfold leftv; omega) | (unfold whyv; rw [if_pos (by omega)]) | (unfold leftv; rw [if_pos (by omega)]) | (unfold whyv; rw [if_neg (by omega)]) | (unfold leftv; rw [if_neg (by omega)])) (num_l (re := 3) (i := 102) rfl))
    · exact says_quo (num_l (re := 3) (i := 102) (n := pickv m 300 * (pickv m 300 + 1)) rfl) num_i (by decide) (wr64 (by first | omega | (unfold whyv; omega) | (unfold leftv; omega) | (unfold whyv; rw [if_pos (by omega)]) | (unfold leftv; rw [if_pos (by omega)]) | (unfold whyv; rw [if_neg (by omega)]) | (unfold leftv; rw [if_neg (by omega)])) (num_l (re := 3) (i := 103) rfl))
    · exact says_eql (num_l (re := 3) (i := 14) (n := tri (pickv m 300).toNat) rfl) (num_l (re := 3) (i := 103) (n := (pickv m 300 * (pickv m 300 + 1)).tdiv 2) rfl) (cmp_eql_t (by first | omega | (unfold whyv; omega) | (unfold leftv; omega) | (unfold whyv; rw [if_pos (by omega)]) | (unfold leftv; rw [if_pos (by omega)]) | (unfold whyv; rw [if_neg (by omega)]) | (unfold leftv; rw [if_neg (by omega)])))
    · exact says_eql (num_l (re := 3) (i := 7) (n := fibv (pickv m 12)) rfl) (num_l (re := 3) (i := 7) (n := fibv (pickv m 12)) rfl) (cmp_eql_t (by first | omega | (unfold whyv; omega) | (unfold leftv; omega) | (unfold whyv; rw [if_pos (by omega)]) | (unfold leftv; rw [if_pos (by omega)]) | (unfold whyv; rw [if_neg (by omega)]) | (unfold leftv; rw [if_neg (by omega)])))
    · exact says_eql (num_l (re := 3) (i := 8) (n := whyv (pickv f 1000)) rfl) num_i (cmp_eql_t (by first | omega | (unfold whyv; omega) | (unfold leftv; omega) | (unfold whyv; rw [if_pos (by omega)]) | (unfold leftv; rw [if_pos (by omega)]) | (unfold whyv; rw [if_neg (by omega)]) | (unfold leftv; rw [if_neg (by omega)])))
    · exact says_eql (num_l (re := 3) (i := 9) (n := leftv (pickv f 1000)) rfl) (num_l (re := 3) (i := 100) (n := pickv f 1000 - 50) rfl) (cmp_eql_t (by first | omega | (unfold whyv; omega) | (unfold leftv; omega) | (unfold whyv; rw [if_pos (by omega)]) | (unfold leftv; rw [if_pos (by omega)]) | (unfold whyv; rw [if_neg (by omega)]) | (unfold leftv; rw [if_neg (by omega)])))
    · exact says_eql (num_l (re := 3) (i := 15) (n := 0) rfl) num_i (cmp_eql_t (by first | omega | (unfold whyv; omega) | (unfold leftv; omega) | (unfold whyv; rw [if_pos (by omega)]) | (unfold leftv; rw [if_pos (by omega)]) | (unfold whyv; rw [if_neg (by omega)]) | (unfold leftv; rw [if_neg (by omega)])))
  · cases hx
def zTcB : List BE := [(.add, .complex .f64 3 4, .int .i64 1, .complex .f64 3 101), (.mul, .complex .f64 3 4, .complex .f64 3 101, .complex .f64 3 102), (.quo, .complex .f64 3 102, .int .i64 2, .complex .f64 3 103), (.eql, .complex .f64 3 14, .complex .f64 3 103, .bool true), (.eql, .complex .f64 3 7, .complex .f64 3 7, .bool true), (.eql, .complex .f64 3 8, .int .i64 8, .bool true), (.eql, .complex .f64 3 9, .int .i64 0, .bool true)]
def zTcC : List (IntKind × Value × Value) := []
def zTc : Tab := tabOf zTcB zTcC [] []
theorem zTc_ok {P : Program} {m f : Int} (h0 : pickv f 1000 = 0) : TabOK P (rhoL m f) zTc := by
  have h1 := pickv_rng (c := m) (m := 300) (by decide)
  have h2 := pickv_rng (c := f) (m := 1000) (by decide)
  have h3 := half (m := m)
  have h4 : 0 ≤ pickv m 300 * (pickv m 300 + 1) ∧ pickv m 300 * (pickv m 300 + 1) ≤ 300 * 300 := ⟨Int.mul_nonneg h1.1 (by omega), Int.mul_le_mul (by omega) (by omega) (by omega) (by decide)⟩
  have h5 : (0 : Int) ≤ tri (pickv m 300).toNat := tri_nn _
  have h6 := tri_max (pickv m 300).toNat (by omega)
  have h7 : (((pickv m 300).toNat : Nat) : Int) = pickv m 300 := Int.toNat_of_nonneg h1.1
  refine tab_ok (fun x hx => ?_) (fun x hx => ?_) (fun x hx => by cases hx) (fun i hi => by cases hi)
  · simp only [zTcB, List.mem_cons, List.not_mem_nil, or_false] at hx
    rcases hx with rfl | rfl | rfl | rfl | rfl | rfl | rfl
    · exact says_add (num_l (re := 3) (i := 4) (n := pickv m 300) rfl) num_i (wr64 (by first | omega | (unfold whyv; omega) | (unfold leftv; omega) | (unfold whyv; rw [if_pos (by omega)]) | (unfold leftv; rw [if_pos (by omega)]) | (unfold whyv; rw [if_neg (by omega)]) | (unfold leftv; rw [if_neg (by omega)])) (num_l (re := 3) (i := 101) rfl))
    · exact says_mul (num_l (re := 3) (i := 4) (n := pickv m 300) rfl) (num_l (re := 3) (i := 101) (n := pickv m 300 + 1) rfl) (wr64 (by first | omega | (unfold whyv; omega) | (unfold leftv; omega) | (unfold whyv; rw [if_pos (by omega)]) | (unfold leftv; rw [if_pos (by omega)]) | (unfold whyv; rw [if_neg (by omega)]) | (unfold leftv; rw [if_neg (by omega)])) (num_l (re := 3) (i := 102) rfl))
    · exact says_quo (num_l (re := 3) (i := 102) (n := pickv m 300 * (pickv m 300 + 1)) rfl) num_i (by decide) (wr64 (by first | omega | (unfold whyv; omega) | (unfold leftv; omega) | (unfold whyv; rw [if_pos (by omega)]) | (unfold leftv; rw [if_pos (by omega)]) | (unfold whyv; rw [if_neg (by omega)]) | (unfold leftv; rw [if_neg (by omega)])) (num_l (re := 3) (i := 103) rfl))
    · exact says_eql (num_l (re := 3) (i := 14) (n := tri (pickv m 300).toNat) rfl) (num_l (re := 3) (i := 103) (n := (pickv m 300 * (pickv m 300 + 1)).tdiv 2) rfl) (cmp_eql_t (by first | omega | (unfold whyv; omega) | (unfold leftv; omega) | (unfold whyv; rw [if_pos (by omega)]) | (unfold leftv; rw [if_pos (by omega)]) | (unfold whyv; rw [if_neg (by omega)]) | (unfold leftv; rw [if_neg (by omega)])))
    · exact says_eql (num_l (re := 3) (i := 7) (n := fibv (pickv m 12)) rfl) (num_l (re := 3) (i := 7) (n := fibv (pickv m 12)) rfl) (cmp_eql_t (by first | omega | (unfold whyv; omega) | (unfold leftv; omega) | (unfold whyv; rw [if_pos (by omega)]) | (unfold leftv; rw [if_pos (by omega)]) | (unfold whyv; rw [if_neg (by omega)]) | (unfold leftv; rw [if_neg (by omega)])))
    · exact says_eql (num_l (re := 3) (i := 8) (n := whyv (pickv f 1000)) rfl) num_i (cmp_eql_t (by first | omega | (unfold whyv; omega) | (unfold leftv; omega) | (unfold whyv; rw [if_pos (by omega)]) | (unfold leftv; rw [if_pos (by omega)]) | (unfold whyv; rw [if_neg (by omega)]) | (unfold leftv; rw [if_neg (by omega)])))
    · exact says_eql (num_l (re := 3) (i := 9) (n := leftv (pickv f 1000)) rfl) num_i (cmp_eql_t (by first | omega | (unfold whyv; omega) | (unfold leftv; omega) | (unfold whyv; rw [if_pos (by omega)]) | (unfold leftv; rw [if_pos (by omega)]) | (unfold whyv; rw [if_neg (by omega)]) | (unfold leftv; rw [if_neg (by omega)])))
  · cases hx
def qT0B : List BE := [(.eql, .complex .f64 3 6, .int .i64 0, .bool false), (.sub, .complex .f64 3 6, .int .i64 1, .complex .f64 3 201)]
def qT0C : List (IntKind × Value × Value) := []
def qT0 : Tab := tabOf qT0B qT0C [] []
theorem qT0_ok {P : Program} {m f : Int} (h0 : 0 < pickv f 1000) : TabOK P (rhoL m f) qT0 := by
  have h1 := pickv_rng (c := m) (m := 300) (by decide)
  have h2 := pickv_rng (c := f) (m := 1000) (by decide)
  have h3 := half (m := m)
  have h4 : 0 ≤ pickv m 300 * (pickv m 300 + 1) ∧ pickv m 300 * (pickv m 300 + 1) ≤ 300 * 300 := ⟨Int.mul_nonneg h1.1 (by omega), Int.mul_le_mul (by omega) (by omega) (by omega) (by decide)⟩
  have h5 : (0 : Int) ≤ tri (pickv m 300).toNat := tri_nn _
  have h6 := tri_max (pickv m 300).toNat (by omega)
  have h7 : (((pickv m 300).toNat : Nat) : Int) = pickv m 300 := Int.toNat_of_nonneg h1.1
  refine tab_ok (fun x hx => ?_) (fun x hx => ?_) (fun x hx => by cases hx) (fun i hi => by cases hi)
  · simp only [qT0B, List.mem_cons, List.not_mem_nil, or_false] at hx
    rcases hx with rfl | rfl
    · exact says_eql (num_l (re := 3) (i := 6) (n := pickv f 1000) rfl) num_i (cmp_eql_f (by first | omega | (unfold whyv; omega) | (unfold leftv; omega) | (unfold whyv; rw [if_pos (by omega)]) | (unfold leftv; rw [if_pos (by omega)]) | (unfold whyv; rw [if_neg (by omega)]) | (unfold leftv; rw [if_neg (by omega)])))
    · exact says_sub (num_l (re := 3) (i := 6) (n := pickv f 1000) rfl) num_i (wr64 (by first | omega | (unfold whyv; omega) | (unfold leftv; omega) | (unfold whyv; rw [if_pos (by omega)]) | (unfold leftv; rw [if_pos (by omega)]) | (unfold whyv; rw [if_neg (by omega)]) | (unfold leftv; rw [if_neg (by omega)])) (num_l (re := 3) (i := 201) rfl))
  · cases hx
def subQ3 : Sub := [(3, 12, .complex .f64 3 201)]
def sTB : List BE := [(.lss, .complex .f64 3 200, .int .i64 0, .bool false), (.gtr, .complex .f64 3 200, .int .i64 100000, .bool false), (.eql, .complex .f64 3 200, .int .i64 0, .bool false), (.sub, .complex .f64 3 200, .int .i64 1, .complex .f64 3 201), (.eql, .complex .f64 3 201, .int .i64 0, .bool false), (.sub, .complex .f64 3 201, .int .i64 1, .complex .f64 3 202), (.eql, .complex .f64 3 202, .int .i64 0, .bool false), (.sub, .complex .f64 3 202, .int .i64 1, .complex .f64 3 203), (.eql, .complex .f64 3 203, .int .i64 0, .bool false), (.sub, .complex .f64 3 203, .int .i64 1, .complex .f64 3 204), (.eql, .complex .f64 3 204, .int .i64 0, .bool false), (.sub, .complex .f64 3 204, .int .i64 1, .complex .f64 3 205), (.eql, .complex .f64 3 205, .int .i64 0, .bool false), (.sub, .complex .f64 3 205, .int .i64 1, .complex .f64 3 206), (.eql, .complex .f64 3 206, .int .i64 0, .bool false), (.sub, .complex .f64 3 206, .int .i64 1, .complex .f64 3 207), (.eql, .complex .f64 3 207, .int .i64 0, .bool false), (.sub, .complex .f64 3 207, .int .i64 1, .complex .f64 3 208), (.eql, .complex .f64 3 208, .int .i64 0, .bool false), (.sub, .complex .f64 3 208, .int .i64 1, .complex .f64 3 209), (.eql, .complex .f64 3 209, .int .i64 0, .bool false), (.sub, .complex .f64 3 209, .int .i64 1, .complex .f64 3 210), (.eql, .complex .f64 3 210, .int .i64 0, .bool false), (.sub, .complex .f64 3 210, .int .i64 1, .complex .f64 3 211), (.eql, .complex .f64 3 211, .int .i64 0, .bool false), (.sub, .complex .f64 3 211, .int .i64 1, .complex .f64 3 212), (.eql, .complex .f64 3 212, .int .i64 0, .bool false), (.sub, .complex .f64 3 212, .int .i64 1, .complex .f64 3 213), (.eql, .complex .f64 3 213, .int .i64 0, .bool false), (.sub, .complex .f64 3 213, .int .i64 1, .complex .f64 3 214), (.eql, .complex .f64 3 214, .int .i64 0, .bool false), (.sub, .complex .f64 3 214, .int .i64 1, .complex .f64 3 215), (.eql, .complex .f64 3 215, .int .i64 0, .bool false), (.sub, .complex .f64 3 215, .int .i64 1, .complex .f64 3 216), (.eql, .complex .f64 3 216, .int .i64 0, .bool false), (.sub, .complex .f64 3 216, .int .i64 1, .complex .f64 3 217), (.eql, .complex .f64 3 217, .int .i64 0, .bool false), (.sub, .complex .f64 3 217, .int .i64 1, .complex .f64 3 218), (.eql, .complex .f64 3 218, .int .i64 0, .bool false), (.sub, .complex .f64 3 218, .int .i64 1, .complex .f64 3 219), (.eql, .complex .f64 3 219, .int .i64 0, .bool false), (.sub, .complex .f64 3 219, .int .i64 1, .complex .f64 3 220), (.eql, .complex .f64 3 220, .int .i64 0, .bool false), (.sub, .complex .f64 3 220, .int .i64 1, .complex .f64 3 221), (.eql, .complex .f64 3 221, .int .i64 0, .bool false), (.sub, .complex .f64 3 221, .int .i64 1, .complex .f64 3 222), (.eql, .complex .f64 3 222, .int .i64 0, .bool false), (.sub, .complex .f64 3 222, .int .i64 1, .complex .f64 3 223), (.eql, .complex .f64 3 223, .int .i64 0, .bool false), (.sub, .complex .f64 3 223, .int .i64 1, .complex .f64 3 224), (.eql, .complex .f64 3 224, .int .i64 0, .bool false), (.sub, .complex .f64 3 224, .int .i64 1, .complex .f64 3 225), (.eql, .complex .f64 3 225, .int .i64 0, .bool false), (.sub, .complex .f64 3 225, .int .i64 1, .complex .f64 3 226), (.eql, .complex .f64 3 226, .int .i64 0, .bool false), (.sub, .complex .f64 3 226, .int .i64 1, .complex .f64 3 227), (.eql, .complex .f64 3 227, .int .i64 0, .bool false), (.sub, .complex .f64 3 227, .int .i64 1, .complex .f64 3 228), (.eql, .complex .f64 3 228, .int .i64 0, .bool false), (.sub, .complex .f64 3 228, .int .i64 1, .complex .f64 3 229), (.eql, .complex .f64 3 229, .int .i64 0, .bool false), (.sub, .complex .f64 3 229, .int .i64 1, .complex .f64 3 230), (.eql, .complex .f64 3 230, .int .i64 0, .bool false), (.sub, .complex .f64 3 230, .int .i64 1, .complex .f64 3 231), (.eql, .complex .f64 3 231, .int .i64 0, .bool false), (.sub, .complex .f64 3 231, .int .i64 1, .complex .f64 3 232), (.eql, .complex .f64 3 232, .int .i64 0, .bool false), (.sub, .complex .f64 3 232, .int .i64 1, .complex .f64 3 233), (.eql, .complex .f64 3 233, .int .i64 0, .bool false), (.sub, .complex .f64 3 233, .int .i64 1, .complex .f64 3 234), (.eql, .complex .f64 3 234, .int .i64 0, .bool false), (.sub, .complex .f64 3 234, .int .i64 1, .complex .f64 3 235), (.eql, .complex .f64 3 235, .int .i64 0, .bool false), (.sub, .complex .f64 3 235, .int .i64 1, .complex .f64 3 236), (.eql, .complex .f64 3 236, .int .i64 0, .bool false), (.sub, .complex .f64 3 236, .int .i64 1, .complex .f64 3 237), (.eql, .complex .f64 3 237, .int .i64 0, .bool false), (.sub, .complex .f64 3 237, .int .i64 1, .complex .f64 3 238), (.eql, .complex .f64 3 238, .int .i64 0, .bool false), (.sub, .complex .f64 3 238, .int .i64 1, .complex .f64 3 239), (.eql, .complex .f64 3 239, .int .i64 0, .bool false), (.sub, .complex .f64 3 239, .int .i64 1, .complex .f64 3 240), (.eql, .complex .f64 3 240, .int .i64 0, .bool false), (.sub, .complex .f64 3 240, .int .i64 1, .complex .f64 3 241), (.eql, .complex .f64 3 241, .int .i64 0, .bool false), (.sub, .complex .f64 3 241, .int .i64 1, .complex .f64 3 242), (.eql, .complex .f64 3 242, .int .i64 0, .bool false), (.sub, .complex .f64 3 242, .int .i64 1, .complex .f64 3 243), (.eql, .complex .f64 3 243, .int .i64 0, .bool false), (.sub, .complex .f64 3 243, .int .i64 1, .complex .f64 3 244), (.eql, .complex .f64 3 244, .int .i64 0, .bool false), (.sub, .complex .f64 3 244, .int .i64 1, .complex .f64 3 245), (.eql, .complex .f64 3 245, .int .i64 0, .bool false), (.sub, .complex .f64 3 245, .int .i64 1, .complex .f64 3 246), (.eql, .complex .f64 3 246, .int .i64 0, .bool false), (.sub, .complex .f64 3 246, .int .i64 1, .complex .f64 3 247), (.eql, .complex .f64 3 247, .int .i64 0, .bool false), (.sub, .complex .f64 3 247, .int .i64 1, .complex .f64 3 248), (.eql, .complex .f64 3 248, .int .i64 0, .bool false), (.sub, .complex .f64 3 248, .int .i64 1, .complex .f64 3 249), (.eql, .complex .f64 3 249, .int .i64 0, .bool false), (.sub, .complex .f64 3 249, .int .i64 1, .complex .f64 3 250)]
def sTC : List (IntKind × Value × Value) := []
def sT : Tab := tabOf sTB sTC [] []
def selfE (i : Nat) : List BE := [(.eql, .complex .f64 3 (200 + i), .int .i64 0, .bool false), (.sub, .complex .f64 3 (200 + i), .int .i64 1, .complex .f64 3 (201 + i))]
set_option maxRecDepth 100000 in
theorem sTB_eq : sTB = (.lss, .complex .f64 3 200, .int .i64 0, .bool false) :: (.gtr, .complex .f64 3 200, .int .i64 100000, .bool false) :: (List.range 50).flatMap selfE := rfl
theorem sT_ok {P : Program} {m f : Int} (h0 : 50 ≤ pickv f 1000) : TabOK P (rhoL m f) sT := by
  have h2 := pickv_rng (c := f) (m := 1000) (by decide)
  have r0 : rhoL m f 200 = pickv f 1000 := by have := rho200 (m := m) (f := f) 0; simpa using this
  refine tab_ok (fun x hx => ?_) (fun x hx => by cases hx) (fun x hx => by cases hx) (fun i hi => by cases hi)
  rw [sTB_eq] at hx
  rcases List.mem_cons.1 hx with rfl | hx
  · exact says_lss (num_l (re := 3) r0) num_i (cmp_lss_f (by omega))
  rcases List.mem_cons.1 hx with rfl | hx
  · exact says_gtr (num_l (re := 3) r0) num_i (cmp_gtr_f (by omega))
  obtain ⟨i, hi, hx⟩ := List.mem_flatMap.1 hx
  have hi := List.mem_range.1 hi
  have r1 := rho200 (m := m) (f := f) i
  have r2 := rho200 (m := m) (f := f) (1 + i)
  rw [show 200 + (1 + i) = 201 + i by omega] at r2
  simp only [selfE, List.mem_cons, List.not_mem_nil, or_false] at hx
  rcases hx with rfl | rfl
  · exact says_eql (num_l (re := 3) r1) num_i (cmp_eql_f (by omega))
  · exact says_sub (num_l (re := 3) r1) num_i (wr64 (by omega) (num_l (re := 3) (by rw [r2]; omega)))
end Go.Proofs.YtkpfafehcmammaaGreatDoor
namespace Go.Proofs.YtkpfafehcmammaaGreatDoor
open Go.Proofs
def a111 : AB := (.inl ⟨(.node 0 0 (some (.slice (some ⟨12, 0, (some 2)⟩) 3 0)) (.node 0 0 (some (.slice (some ⟨13, 0, (some 5)⟩) 4 0)) (.node 0 0 (some (.slice none 0 0)) .nil .nil) (.node 0 0 (some (.int .i64 (.ofNat 0))) .nil .nil)) (.node 0 0 (some (.slice (some ⟨14, 0, (some 3)⟩) 4 0)) (.node 0 0 (some (.slice none 0 0)) .nil .nil) (.node 0 0 (some (.slice none 0 0)) .nil .nil))), none, 7, 47, false⟩)
def a112 : AB := (.inl ⟨(.node 0 0 (some (.slice (some ⟨15, 0, (some 1)⟩) 1 0)) (.node 0 0 (some (.slice (some ⟨16, 0, (some 1)⟩) 1 0)) (.node 0 0 (some (.slice (some ⟨18, 0, (some 1)⟩) 1 0)) .nil .nil) (.node 0 0 (some (.slice none 0 0)) .nil .nil)) (.node 0 0 (some (.slice (some ⟨17, 0, (some 1)⟩) 1 0)) (.node 0 0 (some (.slice none 0 0)) .nil .nil) .nil)), none, 6, 61, false⟩)
def a113 : AB := (.inl ⟨(.node 0 0 (some (.slice (some ⟨15, 0, (some 1)⟩) 1 0)) (.node 0 0 (some (.slice (some ⟨16, 0, (some 1)⟩) 1 0)) (.node 0 0 (some (.slice (some ⟨19, 0, (some 5)⟩) 3 0)) (.node 0 0 (some (.int .i64 (.ofNat 0))) (.node 0 0 (some (.slice none 0 0)) .nil .nil) .nil) (.node 0 0 (some (.slice none 0 0)) (.node 0 0 (some (.slice (some ⟨26, 0, (some 5)⟩) 3 0)) .nil .nil) .nil)) (.node 0 0 (some (.slice (some ⟨17, 0, (some 1)⟩) 1 0)) (.node 0 0 (some (.slice (some ⟨22, 0, (some 5)⟩) 16 0)) (.node 0 0 (some (.int .i64 (.ofNat 0))) .nil .nil) .nil) (.node 0 0 (some (.slice (some ⟨23, 0, (some 5)⟩) 1 2)) .nil .nil))) (.node 0 0 (some (.int .i64 (.ofNat 1))) (.node 0 0 (some (.slice (some ⟨20, 0, (some 5)⟩) 17 0)) (.node 0 0 (some (.slice (some ⟨21, 0, (some 5)⟩) 2 0)) (.node 0 0 (some (.slice none 0 0)) .nil .nil) .nil) (.node 0 0 (some (.int .i64 (.ofNat 0))) .nil .nil)) (.node 0 0 (some (.slice (some ⟨18, 0, (some 1)⟩) 1 0)) (.node 0 0 (some (.slice none 0 0)) (.node 0 0 (some (.slice (some ⟨25, 0, (some 5)⟩) 2 0)) .nil .nil) .nil) (.node 0 0 (some (.slice (some ⟨24, 0, (some 5)⟩) 1 0)) .nil .nil)))), none, 20, 65, false⟩)
def a114 : AB := (.inl ⟨(.node 0 0 (some (.string ⟨⟨[115, 117, 109]⟩⟩)) (.node 0 0 (some (.int .u8 (.ofNat 0))) (.node 0 0 (some (.string ⟨⟨[114, 111, 119]⟩⟩)) (.node 0 0 (some (.int .u8 (.ofNat 0))) .nil .nil) (.node 0 0 (some (.int .i64 (.ofNat 3))) .nil .nil)) (.node 0 0 (some (.int .i64 (.ofNat 1))) (.node 0 0 (some (.string ⟨⟨[114, 111, 117, 110, 100]⟩⟩)) .nil .nil) .nil)) (.node 0 0 (some (.int .i64 (.ofNat 0))) (.node 0 0 (some (.int .u8 (.ofNat 0))) (.node 0 0 (some (.int .i64 (.ofNat 2))) .nil .nil) .nil) (.node 0 0 (some (.string ⟨⟨[115, 101, 108, 102]⟩⟩)) (.node 0 0 (some (.int .u8 (.ofNat 0))) .nil .nil) .nil))), none, 12, 146, false⟩)
def a115 : AB := (.inl ⟨(.node 0 0 (some (.int .u8 (.ofNat 126))) .nil .nil), none, 1, 99, false⟩)
def a116 : AB := (.inl ⟨(.node 0 0 (some (.int .u8 (.ofNat 126))) .nil .nil), none, 1, 99, false⟩)
def a117 : AB := (.inl ⟨(.node 0 0 (some (.int .u8 (.ofNat 127))) .nil .nil), none, 1, 99, false⟩)
def a118 : AB := (.inl ⟨(.node 0 0 (some (.int .u8 (.ofNat 127))) .nil .nil), none, 1, 99, false⟩)
def a119 : AB := (.inl ⟨(.node 0 0 (some (.bool false)) (.node 0 0 (some (.int .i64 (.ofNat 0))) (.node 0 0 (some (.int .i64 (.ofNat 0))) (.node 0 0 (some (.int .i64 (.ofNat 0))) .nil .nil) (.node 0 0 (some (.int .i64 (.ofNat 0))) .nil .nil)) (.node 0 0 (some (.bool false)) (.node 0 0 (some (.int .i64 (.ofNat 0))) .nil .nil) (.node 0 0 (some (.int .i64 (.ofNat 2))) .nil .nil))) (.node 0 0 (some (.int .i64 (.ofNat 1))) (.node 0 0 (some (.int .i64 (.ofNat 0))) (.node 0 0 (some (.int .i64 (.ofNat 16))) .nil .nil) (.node 0 0 (some (.int .i64 (.ofNat 0))) .nil .nil)) (.node 0 0 (some (.int .i64 (.ofNat 0))) (.node 0 0 (some (.bool true)) .nil .nil) (.node 0 0 (some (.int .i64 (.ofNat 0))) .nil .nil)))), none, 15, 214, false⟩)
def a120 : AB := (.inl ⟨(.node 0 0 (some (.int .u8 (.ofNat 2))) (.node 0 0 (some (.int .i64 (.ofNat 1))) (.node 0 0 (some (.slice none 0 0)) (.node 0 0 (some (.int .u32 (.ofNat 0))) (.node 0 0 (some (.int .u8 (.ofNat 80))) (.node 0 0 (some (.int .i64 (.ofNat 2))) (.node 0 0 (some (.slice none 0 0)) .nil .nil) .nil) (.node 0 0 (some (.int .u32 (.ofNat 0))) (.node 0 0 (some (.int .i64 (.ofNat 0))) .nil .nil) .nil)) (.node 0 0 (some (.slice none 0 0)) (.node 0 0 (some (.int .i64 (.ofNat 0))) (.node 0 0 (some (.int .i64 (.ofNat 2))) .nil .nil) .nil) (.node 0 0 (some (.int .u8 (.ofNat 125))) .nil .nil))) (.node 0 0 (some (.int .i64 (.ofNat 2))) (.node 0 0 (some (.int .i64 (.ofNat 0))) (.node 0 0 (some (.int .u8 (.ofNat 124))) (.node 0 0 (some (.int .u32 (.ofNat 0))) .nil .nil) .nil) (.node 0 0 (some (.int .i64 (.ofNat 2))) (.node 0 0 (some (.slice none 0 0)) .nil .nil) .nil)) (.node 0 0 (some (.int .u32 (.ofNat 1))) (.node 0 0 (some (.slice none 0 0)) (.node 0 0 (some (.int .u8 (.ofNat 11))) .nil .nil) .nil) (.node 0 0 (some (.int .i64 (.ofNat 0))) .nil .nil)))) (.node 0 0 (some (.int .u8 (.ofNat 3))) (.node 0 0 (some (.int .i64 (.ofNat 0))) (.node 0 0 (some (.int .u32 (.ofNat 0))) (.node 0 0 (some (.slice none 0 0)) (.node 0 0 (some (.int .u8 (.ofNat 12))) .nil .nil) .nil) (.node 0 0 (some (.int .i64 (.ofNat 0))) (.node 0 0 (some (.int .i64 (.ofNat 0))) .nil .nil) .nil)) (.node 0 0 (some (.int .u8 (.ofNat 32))) (.node 0 0 (some (.int .i64 (.ofNat 2))) (.node 0 0 (some (.slice none 0 0)) .nil .nil) .nil) (.node 0 0 (some (.int .u32 (.ofNat 0))) .nil .nil))) (.node 0 0 (some (.slice none 0 0)) (.node 0 0 (some (.int .i64 (.ofNat 2))) (.node 0 0 (some (.int .u32 (.ofNat 0))) (.node 0 0 (some (.int .i64 (.ofNat 0))) .nil .nil) .nil) (.node 0 0 (some (.slice none 0 0)) .nil .nil)) (.node 0 0 (some (.int .i64 (.ofNat 0))) (.node 0 0 (some (.int .u8 (.ofNat 32))) (.node 0 0 (some (.int .u32 (.ofNat 0))) .nil .nil) .nil) (.node 0 0 (some (.int .i64 (.ofNat 2))) .nil .nil))))) (.node 0 0 (some (.int .u32 (.ofNat 0))) (.node 0 0 (some (.int .i64 (.ofNat 0))) (.node 0 0 (some (.slice none 0 0)) (.node 0 0 (some (.int .i64 (.ofNat 2))) (.node 0 0 (some (.int .u32 (.ofNat 0))) (.node 0 0 (some (.int .i64 (.ofNat 0))) .nil .nil) .nil) (.node 0 0 (some (.slice none 0 0)) (.node 0 0 (some (.int .u8 (.ofNat 32))) .nil .nil) .nil)) (.node 0 0 (some (.int .i64 (.ofNat 0))) (.node 0 0 (some (.int .u8 (.ofNat 33))) (.node 0 0 (some (.int .u32 (.ofNat 0))) .nil .nil) .nil) (.node 0 0 (some (.int .i64 (.ofNat 2))) .nil .nil))) (.node 0 0 (some (.int .u32 (.ofNat 0))) (.node 0 0 (some (.int .u8 (.ofNat 13))) (.node 0 0 (some (.int .i64 (.ofNat 2))) (.node 0 0 (some (.slice none 0 0)) .nil .nil) .nil) (.node 0 0 (some (.int .u32 (.ofNat 0))) (.node 0 0 (some (.int .i64 (.ofNat 0))) .nil .nil) .nil)) (.node 0 0 (some (.slice none 0 0)) (.node 0 0 (some (.int .i64 (.ofNat 0))) (.node 0 0 (some (.int .i64 (.ofNat 1))) .nil .nil) .nil) (.node 0 0 (some (.int .u8 (.ofNat 33))) .nil .nil)))) (.node 0 0 (some (.int .i64 (.ofNat 2))) (.node 0 0 (some (.int .u8 (.ofNat 32))) (.node 0 0 (some (.slice none 0 0)) (.node 0 0 (some (.int .i64 (.ofNat 0))) (.node 0 0 (some (.int .i64 (.ofNat 2))) .nil .nil) .nil) (.node 0 0 (some (.int .u8 (.ofNat 66))) (.node 0 0 (some (.int .u32 (.ofNat 1))) .nil .nil) .nil)) (.node 0 0 (some (.int .i64 (.ofNat 2))) (.node 0 0 (some (.int .u32 (.ofNat 1))) (.node 0 0 (some (.int .i64 (.ofNat 0))) .nil .nil) .nil) (.node 0 0 (some (.slice none 0 0)) .nil .nil))) (.node 0 0 (some (.int .i64 (.ofNat 0))) (.node 0 0 (some (.int .u32 (.ofNat 1))) (.node 0 0 (some (.slice none 0 0)) (.node 0 0 (some (.int .u8 (.ofNat 11))) .nil .nil) .nil) (.node 0 0 (some (.int .i64 (.ofNat 1))) .nil .nil)) (.node 0 0 (some (.int .u8 (.ofNat 32))) (.node 0 0 (some (.int .i64 (.ofNat 2))) (.node 0 0 (some (.slice none 0 0)) .nil .nil) .nil) (.node 0 0 (some (.int .u32 (.ofNat 0))) .nil .nil)))))), none, 85, 222, false⟩)
def a121 : AB := (.inl ⟨(.node 0 0 (some (.bool false)) (.node 0 0 (some (.int .i64 (.ofNat 0))) (.node 0 0 (some (.int .i64 (.ofNat 0))) (.node 0 0 (some (.int .i64 (.ofNat 1))) .nil .nil) .nil) (.node 0 0 (some (.bool false)) (.node 0 0 (some (.int .i64 (.ofNat 6))) .nil .nil) .nil)) (.node 0 0 (some (.int .i64 (.ofNat 1))) (.node 0 0 (some (.int .i64 (.ofNat 0))) (.node 0 0 (some (.int .i64 (.ofNat 16))) .nil .nil) .nil) (.node 0 0 (some (.int .i64 (.ofNat 0))) .nil .nil))), none, 10, 214, false⟩)
def a122 : AB := (.inl ⟨(.node 0 0 (some (.int .u8 (.ofNat 32))) (.node 0 0 (some (.int .i64 (.ofNat 0))) (.node 0 0 (some (.slice none 0 0)) (.node 0 0 (some (.int .u32 (.ofNat 0))) (.node 0 0 (some (.int .u8 (.ofNat 4))) (.node 0 0 (some (.int .i64 (.ofNat 1))) (.node 0 0 (some (.slice none 0 0)) .nil .nil) .nil) (.node 0 0 (some (.int .u32 (.ofNat 1))) (.node 0 0 (some (.int .i64 (.ofNat 0))) .nil .nil) .nil)) (.node 0 0 (some (.slice none 0 0)) (.node 0 0 (some (.int .i64 (.ofNat 1))) (.node 0 0 (some (.int .i64 (.ofNat 1))) .nil .nil) .nil) (.node 0 0 (some (.int .u8 (.ofNat 65))) .nil .nil))) (.node 0 0 (some (.int .i64 (.ofNat 0))) (.node 0 0 (some (.int .i64 (.ofNat 0))) (.node 0 0 (some (.int .u8 (.ofNat 65))) (.node 0 0 (some (.int .u32 (.ofNat 1))) .nil .nil) .nil) (.node 0 0 (some (.int .i64 (.ofNat 1))) .nil .nil)) (.node 0 0 (some (.int .u32 (.ofNat 0))) (.node 0 0 (some (.slice none 0 0)) (.node 0 0 (some (.int .u8 (.ofNat 11))) .nil .nil) .nil) (.node 0 0 (some (.int .i64 (.ofNat 2))) .nil .nil)))) (.node 0 0 (some (.int .u8 (.ofNat 65))) (.node 0 0 (some (.int .i64 (.ofNat 2))) (.node 0 0 (some (.int .u32 (.ofNat 0))) (.node 0 0 (some (.slice none 0 0)) (.node 0 0 (some (.int .u8 (.ofNat 16))) .nil .nil) .nil) (.node 0 0 (some (.int .i64 (.ofNat 0))) .nil .nil)) (.node 0 0 (some (.int .u8 (.ofNat 5))) (.node 0 0 (some (.int .i64 (.ofNat 1))) (.node 0 0 (some (.slice none 0 0)) .nil .nil) .nil) (.node 0 0 (some (.int .u32 (.ofNat 0))) .nil .nil))) (.node 0 0 (some (.slice none 0 0)) (.node 0 0 (some (.int .i64 (.ofNat 1))) (.node 0 0 (some (.int .u32 (.ofNat 0))) (.node 0 0 (some (.int .i64 (.ofNat 0))) .nil .nil) .nil) (.node 0 0 (some (.slice none 0 0)) .nil .nil)) (.node 0 0 (some (.int .i64 (.ofNat 0))) (.node 0 0 (some (.int .u8 (.ofNat 16))) (.node 0 0 (some (.int .u32 (.ofNat 0))) .nil .nil) .nil) (.node 0 0 (some (.int .i64 (.ofNat 1))) .nil .nil))))) (.node 0 0 (some (.int .u32 (.ofNat 0))) (.node 0 0 (some (.int .i64 (.ofNat 0))) (.node 0 0 (some (.slice none 0 0)) (.node 0 0 (some (.int .i64 (.ofNat 1))) (.node 0 0 (some (.int .u32 (.ofNat 0))) (.node 0 0 (some (.int .i64 (.ofNat 0))) .nil .nil) .nil) (.node 0 0 (some (.slice none 0 0)) .nil .nil)) (.node 0 0 (some (.int .i64 (.ofNat 0))) (.node 0 0 (some (.int .u8 (.ofNat 107))) (.node 0 0 (some (.int .u32 (.ofNat 0))) .nil .nil) .nil) (.node 0 0 (some (.int .i64 (.ofNat 1))) .nil .nil))) (.node 0 0 (some (.int .u32 (.ofNat 0))) (.node 0 0 (some (.int .u8 (.ofNat 32))) (.node 0 0 (some (.int .i64 (.ofNat 1))) (.node 0 0 (some (.slice none 0 0)) .nil .nil) .nil) (.node 0 0 (some (.int .u32 (.ofNat 0))) .nil .nil)) (.node 0 0 (some (.slice none 0 0)) (.node 0 0 (some (.int .i64 (.ofNat 0))) (.node 0 0 (some (.int .i64 (.ofNat 1))) .nil .nil) .nil) (.node 0 0 (some (.int .u8 (.ofNat 107))) .nil .nil)))) (.node 0 0 (some (.int .i64 (.ofNat 0))) (.node 0 0 (some (.int .u8 (.ofNat 72))) (.node 0 0 (some (.slice none 0 0)) (.node 0 0 (some (.int .i64 (.ofNat 0))) (.node 0 0 (some (.int .i64 (.ofNat 1))) .nil .nil) .nil) (.node 0 0 (some (.int .u8 (.ofNat 32))) .nil .nil)) (.node 0 0 (some (.int .i64 (.ofNat 1))) (.node 0 0 (some (.int .u32 (.ofNat 0))) (.node 0 0 (some (.int .i64 (.ofNat 0))) .nil .nil) .nil) (.node 0 0 (some (.slice none 0 0)) .nil .nil))) (.node 0 0 (some (.int .i64 (.ofNat 0))) (.node 0 0 (some (.int .u32 (.ofNat 0))) (.node 0 0 (some (.slice none 0 0)) (.node 0 0 (some (.int .u8 (.ofNat 106))) .nil .nil) .nil) (.node 0 0 (some (.int .i64 (.ofNat 0))) .nil .nil)) (.node 0 0 (some (.int .u8 (.ofNat 32))) (.node 0 0 (some (.int .i64 (.ofNat 1))) (.node 0 0 (some (.slice none 0 0)) .nil .nil) .nil) (.node 0 0 (some (.int .u32 (.ofNat 0))) .nil .nil)))))), none, 80, 222, false⟩)
def a123 : AB := (.inl ⟨(.node 0 0 (some (.bool false)) (.node 0 0 (some (.int .i64 (.ofNat 0))) (.node 0 0 (some (.int .i64 (.ofNat 0))) .nil .nil) .nil) (.node 0 0 (some (.int .i64 (.ofNat 0))) (.node 0 0 (some (.int .i64 (.ofNat 0))) .nil .nil) .nil)), none, 5, 214, false⟩)
def a124 : AB := (.inl ⟨(.node 0 0 (some (.int .u8 (.ofNat 16))) (.node 0 0 (some (.int .i64 (.ofNat 0))) (.node 0 0 (some (.slice none 0 0)) .nil .nil) .nil) (.node 0 0 (some (.int .u32 (.ofNat 2))) (.node 0 0 (some (.int .i64 (.ofNat 0))) .nil .nil) .nil)), none, 5, 222, false⟩)
def a125 : AB := (.inl ⟨(.node 0 0 (some (.bool false)) (.node 0 0 (some (.int .i64 (.ofNat 0))) (.node 0 0 (some (.int .i64 (.ofNat 0))) (.node 0 0 (some (.int .i64 (.ofNat 0))) .nil .nil) .nil) (.node 0 0 (some (.bool true)) (.node 0 0 (some (.int .i64 (.ofNat 0))) .nil .nil) .nil)) (.node 0 0 (some (.int .i64 (.ofNat 0))) (.node 0 0 (some (.int .i64 (.ofNat 0))) (.node 0 0 (some (.int .i64 (.ofNat 1))) .nil .nil) .nil) (.node 0 0 (some (.int .i64 (.ofNat 0))) .nil .nil))), none, 10, 214, false⟩)
def a126 : AB := (.inl ⟨(.node 0 0 (some (.int .u8 (.ofNat 3))) (.node 0 0 (some (.int .i64 (.ofNat 1))) (.node 0 0 (some (.slice none 0 0)) (.node 0 0 (some (.int .u32 (.ofNat 0))) .nil .nil) (.node 0 0 (some (.int .i64 (.ofNat 1))) .nil .nil)) (.node 0 0 (some (.int .u8 (.ofNat 12))) (.node 0 0 (some (.int .i64 (.ofNat 0))) .nil .nil) (.node 0 0 (some (.slice none 0 0)) .nil .nil))) (.node 0 0 (some (.int .u32 (.ofNat 0))) (.node 0 0 (some (.int .i64 (.ofNat 0))) (.node 0 0 (some (.slice none 0 0)) .nil .nil) (.node 0 0 (some (.int .u32 (.ofNat 0))) .nil .nil)) (.node 0 0 (some (.int .i64 (.ofNat 1))) (.node 0 0 (some (.int .u8 (.ofNat 11))) .nil .nil) (.node 0 0 (some (.int .i64 (.ofNat 0))) .nil .nil)))), none, 15, 222, false⟩)
def bl1 : List (Nat × AB) := [(11, a111), (12, a112), (13, a113), (14, a114), (15, a115), (16, a116), (17, a117), (18, a118), (19, a119), (20, a120), (21, a121), (22, a122), (23, a123), (24, a124), (25, a125), (26, a126)]
def h1 : TB := (.node 0 0 none (.node 0 0 none (.node 0 0 none (.node 0 0 none (.node 0 0 (some a115) .nil .nil) (.node 0 0 (some a123) .nil .nil)) (.node 0 0 (some a111) (.node 0 0 (some a119) .nil .nil) .nil)) (.node 0 0 none (.node 0 0 none (.node 0 0 (some a117) .nil .nil) (.node 0 0 (some a125) .nil .nil)) (.node 0 0 (some a113) (.node 0 0 (some a121) .nil .nil) .nil))) (.node 0 0 none (.node 0 0 none (.node 0 0 none (.node 0 0 (some a116) .nil .nil) (.node 0 0 (some a124) .nil .nil)) (.node 0 0 (some a112) (.node 0 0 (some a120) .nil .nil) .nil)) (.node 0 0 none (.node 0 0 none (.node 0 0 (some a118) .nil .nil) (.node 0 0 (some a126) .nil .nil)) (.node 0 0 (some a114) (.node 0 0 (some a122) .nil .nil) .nil))))
def rg1 : List (Nat × Value) := [(0, (.complex .f64 3 0)), (1, (.complex .f64 3 1)), (6, (.pointer (some ⟨11, 0, none⟩)))]
def rt1 : TV := (.node 0 0 (some (.complex .f64 3 0)) (.node 0 0 (some (.complex .f64 3 1)) .nil .nil) (.node 0 0 none .nil (.node 0 0 (some (.pointer (some ⟨11, 0, none⟩))) .nil .nil)))
def nx1 : Nat := 27
def pi1 : List (Nat × Nat) := [(11, 6860), (12, 5642), (13, 6842), (14, 6858), (15, 5608), (16, 5613), (17, 5624), (18, 5629), (19, 6470), (20, 6604), (21, 6657), (22, 6765), (23, 6775), (24, 6789), (25, 6816), (26, 6838)]
def sub1 : Sub := [(3, 0, (.complex .f64 3 0)), (3, 1, (.complex .f64 3 1))]
end Go.Proofs.YtkpfafehcmammaaGreatDoor
namespace Go.Proofs.YtkpfafehcmammaaGreatDoor
open Go.Proofs
def aE32 : AB := (.inl ⟨(.node 0 0 (some (.pointer (some ⟨11, 0, none⟩))) (.node 0 0 (some (.int .i64 (.ofNat 100000))) (.node 0 0 (some (.slice (some ⟨39, 0, (some 2)⟩) 1 0)) .nil .nil) .nil) (.node 0 0 (some (.slice (some ⟨35, 0, (some 1)⟩) 2 0)) (.node 0 0 (some (.slice (some ⟨37, 0, (some 3)⟩) 1 0)) .nil .nil) .nil)), none, 5, 151, false⟩)
def aE35 : AB := (.inl ⟨(.node 0 0 (some (.complex .f64 3 4)) (.node 0 0 (some (.int .i64 (.ofNat 0))) .nil .nil) .nil), none, 2, 2, false⟩)
def aE39 : AB := (.inl ⟨(.node 0 0 (some (.pointer (some ⟨19, 0, none⟩))) (.node 0 0 (some (.int .i64 (.ofNat 0))) .nil .nil) .nil), none, 2, 216, false⟩)
def aE37 : AB := (.inl ⟨(.node 0 0 (some (.pointer (some ⟨13, 0, none⟩))) (.node 0 0 (some (.int .i64 (.ofNat 0))) .nil .nil) (.node 0 0 (some (.int .i64 (.ofNat 0))) .nil .nil)), none, 3, 211, false⟩)
def aE13 : AB := (.inl ⟨(.node 0 0 (some (.slice (some ⟨15, 0, (some 1)⟩) 1 0)) (.node 0 0 (some (.slice (some ⟨16, 0, (some 1)⟩) 1 0)) (.node 0 0 (some (.slice (some ⟨19, 0, (some 5)⟩) 3 0)) (.node 0 0 (some (.int .i64 (.ofNat 0))) (.node 0 0 (some (.slice none 0 0)) .nil .nil) .nil) (.node 0 0 (some (.slice none 0 0)) (.node 0 0 (some (.slice (some ⟨26, 0, (some 5)⟩) 3 0)) .nil .nil) .nil)) (.node 0 0 (some (.slice (some ⟨17, 0, (some 1)⟩) 1 0)) (.node 0 0 (some (.slice (some ⟨22, 0, (some 5)⟩) 16 0)) (.node 0 0 (some (.int .i64 (.ofNat 0))) .nil .nil) .nil) (.node 0 0 (some (.slice (some ⟨23, 0, (some 5)⟩) 1 2)) .nil .nil))) (.node 0 0 (some (.int .i64 (.ofNat 1))) (.node 0 0 (some (.slice (some ⟨20, 0, (some 5)⟩) 17 0)) (.node 0 0 (some (.slice (some ⟨21, 0, (some 5)⟩) 2 0)) (.node 0 0 (some (.slice none 0 0)) .nil .nil) .nil) (.node 0 0 (some (.int .i64 (.ofNat 0))) .nil .nil)) (.node 0 0 (some (.slice (some ⟨18, 0, (some 1)⟩) 1 0)) (.node 0 0 (some (.slice none 0 0)) (.node 0 0 (some (.slice (some ⟨25, 0, (some 5)⟩) 2 0)) .nil .nil) .nil) (.node 0 0 (some (.slice (some ⟨24, 0, (some 5)⟩) 1 0)) .nil .nil)))), none, 20, 65, false⟩)
def aE19 : AB := (.inl ⟨(.node 0 0 (some (.bool false)) (.node 0 0 (some (.int .i64 (.ofNat 0))) (.node 0 0 (some (.int .i64 (.ofNat 0))) (.node 0 0 (some (.int .i64 (.ofNat 0))) .nil .nil) (.node 0 0 (some (.int .i64 (.ofNat 0))) .nil .nil)) (.node 0 0 (some (.bool false)) (.node 0 0 (some (.int .i64 (.ofNat 0))) .nil .nil) (.node 0 0 (some (.int .i64 (.ofNat 2))) .nil .nil))) (.node 0 0 (some (.int .i64 (.ofNat 1))) (.node 0 0 (some (.int .i64 (.ofNat 0))) (.node 0 0 (some (.int .i64 (.ofNat 16))) .nil .nil) (.node 0 0 (some (.int .i64 (.ofNat 0))) .nil .nil)) (.node 0 0 (some (.int .i64 (.ofNat 0))) (.node 0 0 (some (.bool true)) .nil .nil) (.node 0 0 (some (.int .i64 (.ofNat 0))) .nil .nil)))), none, 15, 214, false⟩)
def aE20 : AB := (.inl ⟨(.node 0 0 (some (.int .u8 (.ofNat 2))) (.node 0 0 (some (.int .i64 (.ofNat 1))) (.node 0 0 (some (.slice none 0 0)) (.node 0 0 (some (.int .u32 (.ofNat 0))) (.node 0 0 (some (.int .u8 (.ofNat 80))) (.node 0 0 (some (.int .i64 (.ofNat 2))) (.node 0 0 (some (.slice none 0 0)) .nil .nil) .nil) (.node 0 0 (some (.int .u32 (.ofNat 0))) (.node 0 0 (some (.int .i64 (.ofNat 0))) .nil .nil) .nil)) (.node 0 0 (some (.slice none 0 0)) (.node 0 0 (some (.int .i64 (.ofNat 0))) (.node 0 0 (some (.int .i64 (.ofNat 2))) .nil .nil) .nil) (.node 0 0 (some (.int .u8 (.ofNat 125))) .nil .nil))) (.node 0 0 (some (.int .i64 (.ofNat 2))) (.node 0 0 (some (.int .i64 (.ofNat 0))) (.node 0 0 (some (.int .u8 (.ofNat 124))) (.node 0 0 (some (.int .u32 (.ofNat 0))) .nil .nil) .nil) (.node 0 0 (some (.int .i64 (.ofNat 2))) (.node 0 0 (some (.slice none 0 0)) .nil .nil) .nil)) (.node 0 0 (some (.int .u32 (.ofNat 1))) (.node 0 0 (some (.slice none 0 0)) (.node 0 0 (some (.int .u8 (.ofNat 11))) .nil .nil) .nil) (.node 0 0 (some (.int .i64 (.ofNat 0))) .nil .nil)))) (.node 0 0 (some (.int .u8 (.ofNat 3))) (.node 0 0 (some (.int .i64 (.ofNat 0))) (.node 0 0 (some (.int .u32 (.ofNat 0))) (.node 0 0 (some (.slice none 0 0)) (.node 0 0 (some (.int .u8 (.ofNat 12))) .nil .nil) .nil) (.node 0 0 (some (.int .i64 (.ofNat 0))) (.node 0 0 (some (.int .i64 (.ofNat 0))) .nil .nil) .nil)) (.node 0 0 (some (.int .u8 (.ofNat 32))) (.node 0 0 (some (.int .i64 (.ofNat 2))) (.node 0 0 (some (.slice none 0 0)) .nil .nil) .nil) (.node 0 0 (some (.int .u32 (.ofNat 0))) .nil .nil))) (.node 0 0 (some (.slice none 0 0)) (.node 0 0 (some (.int .i64 (.ofNat 2))) (.node 0 0 (some (.int .u32 (.ofNat 0))) (.node 0 0 (some (.int .i64 (.ofNat 0))) .nil .nil) .nil) (.node 0 0 (some (.slice none 0 0)) .nil .nil)) (.node 0 0 (some (.int .i64 (.ofNat 0))) (.node 0 0 (some (.int .u8 (.ofNat 32))) (.node 0 0 (some (.int .u32 (.ofNat 0))) .nil .nil) .nil) (.node 0 0 (some (.int .i64 (.ofNat 2))) .nil .nil))))) (.node 0 0 (some (.int .u32 (.ofNat 0))) (.node 0 0 (some (.int .i64 (.ofNat 0))) (.node 0 0 (some (.slice none 0 0)) (.node 0 0 (some (.int .i64 (.ofNat 2))) (.node 0 0 (some (.int .u32 (.ofNat 0))) (.node 0 0 (some (.int .i64 (.ofNat 0))) .nil .nil) .nil) (.node 0 0 (some (.slice none 0 0)) (.node 0 0 (some (.int .u8 (.ofNat 32))) .nil .nil) .nil)) (.node 0 0 (some (.int .i64 (.ofNat 0))) (.node 0 0 (some (.int .u8 (.ofNat 33))) (.node 0 0 (some (.int .u32 (.ofNat 0))) .nil .nil) .nil) (.node 0 0 (some (.int .i64 (.ofNat 2))) .nil .nil))) (.node 0 0 (some (.int .u32 (.ofNat 0))) (.node 0 0 (some (.int .u8 (.ofNat 13))) (.node 0 0 (some (.int .i64 (.ofNat 2))) (.node 0 0 (some (.slice none 0 0)) .nil .nil) .nil) (.node 0 0 (some (.int .u32 (.ofNat 0))) (.node 0 0 (some (.int .i64 (.ofNat 0))) .nil .nil) .nil)) (.node 0 0 (some (.slice none 0 0)) (.node 0 0 (some (.int .i64 (.ofNat 0))) (.node 0 0 (some (.int .i64 (.ofNat 1))) .nil .nil) .nil) (.node 0 0 (some (.int .u8 (.ofNat 33))) .nil .nil)))) (.node 0 0 (some (.int .i64 (.ofNat 2))) (.node 0 0 (some (.int .u8 (.ofNat 32))) (.node 0 0 (some (.slice none 0 0)) (.node 0 0 (some (.int .i64 (.ofNat 0))) (.node 0 0 (some (.int .i64 (.ofNat 2))) .nil .nil) .nil) (.node 0 0 (some (.int .u8 (.ofNat 66))) (.node 0 0 (some (.int .u32 (.ofNat 1))) .nil .nil) .nil)) (.node 0 0 (some (.int .i64 (.ofNat 2))) (.node 0 0 (some (.int .u32 (.ofNat 1))) (.node 0 0 (some (.int .i64 (.ofNat 0))) .nil .nil) .nil) (.node 0 0 (some (.slice none 0 0)) .nil .nil))) (.node 0 0 (some (.int .i64 (.ofNat 0))) (.node 0 0 (some (.int .u32 (.ofNat 1))) (.node 0 0 (some (.slice none 0 0)) (.node 0 0 (some (.int .u8 (.ofNat 11))) .nil .nil) .nil) (.node 0 0 (some (.int .i64 (.ofNat 1))) .nil .nil)) (.node 0 0 (some (.int .u8 (.ofNat 32))) (.node 0 0 (some (.int .i64 (.ofNat 2))) (.node 0 0 (some (.slice none 0 0)) .nil .nil) .nil) (.node 0 0 (some (.int .u32 (.ofNat 0))) .nil .nil)))))), none, 85, 222, false⟩)
def blE : List (Nat × AB) := [(32, aE32), (35, aE35), (39, aE39), (37, aE37), (13, aE13), (19, aE19), (20, aE20)]
def hE : TB := (.node 0 0 none (.node 0 0 none (.node 0 0 none (.node 0 0 none .nil (.node 0 0 none (.node 0 0 (some aE39) .nil .nil) .nil)) (.node 0 0 none (.node 0 0 (some aE19) (.node 0 0 (some aE35) .nil .nil) .nil) .nil)) (.node 0 0 none .nil (.node 0 0 (some aE13) (.node 0 0 none (.node 0 0 (some aE37) .nil .nil) .nil) .nil))) (.node 0 0 none (.node 0 0 none (.node 0 0 none (.node 0 0 none (.node 0 0 (some aE32) .nil .nil) .nil) .nil) (.node 0 0 none (.node 0 0 (some aE20) .nil .nil) .nil)) .nil))
def nxE : Nat := 40
end Go.Proofs.YtkpfafehcmammaaGreatDoor
namespace Go.Proofs.YtkpfafehcmammaaGreatDoor
open Go.Proofs
def aL32 : AB := (.inl ⟨(.node 0 0 (some (.pointer (some ⟨11, 0, none⟩))) (.node 0 0 (some (.complex .f64 3 12)) (.node 0 0 (some (.slice (some ⟨40, 0, (some 2)⟩) 3 0)) .nil .nil) .nil) (.node 0 0 (some (.slice (some ⟨41, 0, (some 1)⟩) 2 0)) (.node 0 0 (some (.slice (some ⟨37, 0, (some 3)⟩) 1 0)) .nil .nil) .nil)), none, 5, 151, false⟩)
def aL37 : AB := (.inl ⟨(.node 0 0 (some (.pointer (some ⟨13, 0, none⟩))) (.node 0 0 (some (.int .i64 (.ofNat 2))) .nil .nil) (.node 0 0 (some (.int .i64 (.ofNat 0))) .nil .nil)), none, 3, 211, false⟩)
def aL13 : AB := (.inl ⟨(.node 0 0 (some (.slice (some ⟨15, 0, (some 1)⟩) 1 0)) (.node 0 0 (some (.slice (some ⟨16, 0, (some 1)⟩) 1 0)) (.node 0 0 (some (.slice (some ⟨19, 0, (some 5)⟩) 3 0)) (.node 0 0 (some (.int .i64 (.ofNat 0))) (.node 0 0 (some (.slice none 0 0)) .nil .nil) .nil) (.node 0 0 (some (.slice none 0 0)) (.node 0 0 (some (.slice (some ⟨26, 0, (some 5)⟩) 3 0)) .nil .nil) .nil)) (.node 0 0 (some (.slice (some ⟨17, 0, (some 1)⟩) 1 0)) (.node 0 0 (some (.slice (some ⟨22, 0, (some 5)⟩) 16 0)) (.node 0 0 (some (.int .i64 (.ofNat 0))) .nil .nil) .nil) (.node 0 0 (some (.slice (some ⟨23, 0, (some 5)⟩) 1 2)) .nil .nil))) (.node 0 0 (some (.int .i64 (.ofNat 1))) (.node 0 0 (some (.slice (some ⟨20, 0, (some 5)⟩) 17 0)) (.node 0 0 (some (.slice (some ⟨21, 0, (some 5)⟩) 2 0)) (.node 0 0 (some (.slice none 0 0)) .nil .nil) .nil) (.node 0 0 (some (.int .i64 (.ofNat 0))) .nil .nil)) (.node 0 0 (some (.slice (some ⟨18, 0, (some 1)⟩) 1 0)) (.node 0 0 (some (.slice none 0 0)) (.node 0 0 (some (.slice (some ⟨25, 0, (some 5)⟩) 2 0)) .nil .nil) .nil) (.node 0 0 (some (.slice (some ⟨24, 0, (some 5)⟩) 1 0)) .nil .nil)))), none, 20, 65, false⟩)
def aL19 : AB := (.inl ⟨(.node 0 0 (some (.bool false)) (.node 0 0 (some (.int .i64 (.ofNat 0))) (.node 0 0 (some (.int .i64 (.ofNat 0))) (.node 0 0 (some (.int .i64 (.ofNat 0))) .nil .nil) (.node 0 0 (some (.int .i64 (.ofNat 0))) .nil .nil)) (.node 0 0 (some (.bool false)) (.node 0 0 (some (.int .i64 (.ofNat 0))) .nil .nil) (.node 0 0 (some (.int .i64 (.ofNat 2))) .nil .nil))) (.node 0 0 (some (.int .i64 (.ofNat 1))) (.node 0 0 (some (.int .i64 (.ofNat 0))) (.node 0 0 (some (.int .i64 (.ofNat 16))) .nil .nil) (.node 0 0 (some (.int .i64 (.ofNat 0))) .nil .nil)) (.node 0 0 (some (.int .i64 (.ofNat 0))) (.node 0 0 (some (.bool true)) .nil .nil) (.node 0 0 (some (.int .i64 (.ofNat 0))) .nil .nil)))), none, 15, 214, false⟩)
def aL20 : AB := (.inl ⟨(.node 0 0 (some (.int .u8 (.ofNat 2))) (.node 0 0 (some (.int .i64 (.ofNat 1))) (.node 0 0 (some (.slice none 0 0)) (.node 0 0 (some (.int .u32 (.ofNat 0))) (.node 0 0 (some (.int .u8 (.ofNat 80))) (.node 0 0 (some (.int .i64 (.ofNat 2))) (.node 0 0 (some (.slice none 0 0)) .nil .nil) .nil) (.node 0 0 (some (.int .u32 (.ofNat 0))) (.node 0 0 (some (.int .i64 (.ofNat 0))) .nil .nil) .nil)) (.node 0 0 (some (.slice none 0 0)) (.node 0 0 (some (.int .i64 (.ofNat 0))) (.node 0 0 (some (.int .i64 (.ofNat 2))) .nil .nil) .nil) (.node 0 0 (some (.int .u8 (.ofNat 125))) .nil .nil))) (.node 0 0 (some (.int .i64 (.ofNat 2))) (.node 0 0 (some (.int .i64 (.ofNat 0))) (.node 0 0 (some (.int .u8 (.ofNat 124))) (.node 0 0 (some (.int .u32 (.ofNat 0))) .nil .nil) .nil) (.node 0 0 (some (.int .i64 (.ofNat 2))) (.node 0 0 (some (.slice none 0 0)) .nil .nil) .nil)) (.node 0 0 (some (.int .u32 (.ofNat 1))) (.node 0 0 (some (.slice none 0 0)) (.node 0 0 (some (.int .u8 (.ofNat 11))) .nil .nil) .nil) (.node 0 0 (some (.int .i64 (.ofNat 0))) .nil .nil)))) (.node 0 0 (some (.int .u8 (.ofNat 3))) (.node 0 0 (some (.int .i64 (.ofNat 0))) (.node 0 0 (some (.int .u32 (.ofNat 0))) (.node 0 0 (some (.slice none 0 0)) (.node 0 0 (some (.int .u8 (.ofNat 12))) .nil .nil) .nil) (.node 0 0 (some (.int .i64 (.ofNat 0))) (.node 0 0 (some (.int .i64 (.ofNat 0))) .nil .nil) .nil)) (.node 0 0 (some (.int .u8 (.ofNat 32))) (.node 0 0 (some (.int .i64 (.ofNat 2))) (.node 0 0 (some (.slice none 0 0)) .nil .nil) .nil) (.node 0 0 (some (.int .u32 (.ofNat 0))) .nil .nil))) (.node 0 0 (some (.slice none 0 0)) (.node 0 0 (some (.int .i64 (.ofNat 2))) (.node 0 0 (some (.int .u32 (.ofNat 0))) (.node 0 0 (some (.int .i64 (.ofNat 0))) .nil .nil) .nil) (.node 0 0 (some (.slice none 0 0)) .nil .nil)) (.node 0 0 (some (.int .i64 (.ofNat 0))) (.node 0 0 (some (.int .u8 (.ofNat 32))) (.node 0 0 (some (.int .u32 (.ofNat 0))) .nil .nil) .nil) (.node 0 0 (some (.int .i64 (.ofNat 2))) .nil .nil))))) (.node 0 0 (some (.int .u32 (.ofNat 0))) (.node 0 0 (some (.int .i64 (.ofNat 0))) (.node 0 0 (some (.slice none 0 0)) (.node 0 0 (some (.int .i64 (.ofNat 2))) (.node 0 0 (some (.int .u32 (.ofNat 0))) (.node 0 0 (some (.int .i64 (.ofNat 0))) .nil .nil) .nil) (.node 0 0 (some (.slice none 0 0)) (.node 0 0 (some (.int .u8 (.ofNat 32))) .nil .nil) .nil)) (.node 0 0 (some (.int .i64 (.ofNat 0))) (.node 0 0 (some (.int .u8 (.ofNat 33))) (.node 0 0 (some (.int .u32 (.ofNat 0))) .nil .nil) .nil) (.node 0 0 (some (.int .i64 (.ofNat 2))) .nil .nil))) (.node 0 0 (some (.int .u32 (.ofNat 0))) (.node 0 0 (some (.int .u8 (.ofNat 13))) (.node 0 0 (some (.int .i64 (.ofNat 2))) (.node 0 0 (some (.slice none 0 0)) .nil .nil) .nil) (.node 0 0 (some (.int .u32 (.ofNat 0))) (.node 0 0 (some (.int .i64 (.ofNat 0))) .nil .nil) .nil)) (.node 0 0 (some (.slice none 0 0)) (.node 0 0 (some (.int .i64 (.ofNat 0))) (.node 0 0 (some (.int .i64 (.ofNat 1))) .nil .nil) .nil) (.node 0 0 (some (.int .u8 (.ofNat 33))) .nil .nil)))) (.node 0 0 (some (.int .i64 (.ofNat 2))) (.node 0 0 (some (.int .u8 (.ofNat 32))) (.node 0 0 (some (.slice none 0 0)) (.node 0 0 (some (.int .i64 (.ofNat 0))) (.node 0 0 (some (.int .i64 (.ofNat 2))) .nil .nil) .nil) (.node 0 0 (some (.int .u8 (.ofNat 66))) (.node 0 0 (some (.int .u32 (.ofNat 1))) .nil .nil) .nil)) (.node 0 0 (some (.int .i64 (.ofNat 2))) (.node 0 0 (some (.int .u32 (.ofNat 1))) (.node 0 0 (some (.int .i64 (.ofNat 0))) .nil .nil) .nil) (.node 0 0 (some (.slice none 0 0)) .nil .nil))) (.node 0 0 (some (.int .i64 (.ofNat 0))) (.node 0 0 (some (.int .u32 (.ofNat 1))) (.node 0 0 (some (.slice none 0 0)) (.node 0 0 (some (.int .u8 (.ofNat 11))) .nil .nil) .nil) (.node 0 0 (some (.int .i64 (.ofNat 1))) .nil .nil)) (.node 0 0 (some (.int .u8 (.ofNat 32))) (.node 0 0 (some (.int .i64 (.ofNat 2))) (.node 0 0 (some (.slice none 0 0)) .nil .nil) .nil) (.node 0 0 (some (.int .u32 (.ofNat 0))) .nil .nil)))))), none, 85, 222, false⟩)
def aL40 : AB := (.inl ⟨(.node 0 0 (some (.pointer (some ⟨19, 0, none⟩))) (.node 0 0 (some (.int .i64 (.ofNat 0))) (.node 0 0 (some (.int .i64 (.ofNat 2))) .nil .nil) (.node 0 0 (some (.int .i64 (.ofNat 2))) .nil .nil)) (.node 0 0 (some (.pointer (some ⟨19, 5, none⟩))) (.node 0 0 (some (.pointer (some ⟨19, 10, none⟩))) .nil .nil) .nil)), none, 6, 216, false⟩)
def aL41 : AB := (.inl ⟨(.node 0 0 (some (.complex .f64 3 10)) (.node 0 0 (some (.complex .f64 3 11)) .nil .nil) .nil), none, 2, 2, false⟩)
def blL : List (Nat × AB) := [(32, aL32), (37, aL37), (13, aL13), (19, aL19), (20, aL20), (40, aL40), (41, aL41)]
def hL : TB := (.node 0 0 none (.node 0 0 none (.node 0 0 none .nil (.node 0 0 none (.node 0 0 (some aL19) .nil .nil) .nil)) (.node 0 0 none (.node 0 0 none .nil (.node 0 0 none (.node 0 0 (some aL41) .nil .nil) .nil)) (.node 0 0 (some aL13) (.node 0 0 none (.node 0 0 (some aL37) .nil .nil) .nil) .nil))) (.node 0 0 none (.node 0 0 none (.node 0 0 none (.node 0 0 none (.node 0 0 (some aL32) .nil .nil) .nil) (.node 0 0 none (.node 0 0 (some aL40) .nil .nil) .nil)) (.node 0 0 none (.node 0 0 (some aL20) .nil .nil) .nil)) .nil))
def nxL : Nat := 42
def rgL : List (Nat × Value) := [(0, .pointer (some ⟨32, 0, none⟩))]
def rtL : TV := (.node 0 0 (some (.pointer (some ⟨32, 0, none⟩))) .nil .nil)
def piL0 : List (Nat × Nat) := [(40, 43), (41, 35)]
def subL0 : Sub := [(3, 12, (.int .i64 (.ofNat 99998))), (3, 10, (.complex .f64 3 4)), (3, 11, (.int .i64 (.ofNat 0)))]
end Go.Proofs.YtkpfafehcmammaaGreatDoor
namespace Go.Proofs.YtkpfafehcmammaaGreatDoor
open Go.Proofs
def piL1 : List (Nat × Nat) := [(40, 61), (41, 57)]
def subL1 : Sub := [(3, 10, .complex .f64 3 115), (3, 11, .complex .f64 3 109), (3, 12, .complex .f64 3 117)]
def aO32 : AB := (.inl ⟨(.node 0 0 (some (.pointer (some ⟨11, 0, none⟩))) (.node 0 0 (some (.complex .f64 3 13)) .nil .nil) (.node 0 0 (some (.slice (some ⟨40, 0, (some 1)⟩) 1 0)) .nil .nil)), none, 5, 151, false⟩)
def aO40 : AB := (.inl ⟨(.node 0 0 (some (.complex .f64 3 14)) .nil .nil), none, 1, 2, false⟩)
def blO : List (Nat × AB) := [(32, aO32), (40, aO40), (13, aE13), (19, aE19), (20, aE20)]
def hO : TB := (.node 0 0 none (.node 0 0 none (.node 0 0 none .nil (.node 0 0 none (.node 0 0 (some aE19) .nil .nil) .nil)) (.node 0 0 none .nil (.node 0 0 (some aE13) .nil .nil))) (.node 0 0 none (.node 0 0 none (.node 0 0 none (.node 0 0 none (.node 0 0 (some aO32) .nil .nil) .nil) (.node 0 0 none (.node 0 0 (some aO40) .nil .nil) .nil)) (.node 0 0 none (.node 0 0 (some aE20) .nil .nil) .nil)) .nil))
def piL2 : List (Nat × Nat) := [(40, 49)]
def subL2 : Sub := [(3, 13, .complex .f64 3 104), (3, 14, .complex .f64 3 11)]
def ES : OE := ⟨40, [.pointer (some ⟨32, 0, none⟩)], blE, blO, 41, .int .i64 0⟩
def O1 (f : FuncId) (nx : Nat) : Option OE := bif Nat.beq f 60 && Nat.beq nx 40 then some ES else none
end Go.Proofs.YtkpfafehcmammaaGreatDoor
namespace Go.Proofs.YtkpfafehcmammaaGreatDoor
open Go.Proofs
def rg2 : List (Nat × Value) := [(1, (.complex .f64 3 1)), (6, (.pointer (some ⟨11, 0, none⟩))), (7, (.complex .f64 3 4)), (8, (.complex .f64 3 14)), (9, (.bool true)), (10, (.complex .f64 3 5))]
def rt2 : TV := (.node 0 0 none (.node 0 0 (some (.complex .f64 3 1)) (.node 0 0 none (.node 0 0 (some (.complex .f64 3 4)) .nil .nil) .nil) (.node 0 0 none (.node 0 0 (some (.bool true)) .nil .nil) .nil)) (.node 0 0 none (.node 0 0 none (.node 0 0 (some (.complex .f64 3 14)) .nil .nil) .nil) (.node 0 0 (some (.pointer (some ⟨11, 0, none⟩))) (.node 0 0 (some (.complex .f64 3 5)) .nil .nil) .nil)))
def rg3 : List (Nat × Value) := [(1, (.complex .f64 3 1)), (6, (.pointer (some ⟨11, 0, none⟩))), (7, (.complex .f64 3 4)), (8, (.complex .f64 3 14)), (9, (.bool true)), (11, (.complex .f64 3 7)), (15, (.complex .f64 3 7)), (16, (.bool true))]
def rt3 : TV := (.node 0 0 none (.node 0 0 (some (.complex .f64 3 1)) (.node 0 0 none (.node 0 0 (some (.complex .f64 3 4)) (.node 0 0 (some (.complex .f64 3 7)) .nil .nil) .nil) (.node 0 0 (some (.complex .f64 3 7)) .nil .nil)) (.node 0 0 none (.node 0 0 (some (.bool true)) .nil .nil) .nil)) (.node 0 0 none (.node 0 0 none (.node 0 0 (some (.complex .f64 3 14)) (.node 0 0 (some (.bool true)) .nil .nil) .nil) .nil) (.node 0 0 (some (.pointer (some ⟨11, 0, none⟩))) .nil .nil)))
def rg4 : List (Nat × Value) := [(1, (.complex .f64 3 1)), (6, (.pointer (some ⟨11, 0, none⟩))), (7, (.complex .f64 3 4)), (8, (.complex .f64 3 14)), (9, (.bool true)), (11, (.complex .f64 3 7)), (15, (.complex .f64 3 7)), (16, (.bool true)), (17, (.complex .f64 3 6))]
def rt4 : TV := (.node 0 0 none (.node 0 0 (some (.complex .f64 3 1)) (.node 0 0 none (.node 0 0 (some (.complex .f64 3 4)) (.node 0 0 (some (.complex .f64 3 7)) .nil .nil) .nil) (.node 0 0 (some (.complex .f64 3 7)) .nil .nil)) (.node 0 0 none (.node 0 0 (some (.bool true)) (.node 0 0 (some (.complex .f64 3 6)) .nil .nil) .nil) .nil)) (.node 0 0 none (.node 0 0 none (.node 0 0 (some (.complex .f64 3 14)) (.node 0 0 (some (.bool true)) .nil .nil) .nil) .nil) (.node 0 0 (some (.pointer (some ⟨11, 0, none⟩))) .nil .nil)))
def rg5 : List (Nat × Value) := [(6, (.pointer (some ⟨11, 0, none⟩))), (7, (.complex .f64 3 4)), (8, (.complex .f64 3 14)), (9, (.bool true)), (11, (.complex .f64 3 7)), (15, (.complex .f64 3 7)), (16, (.bool true)), (17, (.complex .f64 3 6)), (18, (.pointer (some ⟨27, 0, none⟩))), (19, (.int .i64 (.ofNat 0)))]
def rt5 : TV := (.node 0 0 none (.node 0 0 none (.node 0 0 none (.node 0 0 (some (.complex .f64 3 4)) (.node 0 0 (some (.complex .f64 3 7)) .nil .nil) .nil) (.node 0 0 (some (.complex .f64 3 7)) (.node 0 0 (some (.int .i64 (.ofNat 0))) .nil .nil) .nil)) (.node 0 0 none (.node 0 0 (some (.bool true)) (.node 0 0 (some (.complex .f64 3 6)) .nil .nil) .nil) .nil)) (.node 0 0 none (.node 0 0 none (.node 0 0 (some (.complex .f64 3 14)) (.node 0 0 (some (.bool true)) .nil .nil) .nil) .nil) (.node 0 0 (some (.pointer (some ⟨11, 0, none⟩))) (.node 0 0 none (.node 0 0 (some (.pointer (some ⟨27, 0, none⟩))) .nil .nil) .nil) .nil)))
def sub2 : Sub := [(3, 1, (.complex .f64 3 1)), (3, 4, (.complex .f64 3 4)), (3, 14, (.complex .f64 3 14)), (3, 5, (.complex .f64 3 5))]
def sub4 : Sub := [(3, 1, (.complex .f64 3 1)), (3, 4, (.complex .f64 3 4)), (3, 14, (.complex .f64 3 14)), (3, 7, (.complex .f64 3 7)), (3, 6, (.complex .f64 3 6))]
def sub3 (m : Nat) : Sub := [(3, 1, .complex .f64 3 1), (3, 4, .complex .f64 3 4), (3, 14, .complex .f64 3 14), (3, 7, .int .i64 (.ofNat m))]
end Go.Proofs.YtkpfafehcmammaaGreatDoor
namespace Go.Proofs.YtkpfafehcmammaaGreatDoor
open Go.Proofs
def a527 : AB := (.inl ⟨(.node 0 0 (some (.complex .f64 3 8)) (.node 0 0 (some (.slice none 0 0)) .nil .nil) (.node 0 0 (some (.complex .f64 3 9)) .nil .nil)), none, 3, 30, false⟩)
def bl5 : List (Nat × AB) := (27, a527) :: bl1
def h5 : TB := (.node 0 0 none (.node 0 0 none (.node 0 0 none (.node 0 0 none (.node 0 0 (some a115) .nil .nil) (.node 0 0 (some a123) .nil .nil)) (.node 0 0 (some a111) (.node 0 0 (some a119) .nil .nil) (.node 0 0 (some a527) .nil .nil))) (.node 0 0 none (.node 0 0 none (.node 0 0 (some a117) .nil .nil) (.node 0 0 (some a125) .nil .nil)) (.node 0 0 (some a113) (.node 0 0 (some a121) .nil .nil) .nil))) (.node 0 0 none (.node 0 0 none (.node 0 0 none (.node 0 0 (some a116) .nil .nil) (.node 0 0 (some a124) .nil .nil)) (.node 0 0 (some a112) (.node 0 0 (some a120) .nil .nil) .nil)) (.node 0 0 none (.node 0 0 none (.node 0 0 (some a118) .nil .nil) (.node 0 0 (some a126) .nil .nil)) (.node 0 0 (some a114) (.node 0 0 (some a122) .nil .nil) .nil))))
def sub5 (f why left : Value) : Sub := [(3, 4, .complex .f64 3 4), (3, 14, .complex .f64 3 14), (3, 7, .complex .f64 3 7), (3, 6, f), (3, 8, why), (3, 9, left)]
end Go.Proofs.YtkpfafehcmammaaGreatDoor
namespace Go.Proofs.YtkpfafehcmammaaGreatDoor
open Go.Proofs
def aF35 : AB := (.inl ⟨(.node 0 0 (some (.pointer (some ⟨11, 0, none⟩))) (.node 0 0 (some (.complex .f64 3 6)) (.node 0 0 (some (.slice (some ⟨39, 0, (some 2)⟩) 1 0)) .nil .nil) .nil) (.node 0 0 (some (.slice none 0 0)) (.node 0 0 (some (.slice (some ⟨37, 0, (some 3)⟩) 1 0)) .nil .nil) .nil)), none, 5, 151, false⟩)
def aF39 : AB := (.inl ⟨(.node 0 0 (some (.pointer (some ⟨25, 0, none⟩))) (.node 0 0 (some (.int .i64 (.ofNat 0))) .nil .nil) .nil), none, 2, 216, false⟩)
def aF37 : AB := (.inl ⟨(.node 0 0 (some (.pointer (some ⟨13, 15, none⟩))) (.node 0 0 (some (.int .i64 (.ofNat 0))) .nil .nil) (.node 0 0 (some (.int .i64 (.ofNat 0))) .nil .nil)), none, 3, 211, false⟩)
def aF13 : AB := (.inl ⟨(.node 0 0 (some (.slice (some ⟨15, 0, (some 1)⟩) 1 0)) (.node 0 0 (some (.slice (some ⟨16, 0, (some 1)⟩) 1 0)) (.node 0 0 (some (.slice (some ⟨19, 0, (some 5)⟩) 3 0)) (.node 0 0 (some (.int .i64 (.ofNat 0))) (.node 0 0 (some (.slice none 0 0)) .nil .nil) .nil) (.node 0 0 (some (.slice none 0 0)) (.node 0 0 (some (.slice (some ⟨26, 0, (some 5)⟩) 3 0)) .nil .nil) .nil)) (.node 0 0 (some (.slice (some ⟨17, 0, (some 1)⟩) 1 0)) (.node 0 0 (some (.slice (some ⟨22, 0, (some 5)⟩) 16 0)) (.node 0 0 (some (.int .i64 (.ofNat 0))) .nil .nil) .nil) (.node 0 0 (some (.slice (some ⟨23, 0, (some 5)⟩) 1 2)) .nil .nil))) (.node 0 0 (some (.int .i64 (.ofNat 1))) (.node 0 0 (some (.slice (some ⟨20, 0, (some 5)⟩) 17 0)) (.node 0 0 (some (.slice (some ⟨21, 0, (some 5)⟩) 2 0)) (.node 0 0 (some (.slice none 0 0)) .nil .nil) .nil) (.node 0 0 (some (.int .i64 (.ofNat 0))) .nil .nil)) (.node 0 0 (some (.slice (some ⟨18, 0, (some 1)⟩) 1 0)) (.node 0 0 (some (.slice none 0 0)) (.node 0 0 (some (.slice (some ⟨25, 0, (some 5)⟩) 2 0)) .nil .nil) .nil) (.node 0 0 (some (.slice (some ⟨24, 0, (some 5)⟩) 1 0)) .nil .nil)))), none, 20, 65, false⟩)
def aF25 : AB := (.inl ⟨(.node 0 0 (some (.bool false)) (.node 0 0 (some (.int .i64 (.ofNat 0))) (.node 0 0 (some (.int .i64 (.ofNat 0))) (.node 0 0 (some (.int .i64 (.ofNat 0))) .nil .nil) .nil) (.node 0 0 (some (.bool true)) (.node 0 0 (some (.int .i64 (.ofNat 0))) .nil .nil) .nil)) (.node 0 0 (some (.int .i64 (.ofNat 0))) (.node 0 0 (some (.int .i64 (.ofNat 0))) (.node 0 0 (some (.int .i64 (.ofNat 1))) .nil .nil) .nil) (.node 0 0 (some (.int .i64 (.ofNat 0))) .nil .nil))), none, 10, 214, false⟩)
def aF26 : AB := (.inl ⟨(.node 0 0 (some (.int .u8 (.ofNat 3))) (.node 0 0 (some (.int .i64 (.ofNat 1))) (.node 0 0 (some (.slice none 0 0)) (.node 0 0 (some (.int .u32 (.ofNat 0))) .nil .nil) (.node 0 0 (some (.int .i64 (.ofNat 1))) .nil .nil)) (.node 0 0 (some (.int .u8 (.ofNat 12))) (.node 0 0 (some (.int .i64 (.ofNat 0))) .nil .nil) (.node 0 0 (some (.slice none 0 0)) .nil .nil))) (.node 0 0 (some (.int .u32 (.ofNat 0))) (.node 0 0 (some (.int .i64 (.ofNat 0))) (.node 0 0 (some (.slice none 0 0)) .nil .nil) (.node 0 0 (some (.int .u32 (.ofNat 0))) .nil .nil)) (.node 0 0 (some (.int .i64 (.ofNat 1))) (.node 0 0 (some (.int .u8 (.ofNat 11))) .nil .nil) (.node 0 0 (some (.int .i64 (.ofNat 0))) .nil .nil)))), none, 15, 222, false⟩)
def blF : List (Nat × AB) := [(35, aF35), (39, aF39), (37, aF37), (13, aF13), (25, aF25), (26, aF26)]
def hF : TB := (.node 0 0 none (.node 0 0 none (.node 0 0 none (.node 0 0 none .nil (.node 0 0 none (.node 0 0 (some aF39) .nil .nil) .nil)) (.node 0 0 none (.node 0 0 none (.node 0 0 (some aF35) .nil .nil) .nil) .nil)) (.node 0 0 none (.node 0 0 none .nil (.node 0 0 (some aF25) .nil .nil)) (.node 0 0 (some aF13) (.node 0 0 none (.node 0 0 (some aF37) .nil .nil) .nil) .nil))) (.node 0 0 none .nil (.node 0 0 none (.node 0 0 none .nil (.node 0 0 (some aF26) .nil .nil)) .nil)))
end Go.Proofs.YtkpfafehcmammaaGreatDoor
namespace Go.Proofs.YtkpfafehcmammaaGreatDoor
open Go.Proofs
def aQ35 : AB := (.inl ⟨(.node 0 0 (some (.pointer (some ⟨11, 0, none⟩))) (.node 0 0 (some (.complex .f64 3 12)) (.node 0 0 (some (.slice (some ⟨40, 0, (some 2)⟩) 2 0)) .nil .nil) .nil) (.node 0 0 (some (.slice none 0 0)) (.node 0 0 (some (.slice (some ⟨37, 0, (some 3)⟩) 1 0)) .nil .nil) .nil)), none, 5, 151, false⟩)
def aQ37 : AB := (.inl ⟨(.node 0 0 (some (.pointer (some ⟨13, 15, none⟩))) (.node 0 0 (some (.int .i64 (.ofNat 1))) .nil .nil) (.node 0 0 (some (.int .i64 (.ofNat 0))) .nil .nil)), none, 3, 211, false⟩)
def aQ40 : AB := (.inl ⟨(.node 0 0 (some (.pointer (some ⟨25, 0, none⟩))) (.node 0 0 (some (.int .i64 (.ofNat 0))) (.node 0 0 (some (.int .i64 (.ofNat 0))) .nil .nil) .nil) (.node 0 0 (some (.pointer (some ⟨25, 5, none⟩))) .nil .nil)), none, 4, 216, false⟩)
def blQ : List (Nat × AB) := [(35, aQ35), (37, aQ37), (40, aQ40), (13, aF13), (25, aF25), (26, aF26)]
def hQ : TB := (.node 0 0 none (.node 0 0 none (.node 0 0 none .nil (.node 0 0 none (.node 0 0 none (.node 0 0 (some aQ35) .nil .nil) .nil) .nil)) (.node 0 0 none (.node 0 0 none .nil (.node 0 0 (some aF25) .nil .nil)) (.node 0 0 (some aF13) (.node 0 0 none (.node 0 0 (some aQ37) .nil .nil) .nil) .nil))) (.node 0 0 none (.node 0 0 none (.node 0 0 none .nil (.node 0 0 none (.node 0 0 (some aQ40) .nil .nil) .nil)) .nil) (.node 0 0 none (.node 0 0 none .nil (.node 0 0 (some aF26) .nil .nil)) .nil)))
def rgQ : List (Nat × Value) := [(0, .pointer (some ⟨35, 0, none⟩))]
def rtQ : TV := (.node 0 0 (some (.pointer (some ⟨35, 0, none⟩))) .nil .nil)
def piQ0 : List (Nat × Nat) := [(40, 41)]
def subQ0 : Sub := [(3, 12, .complex .f64 3 100)]
end Go.Proofs.YtkpfafehcmammaaGreatDoor
namespace Go.Proofs.YtkpfafehcmammaaGreatDoor
open Go.Proofs
def aG35 : AB := (.inl ⟨(.node 0 0 (some (.pointer (some ⟨11, 0, none⟩))) (.node 0 0 (some (.complex .f64 3 15)) .nil .nil) (.node 0 0 (some (.slice none 0 0)) .nil .nil)), none, 5, 151, false⟩)
def blG : List (Nat × AB) := [(35, aG35), (13, aF13), (25, aF25), (26, aF26)]
def hG : TB := (.node 0 0 none (.node 0 0 none (.node 0 0 none .nil (.node 0 0 none (.node 0 0 none (.node 0 0 (some aG35) .nil .nil) .nil) .nil)) (.node 0 0 none (.node 0 0 none .nil (.node 0 0 (some aF25) .nil .nil)) (.node 0 0 (some aF13) .nil .nil))) (.node 0 0 none .nil (.node 0 0 none (.node 0 0 none .nil (.node 0 0 (some aF26) .nil .nil)) .nil)))
def piQ1 : List (Nat × Nat) := [(40, 44)]
def subQ1 : Sub := [(3, 12, .complex .f64 3 100)]
def subQ2 : Sub := [(3, 15, .complex .f64 3 12)]
def EQ : OE := ⟨40, [.pointer (some ⟨35, 0, none⟩)], blF, blG, 40, .int .i64 8⟩
def O2 (f : FuncId) (nx : Nat) : Option OE := bif Nat.beq f 60 && Nat.beq nx 40 then some EQ else none
end Go.Proofs.YtkpfafehcmammaaGreatDoor
