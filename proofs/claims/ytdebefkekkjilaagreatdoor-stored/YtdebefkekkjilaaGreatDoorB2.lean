import Derived.Test.YtdebefkekkjilaaGreatDoorA3
import Derived.IntWalk
namespace Go.Proofs.YtdebefkekkjilaaGreatDoor
def dBins : List BE := [(.shr, .complex .f64 3 0, .int .u64 8, .complex .f64 3 31), (.shr, .complex .f64 7 3, .int .i64 0, .complex .f64 7 10), (.shr, .complex .f64 3 0, .int .i64 0, .complex .f64 3 30), (.neq, .complex .f64 4 20, .complex .f64 4 20, .bool false), (.shl, .complex .f64 7 40, .int .i64 0, .complex .f64 7 50), (.or, .int .u64 0, .complex .f64 7 50, .complex .f64 7 60), (.shr, .complex .f64 7 3, .int .i64 8, .complex .f64 7 11), (.shr, .complex .f64 3 0, .int .i64 8, .complex .f64 3 31), (.neq, .complex .f64 4 21, .complex .f64 4 21, .bool false), (.shl, .complex .f64 7 41, .int .i64 8, .complex .f64 7 51), (.or, .complex .f64 7 60, .complex .f64 7 51, .complex .f64 7 61), (.shr, .complex .f64 7 3, .int .i64 16, .complex .f64 7 12), (.shr, .complex .f64 3 0, .int .i64 16, .complex .f64 3 32), (.neq, .complex .f64 4 22, .complex .f64 4 22, .bool false), (.shl, .complex .f64 7 42, .int .i64 16, .complex .f64 7 52), (.or, .complex .f64 7 61, .complex .f64 7 52, .complex .f64 7 62), (.shr, .complex .f64 7 3, .int .i64 24, .complex .f64 7 13), (.shr, .complex .f64 3 0, .int .i64 24, .complex .f64 3 33), (.neq, .complex .f64 4 23, .complex .f64 4 23, .bool false), (.shl, .complex .f64 7 43, .int .i64 24, .complex .f64 7 53), (.or, .complex .f64 7 62, .complex .f64 7 53, .complex .f64 7 63), (.shr, .complex .f64 7 3, .int .i64 32, .complex .f64 7 14), (.shr, .complex .f64 3 0, .int .i64 32, .complex .f64 3 34), (.neq, .complex .f64 4 24, .complex .f64 4 24, .bool false), (.shl, .complex .f64 7 44, .int .i64 32, .complex .f64 7 54), (.or, .complex .f64 7 63, .complex .f64 7 54, .complex .f64 7 64), (.shr, .complex .f64 7 3, .int .i64 40, .complex .f64 7 15), (.shr, .complex .f64 3 0, .int .i64 40, .complex .f64 3 35), (.neq, .complex .f64 4 25, .complex .f64 4 25, .bool false), (.shl, .complex .f64 7 45, .int .i64 40, .complex .f64 7 55), (.or, .complex .f64 7 64, .complex .f64 7 55, .complex .f64 7 65), (.shr, .complex .f64 7 3, .int .i64 48, .complex .f64 7 16), (.shr, .complex .f64 3 0, .int .i64 48, .complex .f64 3 36), (.neq, .complex .f64 4 26, .complex .f64 4 26, .bool false), (.shl, .complex .f64 7 46, .int .i64 48, .complex .f64 7 56), (.or, .complex .f64 7 65, .complex .f64 7 56, .complex .f64 7 66), (.shr, .complex .f64 7 3, .int .i64 56, .complex .f64 7 17), (.shr, .complex .f64 3 0, .int .i64 56, .complex .f64 3 37), (.neq, .complex .f64 4 27, .complex .f64 4 27, .bool false), (.shl, .complex .f64 7 47, .int .i64 56, .complex .f64 7 57), (.or, .complex .f64 7 66, .complex .f64 7 57, .complex .f64 7 3), (.shl, .complex .f64 7 41, .int .i64 0, .complex .f64 7 41), (.or, .int .u64 0, .complex .f64 7 41, .complex .f64 7 41), (.eql, .complex .f64 3 71, .complex .f64 3 71, .bool true), (.eql, .complex .f64 3 0, .complex .f64 3 0, .bool true)]
def dConvs : List (IntKind × Value × Value) := [(.u64, .complex .f64 3 0, .complex .f64 7 3), (.u8, .complex .f64 7 10, .complex .f64 4 20), (.u8, .complex .f64 3 30, .complex .f64 4 20), (.u64, .complex .f64 4 20, .complex .f64 7 40), (.u8, .complex .f64 7 11, .complex .f64 4 21), (.u8, .complex .f64 3 31, .complex .f64 4 21), (.u64, .complex .f64 4 21, .complex .f64 7 41), (.u8, .complex .f64 7 12, .complex .f64 4 22), (.u8, .complex .f64 3 32, .complex .f64 4 22), (.u64, .complex .f64 4 22, .complex .f64 7 42), (.u8, .complex .f64 7 13, .complex .f64 4 23), (.u8, .complex .f64 3 33, .complex .f64 4 23), (.u64, .complex .f64 4 23, .complex .f64 7 43), (.u8, .complex .f64 7 14, .complex .f64 4 24), (.u8, .complex .f64 3 34, .complex .f64 4 24), (.u64, .complex .f64 4 24, .complex .f64 7 44), (.u8, .complex .f64 7 15, .complex .f64 4 25), (.u8, .complex .f64 3 35, .complex .f64 4 25), (.u64, .complex .f64 4 25, .complex .f64 7 45), (.u8, .complex .f64 7 16, .complex .f64 4 26), (.u8, .complex .f64 3 36, .complex .f64 4 26), (.u64, .complex .f64 4 26, .complex .f64 7 46), (.u8, .complex .f64 7 17, .complex .f64 4 27), (.u8, .complex .f64 3 37, .complex .f64 4 27), (.u64, .complex .f64 4 27, .complex .f64 7 47), (.i8, .complex .f64 7 41, .complex .f64 0 70), (.i64, .complex .f64 0 70, .complex .f64 3 71), (.i8, .complex .f64 3 31, .complex .f64 0 70), (.i64, .complex .f64 7 3, .complex .f64 3 0)]
def dT : Tab := tabOf dBins dConvs [] [20, 21, 22, 23, 24, 25, 26, 27]
end Go.Proofs.YtdebefkekkjilaaGreatDoor
namespace Go.Proofs.YtdebefkekkjilaaGreatDoor
open Go.Deep

theorem wrap_u64 (n : Int) : IntKind.u64.wrap n = n % 18446744073709551616 := by simp [IntKind.wrap, IntKind.bits, IntKind.signed]
theorem wrap_i8 (n : Int) : IntKind.i8.wrap n = (n + 128) % 256 - 128 := by
  simp only [IntKind.wrap, IntKind.bits, IntKind.signed]
  simp
  split <;> omega

def Nn (n : Int) : Int := n % 18446744073709551616
/-- What the letters stand for: n's bits, bytes, sums of bytes; g: the numbers that are picked. -/
def rhoD (n : Int) (g : Nat → Int) : Nat → Int
  | 0 => n
  | 3 => Nn n
  | 10 => Nn n / 1
  | 20 => Nn n / 1 % 256
  | 30 => n / 1
  | 40 => Nn n / 1 % 256
  | 50 => (Nn n / 1 % 256) * 1
  | 60 => Nn n % 256
  | 11 => Nn n / 256
  | 21 => Nn n / 256 % 256
  | 31 => n / 256
  | 41 => Nn n / 256 % 256
  | 51 => (Nn n / 256 % 256) * 256
  | 61 => Nn n % 65536
  | 12 => Nn n / 65536
  | 22 => Nn n / 65536 % 256
  | 32 => n / 65536
  | 42 => Nn n / 65536 % 256
  | 52 => (Nn n / 65536 % 256) * 65536
  | 62 => Nn n % 16777216
  | 13 => Nn n / 16777216
  | 23 => Nn n / 16777216 % 256
  | 33 => n / 16777216
  | 43 => Nn n / 16777216 % 256
  | 53 => (Nn n / 16777216 % 256) * 16777216
  | 63 => Nn n % 4294967296
  | 14 => Nn n / 4294967296
  | 24 => Nn n / 4294967296 % 256
  | 34 => n / 4294967296
  | 44 => Nn n / 4294967296 % 256
  | 54 => (Nn n / 4294967296 % 256) * 4294967296
  | 64 => Nn n % 1099511627776
  | 15 => Nn n / 1099511627776
  | 25 => Nn n / 1099511627776 % 256
  | 35 => n / 1099511627776
  | 45 => Nn n / 1099511627776 % 256
  | 55 => (Nn n / 1099511627776 % 256) * 1099511627776
  | 65 => Nn n % 281474976710656
  | 16 => Nn n / 281474976710656
  | 26 => Nn n / 281474976710656 % 256
  | 36 => n / 281474976710656
  | 46 => Nn n / 281474976710656 % 256
  | 56 => (Nn n / 281474976710656 % 256) * 281474976710656
  | 66 => Nn n % 72057594037927936
  | 17 => Nn n / 72057594037927936
  | 27 => Nn n / 72057594037927936 % 256
  | 37 => n / 72057594037927936
  | 47 => Nn n / 72057594037927936 % 256
  | 57 => (Nn n / 72057594037927936 % 256) * 72057594037927936
  | 70 => IntKind.i8.wrap (Nn n / 256 % 256)
  | 71 => IntKind.i8.wrap (Nn n / 256 % 256)
  | i => g i

theorem Nn_ok (n : Int) : 0 ≤ Nn n ∧ Nn n < 18446744073709551616 := by unfold Nn; omega

theorem fdiv_lit (a b : Int) (hb : 0 < b) : a.fdiv b = a / b := Int.fdiv_eq_ediv_of_nonneg a (by omega)

/-- Bits that do not meet are added. -/
theorem or_add {m : Nat} {a c : Int} (ha : 0 ≤ a) (hm : a < 2 ^ m) (hc : 0 ≤ c) (h : a + c * 2 ^ m < 18446744073709551616) : IntKind.u64.wrap ((BitVec.ofInt 64 a ||| BitVec.ofInt 64 (c * 2 ^ m)).toNat : Int) = a + c * 2 ^ m := by
  obtain ⟨x, rfl⟩ := Int.eq_ofNat_of_zero_le ha
  obtain ⟨y, rfl⟩ := Int.eq_ofNat_of_zero_le hc
  have h2 : ((y : Int) * 2 ^ m) = ((y * 2 ^ m : Nat) : Int) := by simp
  rw [h2] at h ⊢
  have hx : x < 2 ^ m := by
    have : ((2 : Int) ^ m) = ((2 ^ m : Nat) : Int) := by simp
    rw [this] at hm; omega
  have e1 : (BitVec.ofInt 64 (x : Int)).toNat = x := by rw [BitVec.ofInt_natCast, BitVec.toNat_ofNat, Nat.mod_eq_of_lt (by omega)]
  have e2 : (BitVec.ofInt 64 ((y * 2 ^ m : Nat) : Int)).toNat = y * 2 ^ m := by rw [BitVec.ofInt_natCast, BitVec.toNat_ofNat, Nat.mod_eq_of_lt (by omega)]
  rw [BitVec.toNat_or, e1, e2, Nat.or_comm, Nat.mul_comm y, ← Nat.two_pow_add_eq_or_of_lt hx, wrap_u64]
  have : 2 ^ m * y = y * 2 ^ m := Nat.mul_comm _ _
  omega

theorem dT_ok {P : Program} {n : Int} {g : Nat → Int} (hn : -9223372036854775808 ≤ n ∧ n < 9223372036854775808) : TabOK P (rhoD n g) dT := by
  have hN := Nn_ok n
  refine tab_ok (fun x hx => ?_) (fun x hx => ?_) (fun x hx => by cases hx) (fun i hi => ?_)
  · simp only [dBins, List.mem_cons, List.not_mem_nil, or_false] at hx
    rcases hx with rfl | rfl | rfl | rfl | rfl | rfl | rfl | rfl | rfl | rfl | rfl | rfl | rfl | rfl | rfl | rfl | rfl | rfl | rfl | rfl | rfl | rfl | rfl | rfl | rfl | rfl | rfl | rfl | rfl | rfl | rfl | rfl | rfl | rfl | rfl | rfl | rfl | rfl | rfl | rfl | rfl | rfl | rfl | rfl | rfl
    · exact says_shr (num_l (re := 3) (i := 0) rfl) num_i (by decide) (num_l (re := 3) (i := 31) (fdiv_lit _ 256 (by decide)).symm)
    · exact says_shr (num_l (re := 7) (i := 3) rfl) num_i (by decide) (num_l (re := 7) (i := 10) (fdiv_lit _ 1 (by decide)).symm)
    · exact says_shr (num_l (re := 3) (i := 0) rfl) num_i (by decide) (num_l (re := 3) (i := 30) (fdiv_lit _ 1 (by decide)).symm)
    · exact says_neq (num_l (re := 4) (i := 20) rfl) (num_l (re := 4) (i := 20) rfl) (by simp)
    · refine says_shl (num_l (re := 7) (i := 40) rfl) num_i (by decide) (num_l (re := 7) (i := 50) ?_)
      change (Nn n / 1 % 256) * 1 = IntKind.u64.wrap (Nn n / 1 % 256 * 1)
      rw [wrap_u64]; omega
    · refine says_or num_i (num_l (re := 7) (i := 50) rfl) (num_l (re := 7) (i := 60) ?_)
      change Nn n % 256 = IntKind.u64.wrap ((BitVec.ofInt 64 0 ||| BitVec.ofInt 64 (Nn n / 1 % 256 * 1)).toNat : Int)
      have := or_add (m := 0) (a := 0) (c := Nn n / 1 % 256) (by omega) (by decide) (by omega) (by omega)
      simp only [Int.pow_zero, Int.zero_add] at this
      rw [this]; omega
    · exact says_shr (num_l (re := 7) (i := 3) rfl) num_i (by decide) (num_l (re := 7) (i := 11) (fdiv_lit _ 256 (by decide)).symm)
    · exact says_shr (num_l (re := 3) (i := 0) rfl) num_i (by decide) (num_l (re := 3) (i := 31) (fdiv_lit _ 256 (by decide)).symm)
    · exact says_neq (num_l (re := 4) (i := 21) rfl) (num_l (re := 4) (i := 21) rfl) (by simp)
    · refine says_shl (num_l (re := 7) (i := 41) rfl) num_i (by decide) (num_l (re := 7) (i := 51) ?_)
      change (Nn n / 256 % 256) * 256 = IntKind.u64.wrap (Nn n / 256 % 256 * 256)
      rw [wrap_u64]; omega
    · refine says_or (num_l (re := 7) (i := 60) rfl) (num_l (re := 7) (i := 51) rfl) (num_l (re := 7) (i := 61) ?_)
      change Nn n % 65536 = IntKind.u64.wrap ((BitVec.ofInt 64 (Nn n % 256) ||| BitVec.ofInt 64 (Nn n / 256 % 256 * 256)).toNat : Int)
      have := or_add (m := 8) (a := Nn n % 256) (c := Nn n / 256 % 256) (by omega) (by omega) (by omega) (by omega)
      rw [show (2 : Int) ^ 8 = 256 by decide] at this
      rw [this]; omega
    · exact says_shr (num_l (re := 7) (i := 3) rfl) num_i (by decide) (num_l (re := 7) (i := 12) (fdiv_lit _ 65536 (by decide)).symm)
    · exact says_shr (num_l (re := 3) (i := 0) rfl) num_i (by decide) (num_l (re := 3) (i := 32) (fdiv_lit _ 65536 (by decide)).symm)
    · exact says_neq (num_l (re := 4) (i := 22) rfl) (num_l (re := 4) (i := 22) rfl) (by simp)
    · refine says_shl (num_l (re := 7) (i := 42) rfl) num_i (by decide) (num_l (re := 7) (i := 52) ?_)
      change (Nn n / 65536 % 256) * 65536 = IntKind.u64.wrap (Nn n / 65536 % 256 * 65536)
      rw [wrap_u64]; omega
    · refine says_or (num_l (re := 7) (i := 61) rfl) (num_l (re := 7) (i := 52) rfl) (num_l (re := 7) (i := 62) ?_)
      change Nn n % 16777216 = IntKind.u64.wrap ((BitVec.ofInt 64 (Nn n % 65536) ||| BitVec.ofInt 64 (Nn n / 65536 % 256 * 65536)).toNat : Int)
      have := or_add (m := 16) (a := Nn n % 65536) (c := Nn n / 65536 % 256) (by omega) (by omega) (by omega) (by omega)
      rw [show (2 : Int) ^ 16 = 65536 by decide] at this
      rw [this]; omega
    · exact says_shr (num_l (re := 7) (i := 3) rfl) num_i (by decide) (num_l (re := 7) (i := 13) (fdiv_lit _ 16777216 (by decide)).symm)
    · exact says_shr (num_l (re := 3) (i := 0) rfl) num_i (by decide) (num_l (re := 3) (i := 33) (fdiv_lit _ 16777216 (by decide)).symm)
    · exact says_neq (num_l (re := 4) (i := 23) rfl) (num_l (re := 4) (i := 23) rfl) (by simp)
    · refine says_shl (num_l (re := 7) (i := 43) rfl) num_i (by decide) (num_l (re := 7) (i := 53) ?_)
      change (Nn n / 16777216 % 256) * 16777216 = IntKind.u64.wrap (Nn n / 16777216 % 256 * 16777216)
      rw [wrap_u64]; omega
    · refine says_or (num_l (re := 7) (i := 62) rfl) (num_l (re := 7) (i := 53) rfl) (num_l (re := 7) (i := 63) ?_)
      change Nn n % 4294967296 = IntKind.u64.wrap ((BitVec.ofInt 64 (Nn n % 16777216) ||| BitVec.ofInt 64 (Nn n / 16777216 % 256 * 16777216)).toNat : Int)
      have := or_add (m := 24) (a := Nn n % 16777216) (c := Nn n / 16777216 % 256) (by omega) (by omega) (by omega) (by omega)
      rw [show (2 : Int) ^ 24 = 16777216 by decide] at this
      rw [this]; omega
    · exact says_shr (num_l (re := 7) (i := 3) rfl) num_i (by decide) (num_l (re := 7) (i := 14) (fdiv_lit _ 4294967296 (by decide)).symm)
    · exact says_shr (num_l (re := 3) (i := 0) rfl) num_i (by decide) (num_l (re := 3) (i := 34) (fdiv_lit _ 4294967296 (by decide)).symm)
    · exact says_neq (num_l (re := 4) (i := 24) rfl) (num_l (re := 4) (i := 24) rfl) (by simp)
    · refine says_shl (num_l (re := 7) (i := 44) rfl) num_i (by decide) (num_l (re := 7) (i := 54) ?_)
      change (Nn n / 4294967296 % 256) * 4294967296 = IntKind.u64.wrap (Nn n / 4294967296 % 256 * 4294967296)
      rw [wrap_u64]; omega
    · refine says_or (num_l (re := 7) (i := 63) rfl) (num_l (re := 7) (i := 54) rfl) (num_l (re := 7) (i := 64) ?_)
      change Nn n % 1099511627776 = IntKind.u64.wrap ((BitVec.ofInt 64 (Nn n % 4294967296) ||| BitVec.ofInt 64 (Nn n / 4294967296 % 256 * 4294967296)).toNat : Int)
      have := or_add (m := 32) (a := Nn n % 4294967296) (c := Nn n / 4294967296 % 256) (by omega) (by omega) (by omega) (by omega)
      rw [show (2 : Int) ^ 32 = 4294967296 by decide] at this
      rw [this]; omega
    · exact says_shr (num_l (re := 7) (i := 3) rfl) num_i (by decide) (num_l (re := 7) (i := 15) (fdiv_lit _ 1099511627776 (by decide)).symm)
    · exact says_shr (num_l (re := 3) (i := 0) rfl) num_i (by decide) (num_l (re := 3) (i := 35) (fdiv_lit _ 1099511627776 (by decide)).symm)
    · exact says_neq (num_l (re := 4) (i := 25) rfl) (num_l (re := 4) (i := 25) rfl) (by simp)
    · refine says_shl (num_l (re := 7) (i := 45) rfl) num_i (by decide) (num_l (re := 7) (i := 55) ?_)
      change (Nn n / 1099511627776 % 256) * 1099511627776 = IntKind.u64.wrap (Nn n / 1099511627776 % 256 * 1099511627776)
      rw [wrap_u64]; omega
    · refine says_or (num_l (re := 7) (i := 64) rfl) (num_l (re := 7) (i := 55) rfl) (num_l (re := 7) (i := 65) ?_)
      change Nn n % 281474976710656 = IntKind.u64.wrap ((BitVec.ofInt 64 (Nn n % 1099511627776) ||| BitVec.ofInt 64 (Nn n / 1099511627776 % 256 * 1099511627776)).toNat : Int)
      have := or_add (m := 40) (a := Nn n % 1099511627776) (c := Nn n / 1099511627776 % 256) (by omega) (by omega) (by omega) (by omega)
      rw [show (2 : Int) ^ 40 = 1099511627776 by decide] at this
      rw [this]; omega
    · exact says_shr (num_l (re := 7) (i := 3) rfl) num_i (by decide) (num_l (re := 7) (i := 16) (fdiv_lit _ 281474976710656 (by decide)).symm)
    · exact says_shr (num_l (re := 3) (i := 0) rfl) num_i (by decide) (num_l (re := 3) (i := 36) (fdiv_lit _ 281474976710656 (by decide)).symm)
    · exact says_neq (num_l (re := 4) (i := 26) rfl) (num_l (re := 4) (i := 26) rfl) (by simp)
    · refine says_shl (num_l (re := 7) (i := 46) rfl) num_i (by decide) (num_l (re := 7) (i := 56) ?_)
      change (Nn n / 281474976710656 % 256) * 281474976710656 = IntKind.u64.wrap (Nn n / 281474976710656 % 256 * 281474976710656)
      rw [wrap_u64]; omega
    · refine says_or (num_l (re := 7) (i := 65) rfl) (num_l (re := 7) (i := 56) rfl) (num_l (re := 7) (i := 66) ?_)
      change Nn n % 72057594037927936 = IntKind.u64.wrap ((BitVec.ofInt 64 (Nn n % 281474976710656) ||| BitVec.ofInt 64 (Nn n / 281474976710656 % 256 * 281474976710656)).toNat : Int)
      have := or_add (m := 48) (a := Nn n % 281474976710656) (c := Nn n / 281474976710656 % 256) (by omega) (by omega) (by omega) (by omega)
      rw [show (2 : Int) ^ 48 = 281474976710656 by decide] at this
      rw [this]; omega
    · exact says_shr (num_l (re := 7) (i := 3) rfl) num_i (by decide) (num_l (re := 7) (i := 17) (fdiv_lit _ 72057594037927936 (by decide)).symm)
    · exact says_shr (num_l (re := 3) (i := 0) rfl) num_i (by decide) (num_l (re := 3) (i := 37) (fdiv_lit _ 72057594037927936 (by decide)).symm)
    · exact says_neq (num_l (re := 4) (i := 27) rfl) (num_l (re := 4) (i := 27) rfl) (by simp)
    · refine says_shl (num_l (re := 7) (i := 47) rfl) num_i (by decide) (num_l (re := 7) (i := 57) ?_)
      change (Nn n / 72057594037927936 % 256) * 72057594037927936 = IntKind.u64.wrap (Nn n / 72057594037927936 % 256 * 72057594037927936)
      rw [wrap_u64]; omega
    · refine says_or (num_l (re := 7) (i := 66) rfl) (num_l (re := 7) (i := 57) rfl) (num_l (re := 7) (i := 3) ?_)
      change Nn n = IntKind.u64.wrap ((BitVec.ofInt 64 (Nn n % 72057594037927936) ||| BitVec.ofInt 64 (Nn n / 72057594037927936 % 256 * 72057594037927936)).toNat : Int)
      have := or_add (m := 56) (a := Nn n % 72057594037927936) (c := Nn n / 72057594037927936 % 256) (by omega) (by omega) (by omega) (by omega)
      rw [show (2 : Int) ^ 56 = 72057594037927936 by decide] at this
      rw [this]; omega
    · refine says_shl (num_l (re := 7) (i := 41) rfl) num_i (by decide) (num_l (re := 7) (i := 41) ?_)
      change Nn n / 256 % 256 = IntKind.u64.wrap (Nn n / 256 % 256 * 1)
      rw [wrap_u64]; omega
    · refine says_or num_i (num_l (re := 7) (i := 41) rfl) (num_l (re := 7) (i := 41) ?_)
      change Nn n / 256 % 256 = IntKind.u64.wrap ((BitVec.ofInt 64 0 ||| BitVec.ofInt 64 (Nn n / 256 % 256)).toNat : Int)
      have := or_add (m := 0) (a := 0) (c := Nn n / 256 % 256) (by omega) (by decide) (by omega) (by omega)
      simp only [Int.pow_zero, Int.mul_one, Int.zero_add] at this
      exact this.symm
    · exact says_eql (num_l (re := 3) (i := 71) rfl) (num_l (re := 3) (i := 71) rfl) (by simp)
    · exact says_eql (num_l (re := 3) (i := 0) rfl) (num_l (re := 3) (i := 0) rfl) (by simp)
  · simp only [dConvs, List.mem_cons, List.not_mem_nil, or_false] at hx
    rcases hx with rfl | rfl | rfl | rfl | rfl | rfl | rfl | rfl | rfl | rfl | rfl | rfl | rfl | rfl | rfl | rfl | rfl | rfl | rfl | rfl | rfl | rfl | rfl | rfl | rfl | rfl | rfl | rfl | rfl
    · refine ⟨_, _, (num_l (re := 3) (i := 0) rfl), num_l (re := 7) (i := 3) ?_⟩
      change Nn n = IntKind.u64.wrap (n)
      rw [wrap_u64]; rfl
    · refine ⟨_, _, (num_l (re := 7) (i := 10) rfl), num_l (re := 4) (i := 20) ?_⟩
      change Nn n / 1 % 256 = IntKind.u8.wrap (Nn n / 1)
      rw [IntKind.wrap_u8] <;> (unfold Nn at *; omega)
    · refine ⟨_, _, (num_l (re := 3) (i := 30) rfl), num_l (re := 4) (i := 20) ?_⟩
      change Nn n / 1 % 256 = IntKind.u8.wrap (n / 1)
      rw [IntKind.wrap_u8] <;> (unfold Nn at *; omega)
    · refine ⟨_, _, (num_l (re := 4) (i := 20) rfl), num_l (re := 7) (i := 40) ?_⟩
      change Nn n / 1 % 256 = IntKind.u64.wrap (Nn n / 1 % 256)
      rw [wrap_u64]; omega
    · refine ⟨_, _, (num_l (re := 7) (i := 11) rfl), num_l (re := 4) (i := 21) ?_⟩
      change Nn n / 256 % 256 = IntKind.u8.wrap (Nn n / 256)
      rw [IntKind.wrap_u8] <;> (unfold Nn at *; omega)
    · refine ⟨_, _, (num_l (re := 3) (i := 31) rfl), num_l (re := 4) (i := 21) ?_⟩
      change Nn n / 256 % 256 = IntKind.u8.wrap (n / 256)
      rw [IntKind.wrap_u8] <;> (unfold Nn at *; omega)
    · refine ⟨_, _, (num_l (re := 4) (i := 21) rfl), num_l (re := 7) (i := 41) ?_⟩
      change Nn n / 256 % 256 = IntKind.u64.wrap (Nn n / 256 % 256)
      rw [wrap_u64]; omega
    · refine ⟨_, _, (num_l (re := 7) (i := 12) rfl), num_l (re := 4) (i := 22) ?_⟩
      change Nn n / 65536 % 256 = IntKind.u8.wrap (Nn n / 65536)
      rw [IntKind.wrap_u8] <;> (unfold Nn at *; omega)
    · refine ⟨_, _, (num_l (re := 3) (i := 32) rfl), num_l (re := 4) (i := 22) ?_⟩
      change Nn n / 65536 % 256 = IntKind.u8.wrap (n / 65536)
      rw [IntKind.wrap_u8] <;> (unfold Nn at *; omega)
    · refine ⟨_, _, (num_l (re := 4) (i := 22) rfl), num_l (re := 7) (i := 42) ?_⟩
      change Nn n / 65536 % 256 = IntKind.u64.wrap (Nn n / 65536 % 256)
      rw [wrap_u64]; omega
    · refine ⟨_, _, (num_l (re := 7) (i := 13) rfl), num_l (re := 4) (i := 23) ?_⟩
      change Nn n / 16777216 % 256 = IntKind.u8.wrap (Nn n / 16777216)
      rw [IntKind.wrap_u8] <;> (unfold Nn at *; omega)
    · refine ⟨_, _, (num_l (re := 3) (i := 33) rfl), num_l (re := 4) (i := 23) ?_⟩
      change Nn n / 16777216 % 256 = IntKind.u8.wrap (n / 16777216)
      rw [IntKind.wrap_u8] <;> (unfold Nn at *; omega)
    · refine ⟨_, _, (num_l (re := 4) (i := 23) rfl), num_l (re := 7) (i := 43) ?_⟩
      change Nn n / 16777216 % 256 = IntKind.u64.wrap (Nn n / 16777216 % 256)
      rw [wrap_u64]; omega
    · refine ⟨_, _, (num_l (re := 7) (i := 14) rfl), num_l (re := 4) (i := 24) ?_⟩
      change Nn n / 4294967296 % 256 = IntKind.u8.wrap (Nn n / 4294967296)
      rw [IntKind.wrap_u8] <;> (unfold Nn at *; omega)
    · refine ⟨_, _, (num_l (re := 3) (i := 34) rfl), num_l (re := 4) (i := 24) ?_⟩
      change Nn n / 4294967296 % 256 = IntKind.u8.wrap (n / 4294967296)
      rw [IntKind.wrap_u8] <;> (unfold Nn at *; omega)
    · refine ⟨_, _, (num_l (re := 4) (i := 24) rfl), num_l (re := 7) (i := 44) ?_⟩
      change Nn n / 4294967296 % 256 = IntKind.u64.wrap (Nn n / 4294967296 % 256)
      rw [wrap_u64]; omega
    · refine ⟨_, _, (num_l (re := 7) (i := 15) rfl), num_l (re := 4) (i := 25) ?_⟩
      change Nn n / 1099511627776 % 256 = IntKind.u8.wrap (Nn n / 1099511627776)
      rw [IntKind.wrap_u8] <;> (unfold Nn at *; omega)
    · refine ⟨_, _, (num_l (re := 3) (i := 35) rfl), num_l (re := 4) (i := 25) ?_⟩
      change Nn n / 1099511627776 % 256 = IntKind.u8.wrap (n / 1099511627776)
      rw [IntKind.wrap_u8] <;> (unfold Nn at *; omega)
    · refine ⟨_, _, (num_l (re := 4) (i := 25) rfl), num_l (re := 7) (i := 45) ?_⟩
      change Nn n / 1099511627776 % 256 = IntKind.u64.wrap (Nn n / 1099511627776 % 256)
      rw [wrap_u64]; omega
    · refine ⟨_, _, (num_l (re := 7) (i := 16) rfl), num_l (re := 4) (i := 26) ?_⟩
      change Nn n / 281474976710656 % 256 = IntKind.u8.wrap (Nn n / 281474976710656)
      rw [IntKind.wrap_u8] <;> (unfold Nn at *; omega)
    · refine ⟨_, _, (num_l (re := 3) (i := 36) rfl), num_l (re := 4) (i := 26) ?_⟩
      change Nn n / 281474976710656 % 256 = IntKind.u8.wrap (n / 281474976710656)
      rw [IntKind.wrap_u8] <;> (unfold Nn at *; omega)
    · refine ⟨_, _, (num_l (re := 4) (i := 26) rfl), num_l (re := 7) (i := 46) ?_⟩
      change Nn n / 281474976710656 % 256 = IntKind.u64.wrap (Nn n / 281474976710656 % 256)
      rw [wrap_u64]; omega
    · refine ⟨_, _, (num_l (re := 7) (i := 17) rfl), num_l (re := 4) (i := 27) ?_⟩
      change Nn n / 72057594037927936 % 256 = IntKind.u8.wrap (Nn n / 72057594037927936)
      rw [IntKind.wrap_u8] <;> (unfold Nn at *; omega)
    · refine ⟨_, _, (num_l (re := 3) (i := 37) rfl), num_l (re := 4) (i := 27) ?_⟩
      change Nn n / 72057594037927936 % 256 = IntKind.u8.wrap (n / 72057594037927936)
      rw [IntKind.wrap_u8] <;> (unfold Nn at *; omega)
    · refine ⟨_, _, (num_l (re := 4) (i := 27) rfl), num_l (re := 7) (i := 47) ?_⟩
      change Nn n / 72057594037927936 % 256 = IntKind.u64.wrap (Nn n / 72057594037927936 % 256)
      rw [wrap_u64]; omega
    · refine ⟨_, _, (num_l (re := 7) (i := 41) rfl), num_l (re := 0) (i := 70) ?_⟩
      change IntKind.i8.wrap (Nn n / 256 % 256) = IntKind.i8.wrap (Nn n / 256 % 256)
      simp only [wrap_i8] <;> (unfold Nn; omega)
    · refine ⟨_, _, (num_l (re := 0) (i := 70) rfl), num_l (re := 3) (i := 71) ?_⟩
      change IntKind.i8.wrap (Nn n / 256 % 256) = IntKind.i64.wrap (IntKind.i8.wrap (Nn n / 256 % 256))
      rw [wrap_i8, IntKind.wrap_i64]; omega
    · refine ⟨_, _, (num_l (re := 3) (i := 31) rfl), num_l (re := 0) (i := 70) ?_⟩
      change IntKind.i8.wrap (Nn n / 256 % 256) = IntKind.i8.wrap (n / 256)
      simp only [wrap_i8] <;> (unfold Nn; omega)
    · refine ⟨_, _, (num_l (re := 7) (i := 3) rfl), num_l (re := 3) (i := 0) ?_⟩
      change n = IntKind.i64.wrap (Nn n)
      rw [IntKind.wrap_i64]; unfold Nn at *; omega
  · simp only [List.mem_cons, List.not_mem_nil, or_false] at hi
    rcases hi with rfl | rfl | rfl | rfl | rfl | rfl | rfl | rfl
    · change 0 ≤ Nn n / 1 % 256 ∧ Nn n / 1 % 256 < 256; omega
    · change 0 ≤ Nn n / 256 % 256 ∧ Nn n / 256 % 256 < 256; omega
    · change 0 ≤ Nn n / 65536 % 256 ∧ Nn n / 65536 % 256 < 256; omega
    · change 0 ≤ Nn n / 16777216 % 256 ∧ Nn n / 16777216 % 256 < 256; omega
    · change 0 ≤ Nn n / 4294967296 % 256 ∧ Nn n / 4294967296 % 256 < 256; omega
    · change 0 ≤ Nn n / 1099511627776 % 256 ∧ Nn n / 1099511627776 % 256 < 256; omega
    · change 0 ≤ Nn n / 281474976710656 % 256 ∧ Nn n / 281474976710656 % 256 < 256; omega
    · change 0 ≤ Nn n / 72057594037927936 % 256 ∧ Nn n / 72057594037927936 % 256 < 256; omega

end Go.Proofs.YtdebefkekkjilaaGreatDoor
