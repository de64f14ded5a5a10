import Derived.Test.YtogohcefjffahaaGreatDoorA3
import Derived.IntWalk
namespace Go.Proofs.YtogohcefjffahaaGreatDoor
def cBins : List BE := [(.lss, .complex .f64 3 8, .int .i64 2, .bool false), (.eql, .complex .f64 6 6, .int .u32 0, .bool false), (.eql, .complex .f64 6 6, .int .u32 1, .bool false), (.lss, .complex .f64 3 20, .int .i64 0, .bool false), (.rem, .complex .f64 3 20, .int .i64 6, .int .i64 0), (.lss, .complex .f64 3 30, .int .i64 0, .bool true), (.add, .complex .f64 3 30, .int .i64 1, .complex .f64 3 40), (.rem, .complex .f64 3 50, .int .i64 6, .int .i64 0), (.lss, .complex .f64 3 21, .int .i64 0, .bool false), (.rem, .complex .f64 3 21, .int .i64 6, .int .i64 1), (.lss, .complex .f64 3 31, .int .i64 0, .bool true), (.add, .complex .f64 3 31, .int .i64 1, .complex .f64 3 41), (.rem, .complex .f64 3 51, .int .i64 6, .int .i64 1), (.lss, .complex .f64 3 22, .int .i64 0, .bool false), (.rem, .complex .f64 3 22, .int .i64 6, .int .i64 2), (.lss, .complex .f64 3 32, .int .i64 0, .bool true), (.add, .complex .f64 3 32, .int .i64 1, .complex .f64 3 42), (.rem, .complex .f64 3 52, .int .i64 6, .int .i64 2), (.lss, .complex .f64 3 23, .int .i64 0, .bool false), (.rem, .complex .f64 3 23, .int .i64 6, .int .i64 3), (.lss, .complex .f64 3 33, .int .i64 0, .bool true), (.add, .complex .f64 3 33, .int .i64 1, .complex .f64 3 43), (.rem, .complex .f64 3 53, .int .i64 6, .int .i64 3), (.lss, .complex .f64 3 24, .int .i64 0, .bool false), (.rem, .complex .f64 3 24, .int .i64 6, .int .i64 4), (.lss, .complex .f64 3 34, .int .i64 0, .bool true), (.add, .complex .f64 3 34, .int .i64 1, .complex .f64 3 44), (.rem, .complex .f64 3 54, .int .i64 6, .int .i64 4), (.lss, .complex .f64 3 25, .int .i64 0, .bool false), (.rem, .complex .f64 3 25, .int .i64 6, .int .i64 5), (.lss, .complex .f64 3 35, .int .i64 0, .bool true), (.add, .complex .f64 3 35, .int .i64 1, .complex .f64 3 45), (.rem, .complex .f64 3 55, .int .i64 6, .int .i64 5)]
def cConvs : List (IntKind × Value × Value) := [(.i32, .complex .f64 3 2, .int .i32 0), (.u32, .complex .f64 3 2, .int .u32 0), (.i32, .complex .f64 3 3, .int .i32 1), (.u32, .complex .f64 3 3, .int .u32 1), (.i32, .complex .f64 3 4, .complex .f64 2 5), (.u32, .complex .f64 3 4, .complex .f64 6 6), (.i64, .complex .f64 2 5, .complex .f64 3 7), (.u32, .complex .f64 3 7, .complex .f64 6 6), (.i64, .complex .f64 6 6, .complex .f64 3 8)]
def cUns : List (UnOp × Value × Value) := [(.neg, .complex .f64 3 40, .complex .f64 3 50), (.neg, .complex .f64 3 41, .complex .f64 3 51), (.neg, .complex .f64 3 42, .complex .f64 3 52), (.neg, .complex .f64 3 43, .complex .f64 3 53), (.neg, .complex .f64 3 44, .complex .f64 3 54), (.neg, .complex .f64 3 45, .complex .f64 3 55)]
def cT : Tab := tabOf cBins cConvs cUns []
def cArgs : List Value := [.complex .f64 3 0, .complex .f64 3 1]
def cCases : List (List Value) := [[.complex .f64 3 2, .complex .f64 3 20], [.complex .f64 3 2, .complex .f64 3 21], [.complex .f64 3 2, .complex .f64 3 22], [.complex .f64 3 2, .complex .f64 3 23], [.complex .f64 3 2, .complex .f64 3 24], [.complex .f64 3 2, .complex .f64 3 25], [.complex .f64 3 2, .complex .f64 3 30], [.complex .f64 3 2, .complex .f64 3 31], [.complex .f64 3 2, .complex .f64 3 32], [.complex .f64 3 2, .complex .f64 3 33], [.complex .f64 3 2, .complex .f64 3 34], [.complex .f64 3 2, .complex .f64 3 35], [.complex .f64 3 3, .complex .f64 3 20], [.complex .f64 3 3, .complex .f64 3 21], [.complex .f64 3 3, .complex .f64 3 22], [.complex .f64 3 3, .complex .f64 3 23], [.complex .f64 3 3, .complex .f64 3 24], [.complex .f64 3 3, .complex .f64 3 25], [.complex .f64 3 3, .complex .f64 3 30], [.complex .f64 3 3, .complex .f64 3 31], [.complex .f64 3 3, .complex .f64 3 32], [.complex .f64 3 3, .complex .f64 3 33], [.complex .f64 3 3, .complex .f64 3 34], [.complex .f64 3 3, .complex .f64 3 35], [.complex .f64 3 4, .complex .f64 3 20], [.complex .f64 3 4, .complex .f64 3 21], [.complex .f64 3 4, .complex .f64 3 22], [.complex .f64 3 4, .complex .f64 3 23], [.complex .f64 3 4, .complex .f64 3 24], [.complex .f64 3 4, .complex .f64 3 25], [.complex .f64 3 4, .complex .f64 3 30], [.complex .f64 3 4, .complex .f64 3 31], [.complex .f64 3 4, .complex .f64 3 32], [.complex .f64 3 4, .complex .f64 3 33], [.complex .f64 3 4, .complex .f64 3 34], [.complex .f64 3 4, .complex .f64 3 35]]
end Go.Proofs.YtogohcefjffahaaGreatDoor
namespace Go.Proofs.YtogohcefjffahaaGreatDoor
open Go.Deep

def posv (w k : Int) : Int := if 0 ≤ w ∧ w % 6 = k then w else k
def negv (w k : Int) : Int := if w < 0 ∧ (-(w + 1)) % 6 = k then w else -(k + 1)
def zerov (n : Int) : Int := if n % 4294967296 = 0 then n else 0
def onev (n : Int) : Int := if n % 4294967296 = 1 then n else 1
def morev (n : Int) : Int := if 2 ≤ n % 4294967296 then n else 2
def rho (n w : Int) : Nat → Int
  | 0 => n
  | 1 => w
  | 2 => zerov n
  | 3 => onev n
  | 4 => morev n
  | 5 => IntKind.i32.wrap (morev n)
  | 6 => IntKind.u32.wrap (morev n)
  | 7 => IntKind.i64.wrap (IntKind.i32.wrap (morev n))
  | 8 => IntKind.i64.wrap (IntKind.u32.wrap (morev n))
  | 20 => posv w 0
  | 30 => negv w 0
  | 40 => negv w 0 + 1
  | 50 => -(negv w 0 + 1)
  | 21 => posv w 1
  | 31 => negv w 1
  | 41 => negv w 1 + 1
  | 51 => -(negv w 1 + 1)
  | 22 => posv w 2
  | 32 => negv w 2
  | 42 => negv w 2 + 1
  | 52 => -(negv w 2 + 1)
  | 23 => posv w 3
  | 33 => negv w 3
  | 43 => negv w 3 + 1
  | 53 => -(negv w 3 + 1)
  | 24 => posv w 4
  | 34 => negv w 4
  | 44 => negv w 4 + 1
  | 54 => -(negv w 4 + 1)
  | 25 => posv w 5
  | 35 => negv w 5
  | 45 => negv w 5 + 1
  | 55 => -(negv w 5 + 1)
  | _ => 0

theorem posv_ok (w k : Int) (hk : 0 ≤ k ∧ k < 6) : 0 ≤ posv w k ∧ (posv w k).tmod 6 = k := by
  have h : 0 ≤ posv w k ∧ posv w k % 6 = k := by unfold posv; split <;> omega
  exact ⟨h.1, by rw [Int.tmod_eq_emod_of_nonneg h.1]; exact h.2⟩
theorem negv_ok (w k : Int) (hw : -9223372036854775808 ≤ w) (hk : 0 ≤ k ∧ k < 6) : negv w k < 0 ∧ -9223372036854775808 ≤ negv w k ∧ (-(negv w k + 1)).tmod 6 = k := by
  have h : negv w k < 0 ∧ -9223372036854775808 ≤ negv w k ∧ (-(negv w k + 1)) % 6 = k := by unfold negv; split <;> omega
  exact ⟨h.1, h.2.1, by rw [Int.tmod_eq_emod_of_nonneg (by omega)]; exact h.2.2⟩
theorem zerov_ok (n : Int) : zerov n % 4294967296 = 0 := by unfold zerov; split <;> omega
theorem onev_ok (n : Int) : onev n % 4294967296 = 1 := by unfold onev; split <;> omega
theorem morev_ok (n : Int) : 2 ≤ morev n % 4294967296 := by unfold morev; split <;> omega

section
variable {n w : Int}
theorem b_pl (k : Nat) (i : Nat) (hi : rho n w i = posv w k) (hk : k < 6) : saysB (rho n w) (.lss, .complex .f64 3 i, .int .i64 0, .bool false) :=
  says_lss (num_l (re := 3) hi) num_i (by have := (posv_ok w k (by omega)).1; rw [decide_eq_false (by omega)])
theorem b_pr (k : Nat) (i : Nat) (hi : rho n w i = posv w k) (hk : k < 6) : saysB (rho n w) (.rem, .complex .f64 3 i, .int .i64 6, .int .i64 k) :=
  says_rem (num_l (re := 3) hi) num_i (by decide) (by rw [(posv_ok w k (by omega)).2]; exact num_i)
theorem b_nl (hw : -9223372036854775808 ≤ w) (k : Nat) (i : Nat) (hi : rho n w i = negv w k) (hk : k < 6) : saysB (rho n w) (.lss, .complex .f64 3 i, .int .i64 0, .bool true) :=
  says_lss (num_l (re := 3) hi) num_i (by have := (negv_ok w k hw (by omega)).1; rw [decide_eq_true (by omega)])
theorem b_na (hw : -9223372036854775808 ≤ w) (k : Nat) (i j : Nat) (hi : rho n w i = negv w k) (hj : rho n w j = negv w k + 1) (hk : k < 6) : saysB (rho n w) (.add, .complex .f64 3 i, .int .i64 1, .complex .f64 3 j) :=
  says_add (num_l (re := 3) hi) num_i (by
    have := negv_ok w k hw (by omega)
    rw [show kOf 3 = IntKind.i64 from rfl, IntWalk.i64_in _ (by omega)]; exact num_l (re := 3) hj)
theorem b_nr (hw : -9223372036854775808 ≤ w) (k : Nat) (i : Nat) (hi : rho n w i = -(negv w k + 1)) (hk : k < 6) : saysB (rho n w) (.rem, .complex .f64 3 i, .int .i64 6, .int .i64 k) :=
  says_rem (num_l (re := 3) hi) num_i (by decide) (by rw [(negv_ok w k hw (by omega)).2.2]; exact num_i)
theorem n_n (hw : -9223372036854775808 ≤ w) (k : Nat) (i j : Nat) (hi : rho n w i = negv w k + 1) (hj : rho n w j = -(negv w k + 1)) (hk : k < 6) : saysU (rho n w) (.neg, .complex .f64 3 i, .complex .f64 3 j) :=
  says_neg (num_l (re := 3) hi) (by
    have := negv_ok w k hw (by omega)
    rw [show kOf 3 = IntKind.i64 from rfl, IntWalk.i64_in _ (by omega)]; exact num_l (re := 3) (by rw [hj]; omega))

theorem cT_ok {P : Program} (hw : -9223372036854775808 ≤ w) : TabOK P (rho n w) cT := by
  refine tab_ok (fun x hx => ?_) (fun x hx => ?_) (fun x hx => ?_) (fun i hi => by cases hi)
  · simp only [cBins, List.mem_cons, List.not_mem_nil, or_false] at hx
    have hm := morev_ok n
    rcases hx with rfl | rfl | rfl | hx
    · exact says_lss (num_l (re := 3) (i := 8) rfl) num_i (by
        change Value.bool false = .bool (decide (IntKind.i64.wrap (IntKind.u32.wrap (morev n)) < 2))
        rw [IntKind.wrap_u32, IntWalk.i64_in _ (by omega), decide_eq_false (by omega)])
    · exact says_eql (num_l (re := 6) (i := 6) rfl) num_i (by
        change Value.bool false = .bool (decide (IntKind.u32.wrap (morev n) = 0))
        rw [IntKind.wrap_u32, decide_eq_false (by omega)])
    · exact says_eql (num_l (re := 6) (i := 6) rfl) num_i (by
        change Value.bool false = .bool (decide (IntKind.u32.wrap (morev n) = 1))
        rw [IntKind.wrap_u32, decide_eq_false (by omega)])
    · rcases hx with rfl | rfl | rfl | rfl | rfl | rfl | rfl | rfl | rfl | rfl | rfl | rfl | rfl | rfl | rfl | rfl | rfl | rfl | rfl | rfl | rfl | rfl | rfl | rfl | rfl | rfl | rfl | rfl | rfl | rfl
      · exact b_pl 0 _ rfl (by omega)
      · exact b_pr 0 _ rfl (by omega)
      · exact b_nl hw 0 _ rfl (by omega)
      · exact b_na hw 0 _ _ rfl rfl (by omega)
      · exact b_nr hw 0 _ rfl (by omega)
      · exact b_pl 1 _ rfl (by omega)
      · exact b_pr 1 _ rfl (by omega)
      · exact b_nl hw 1 _ rfl (by omega)
      · exact b_na hw 1 _ _ rfl rfl (by omega)
      · exact b_nr hw 1 _ rfl (by omega)
      · exact b_pl 2 _ rfl (by omega)
      · exact b_pr 2 _ rfl (by omega)
      · exact b_nl hw 2 _ rfl (by omega)
      · exact b_na hw 2 _ _ rfl rfl (by omega)
      · exact b_nr hw 2 _ rfl (by omega)
      · exact b_pl 3 _ rfl (by omega)
      · exact b_pr 3 _ rfl (by omega)
      · exact b_nl hw 3 _ rfl (by omega)
      · exact b_na hw 3 _ _ rfl rfl (by omega)
      · exact b_nr hw 3 _ rfl (by omega)
      · exact b_pl 4 _ rfl (by omega)
      · exact b_pr 4 _ rfl (by omega)
      · exact b_nl hw 4 _ rfl (by omega)
      · exact b_na hw 4 _ _ rfl rfl (by omega)
      · exact b_nr hw 4 _ rfl (by omega)
      · exact b_pl 5 _ rfl (by omega)
      · exact b_pr 5 _ rfl (by omega)
      · exact b_nl hw 5 _ rfl (by omega)
      · exact b_na hw 5 _ _ rfl rfl (by omega)
      · exact b_nr hw 5 _ rfl (by omega)
  · simp only [cConvs, List.mem_cons, List.not_mem_nil, or_false] at hx
    have h0 := zerov_ok n
    have h1 := onev_ok n
    rcases hx with rfl | rfl | rfl | rfl | rfl | rfl | rfl | rfl | rfl
    · exact ⟨_, _, num_l (re := 3) (i := 2) rfl, .inl (by change Value.int .i32 0 = .int .i32 (IntKind.i32.wrap (zerov n)); rw [IntKind.wrap_i32]; congr 1; omega)⟩
    · exact ⟨_, _, num_l (re := 3) (i := 2) rfl, .inl (by change Value.int .u32 0 = .int .u32 (IntKind.u32.wrap (zerov n)); rw [IntKind.wrap_u32]; congr 1; omega)⟩
    · exact ⟨_, _, num_l (re := 3) (i := 3) rfl, .inl (by change Value.int .i32 1 = .int .i32 (IntKind.i32.wrap (onev n)); rw [IntKind.wrap_i32]; congr 1; omega)⟩
    · exact ⟨_, _, num_l (re := 3) (i := 3) rfl, .inl (by change Value.int .u32 1 = .int .u32 (IntKind.u32.wrap (onev n)); rw [IntKind.wrap_u32]; congr 1; omega)⟩
    · exact ⟨_, _, num_l (re := 3) (i := 4) rfl, num_l (re := 2) (i := 5) rfl⟩
    · exact ⟨_, _, num_l (re := 3) (i := 4) rfl, num_l (re := 6) (i := 6) rfl⟩
    · exact ⟨_, _, num_l (re := 2) (i := 5) rfl, num_l (re := 3) (i := 7) rfl⟩
    · refine ⟨_, _, num_l (re := 3) (i := 7) rfl, num_l (re := 6) (i := 6) ?_⟩
      change IntKind.u32.wrap (morev n) = IntKind.u32.wrap (IntKind.i64.wrap (IntKind.i32.wrap (morev n)))
      rw [IntKind.wrap_i32, IntWalk.i64_in _ (by omega), IntKind.wrap_u32, IntKind.wrap_u32]; omega
    · exact ⟨_, _, num_l (re := 6) (i := 6) rfl, num_l (re := 3) (i := 8) rfl⟩
  · simp only [cUns, List.mem_cons, List.not_mem_nil, or_false] at hx
    rcases hx with rfl | rfl | rfl | rfl | rfl | rfl
    · exact n_n hw 0 _ _ rfl rfl (by omega)
    · exact n_n hw 1 _ _ rfl rfl (by omega)
    · exact n_n hw 2 _ _ rfl rfl (by omega)
    · exact n_n hw 3 _ _ rfl rfl (by omega)
    · exact n_n hw 4 _ _ rfl rfl (by omega)
    · exact n_n hw 5 _ _ rfl rfl (by omega)

/-- Which case it is. -/
theorem c_case (n w : Int) : ∃ p ∈ cCases, ∀ X : Cx, X.ρ = rho n w → VRl X p [.int .i64 n, .int .i64 w] := by
  have hn : zerov n = n ∨ onev n = n ∨ morev n = n := by
    have h0 := zerov n; unfold zerov onev morev
    by_cases a : n % 4294967296 = 0
    · exact .inl (if_pos a)
    · by_cases b : n % 4294967296 = 1
      · exact .inr (.inl (if_pos b))
      · exact .inr (.inr (if_pos (by omega)))
  have hwc : ∃ k : Nat, k < 6 ∧ (posv w k = w ∨ negv w k = w) := by
    by_cases a : 0 ≤ w
    · exact ⟨(w % 6).toNat, by omega, .inl (if_pos ⟨a, by omega⟩)⟩
    · exact ⟨((-(w + 1)) % 6).toNat, by omega, .inr (if_pos ⟨by omega, by omega⟩)⟩
  obtain ⟨i, hi, hi'⟩ : ∃ i, (i = 2 ∨ i = 3 ∨ i = 4) ∧ rho n w i = n := by
    rcases hn with h | h | h
    · exact ⟨2, .inl rfl, h⟩
    · exact ⟨3, .inr (.inl rfl), h⟩
    · exact ⟨4, .inr (.inr rfl), h⟩
  obtain ⟨j, hj, hj'⟩ : ∃ j, ((20 ≤ j ∧ j < 26) ∨ (30 ≤ j ∧ j < 36)) ∧ rho n w j = w := by
    obtain ⟨k, hk, h⟩ := hwc
    have : k = 0 ∨ k = 1 ∨ k = 2 ∨ k = 3 ∨ k = 4 ∨ k = 5 := by omega
    rcases this with rfl | rfl | rfl | rfl | rfl | rfl <;> rcases h with h | h
    · exact ⟨20, by omega, h⟩
    · exact ⟨30, by omega, h⟩
    · exact ⟨21, by omega, h⟩
    · exact ⟨31, by omega, h⟩
    · exact ⟨22, by omega, h⟩
    · exact ⟨32, by omega, h⟩
    · exact ⟨23, by omega, h⟩
    · exact ⟨33, by omega, h⟩
    · exact ⟨24, by omega, h⟩
    · exact ⟨34, by omega, h⟩
    · exact ⟨25, by omega, h⟩
    · exact ⟨35, by omega, h⟩
  refine ⟨[.complex .f64 3 i, .complex .f64 3 j], ?_, fun X hX => VRl_cons.2 ⟨_, _, rfl, VR_complex.2 (by rw [hX, hi']; rfl), VRl_cons.2 ⟨_, _, rfl, VR_complex.2 (by rw [hX, hj']; rfl), VRl_nil.2 rfl⟩⟩⟩
  have hj2 : j = 20 ∨ j = 21 ∨ j = 22 ∨ j = 23 ∨ j = 24 ∨ j = 25 ∨ j = 30 ∨ j = 31 ∨ j = 32 ∨ j = 33 ∨ j = 34 ∨ j = 35 := by omega
  rcases hi with rfl | rfl | rfl <;> rcases hj2 with rfl | rfl | rfl | rfl | rfl | rfl | rfl | rfl | rfl | rfl | rfl | rfl <;> simp [cCases]

theorem c_all (X : Cx) : ∀ q ∈ cCases, ∃ us, VRl X q us := by
  intro q hq
  simp only [cCases, List.mem_cons, List.not_mem_nil, or_false] at hq
  have key : ∀ i j, ∃ us, VRl X [.complex .f64 3 i, .complex .f64 3 j] us := fun i j => ⟨_, _, _, rfl, rfl, _, _, rfl, rfl, rfl⟩
  rcases hq with rfl | rfl | rfl | rfl | rfl | rfl | rfl | rfl | rfl | rfl | rfl | rfl | rfl | rfl | rfl | rfl | rfl | rfl | rfl | rfl | rfl | rfl | rfl | rfl | rfl | rfl | rfl | rfl | rfl | rfl | rfl | rfl | rfl | rfl | rfl | rfl <;> exact key _ _
end
end Go.Proofs.YtogohcefjffahaaGreatDoor
