import Derived.Test.YtiflgmdblkapgaaGreatDoorRT
import Derived.Test.YtiflgmdblkapgaaGreatDoorSR
namespace Go.Proofs.YtiflgmdblkapgaaGreatDoor
open Go.Deep
def v0 (a _ : Int) : Int := a
def v1 (_ b : Int) : Int := b
def v100 (a b : Int) : Int := IntKind.u64.wrap (v1 a b)
def v101 (a b : Int) : Int := (v100 a b).tmod (64)
def v102 (a b : Int) : Int := IntKind.u64.wrap (v0 a b)
def v103 (a b : Int) : Int := IntKind.i64.wrap (v0 a b + v1 a b)
def v104 (a b : Int) : Int := IntKind.i64.wrap (v0 a b - v1 a b)
def v105 (a b : Int) : Int := IntKind.i64.wrap (v0 a b * v1 a b)
def v106 (a b : Int) : Int := IntKind.i64.wrap ((BitVec.ofInt IntKind.i64.bits (v0 a b) &&& BitVec.ofInt IntKind.i64.bits (v1 a b)).toNat : Int)
def v107 (a b : Int) : Int := IntKind.i64.wrap ((BitVec.ofInt IntKind.i64.bits (v0 a b) ||| BitVec.ofInt IntKind.i64.bits (v1 a b)).toNat : Int)
def v108 (a b : Int) : Int := IntKind.i64.wrap ((BitVec.ofInt IntKind.i64.bits (v0 a b) ^^^ BitVec.ofInt IntKind.i64.bits (v1 a b)).toNat : Int)
def v109 (a b : Int) : Int := IntKind.u64.wrap (v102 a b * 2 ^ (min (v101 a b).toNat IntKind.u64.bits))
def v110 (a b : Int) : Int := IntKind.i64.wrap (v109 a b)
def v111 (a b : Int) : Int := (v0 a b).fdiv (2 ^ (min (v101 a b).toNat IntKind.i64.bits))
def v112 (a b : Int) : Int := (v102 a b).fdiv (2 ^ (min (v101 a b).toNat IntKind.u64.bits))
def v113 (a b : Int) : Int := IntKind.i64.wrap (v112 a b)
def v114 (a b : Int) : Int := IntKind.u64.wrap (64 - v101 a b)
def v115 (a b : Int) : Int := (v102 a b).fdiv (2 ^ (min (v114 a b).toNat IntKind.u64.bits))
def v116 (a b : Int) : Int := IntKind.u64.wrap ((BitVec.ofInt IntKind.u64.bits (v109 a b) ||| BitVec.ofInt IntKind.u64.bits (v115 a b)).toNat : Int)
def v117 (a b : Int) : Int := IntKind.i64.wrap (v116 a b)
def v118 (a b : Int) : Int := IntKind.u64.wrap (v102 a b + v100 a b)
def v119 (a b : Int) : Int := IntKind.u64.wrap (v102 a b - v100 a b)
def v120 (a b : Int) : Int := IntKind.u64.wrap (v102 a b * v100 a b)
def v121 (a b : Int) : Int := IntKind.u64.wrap ((BitVec.ofInt IntKind.u64.bits (v102 a b) &&& BitVec.ofInt IntKind.u64.bits (v100 a b)).toNat : Int)
def v122 (a b : Int) : Int := IntKind.u64.wrap ((BitVec.ofInt IntKind.u64.bits (v102 a b) ||| BitVec.ofInt IntKind.u64.bits (v100 a b)).toNat : Int)
def v123 (a b : Int) : Int := IntKind.u64.wrap ((BitVec.ofInt IntKind.u64.bits (v102 a b) ^^^ BitVec.ofInt IntKind.u64.bits (v100 a b)).toNat : Int)
def v124 (a b : Int) : Int := IntKind.i64.wrap (v101 a b)
def v125 (a b : Int) : Int := IntKind.u64.wrap (v111 a b)
def v126 (a b : Int) : Int := IntKind.i64.wrap (64 - v124 a b)
def v128 (a b : Int) : Int := IntKind.i32.wrap (v0 a b)
def v129 (a b : Int) : Int := IntKind.i32.wrap (v1 a b)
def v130 (a b : Int) : Int := IntKind.u32.wrap (v129 a b)
def v131 (a b : Int) : Int := (v130 a b).tmod (32)
def v132 (a b : Int) : Int := IntKind.u64.wrap (v131 a b)
def v133 (a b : Int) : Int := IntKind.u32.wrap (v128 a b)
def v134 (a b : Int) : Int := IntKind.i32.wrap (v128 a b + v129 a b)
def v135 (a b : Int) : Int := IntKind.i32.wrap (v128 a b - v129 a b)
def v136 (a b : Int) : Int := IntKind.i32.wrap (v128 a b * v129 a b)
def v137 (a b : Int) : Int := IntKind.i32.wrap ((BitVec.ofInt IntKind.i32.bits (v128 a b) &&& BitVec.ofInt IntKind.i32.bits (v129 a b)).toNat : Int)
def v138 (a b : Int) : Int := IntKind.i32.wrap ((BitVec.ofInt IntKind.i32.bits (v128 a b) ||| BitVec.ofInt IntKind.i32.bits (v129 a b)).toNat : Int)
def v139 (a b : Int) : Int := IntKind.i32.wrap ((BitVec.ofInt IntKind.i32.bits (v128 a b) ^^^ BitVec.ofInt IntKind.i32.bits (v129 a b)).toNat : Int)
def v140 (a b : Int) : Int := IntKind.u32.wrap (v133 a b * 2 ^ (min (v132 a b).toNat IntKind.u32.bits))
def v141 (a b : Int) : Int := IntKind.i32.wrap (v140 a b)
def v142 (a b : Int) : Int := (v128 a b).fdiv (2 ^ (min (v132 a b).toNat IntKind.i32.bits))
def v143 (a b : Int) : Int := (v133 a b).fdiv (2 ^ (min (v132 a b).toNat IntKind.u32.bits))
def v144 (a b : Int) : Int := IntKind.i32.wrap (v143 a b)
def v145 (a b : Int) : Int := IntKind.u64.wrap (32 - v132 a b)
def v146 (a b : Int) : Int := IntKind.u32.wrap (v133 a b * 2 ^ (min (v145 a b).toNat IntKind.u32.bits))
def v147 (a b : Int) : Int := IntKind.u32.wrap ((BitVec.ofInt IntKind.u32.bits (v143 a b) ||| BitVec.ofInt IntKind.u32.bits (v146 a b)).toNat : Int)
def v148 (a b : Int) : Int := IntKind.i32.wrap (v147 a b)
def v149 (a b : Int) : Int := IntKind.i64.wrap (v128 a b)
def v150 (a b : Int) : Int := IntKind.i64.wrap (v129 a b)
def v156 (a b : Int) : Int := IntKind.i64.wrap (v134 a b)
def v157 (a b : Int) : Int := IntKind.u32.wrap (v133 a b + v130 a b)
def v158 (a b : Int) : Int := IntKind.u32.wrap (v133 a b - v130 a b)
def v161 (a b : Int) : Int := IntKind.i64.wrap (v135 a b)
def v162 (a b : Int) : Int := IntKind.u32.wrap (v133 a b * v130 a b)
def v165 (a b : Int) : Int := IntKind.i64.wrap (v136 a b)
def v166 (a b : Int) : Int := IntKind.u32.wrap ((BitVec.ofInt IntKind.u32.bits (v133 a b) &&& BitVec.ofInt IntKind.u32.bits (v130 a b)).toNat : Int)
def v169 (a b : Int) : Int := IntKind.i64.wrap (v137 a b)
def v170 (a b : Int) : Int := IntKind.u32.wrap ((BitVec.ofInt IntKind.u32.bits (v133 a b) ||| BitVec.ofInt IntKind.u32.bits (v130 a b)).toNat : Int)
def v173 (a b : Int) : Int := IntKind.i64.wrap (v138 a b)
def v174 (a b : Int) : Int := IntKind.u32.wrap ((BitVec.ofInt IntKind.u32.bits (v133 a b) ^^^ BitVec.ofInt IntKind.u32.bits (v130 a b)).toNat : Int)
def v177 (a b : Int) : Int := IntKind.i64.wrap (v139 a b)
def v178 (a b : Int) : Int := IntKind.i64.wrap (v131 a b)
def v182 (a b : Int) : Int := IntKind.i64.wrap (v141 a b)
def v188 (a b : Int) : Int := IntKind.i64.wrap (v142 a b)
def v189 (a b : Int) : Int := IntKind.u32.wrap (v142 a b)
def v193 (a b : Int) : Int := IntKind.i64.wrap (v144 a b)
def v194 (a b : Int) : Int := IntKind.i64.wrap (32 - v178 a b)
def v199 (a b : Int) : Int := IntKind.i64.wrap (v148 a b)
def v300 (a b : Int) : Int := IntKind.i32.wrap ((v128 a b).tdiv (v129 a b))
def v301 (a b : Int) : Int := IntKind.u32.wrap (v300 a b)
def v302 (a b : Int) : Int := IntKind.i64.wrap (v300 a b)
def v310 (a b : Int) : Int := IntKind.u32.wrap ((v133 a b).tdiv (v130 a b))
def v311 (a b : Int) : Int := IntKind.i32.wrap (v310 a b)
def v312 (a b : Int) : Int := IntKind.i64.wrap (v311 a b)
def v320 (a b : Int) : Int := (v133 a b).tmod (v130 a b)
def v321 (a b : Int) : Int := IntKind.i32.wrap (v320 a b)
def v322 (a b : Int) : Int := IntKind.i64.wrap (v321 a b)
def v330 (a b : Int) : Int := (v128 a b).tmod (v129 a b)
def v331 (a b : Int) : Int := IntKind.u32.wrap (v330 a b)
def v332 (a b : Int) : Int := IntKind.i64.wrap (v330 a b)
/-- What the letters stand for. -/
def rhoR (a b : Int) : Nat → Int
  | 0 => v0 a b
  | 1 => v1 a b
  | 100 => v100 a b
  | 101 => v101 a b
  | 102 => v102 a b
  | 103 => v103 a b
  | 104 => v104 a b
  | 105 => v105 a b
  | 106 => v106 a b
  | 107 => v107 a b
  | 108 => v108 a b
  | 109 => v109 a b
  | 110 => v110 a b
  | 111 => v111 a b
  | 112 => v112 a b
  | 113 => v113 a b
  | 114 => v114 a b
  | 115 => v115 a b
  | 116 => v116 a b
  | 117 => v117 a b
  | 118 => v118 a b
  | 119 => v119 a b
  | 120 => v120 a b
  | 121 => v121 a b
  | 122 => v122 a b
  | 123 => v123 a b
  | 124 => v124 a b
  | 125 => v125 a b
  | 126 => v126 a b
  | 128 => v128 a b
  | 129 => v129 a b
  | 130 => v130 a b
  | 131 => v131 a b
  | 132 => v132 a b
  | 133 => v133 a b
  | 134 => v134 a b
  | 135 => v135 a b
  | 136 => v136 a b
  | 137 => v137 a b
  | 138 => v138 a b
  | 139 => v139 a b
  | 140 => v140 a b
  | 141 => v141 a b
  | 142 => v142 a b
  | 143 => v143 a b
  | 144 => v144 a b
  | 145 => v145 a b
  | 146 => v146 a b
  | 147 => v147 a b
  | 148 => v148 a b
  | 149 => v149 a b
  | 150 => v150 a b
  | 156 => v156 a b
  | 157 => v157 a b
  | 158 => v158 a b
  | 161 => v161 a b
  | 162 => v162 a b
  | 165 => v165 a b
  | 166 => v166 a b
  | 169 => v169 a b
  | 170 => v170 a b
  | 173 => v173 a b
  | 174 => v174 a b
  | 177 => v177 a b
  | 178 => v178 a b
  | 182 => v182 a b
  | 188 => v188 a b
  | 189 => v189 a b
  | 193 => v193 a b
  | 194 => v194 a b
  | 199 => v199 a b
  | 300 => v300 a b
  | 301 => v301 a b
  | 302 => v302 a b
  | 310 => v310 a b
  | 311 => v311 a b
  | 312 => v312 a b
  | 320 => v320 a b
  | 321 => v321 a b
  | 322 => v322 a b
  | 330 => v330 a b
  | 331 => v331 a b
  | 332 => v332 a b
  | _ => 0
theorem r101 (a b : Int) : 0 ≤ v101 a b ∧ v101 a b < 64 := by
  have h : 0 ≤ v100 a b := by unfold v100; rw [w_u64]; omega
  unfold v101
  rw [Int.tmod_eq_emod_of_nonneg h]; omega
theorem e124 (a b : Int) : v124 a b = v101 a b := by have := r101 a b; unfold v124; rw [w_i64]; omega
theorem e114 (a b : Int) : v114 a b = 64 - v101 a b := by have := r101 a b; unfold v114; rw [w_u64]; omega
theorem e126 (a b : Int) : v126 a b = v114 a b := by have := r101 a b; rw [e114]; unfold v126; rw [w_i64, e124]; omega
theorem r128 (a b : Int) : -2147483648 ≤ v128 a b ∧ v128 a b < 2147483648 := by unfold v128; rw [w_i32]; omega
theorem r129 (a b : Int) : -2147483648 ≤ v129 a b ∧ v129 a b < 2147483648 := by unfold v129; rw [w_i32]; omega
theorem e130 (a b : Int) : v130 a b = v129 a b % 4294967296 := w_u32 _
theorem e133 (a b : Int) : v133 a b = v128 a b % 4294967296 := w_u32 _
theorem r131 (a b : Int) : 0 ≤ v131 a b ∧ v131 a b < 32 := by
  have h : 0 ≤ v130 a b := by rw [e130]; omega
  unfold v131
  rw [Int.tmod_eq_emod_of_nonneg h]; omega
theorem e132 (a b : Int) : v132 a b = v131 a b := by have := r131 a b; unfold v132; rw [w_u64]; omega
theorem e178 (a b : Int) : v178 a b = v132 a b := by have := r131 a b; rw [e132]; unfold v178; rw [w_i64]; omega
theorem e145 (a b : Int) : v145 a b = 32 - v131 a b := by have := r131 a b; unfold v145; rw [w_u64, e132]; omega
theorem e194 (a b : Int) : v194 a b = v145 a b := by have := r131 a b; rw [e145]; unfold v194; rw [w_i64, e178, e132]; omega
theorem nn_101 (a b : Int) : 0 ≤ v101 a b := (r101 a b).1
theorem nn_124 (a b : Int) : 0 ≤ v124 a b := by rw [e124]; exact (r101 a b).1
theorem nn_114 (a b : Int) : 0 ≤ v114 a b := by have := r101 a b; rw [e114]; omega
theorem nn_126 (a b : Int) : 0 ≤ v126 a b := by rw [e126]; exact nn_114 a b
theorem nn_132 (a b : Int) : 0 ≤ v132 a b := by rw [e132]; exact (r131 a b).1
theorem nn_178 (a b : Int) : 0 ≤ v178 a b := by rw [e178]; exact nn_132 a b
theorem nn_145 (a b : Int) : 0 ≤ v145 a b := by have := r131 a b; rw [e145]; omega
theorem nn_194 (a b : Int) : 0 ≤ v194 a b := by rw [e194]; exact nn_145 a b
theorem e_i32_130 (a b : Int) : v129 a b = IntKind.i32.wrap (v130 a b) := by have := r128 a b; have := r129 a b; unfold v130; simp only [w_i32, w_u32]; omega
theorem e_i32_133 (a b : Int) : v128 a b = IntKind.i32.wrap (v133 a b) := by have := r128 a b; have := r129 a b; unfold v133; simp only [w_i32, w_u32]; omega
theorem e_i32_149 (a b : Int) : v128 a b = IntKind.i32.wrap (v149 a b) := by have := r128 a b; have := r129 a b; unfold v149; simp only [w_i32, w_i64]; omega
theorem e_i32_150 (a b : Int) : v129 a b = IntKind.i32.wrap (v150 a b) := by have := r128 a b; have := r129 a b; unfold v150; simp only [w_i32, w_i64]; omega
theorem e_i32_157 (a b : Int) : v134 a b = IntKind.i32.wrap (v157 a b) := by unfold v134 v157 v133 v130; simp only [w_i32, w_u32]; omega
theorem e_i32_158 (a b : Int) : v135 a b = IntKind.i32.wrap (v158 a b) := by unfold v135 v158 v133 v130; simp only [w_i32, w_u32]; omega
theorem e_i32_162 (a b : Int) : v136 a b = IntKind.i32.wrap (v162 a b) := by
  unfold v136 v162 v133 v130
  simp only [w_i32, w_u32]
  rw [← Int.mul_emod]
  generalize v128 a b * v129 a b = m
  omega
theorem e_i32_166 (a b : Int) : v137 a b = IntKind.i32.wrap (v166 a b) := and32 (v128 a b) (v129 a b)
theorem e_i32_170 (a b : Int) : v138 a b = IntKind.i32.wrap (v170 a b) := or32 (v128 a b) (v129 a b)
theorem e_i32_174 (a b : Int) : v139 a b = IntKind.i32.wrap (v174 a b) := xor32 (v128 a b) (v129 a b)
theorem e_i32_189 (a b : Int) : v142 a b = IntKind.i32.wrap (v189 a b) := by
  have h : -2147483648 ≤ v142 a b ∧ v142 a b < 2147483648 := fdiv_rng (r128 a b).1 (r128 a b).2 (by decide)
  unfold v189; simp only [w_i32, w_u32]; omega
theorem e_i32_301 (a b : Int) : v300 a b = IntKind.i32.wrap (v301 a b) := by
  have h : v300 a b = IntKind.i32.wrap ((v128 a b).tdiv (v129 a b)) := rfl
  rw [w_i32] at h
  unfold v301; simp only [w_i32, w_u32]; omega
theorem e_i32_331 (a b : Int) : v330 a b = IntKind.i32.wrap (v331 a b) := by
  have h : -2147483648 ≤ v330 a b ∧ v330 a b < 2147483648 := tmod_rng (r128 a b).1 (r128 a b).2
  unfold v331; simp only [w_i32, w_u32]; omega
theorem e_i64_102 {a b : Int} (ha : -9223372036854775808 ≤ a ∧ a < 9223372036854775808) : v0 a b = IntKind.i64.wrap (v102 a b) := by unfold v102 v0; simp only [w_i64, w_u64]; omega
theorem e_i64_118 (a b : Int) : v103 a b = IntKind.i64.wrap (v118 a b) := by unfold v103 v118 v102 v100 v0 v1; simp only [w_i64, w_u64]; omega
theorem e_i64_119 (a b : Int) : v104 a b = IntKind.i64.wrap (v119 a b) := by unfold v104 v119 v102 v100 v0 v1; simp only [w_i64, w_u64]; omega
theorem e_i64_120 (a b : Int) : v105 a b = IntKind.i64.wrap (v120 a b) := by
  unfold v105 v120 v102 v100 v0 v1
  simp only [w_i64, w_u64]
  rw [← Int.mul_emod]
  generalize a * b = m
  omega
theorem e_i64_121 (a b : Int) : v106 a b = IntKind.i64.wrap (v121 a b) := and64 (v0 a b) (v1 a b)
theorem e_i64_122 (a b : Int) : v107 a b = IntKind.i64.wrap (v122 a b) := or64 (v0 a b) (v1 a b)
theorem e_i64_123 (a b : Int) : v108 a b = IntKind.i64.wrap (v123 a b) := xor64 (v0 a b) (v1 a b)
theorem e_i64_125 {a b : Int} (ha : -9223372036854775808 ≤ a ∧ a < 9223372036854775808) : v111 a b = IntKind.i64.wrap (v125 a b) := by
  have h : -9223372036854775808 ≤ v111 a b ∧ v111 a b < 9223372036854775808 := fdiv_rng ha.1 ha.2 (by decide)
  unfold v125; simp only [w_i64, w_u64]; omega
theorem e_shl_102_124 (a b : Int) : v109 a b = IntKind.u64.wrap (v102 a b * 2 ^ (min (v124 a b).toNat IntKind.u64.bits)) := by rw [e124]; rfl
theorem e_shl_133_178 (a b : Int) : v140 a b = IntKind.u32.wrap (v133 a b * 2 ^ (min (v178 a b).toNat IntKind.u32.bits)) := by rw [e178]; rfl
theorem e_shl_133_194 (a b : Int) : v146 a b = IntKind.u32.wrap (v133 a b * 2 ^ (min (v194 a b).toNat IntKind.u32.bits)) := by rw [e194]; rfl
theorem e_shr_0_124 (a b : Int) : v111 a b = (v0 a b).fdiv (2 ^ (min (v124 a b).toNat IntKind.i64.bits)) := by rw [e124]; rfl
theorem e_shr_102_124 (a b : Int) : v112 a b = (v102 a b).fdiv (2 ^ (min (v124 a b).toNat IntKind.u64.bits)) := by rw [e124]; rfl
theorem e_shr_102_126 (a b : Int) : v115 a b = (v102 a b).fdiv (2 ^ (min (v126 a b).toNat IntKind.u64.bits)) := by rw [e126]; rfl
theorem e_shr_128_178 (a b : Int) : v142 a b = (v128 a b).fdiv (2 ^ (min (v178 a b).toNat IntKind.i32.bits)) := by rw [e178]; rfl
theorem e_shr_133_178 (a b : Int) : v143 a b = (v133 a b).fdiv (2 ^ (min (v178 a b).toNat IntKind.u32.bits)) := by rw [e178]; rfl
theorem e_u32_149 (a b : Int) : v133 a b = IntKind.u32.wrap (v149 a b) := by have := r128 a b; have := r129 a b; unfold v133 v149; simp only [w_u32, w_i64]; omega
theorem e_u32_150 (a b : Int) : v130 a b = IntKind.u32.wrap (v150 a b) := by have := r128 a b; have := r129 a b; unfold v130 v150; simp only [w_u32, w_i64]; omega
theorem rT_ok {P : Program} {a b : Int} (ha : -9223372036854775808 ≤ a ∧ a < 9223372036854775808) : TabOK P (rhoR a b) rT := by
  refine tab_ok (fun x hx => ?_) (fun x hx => ?_) (fun x hx => by cases hx) (fun i hi => by cases hi)
  · simp only [rTB, List.mem_cons, List.not_mem_nil, or_false] at hx
    rcases hx with rfl | rfl | rfl | rfl | rfl | rfl | rfl | rfl | rfl | rfl | rfl | rfl | rfl | rfl | rfl | rfl | rfl | rfl | rfl | rfl | rfl | rfl | rfl | rfl | rfl | rfl | rfl | rfl | rfl | rfl | rfl | rfl | rfl | rfl | rfl | rfl | rfl | rfl | rfl | rfl | rfl | rfl | rfl | rfl | rfl | rfl | rfl | rfl | rfl | rfl | rfl | rfl | rfl | rfl | rfl | rfl | rfl | rfl | rfl | rfl | rfl | rfl | rfl | rfl | rfl | rfl | rfl | rfl
    · exact says_rem (num_l (re := 7) (i := 100) rfl) num_i (by decide) (num_l (re := 7) (i := 101) rfl)
    · exact says_add (num_l (re := 3) (i := 0) rfl) (num_l (re := 3) (i := 1) rfl) (num_l (re := 3) (i := 103) rfl)
    · exact says_sub (num_l (re := 3) (i := 0) rfl) (num_l (re := 3) (i := 1) rfl) (num_l (re := 3) (i := 104) rfl)
    · exact says_mul (num_l (re := 3) (i := 0) rfl) (num_l (re := 3) (i := 1) rfl) (num_l (re := 3) (i := 105) rfl)
    · exact says_and (num_l (re := 3) (i := 0) rfl) (num_l (re := 3) (i := 1) rfl) (num_l (re := 3) (i := 106) rfl)
    · exact says_or (num_l (re := 3) (i := 0) rfl) (num_l (re := 3) (i := 1) rfl) (num_l (re := 3) (i := 107) rfl)
    · exact says_xor (num_l (re := 3) (i := 0) rfl) (num_l (re := 3) (i := 1) rfl) (num_l (re := 3) (i := 108) rfl)
    · exact says_shl (num_l (re := 7) (i := 102) rfl) (num_l (re := 7) (i := 101) rfl) (nn_101 a b) (num_l (re := 7) (i := 109) rfl)
    · exact says_shr (num_l (re := 3) (i := 0) rfl) (num_l (re := 7) (i := 101) rfl) (nn_101 a b) (num_l (re := 3) (i := 111) rfl)
    · exact says_shr (num_l (re := 7) (i := 102) rfl) (num_l (re := 7) (i := 101) rfl) (nn_101 a b) (num_l (re := 7) (i := 112) rfl)
    · exact says_sub num_i (num_l (re := 7) (i := 101) rfl) (num_l (re := 7) (i := 114) rfl)
    · exact says_shr (num_l (re := 7) (i := 102) rfl) (num_l (re := 7) (i := 114) rfl) (nn_114 a b) (num_l (re := 7) (i := 115) rfl)
    · exact says_or (num_l (re := 7) (i := 109) rfl) (num_l (re := 7) (i := 115) rfl) (num_l (re := 7) (i := 116) rfl)
    · exact says_add (num_l (re := 7) (i := 102) rfl) (num_l (re := 7) (i := 100) rfl) (num_l (re := 7) (i := 118) rfl)
    · exact says_neq (num_l (re := 3) (i := 103) rfl) (num_l (re := 3) (i := 103) rfl) (by simp)
    · exact says_sub (num_l (re := 7) (i := 102) rfl) (num_l (re := 7) (i := 100) rfl) (num_l (re := 7) (i := 119) rfl)
    · exact says_neq (num_l (re := 3) (i := 104) rfl) (num_l (re := 3) (i := 104) rfl) (by simp)
    · exact says_mul (num_l (re := 7) (i := 102) rfl) (num_l (re := 7) (i := 100) rfl) (num_l (re := 7) (i := 120) rfl)
    · exact says_neq (num_l (re := 3) (i := 105) rfl) (num_l (re := 3) (i := 105) rfl) (by simp)
    · exact says_and (num_l (re := 7) (i := 102) rfl) (num_l (re := 7) (i := 100) rfl) (num_l (re := 7) (i := 121) rfl)
    · exact says_neq (num_l (re := 3) (i := 106) rfl) (num_l (re := 3) (i := 106) rfl) (by simp)
    · exact says_or (num_l (re := 7) (i := 102) rfl) (num_l (re := 7) (i := 100) rfl) (num_l (re := 7) (i := 122) rfl)
    · exact says_neq (num_l (re := 3) (i := 107) rfl) (num_l (re := 3) (i := 107) rfl) (by simp)
    · exact says_xor (num_l (re := 7) (i := 102) rfl) (num_l (re := 7) (i := 100) rfl) (num_l (re := 7) (i := 123) rfl)
    · exact says_neq (num_l (re := 3) (i := 108) rfl) (num_l (re := 3) (i := 108) rfl) (by simp)
    · exact says_shl (num_l (re := 7) (i := 102) rfl) (num_l (re := 3) (i := 124) rfl) (nn_124 a b) (num_l (re := 7) (i := 109) (e_shl_102_124 a b))
    · exact says_neq (num_l (re := 3) (i := 110) rfl) (num_l (re := 3) (i := 110) rfl) (by simp)
    · exact says_shr (num_l (re := 3) (i := 0) rfl) (num_l (re := 3) (i := 124) rfl) (nn_124 a b) (num_l (re := 3) (i := 111) (e_shr_0_124 a b))
    · exact says_neq (num_l (re := 3) (i := 111) rfl) (num_l (re := 3) (i := 111) rfl) (by simp)
    · exact says_shr (num_l (re := 7) (i := 102) rfl) (num_l (re := 3) (i := 124) rfl) (nn_124 a b) (num_l (re := 7) (i := 112) (e_shr_102_124 a b))
    · exact says_neq (num_l (re := 3) (i := 113) rfl) (num_l (re := 3) (i := 113) rfl) (by simp)
    · exact says_sub num_i (num_l (re := 3) (i := 124) rfl) (num_l (re := 3) (i := 126) rfl)
    · exact says_shr (num_l (re := 7) (i := 102) rfl) (num_l (re := 3) (i := 126) rfl) (nn_126 a b) (num_l (re := 7) (i := 115) (e_shr_102_126 a b))
    · exact says_neq (num_l (re := 3) (i := 117) rfl) (num_l (re := 3) (i := 117) rfl) (by simp)
    · exact says_rem (num_l (re := 6) (i := 130) rfl) num_i (by decide) (num_l (re := 6) (i := 131) rfl)
    · exact says_add (num_l (re := 2) (i := 128) rfl) (num_l (re := 2) (i := 129) rfl) (num_l (re := 2) (i := 134) rfl)
    · exact says_sub (num_l (re := 2) (i := 128) rfl) (num_l (re := 2) (i := 129) rfl) (num_l (re := 2) (i := 135) rfl)
    · exact says_mul (num_l (re := 2) (i := 128) rfl) (num_l (re := 2) (i := 129) rfl) (num_l (re := 2) (i := 136) rfl)
    · exact says_and (num_l (re := 2) (i := 128) rfl) (num_l (re := 2) (i := 129) rfl) (num_l (re := 2) (i := 137) rfl)
    · exact says_or (num_l (re := 2) (i := 128) rfl) (num_l (re := 2) (i := 129) rfl) (num_l (re := 2) (i := 138) rfl)
    · exact says_xor (num_l (re := 2) (i := 128) rfl) (num_l (re := 2) (i := 129) rfl) (num_l (re := 2) (i := 139) rfl)
    · exact says_shl (num_l (re := 6) (i := 133) rfl) (num_l (re := 7) (i := 132) rfl) (nn_132 a b) (num_l (re := 6) (i := 140) rfl)
    · exact says_shr (num_l (re := 2) (i := 128) rfl) (num_l (re := 7) (i := 132) rfl) (nn_132 a b) (num_l (re := 2) (i := 142) rfl)
    · exact says_shr (num_l (re := 6) (i := 133) rfl) (num_l (re := 7) (i := 132) rfl) (nn_132 a b) (num_l (re := 6) (i := 143) rfl)
    · exact says_sub num_i (num_l (re := 7) (i := 132) rfl) (num_l (re := 7) (i := 145) rfl)
    · exact says_shl (num_l (re := 6) (i := 133) rfl) (num_l (re := 7) (i := 145) rfl) (nn_145 a b) (num_l (re := 6) (i := 146) rfl)
    · exact says_or (num_l (re := 6) (i := 143) rfl) (num_l (re := 6) (i := 146) rfl) (num_l (re := 6) (i := 147) rfl)
    · exact says_add (num_l (re := 6) (i := 133) rfl) (num_l (re := 6) (i := 130) rfl) (num_l (re := 6) (i := 157) rfl)
    · exact says_neq (num_l (re := 3) (i := 156) rfl) (num_l (re := 3) (i := 156) rfl) (by simp)
    · exact says_sub (num_l (re := 6) (i := 133) rfl) (num_l (re := 6) (i := 130) rfl) (num_l (re := 6) (i := 158) rfl)
    · exact says_neq (num_l (re := 3) (i := 161) rfl) (num_l (re := 3) (i := 161) rfl) (by simp)
    · exact says_mul (num_l (re := 6) (i := 133) rfl) (num_l (re := 6) (i := 130) rfl) (num_l (re := 6) (i := 162) rfl)
    · exact says_neq (num_l (re := 3) (i := 165) rfl) (num_l (re := 3) (i := 165) rfl) (by simp)
    · exact says_and (num_l (re := 6) (i := 133) rfl) (num_l (re := 6) (i := 130) rfl) (num_l (re := 6) (i := 166) rfl)
    · exact says_neq (num_l (re := 3) (i := 169) rfl) (num_l (re := 3) (i := 169) rfl) (by simp)
    · exact says_or (num_l (re := 6) (i := 133) rfl) (num_l (re := 6) (i := 130) rfl) (num_l (re := 6) (i := 170) rfl)
    · exact says_neq (num_l (re := 3) (i := 173) rfl) (num_l (re := 3) (i := 173) rfl) (by simp)
    · exact says_xor (num_l (re := 6) (i := 133) rfl) (num_l (re := 6) (i := 130) rfl) (num_l (re := 6) (i := 174) rfl)
    · exact says_neq (num_l (re := 3) (i := 177) rfl) (num_l (re := 3) (i := 177) rfl) (by simp)
    · exact says_shl (num_l (re := 6) (i := 133) rfl) (num_l (re := 3) (i := 178) rfl) (nn_178 a b) (num_l (re := 6) (i := 140) (e_shl_133_178 a b))
    · exact says_neq (num_l (re := 3) (i := 182) rfl) (num_l (re := 3) (i := 182) rfl) (by simp)
    · exact says_shr (num_l (re := 2) (i := 128) rfl) (num_l (re := 3) (i := 178) rfl) (nn_178 a b) (num_l (re := 2) (i := 142) (e_shr_128_178 a b))
    · exact says_neq (num_l (re := 3) (i := 188) rfl) (num_l (re := 3) (i := 188) rfl) (by simp)
    · exact says_shr (num_l (re := 6) (i := 133) rfl) (num_l (re := 3) (i := 178) rfl) (nn_178 a b) (num_l (re := 6) (i := 143) (e_shr_133_178 a b))
    · exact says_neq (num_l (re := 3) (i := 193) rfl) (num_l (re := 3) (i := 193) rfl) (by simp)
    · exact says_sub num_i (num_l (re := 3) (i := 178) rfl) (num_l (re := 3) (i := 194) rfl)
    · exact says_shl (num_l (re := 6) (i := 133) rfl) (num_l (re := 3) (i := 194) rfl) (nn_194 a b) (num_l (re := 6) (i := 146) (e_shl_133_194 a b))
    · exact says_neq (num_l (re := 3) (i := 199) rfl) (num_l (re := 3) (i := 199) rfl) (by simp)
  · simp only [rTC, List.mem_cons, List.not_mem_nil, or_false] at hx
    rcases hx with rfl | rfl | rfl | rfl | rfl | rfl | rfl | rfl | rfl | rfl | rfl | rfl | rfl | rfl | rfl | rfl | rfl | rfl | rfl | rfl | rfl | rfl | rfl | rfl | rfl | rfl | rfl | rfl | rfl | rfl | rfl | rfl | rfl | rfl | rfl | rfl | rfl | rfl | rfl | rfl | rfl | rfl | rfl | rfl | rfl | rfl | rfl
    · exact ⟨_, _, (num_l (re := 3) (i := 1) rfl), num_l (re := 7) (i := 100) rfl⟩
    · exact ⟨_, _, (num_l (re := 3) (i := 0) rfl), num_l (re := 7) (i := 102) rfl⟩
    · exact ⟨_, _, (num_l (re := 7) (i := 109) rfl), num_l (re := 3) (i := 110) rfl⟩
    · exact ⟨_, _, (num_l (re := 7) (i := 112) rfl), num_l (re := 3) (i := 113) rfl⟩
    · exact ⟨_, _, (num_l (re := 7) (i := 116) rfl), num_l (re := 3) (i := 117) rfl⟩
    · exact ⟨_, _, (num_l (re := 7) (i := 118) rfl), num_l (re := 3) (i := 103) (e_i64_118 a b)⟩
    · exact ⟨_, _, (num_l (re := 7) (i := 119) rfl), num_l (re := 3) (i := 104) (e_i64_119 a b)⟩
    · exact ⟨_, _, (num_l (re := 7) (i := 120) rfl), num_l (re := 3) (i := 105) (e_i64_120 a b)⟩
    · exact ⟨_, _, (num_l (re := 7) (i := 121) rfl), num_l (re := 3) (i := 106) (e_i64_121 a b)⟩
    · exact ⟨_, _, (num_l (re := 7) (i := 122) rfl), num_l (re := 3) (i := 107) (e_i64_122 a b)⟩
    · exact ⟨_, _, (num_l (re := 7) (i := 123) rfl), num_l (re := 3) (i := 108) (e_i64_123 a b)⟩
    · exact ⟨_, _, (num_l (re := 7) (i := 101) rfl), num_l (re := 3) (i := 124) rfl⟩
    · exact ⟨_, _, (num_l (re := 7) (i := 102) rfl), num_l (re := 3) (i := 0) (e_i64_102 ha)⟩
    · exact ⟨_, _, (num_l (re := 3) (i := 111) rfl), num_l (re := 7) (i := 125) rfl⟩
    · exact ⟨_, _, (num_l (re := 7) (i := 125) rfl), num_l (re := 3) (i := 111) (e_i64_125 ha)⟩
    · exact ⟨_, _, (num_l (re := 3) (i := 0) rfl), num_l (re := 2) (i := 128) rfl⟩
    · exact ⟨_, _, (num_l (re := 3) (i := 1) rfl), num_l (re := 2) (i := 129) rfl⟩
    · exact ⟨_, _, (num_l (re := 2) (i := 129) rfl), num_l (re := 6) (i := 130) rfl⟩
    · exact ⟨_, _, (num_l (re := 6) (i := 131) rfl), num_l (re := 7) (i := 132) rfl⟩
    · exact ⟨_, _, (num_l (re := 2) (i := 128) rfl), num_l (re := 6) (i := 133) rfl⟩
    · exact ⟨_, _, (num_l (re := 6) (i := 140) rfl), num_l (re := 2) (i := 141) rfl⟩
    · exact ⟨_, _, (num_l (re := 6) (i := 143) rfl), num_l (re := 2) (i := 144) rfl⟩
    · exact ⟨_, _, (num_l (re := 6) (i := 147) rfl), num_l (re := 2) (i := 148) rfl⟩
    · exact ⟨_, _, (num_l (re := 2) (i := 128) rfl), num_l (re := 3) (i := 149) rfl⟩
    · exact ⟨_, _, (num_l (re := 2) (i := 129) rfl), num_l (re := 3) (i := 150) rfl⟩
    · exact ⟨_, _, (num_l (re := 3) (i := 150) rfl), num_l (re := 6) (i := 130) (e_u32_150 a b)⟩
    · exact ⟨_, _, (num_l (re := 3) (i := 149) rfl), num_l (re := 6) (i := 133) (e_u32_149 a b)⟩
    · exact ⟨_, _, (num_l (re := 2) (i := 134) rfl), num_l (re := 3) (i := 156) rfl⟩
    · exact ⟨_, _, (num_l (re := 6) (i := 157) rfl), num_l (re := 2) (i := 134) (e_i32_157 a b)⟩
    · exact ⟨_, _, (num_l (re := 6) (i := 158) rfl), num_l (re := 2) (i := 135) (e_i32_158 a b)⟩
    · exact ⟨_, _, (num_l (re := 2) (i := 135) rfl), num_l (re := 3) (i := 161) rfl⟩
    · exact ⟨_, _, (num_l (re := 6) (i := 162) rfl), num_l (re := 2) (i := 136) (e_i32_162 a b)⟩
    · exact ⟨_, _, (num_l (re := 2) (i := 136) rfl), num_l (re := 3) (i := 165) rfl⟩
    · exact ⟨_, _, (num_l (re := 6) (i := 166) rfl), num_l (re := 2) (i := 137) (e_i32_166 a b)⟩
    · exact ⟨_, _, (num_l (re := 2) (i := 137) rfl), num_l (re := 3) (i := 169) rfl⟩
    · exact ⟨_, _, (num_l (re := 6) (i := 170) rfl), num_l (re := 2) (i := 138) (e_i32_170 a b)⟩
    · exact ⟨_, _, (num_l (re := 2) (i := 138) rfl), num_l (re := 3) (i := 173) rfl⟩
    · exact ⟨_, _, (num_l (re := 6) (i := 174) rfl), num_l (re := 2) (i := 139) (e_i32_174 a b)⟩
    · exact ⟨_, _, (num_l (re := 2) (i := 139) rfl), num_l (re := 3) (i := 177) rfl⟩
    · exact ⟨_, _, (num_l (re := 6) (i := 131) rfl), num_l (re := 3) (i := 178) rfl⟩
    · exact ⟨_, _, (num_l (re := 2) (i := 141) rfl), num_l (re := 3) (i := 182) rfl⟩
    · exact ⟨_, _, (num_l (re := 6) (i := 133) rfl), num_l (re := 2) (i := 128) (e_i32_133 a b)⟩
    · exact ⟨_, _, (num_l (re := 2) (i := 142) rfl), num_l (re := 3) (i := 188) rfl⟩
    · exact ⟨_, _, (num_l (re := 2) (i := 142) rfl), num_l (re := 6) (i := 189) rfl⟩
    · exact ⟨_, _, (num_l (re := 6) (i := 189) rfl), num_l (re := 2) (i := 142) (e_i32_189 a b)⟩
    · exact ⟨_, _, (num_l (re := 2) (i := 144) rfl), num_l (re := 3) (i := 193) rfl⟩
    · exact ⟨_, _, (num_l (re := 2) (i := 148) rfl), num_l (re := 3) (i := 199) rfl⟩
theorem rT60_ok {P : Program} {a b : Int} (hp : v128 a b = v129 a b) : TabOK P (rhoR a b) rT60 := by
  have q1 := r128 a b
  have q2 := r129 a b
  have q3 := e130 a b
  have q4 := e133 a b
  refine tab_ok (fun x hx => ?_) (fun x hx => ?_) (fun x hx => by cases hx) (fun i hi => by cases hi)
  · simp only [rT60B, List.mem_cons, List.not_mem_nil, or_false] at hx
    rcases hx with rfl | rfl | rfl | rfl | rfl | rfl | rfl | rfl | rfl | rfl | rfl | rfl
    · exact says_eql (num_l (re := 2) (i := 128) rfl) (num_l (re := 2) (i := 129) rfl) (cmp_eql_t (by change v128 a b = v129 a b; omega))
    · exact says_neq (num_l (re := 2) (i := 128) rfl) (num_l (re := 2) (i := 129) rfl) (cmp_neq_f (by change v128 a b = v129 a b; omega))
    · exact says_lss (num_l (re := 2) (i := 128) rfl) (num_l (re := 2) (i := 129) rfl) (cmp_lss_f (by change ¬ v128 a b < v129 a b; omega))
    · exact says_lss (num_l (re := 6) (i := 133) rfl) (num_l (re := 6) (i := 130) rfl) (cmp_lss_f (by change ¬ v133 a b < v130 a b; omega))
    · exact says_gtr (num_l (re := 2) (i := 128) rfl) (num_l (re := 2) (i := 129) rfl) (cmp_gtr_f (by change ¬ v128 a b > v129 a b; omega))
    · exact says_gtr (num_l (re := 6) (i := 133) rfl) (num_l (re := 6) (i := 130) rfl) (cmp_gtr_f (by change ¬ v133 a b > v130 a b; omega))
    · exact says_leq (num_l (re := 2) (i := 128) rfl) (num_l (re := 2) (i := 129) rfl) (cmp_leq_t (by change v128 a b ≤ v129 a b; omega))
    · exact says_leq (num_l (re := 6) (i := 133) rfl) (num_l (re := 6) (i := 130) rfl) (cmp_leq_t (by change v133 a b ≤ v130 a b; omega))
    · exact says_geq (num_l (re := 2) (i := 128) rfl) (num_l (re := 2) (i := 129) rfl) (cmp_geq_t (by change v128 a b ≥ v129 a b; omega))
    · exact says_geq (num_l (re := 6) (i := 133) rfl) (num_l (re := 6) (i := 130) rfl) (cmp_geq_t (by change v133 a b ≥ v130 a b; omega))
    · exact says_eql (num_l (re := 6) (i := 133) rfl) (num_l (re := 6) (i := 130) rfl) (cmp_eql_t (by change v133 a b = v130 a b; omega))
    · exact says_neq (num_l (re := 6) (i := 133) rfl) (num_l (re := 6) (i := 130) rfl) (cmp_neq_f (by change v133 a b = v130 a b; omega))
  · simp only [rT60C, List.mem_cons, List.not_mem_nil, or_false] at hx
    rcases hx with rfl | rfl | rfl | rfl | rfl | rfl | rfl | rfl | rfl
    · exact ⟨_, _, (num_l (re := 2) (i := 129) rfl), num_l (re := 6) (i := 130) rfl⟩
    · exact ⟨_, _, (num_l (re := 3) (i := 0) rfl), num_l (re := 2) (i := 128) rfl⟩
    · exact ⟨_, _, (num_l (re := 2) (i := 128) rfl), num_l (re := 3) (i := 149) rfl⟩
    · exact ⟨_, _, (num_l (re := 3) (i := 1) rfl), num_l (re := 2) (i := 129) rfl⟩
    · exact ⟨_, _, (num_l (re := 2) (i := 129) rfl), num_l (re := 3) (i := 150) rfl⟩
    · exact ⟨_, _, (num_l (re := 3) (i := 150) rfl), num_l (re := 6) (i := 130) (e_u32_150 a b)⟩
    · exact ⟨_, _, (num_l (re := 3) (i := 149) rfl), num_l (re := 6) (i := 133) (e_u32_149 a b)⟩
    · exact ⟨_, _, (num_l (re := 6) (i := 133) rfl), num_l (re := 2) (i := 128) (e_i32_133 a b)⟩
    · exact ⟨_, _, (num_l (re := 6) (i := 130) rfl), num_l (re := 2) (i := 129) (e_i32_130 a b)⟩
theorem rT61_ok {P : Program} {a b : Int} (hp : v128 a b < v129 a b) (hy : v133 a b < v130 a b) : TabOK P (rhoR a b) rT61 := by
  have q1 := r128 a b
  have q2 := r129 a b
  have q3 := e130 a b
  have q4 := e133 a b
  refine tab_ok (fun x hx => ?_) (fun x hx => ?_) (fun x hx => by cases hx) (fun i hi => by cases hi)
  · simp only [rT61B, List.mem_cons, List.not_mem_nil, or_false] at hx
    rcases hx with rfl | rfl | rfl | rfl | rfl | rfl | rfl | rfl | rfl | rfl | rfl | rfl
    · exact says_eql (num_l (re := 2) (i := 128) rfl) (num_l (re := 2) (i := 129) rfl) (cmp_eql_f (by change ¬ v128 a b = v129 a b; omega))
    · exact says_neq (num_l (re := 2) (i := 128) rfl) (num_l (re := 2) (i := 129) rfl) (cmp_neq_t (by change ¬ v128 a b = v129 a b; omega))
    · exact says_lss (num_l (re := 2) (i := 128) rfl) (num_l (re := 2) (i := 129) rfl) (cmp_lss_t (by change v128 a b < v129 a b; omega))
    · exact says_lss (num_l (re := 6) (i := 133) rfl) (num_l (re := 6) (i := 130) rfl) (cmp_lss_t (by change v133 a b < v130 a b; omega))
    · exact says_gtr (num_l (re := 2) (i := 128) rfl) (num_l (re := 2) (i := 129) rfl) (cmp_gtr_f (by change ¬ v128 a b > v129 a b; omega))
    · exact says_gtr (num_l (re := 6) (i := 133) rfl) (num_l (re := 6) (i := 130) rfl) (cmp_gtr_f (by change ¬ v133 a b > v130 a b; omega))
    · exact says_leq (num_l (re := 2) (i := 128) rfl) (num_l (re := 2) (i := 129) rfl) (cmp_leq_t (by change v128 a b ≤ v129 a b; omega))
    · exact says_leq (num_l (re := 6) (i := 133) rfl) (num_l (re := 6) (i := 130) rfl) (cmp_leq_t (by change v133 a b ≤ v130 a b; omega))
    · exact says_geq (num_l (re := 2) (i := 128) rfl) (num_l (re := 2) (i := 129) rfl) (cmp_geq_f (by change ¬ v128 a b ≥ v129 a b; omega))
    · exact says_geq (num_l (re := 6) (i := 133) rfl) (num_l (re := 6) (i := 130) rfl) (cmp_geq_f (by change ¬ v133 a b ≥ v130 a b; omega))
    · exact says_eql (num_l (re := 6) (i := 133) rfl) (num_l (re := 6) (i := 130) rfl) (cmp_eql_f (by change ¬ v133 a b = v130 a b; omega))
    · exact says_neq (num_l (re := 6) (i := 133) rfl) (num_l (re := 6) (i := 130) rfl) (cmp_neq_t (by change ¬ v133 a b = v130 a b; omega))
  · simp only [rT61C, List.mem_cons, List.not_mem_nil, or_false] at hx
    rcases hx with rfl | rfl | rfl | rfl | rfl | rfl | rfl | rfl | rfl
    · exact ⟨_, _, (num_l (re := 2) (i := 129) rfl), num_l (re := 6) (i := 130) rfl⟩
    · exact ⟨_, _, (num_l (re := 3) (i := 0) rfl), num_l (re := 2) (i := 128) rfl⟩
    · exact ⟨_, _, (num_l (re := 2) (i := 128) rfl), num_l (re := 3) (i := 149) rfl⟩
    · exact ⟨_, _, (num_l (re := 3) (i := 1) rfl), num_l (re := 2) (i := 129) rfl⟩
    · exact ⟨_, _, (num_l (re := 2) (i := 129) rfl), num_l (re := 3) (i := 150) rfl⟩
    · exact ⟨_, _, (num_l (re := 3) (i := 150) rfl), num_l (re := 6) (i := 130) (e_u32_150 a b)⟩
    · exact ⟨_, _, (num_l (re := 3) (i := 149) rfl), num_l (re := 6) (i := 133) (e_u32_149 a b)⟩
    · exact ⟨_, _, (num_l (re := 6) (i := 133) rfl), num_l (re := 2) (i := 128) (e_i32_133 a b)⟩
    · exact ⟨_, _, (num_l (re := 6) (i := 130) rfl), num_l (re := 2) (i := 129) (e_i32_130 a b)⟩
theorem rT62_ok {P : Program} {a b : Int} (hp : v128 a b < v129 a b) (hy : v130 a b < v133 a b) : TabOK P (rhoR a b) rT62 := by
  have q1 := r128 a b
  have q2 := r129 a b
  have q3 := e130 a b
  have q4 := e133 a b
  refine tab_ok (fun x hx => ?_) (fun x hx => ?_) (fun x hx => by cases hx) (fun i hi => by cases hi)
  · simp only [rT62B, List.mem_cons, List.not_mem_nil, or_false] at hx
    rcases hx with rfl | rfl | rfl | rfl | rfl | rfl | rfl | rfl | rfl | rfl | rfl | rfl
    · exact says_eql (num_l (re := 2) (i := 128) rfl) (num_l (re := 2) (i := 129) rfl) (cmp_eql_f (by change ¬ v128 a b = v129 a b; omega))
    · exact says_neq (num_l (re := 2) (i := 128) rfl) (num_l (re := 2) (i := 129) rfl) (cmp_neq_t (by change ¬ v128 a b = v129 a b; omega))
    · exact says_lss (num_l (re := 2) (i := 128) rfl) (num_l (re := 2) (i := 129) rfl) (cmp_lss_t (by change v128 a b < v129 a b; omega))
    · exact says_lss (num_l (re := 6) (i := 133) rfl) (num_l (re := 6) (i := 130) rfl) (cmp_lss_f (by change ¬ v133 a b < v130 a b; omega))
    · exact says_gtr (num_l (re := 2) (i := 128) rfl) (num_l (re := 2) (i := 129) rfl) (cmp_gtr_f (by change ¬ v128 a b > v129 a b; omega))
    · exact says_gtr (num_l (re := 6) (i := 133) rfl) (num_l (re := 6) (i := 130) rfl) (cmp_gtr_t (by change v133 a b > v130 a b; omega))
    · exact says_leq (num_l (re := 2) (i := 128) rfl) (num_l (re := 2) (i := 129) rfl) (cmp_leq_t (by change v128 a b ≤ v129 a b; omega))
    · exact says_leq (num_l (re := 6) (i := 133) rfl) (num_l (re := 6) (i := 130) rfl) (cmp_leq_f (by change ¬ v133 a b ≤ v130 a b; omega))
    · exact says_geq (num_l (re := 2) (i := 128) rfl) (num_l (re := 2) (i := 129) rfl) (cmp_geq_f (by change ¬ v128 a b ≥ v129 a b; omega))
    · exact says_geq (num_l (re := 6) (i := 133) rfl) (num_l (re := 6) (i := 130) rfl) (cmp_geq_t (by change v133 a b ≥ v130 a b; omega))
    · exact says_eql (num_l (re := 6) (i := 133) rfl) (num_l (re := 6) (i := 130) rfl) (cmp_eql_f (by change ¬ v133 a b = v130 a b; omega))
    · exact says_neq (num_l (re := 6) (i := 133) rfl) (num_l (re := 6) (i := 130) rfl) (cmp_neq_t (by change ¬ v133 a b = v130 a b; omega))
  · simp only [rT62C, List.mem_cons, List.not_mem_nil, or_false] at hx
    rcases hx with rfl | rfl | rfl | rfl | rfl | rfl | rfl | rfl | rfl
    · exact ⟨_, _, (num_l (re := 2) (i := 129) rfl), num_l (re := 6) (i := 130) rfl⟩
    · exact ⟨_, _, (num_l (re := 3) (i := 0) rfl), num_l (re := 2) (i := 128) rfl⟩
    · exact ⟨_, _, (num_l (re := 2) (i := 128) rfl), num_l (re := 3) (i := 149) rfl⟩
    · exact ⟨_, _, (num_l (re := 3) (i := 1) rfl), num_l (re := 2) (i := 129) rfl⟩
    · exact ⟨_, _, (num_l (re := 2) (i := 129) rfl), num_l (re := 3) (i := 150) rfl⟩
    · exact ⟨_, _, (num_l (re := 3) (i := 150) rfl), num_l (re := 6) (i := 130) (e_u32_150 a b)⟩
    · exact ⟨_, _, (num_l (re := 3) (i := 149) rfl), num_l (re := 6) (i := 133) (e_u32_149 a b)⟩
    · exact ⟨_, _, (num_l (re := 6) (i := 133) rfl), num_l (re := 2) (i := 128) (e_i32_133 a b)⟩
    · exact ⟨_, _, (num_l (re := 6) (i := 130) rfl), num_l (re := 2) (i := 129) (e_i32_130 a b)⟩
theorem rT63_ok {P : Program} {a b : Int} (hp : v129 a b < v128 a b) (hy : v133 a b < v130 a b) : TabOK P (rhoR a b) rT63 := by
  have q1 := r128 a b
  have q2 := r129 a b
  have q3 := e130 a b
  have q4 := e133 a b
  refine tab_ok (fun x hx => ?_) (fun x hx => ?_) (fun x hx => by cases hx) (fun i hi => by cases hi)
  · simp only [rT63B, List.mem_cons, List.not_mem_nil, or_false] at hx
    rcases hx with rfl | rfl | rfl | rfl | rfl | rfl | rfl | rfl | rfl | rfl | rfl | rfl
    · exact says_eql (num_l (re := 2) (i := 128) rfl) (num_l (re := 2) (i := 129) rfl) (cmp_eql_f (by change ¬ v128 a b = v129 a b; omega))
    · exact says_neq (num_l (re := 2) (i := 128) rfl) (num_l (re := 2) (i := 129) rfl) (cmp_neq_t (by change ¬ v128 a b = v129 a b; omega))
    · exact says_lss (num_l (re := 2) (i := 128) rfl) (num_l (re := 2) (i := 129) rfl) (cmp_lss_f (by change ¬ v128 a b < v129 a b; omega))
    · exact says_lss (num_l (re := 6) (i := 133) rfl) (num_l (re := 6) (i := 130) rfl) (cmp_lss_t (by change v133 a b < v130 a b; omega))
    · exact says_gtr (num_l (re := 2) (i := 128) rfl) (num_l (re := 2) (i := 129) rfl) (cmp_gtr_t (by change v128 a b > v129 a b; omega))
    · exact says_gtr (num_l (re := 6) (i := 133) rfl) (num_l (re := 6) (i := 130) rfl) (cmp_gtr_f (by change ¬ v133 a b > v130 a b; omega))
    · exact says_leq (num_l (re := 2) (i := 128) rfl) (num_l (re := 2) (i := 129) rfl) (cmp_leq_f (by change ¬ v128 a b ≤ v129 a b; omega))
    · exact says_leq (num_l (re := 6) (i := 133) rfl) (num_l (re := 6) (i := 130) rfl) (cmp_leq_t (by change v133 a b ≤ v130 a b; omega))
    · exact says_geq (num_l (re := 2) (i := 128) rfl) (num_l (re := 2) (i := 129) rfl) (cmp_geq_t (by change v128 a b ≥ v129 a b; omega))
    · exact says_geq (num_l (re := 6) (i := 133) rfl) (num_l (re := 6) (i := 130) rfl) (cmp_geq_f (by change ¬ v133 a b ≥ v130 a b; omega))
    · exact says_eql (num_l (re := 6) (i := 133) rfl) (num_l (re := 6) (i := 130) rfl) (cmp_eql_f (by change ¬ v133 a b = v130 a b; omega))
    · exact says_neq (num_l (re := 6) (i := 133) rfl) (num_l (re := 6) (i := 130) rfl) (cmp_neq_t (by change ¬ v133 a b = v130 a b; omega))
  · simp only [rT63C, List.mem_cons, List.not_mem_nil, or_false] at hx
    rcases hx with rfl | rfl | rfl | rfl | rfl | rfl | rfl | rfl | rfl
    · exact ⟨_, _, (num_l (re := 2) (i := 129) rfl), num_l (re := 6) (i := 130) rfl⟩
    · exact ⟨_, _, (num_l (re := 3) (i := 0) rfl), num_l (re := 2) (i := 128) rfl⟩
    · exact ⟨_, _, (num_l (re := 2) (i := 128) rfl), num_l (re := 3) (i := 149) rfl⟩
    · exact ⟨_, _, (num_l (re := 3) (i := 1) rfl), num_l (re := 2) (i := 129) rfl⟩
    · exact ⟨_, _, (num_l (re := 2) (i := 129) rfl), num_l (re := 3) (i := 150) rfl⟩
    · exact ⟨_, _, (num_l (re := 3) (i := 150) rfl), num_l (re := 6) (i := 130) (e_u32_150 a b)⟩
    · exact ⟨_, _, (num_l (re := 3) (i := 149) rfl), num_l (re := 6) (i := 133) (e_u32_149 a b)⟩
    · exact ⟨_, _, (num_l (re := 6) (i := 133) rfl), num_l (re := 2) (i := 128) (e_i32_133 a b)⟩
    · exact ⟨_, _, (num_l (re := 6) (i := 130) rfl), num_l (re := 2) (i := 129) (e_i32_130 a b)⟩
theorem rT64_ok {P : Program} {a b : Int} (hp : v129 a b < v128 a b) (hy : v130 a b < v133 a b) : TabOK P (rhoR a b) rT64 := by
  have q1 := r128 a b
  have q2 := r129 a b
  have q3 := e130 a b
  have q4 := e133 a b
  refine tab_ok (fun x hx => ?_) (fun x hx => ?_) (fun x hx => by cases hx) (fun i hi => by cases hi)
  · simp only [rT64B, List.mem_cons, List.not_mem_nil, or_false] at hx
    rcases hx with rfl | rfl | rfl | rfl | rfl | rfl | rfl | rfl | rfl | rfl | rfl | rfl
    · exact says_eql (num_l (re := 2) (i := 128) rfl) (num_l (re := 2) (i := 129) rfl) (cmp_eql_f (by change ¬ v128 a b = v129 a b; omega))
    · exact says_neq (num_l (re := 2) (i := 128) rfl) (num_l (re := 2) (i := 129) rfl) (cmp_neq_t (by change ¬ v128 a b = v129 a b; omega))
    · exact says_lss (num_l (re := 2) (i := 128) rfl) (num_l (re := 2) (i := 129) rfl) (cmp_lss_f (by change ¬ v128 a b < v129 a b; omega))
    · exact says_lss (num_l (re := 6) (i := 133) rfl) (num_l (re := 6) (i := 130) rfl) (cmp_lss_f (by change ¬ v133 a b < v130 a b; omega))
    · exact says_gtr (num_l (re := 2) (i := 128) rfl) (num_l (re := 2) (i := 129) rfl) (cmp_gtr_t (by change v128 a b > v129 a b; omega))
    · exact says_gtr (num_l (re := 6) (i := 133) rfl) (num_l (re := 6) (i := 130) rfl) (cmp_gtr_t (by change v133 a b > v130 a b; omega))
    · exact says_leq (num_l (re := 2) (i := 128) rfl) (num_l (re := 2) (i := 129) rfl) (cmp_leq_f (by change ¬ v128 a b ≤ v129 a b; omega))
    · exact says_leq (num_l (re := 6) (i := 133) rfl) (num_l (re := 6) (i := 130) rfl) (cmp_leq_f (by change ¬ v133 a b ≤ v130 a b; omega))
    · exact says_geq (num_l (re := 2) (i := 128) rfl) (num_l (re := 2) (i := 129) rfl) (cmp_geq_t (by change v128 a b ≥ v129 a b; omega))
    · exact says_geq (num_l (re := 6) (i := 133) rfl) (num_l (re := 6) (i := 130) rfl) (cmp_geq_t (by change v133 a b ≥ v130 a b; omega))
    · exact says_eql (num_l (re := 6) (i := 133) rfl) (num_l (re := 6) (i := 130) rfl) (cmp_eql_f (by change ¬ v133 a b = v130 a b; omega))
    · exact says_neq (num_l (re := 6) (i := 133) rfl) (num_l (re := 6) (i := 130) rfl) (cmp_neq_t (by change ¬ v133 a b = v130 a b; omega))
  · simp only [rT64C, List.mem_cons, List.not_mem_nil, or_false] at hx
    rcases hx with rfl | rfl | rfl | rfl | rfl | rfl | rfl | rfl | rfl
    · exact ⟨_, _, (num_l (re := 2) (i := 129) rfl), num_l (re := 6) (i := 130) rfl⟩
    · exact ⟨_, _, (num_l (re := 3) (i := 0) rfl), num_l (re := 2) (i := 128) rfl⟩
    · exact ⟨_, _, (num_l (re := 2) (i := 128) rfl), num_l (re := 3) (i := 149) rfl⟩
    · exact ⟨_, _, (num_l (re := 3) (i := 1) rfl), num_l (re := 2) (i := 129) rfl⟩
    · exact ⟨_, _, (num_l (re := 2) (i := 129) rfl), num_l (re := 3) (i := 150) rfl⟩
    · exact ⟨_, _, (num_l (re := 3) (i := 150) rfl), num_l (re := 6) (i := 130) (e_u32_150 a b)⟩
    · exact ⟨_, _, (num_l (re := 3) (i := 149) rfl), num_l (re := 6) (i := 133) (e_u32_149 a b)⟩
    · exact ⟨_, _, (num_l (re := 6) (i := 133) rfl), num_l (re := 2) (i := 128) (e_i32_133 a b)⟩
    · exact ⟨_, _, (num_l (re := 6) (i := 130) rfl), num_l (re := 2) (i := 129) (e_i32_130 a b)⟩
theorem rT70_ok {P : Program} {a b : Int} (hq : v129 a b = 0) (hp : v128 a b ≠ -2147483648) : TabOK P (rhoR a b) rT70 := by
  have q1 := r128 a b
  have q2 := r129 a b
  have q3 := e130 a b
  have q4 := e133 a b
  refine tab_ok (fun x hx => ?_) (fun x hx => ?_) (fun x hx => by cases hx) (fun i hi => by cases hi)
  · simp only [rT70B, List.mem_cons, List.not_mem_nil, or_false] at hx
    rcases hx with rfl | rfl | rfl
    · exact says_eql (num_l (re := 6) (i := 130) rfl) num_i (cmp_eql_t (by change v130 a b = 0; omega))
    · exact says_eql (num_l (re := 2) (i := 129) rfl) num_i (cmp_eql_t (by change v129 a b = 0; omega))
    · exact says_eql (num_l (re := 2) (i := 128) rfl) num_i (cmp_eql_f (by change ¬ v128 a b = (-2147483648); omega))
  · simp only [rT70C, List.mem_cons, List.not_mem_nil, or_false] at hx
    rcases hx with rfl | rfl | rfl | rfl | rfl | rfl
    · exact ⟨_, _, (num_l (re := 2) (i := 128) rfl), num_l (re := 3) (i := 149) rfl⟩
    · exact ⟨_, _, (num_l (re := 2) (i := 129) rfl), num_l (re := 3) (i := 150) rfl⟩
    · exact ⟨_, _, (num_l (re := 3) (i := 149) rfl), num_l (re := 2) (i := 128) (e_i32_149 a b)⟩
    · exact ⟨_, _, (num_l (re := 3) (i := 150) rfl), num_l (re := 2) (i := 129) (e_i32_150 a b)⟩
    · exact ⟨_, _, (num_l (re := 3) (i := 150) rfl), num_l (re := 6) (i := 130) (e_u32_150 a b)⟩
    · exact ⟨_, _, (num_l (re := 3) (i := 149) rfl), num_l (re := 6) (i := 133) (e_u32_149 a b)⟩
theorem rT71_ok {P : Program} {a b : Int} (hq : v129 a b = 0) (hp : v128 a b = -2147483648) : TabOK P (rhoR a b) rT71 := by
  have q1 := r128 a b
  have q2 := r129 a b
  have q3 := e130 a b
  have q4 := e133 a b
  refine tab_ok (fun x hx => ?_) (fun x hx => ?_) (fun x hx => by cases hx) (fun i hi => by cases hi)
  · simp only [rT71B, List.mem_cons, List.not_mem_nil, or_false] at hx
    rcases hx with rfl | rfl | rfl | rfl
    · exact says_eql (num_l (re := 6) (i := 130) rfl) num_i (cmp_eql_t (by change v130 a b = 0; omega))
    · exact says_eql (num_l (re := 2) (i := 129) rfl) num_i (cmp_eql_t (by change v129 a b = 0; omega))
    · exact says_eql (num_l (re := 2) (i := 128) rfl) num_i (cmp_eql_t (by change v128 a b = (-2147483648); omega))
    · exact says_eql (num_l (re := 2) (i := 129) rfl) num_i (cmp_eql_f (by change ¬ v129 a b = (-1); omega))
  · simp only [rT71C, List.mem_cons, List.not_mem_nil, or_false] at hx
    rcases hx with rfl | rfl | rfl | rfl | rfl | rfl
    · exact ⟨_, _, (num_l (re := 2) (i := 128) rfl), num_l (re := 3) (i := 149) rfl⟩
    · exact ⟨_, _, (num_l (re := 2) (i := 129) rfl), num_l (re := 3) (i := 150) rfl⟩
    · exact ⟨_, _, (num_l (re := 3) (i := 149) rfl), num_l (re := 2) (i := 128) (e_i32_149 a b)⟩
    · exact ⟨_, _, (num_l (re := 3) (i := 150) rfl), num_l (re := 2) (i := 129) (e_i32_150 a b)⟩
    · exact ⟨_, _, (num_l (re := 3) (i := 150) rfl), num_l (re := 6) (i := 130) (e_u32_150 a b)⟩
    · exact ⟨_, _, (num_l (re := 3) (i := 149) rfl), num_l (re := 6) (i := 133) (e_u32_149 a b)⟩
theorem rT72_ok {P : Program} {a b : Int} (hq : v129 a b = -1) (hp : v128 a b ≠ -2147483648) : TabOK P (rhoR a b) rT72 := by
  have q1 := r128 a b
  have q2 := r129 a b
  have q3 := e130 a b
  have q4 := e133 a b
  refine tab_ok (fun x hx => ?_) (fun x hx => ?_) (fun x hx => by cases hx) (fun i hi => by cases hi)
  · simp only [rT72B, List.mem_cons, List.not_mem_nil, or_false] at hx
    rcases hx with rfl | rfl | rfl | rfl | rfl | rfl | rfl | rfl | rfl | rfl | rfl | rfl
    · exact says_eql (num_l (re := 6) (i := 130) rfl) num_i (cmp_eql_f (by change ¬ v130 a b = 0; omega))
    · exact says_eql (num_l (re := 6) (i := 133) rfl) num_i (cmp_eql_f (by change ¬ v133 a b = 2147483648; omega))
    · exact says_quo (num_l (re := 2) (i := 128) rfl) (num_l (re := 2) (i := 129) rfl) (show v129 a b ≠ 0 by omega) (num_l (re := 2) (i := 300) rfl)
    · exact says_eql (num_l (re := 2) (i := 129) rfl) num_i (cmp_eql_f (by change ¬ v129 a b = 0; omega))
    · exact says_eql (num_l (re := 2) (i := 128) rfl) num_i (cmp_eql_f (by change ¬ v128 a b = (-2147483648); omega))
    · exact says_neq (num_l (re := 3) (i := 302) rfl) (num_l (re := 3) (i := 302) rfl) (by simp)
    · exact says_quo (num_l (re := 6) (i := 133) rfl) (num_l (re := 6) (i := 130) rfl) (show v130 a b ≠ 0 by omega) (num_l (re := 6) (i := 310) rfl)
    · exact says_neq (num_l (re := 3) (i := 312) rfl) (num_l (re := 3) (i := 312) rfl) (by simp)
    · exact says_rem (num_l (re := 2) (i := 128) rfl) (num_l (re := 2) (i := 129) rfl) (show v129 a b ≠ 0 by omega) (.inl (by change Value.int .i32 0 = .int .i32 ((v128 a b).tmod (v129 a b)); rw [hq]; simp))
    · exact says_neq (num_l (re := 2) (i := 129) rfl) num_i (cmp_neq_f (by change v129 a b = (-1); omega))
    · exact says_rem (num_l (re := 6) (i := 133) rfl) (num_l (re := 6) (i := 130) rfl) (show v130 a b ≠ 0 by omega) (num_l (re := 6) (i := 320) rfl)
    · exact says_neq (num_l (re := 3) (i := 322) rfl) (num_l (re := 3) (i := 322) rfl) (by simp)
  · simp only [rT72C, List.mem_cons, List.not_mem_nil, or_false] at hx
    rcases hx with rfl | rfl | rfl | rfl | rfl | rfl | rfl | rfl | rfl | rfl | rfl | rfl | rfl | rfl | rfl | rfl | rfl
    · exact ⟨_, _, (num_l (re := 2) (i := 128) rfl), num_l (re := 3) (i := 149) rfl⟩
    · exact ⟨_, _, (num_l (re := 2) (i := 129) rfl), num_l (re := 3) (i := 150) rfl⟩
    · exact ⟨_, _, (num_l (re := 3) (i := 149) rfl), num_l (re := 2) (i := 128) (e_i32_149 a b)⟩
    · exact ⟨_, _, (num_l (re := 3) (i := 150) rfl), num_l (re := 2) (i := 129) (e_i32_150 a b)⟩
    · exact ⟨_, _, (num_l (re := 3) (i := 150) rfl), num_l (re := 6) (i := 130) (e_u32_150 a b)⟩
    · exact ⟨_, _, (num_l (re := 3) (i := 149) rfl), num_l (re := 6) (i := 133) (e_u32_149 a b)⟩
    · exact ⟨_, _, (num_l (re := 6) (i := 133) rfl), num_l (re := 2) (i := 128) (e_i32_133 a b)⟩
    · exact ⟨_, _, (num_l (re := 6) (i := 130) rfl), num_l (re := 2) (i := 129) (e_i32_130 a b)⟩
    · exact ⟨_, _, (num_l (re := 2) (i := 300) rfl), num_l (re := 6) (i := 301) rfl⟩
    · exact ⟨_, _, (num_l (re := 6) (i := 301) rfl), num_l (re := 2) (i := 300) (e_i32_301 a b)⟩
    · exact ⟨_, _, (num_l (re := 2) (i := 300) rfl), num_l (re := 3) (i := 302) rfl⟩
    · exact ⟨_, _, (num_l (re := 6) (i := 310) rfl), num_l (re := 2) (i := 311) rfl⟩
    · exact ⟨_, _, (num_l (re := 2) (i := 311) rfl), num_l (re := 3) (i := 312) rfl⟩
    · exact ⟨_, _, (num_l (re := 2) (i := 128) rfl), num_l (re := 6) (i := 133) rfl⟩
    · exact ⟨_, _, (num_l (re := 2) (i := 129) rfl), num_l (re := 6) (i := 130) rfl⟩
    · exact ⟨_, _, (num_l (re := 6) (i := 320) rfl), num_l (re := 2) (i := 321) rfl⟩
    · exact ⟨_, _, (num_l (re := 2) (i := 321) rfl), num_l (re := 3) (i := 322) rfl⟩
theorem rT73_ok {P : Program} {a b : Int} (hq : v129 a b = -1) (hp : v128 a b = -2147483648) : TabOK P (rhoR a b) rT73 := by
  have q1 := r128 a b
  have q2 := r129 a b
  have q3 := e130 a b
  have q4 := e133 a b
  refine tab_ok (fun x hx => ?_) (fun x hx => ?_) (fun x hx => by cases hx) (fun i hi => by cases hi)
  · simp only [rT73B, List.mem_cons, List.not_mem_nil, or_false] at hx
    rcases hx with rfl | rfl | rfl | rfl | rfl | rfl | rfl | rfl | rfl | rfl | rfl | rfl
    · exact says_eql (num_l (re := 6) (i := 130) rfl) num_i (cmp_eql_f (by change ¬ v130 a b = 0; omega))
    · exact says_eql (num_l (re := 6) (i := 133) rfl) num_i (cmp_eql_t (by change v133 a b = 2147483648; omega))
    · exact says_eql (num_l (re := 6) (i := 130) rfl) num_i (cmp_eql_t (by change v130 a b = 4294967295; omega))
    · exact says_eql (num_l (re := 2) (i := 129) rfl) num_i (cmp_eql_f (by change ¬ v129 a b = 0; omega))
    · exact says_eql (num_l (re := 2) (i := 128) rfl) num_i (cmp_eql_t (by change v128 a b = (-2147483648); omega))
    · exact says_eql (num_l (re := 2) (i := 129) rfl) num_i (cmp_eql_t (by change v129 a b = (-1); omega))
    · exact says_quo (num_l (re := 6) (i := 133) rfl) (num_l (re := 6) (i := 130) rfl) (show v130 a b ≠ 0 by omega) (num_l (re := 6) (i := 310) rfl)
    · exact says_neq (num_l (re := 3) (i := 312) rfl) (num_l (re := 3) (i := 312) rfl) (by simp)
    · exact says_rem (num_l (re := 2) (i := 128) rfl) (num_l (re := 2) (i := 129) rfl) (show v129 a b ≠ 0 by omega) (.inl (by change Value.int .i32 0 = .int .i32 ((v128 a b).tmod (v129 a b)); rw [hq]; simp))
    · exact says_neq (num_l (re := 2) (i := 129) rfl) num_i (cmp_neq_f (by change v129 a b = (-1); omega))
    · exact says_rem (num_l (re := 6) (i := 133) rfl) (num_l (re := 6) (i := 130) rfl) (show v130 a b ≠ 0 by omega) (num_l (re := 6) (i := 320) rfl)
    · exact says_neq (num_l (re := 3) (i := 322) rfl) (num_l (re := 3) (i := 322) rfl) (by simp)
  · simp only [rT73C, List.mem_cons, List.not_mem_nil, or_false] at hx
    rcases hx with rfl | rfl | rfl | rfl | rfl | rfl | rfl | rfl | rfl | rfl | rfl | rfl | rfl | rfl
    · exact ⟨_, _, (num_l (re := 2) (i := 128) rfl), num_l (re := 3) (i := 149) rfl⟩
    · exact ⟨_, _, (num_l (re := 2) (i := 129) rfl), num_l (re := 3) (i := 150) rfl⟩
    · exact ⟨_, _, (num_l (re := 3) (i := 149) rfl), num_l (re := 2) (i := 128) (e_i32_149 a b)⟩
    · exact ⟨_, _, (num_l (re := 3) (i := 150) rfl), num_l (re := 2) (i := 129) (e_i32_150 a b)⟩
    · exact ⟨_, _, (num_l (re := 3) (i := 150) rfl), num_l (re := 6) (i := 130) (e_u32_150 a b)⟩
    · exact ⟨_, _, (num_l (re := 3) (i := 149) rfl), num_l (re := 6) (i := 133) (e_u32_149 a b)⟩
    · exact ⟨_, _, (num_l (re := 6) (i := 310) rfl), num_l (re := 2) (i := 311) rfl⟩
    · exact ⟨_, _, (num_l (re := 2) (i := 311) rfl), num_l (re := 3) (i := 312) rfl⟩
    · exact ⟨_, _, (num_l (re := 2) (i := 128) rfl), num_l (re := 6) (i := 133) rfl⟩
    · exact ⟨_, _, (num_l (re := 2) (i := 129) rfl), num_l (re := 6) (i := 130) rfl⟩
    · exact ⟨_, _, (num_l (re := 6) (i := 133) rfl), num_l (re := 2) (i := 128) (e_i32_133 a b)⟩
    · exact ⟨_, _, (num_l (re := 6) (i := 130) rfl), num_l (re := 2) (i := 129) (e_i32_130 a b)⟩
    · exact ⟨_, _, (num_l (re := 6) (i := 320) rfl), num_l (re := 2) (i := 321) rfl⟩
    · exact ⟨_, _, (num_l (re := 2) (i := 321) rfl), num_l (re := 3) (i := 322) rfl⟩
theorem rT74_ok {P : Program} {a b : Int} (hq : v129 a b ≠ 0 ∧ v129 a b ≠ -1) (hp : v128 a b ≠ -2147483648) : TabOK P (rhoR a b) rT74 := by
  have q1 := r128 a b
  have q2 := r129 a b
  have q3 := e130 a b
  have q4 := e133 a b
  refine tab_ok (fun x hx => ?_) (fun x hx => ?_) (fun x hx => by cases hx) (fun i hi => by cases hi)
  · simp only [rT74B, List.mem_cons, List.not_mem_nil, or_false] at hx
    rcases hx with rfl | rfl | rfl | rfl | rfl | rfl | rfl | rfl | rfl | rfl | rfl | rfl | rfl
    · exact says_eql (num_l (re := 6) (i := 130) rfl) num_i (cmp_eql_f (by change ¬ v130 a b = 0; omega))
    · exact says_eql (num_l (re := 6) (i := 133) rfl) num_i (cmp_eql_f (by change ¬ v133 a b = 2147483648; omega))
    · exact says_quo (num_l (re := 2) (i := 128) rfl) (num_l (re := 2) (i := 129) rfl) (show v129 a b ≠ 0 by omega) (num_l (re := 2) (i := 300) rfl)
    · exact says_eql (num_l (re := 2) (i := 129) rfl) num_i (cmp_eql_f (by change ¬ v129 a b = 0; omega))
    · exact says_eql (num_l (re := 2) (i := 128) rfl) num_i (cmp_eql_f (by change ¬ v128 a b = (-2147483648); omega))
    · exact says_neq (num_l (re := 3) (i := 302) rfl) (num_l (re := 3) (i := 302) rfl) (by simp)
    · exact says_quo (num_l (re := 6) (i := 133) rfl) (num_l (re := 6) (i := 130) rfl) (show v130 a b ≠ 0 by omega) (num_l (re := 6) (i := 310) rfl)
    · exact says_neq (num_l (re := 3) (i := 312) rfl) (num_l (re := 3) (i := 312) rfl) (by simp)
    · exact says_rem (num_l (re := 2) (i := 128) rfl) (num_l (re := 2) (i := 129) rfl) (show v129 a b ≠ 0 by omega) (num_l (re := 2) (i := 330) rfl)
    · exact says_neq (num_l (re := 2) (i := 129) rfl) num_i (cmp_neq_t (by change ¬ v129 a b = (-1); omega))
    · exact says_neq (num_l (re := 3) (i := 332) rfl) (num_l (re := 3) (i := 332) rfl) (by simp)
    · exact says_rem (num_l (re := 6) (i := 133) rfl) (num_l (re := 6) (i := 130) rfl) (show v130 a b ≠ 0 by omega) (num_l (re := 6) (i := 320) rfl)
    · exact says_neq (num_l (re := 3) (i := 322) rfl) (num_l (re := 3) (i := 322) rfl) (by simp)
  · simp only [rT74C, List.mem_cons, List.not_mem_nil, or_false] at hx
    rcases hx with rfl | rfl | rfl | rfl | rfl | rfl | rfl | rfl | rfl | rfl | rfl | rfl | rfl | rfl | rfl | rfl | rfl | rfl | rfl | rfl
    · exact ⟨_, _, (num_l (re := 2) (i := 128) rfl), num_l (re := 3) (i := 149) rfl⟩
    · exact ⟨_, _, (num_l (re := 2) (i := 129) rfl), num_l (re := 3) (i := 150) rfl⟩
    · exact ⟨_, _, (num_l (re := 3) (i := 149) rfl), num_l (re := 2) (i := 128) (e_i32_149 a b)⟩
    · exact ⟨_, _, (num_l (re := 3) (i := 150) rfl), num_l (re := 2) (i := 129) (e_i32_150 a b)⟩
    · exact ⟨_, _, (num_l (re := 3) (i := 150) rfl), num_l (re := 6) (i := 130) (e_u32_150 a b)⟩
    · exact ⟨_, _, (num_l (re := 3) (i := 149) rfl), num_l (re := 6) (i := 133) (e_u32_149 a b)⟩
    · exact ⟨_, _, (num_l (re := 6) (i := 133) rfl), num_l (re := 2) (i := 128) (e_i32_133 a b)⟩
    · exact ⟨_, _, (num_l (re := 6) (i := 130) rfl), num_l (re := 2) (i := 129) (e_i32_130 a b)⟩
    · exact ⟨_, _, (num_l (re := 2) (i := 300) rfl), num_l (re := 6) (i := 301) rfl⟩
    · exact ⟨_, _, (num_l (re := 6) (i := 301) rfl), num_l (re := 2) (i := 300) (e_i32_301 a b)⟩
    · exact ⟨_, _, (num_l (re := 2) (i := 300) rfl), num_l (re := 3) (i := 302) rfl⟩
    · exact ⟨_, _, (num_l (re := 6) (i := 310) rfl), num_l (re := 2) (i := 311) rfl⟩
    · exact ⟨_, _, (num_l (re := 2) (i := 311) rfl), num_l (re := 3) (i := 312) rfl⟩
    · exact ⟨_, _, (num_l (re := 2) (i := 128) rfl), num_l (re := 6) (i := 133) rfl⟩
    · exact ⟨_, _, (num_l (re := 2) (i := 129) rfl), num_l (re := 6) (i := 130) rfl⟩
    · exact ⟨_, _, (num_l (re := 2) (i := 330) rfl), num_l (re := 6) (i := 331) rfl⟩
    · exact ⟨_, _, (num_l (re := 6) (i := 331) rfl), num_l (re := 2) (i := 330) (e_i32_331 a b)⟩
    · exact ⟨_, _, (num_l (re := 2) (i := 330) rfl), num_l (re := 3) (i := 332) rfl⟩
    · exact ⟨_, _, (num_l (re := 6) (i := 320) rfl), num_l (re := 2) (i := 321) rfl⟩
    · exact ⟨_, _, (num_l (re := 2) (i := 321) rfl), num_l (re := 3) (i := 322) rfl⟩
theorem rT75_ok {P : Program} {a b : Int} (hq : v129 a b ≠ 0 ∧ v129 a b ≠ -1) (hp : v128 a b = -2147483648) : TabOK P (rhoR a b) rT75 := by
  have q1 := r128 a b
  have q2 := r129 a b
  have q3 := e130 a b
  have q4 := e133 a b
  refine tab_ok (fun x hx => ?_) (fun x hx => ?_) (fun x hx => by cases hx) (fun i hi => by cases hi)
  · simp only [rT75B, List.mem_cons, List.not_mem_nil, or_false] at hx
    rcases hx with rfl | rfl | rfl | rfl | rfl | rfl | rfl | rfl | rfl | rfl | rfl | rfl | rfl | rfl | rfl
    · exact says_eql (num_l (re := 6) (i := 130) rfl) num_i (cmp_eql_f (by change ¬ v130 a b = 0; omega))
    · exact says_eql (num_l (re := 6) (i := 133) rfl) num_i (cmp_eql_t (by change v133 a b = 2147483648; omega))
    · exact says_eql (num_l (re := 6) (i := 130) rfl) num_i (cmp_eql_f (by change ¬ v130 a b = 4294967295; omega))
    · exact says_quo (num_l (re := 2) (i := 128) rfl) (num_l (re := 2) (i := 129) rfl) (show v129 a b ≠ 0 by omega) (num_l (re := 2) (i := 300) rfl)
    · exact says_eql (num_l (re := 2) (i := 129) rfl) num_i (cmp_eql_f (by change ¬ v129 a b = 0; omega))
    · exact says_eql (num_l (re := 2) (i := 128) rfl) num_i (cmp_eql_t (by change v128 a b = (-2147483648); omega))
    · exact says_eql (num_l (re := 2) (i := 129) rfl) num_i (cmp_eql_f (by change ¬ v129 a b = (-1); omega))
    · exact says_neq (num_l (re := 3) (i := 302) rfl) (num_l (re := 3) (i := 302) rfl) (by simp)
    · exact says_quo (num_l (re := 6) (i := 133) rfl) (num_l (re := 6) (i := 130) rfl) (show v130 a b ≠ 0 by omega) (num_l (re := 6) (i := 310) rfl)
    · exact says_neq (num_l (re := 3) (i := 312) rfl) (num_l (re := 3) (i := 312) rfl) (by simp)
    · exact says_rem (num_l (re := 2) (i := 128) rfl) (num_l (re := 2) (i := 129) rfl) (show v129 a b ≠ 0 by omega) (num_l (re := 2) (i := 330) rfl)
    · exact says_neq (num_l (re := 2) (i := 129) rfl) num_i (cmp_neq_t (by change ¬ v129 a b = (-1); omega))
    · exact says_neq (num_l (re := 3) (i := 332) rfl) (num_l (re := 3) (i := 332) rfl) (by simp)
    · exact says_rem (num_l (re := 6) (i := 133) rfl) (num_l (re := 6) (i := 130) rfl) (show v130 a b ≠ 0 by omega) (num_l (re := 6) (i := 320) rfl)
    · exact says_neq (num_l (re := 3) (i := 322) rfl) (num_l (re := 3) (i := 322) rfl) (by simp)
  · simp only [rT75C, List.mem_cons, List.not_mem_nil, or_false] at hx
    rcases hx with rfl | rfl | rfl | rfl | rfl | rfl | rfl | rfl | rfl | rfl | rfl | rfl | rfl | rfl | rfl | rfl | rfl | rfl | rfl | rfl
    · exact ⟨_, _, (num_l (re := 2) (i := 128) rfl), num_l (re := 3) (i := 149) rfl⟩
    · exact ⟨_, _, (num_l (re := 2) (i := 129) rfl), num_l (re := 3) (i := 150) rfl⟩
    · exact ⟨_, _, (num_l (re := 3) (i := 149) rfl), num_l (re := 2) (i := 128) (e_i32_149 a b)⟩
    · exact ⟨_, _, (num_l (re := 3) (i := 150) rfl), num_l (re := 2) (i := 129) (e_i32_150 a b)⟩
    · exact ⟨_, _, (num_l (re := 3) (i := 150) rfl), num_l (re := 6) (i := 130) (e_u32_150 a b)⟩
    · exact ⟨_, _, (num_l (re := 3) (i := 149) rfl), num_l (re := 6) (i := 133) (e_u32_149 a b)⟩
    · exact ⟨_, _, (num_l (re := 6) (i := 133) rfl), num_l (re := 2) (i := 128) (e_i32_133 a b)⟩
    · exact ⟨_, _, (num_l (re := 6) (i := 130) rfl), num_l (re := 2) (i := 129) (e_i32_130 a b)⟩
    · exact ⟨_, _, (num_l (re := 2) (i := 300) rfl), num_l (re := 6) (i := 301) rfl⟩
    · exact ⟨_, _, (num_l (re := 6) (i := 301) rfl), num_l (re := 2) (i := 300) (e_i32_301 a b)⟩
    · exact ⟨_, _, (num_l (re := 2) (i := 300) rfl), num_l (re := 3) (i := 302) rfl⟩
    · exact ⟨_, _, (num_l (re := 6) (i := 310) rfl), num_l (re := 2) (i := 311) rfl⟩
    · exact ⟨_, _, (num_l (re := 2) (i := 311) rfl), num_l (re := 3) (i := 312) rfl⟩
    · exact ⟨_, _, (num_l (re := 2) (i := 128) rfl), num_l (re := 6) (i := 133) rfl⟩
    · exact ⟨_, _, (num_l (re := 2) (i := 129) rfl), num_l (re := 6) (i := 130) rfl⟩
    · exact ⟨_, _, (num_l (re := 2) (i := 330) rfl), num_l (re := 6) (i := 331) rfl⟩
    · exact ⟨_, _, (num_l (re := 6) (i := 331) rfl), num_l (re := 2) (i := 330) (e_i32_331 a b)⟩
    · exact ⟨_, _, (num_l (re := 2) (i := 330) rfl), num_l (re := 3) (i := 332) rfl⟩
    · exact ⟨_, _, (num_l (re := 6) (i := 320) rfl), num_l (re := 2) (i := 321) rfl⟩
    · exact ⟨_, _, (num_l (re := 2) (i := 321) rfl), num_l (re := 3) (i := 322) rfl⟩
end Go.Proofs.YtiflgmdblkapgaaGreatDoor
