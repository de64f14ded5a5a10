import Derived.Test.YtogohcefjffahaaGreatDoorKC
import Derived.Test.YtogohcefjffahaaGreatDoorB3
import Derived.Test.YtogohcefjffahaaGreatDoorB2
import Derived.Test.YtogohcefjffahaaGreatDoorCards
import Derived.Test.YtogohcefjffahaaGreatDoorTie
import Derived.ProofKit
import Derived.LaidMore
import Derived.OpenShut
import Derived.Stop.Joined
import Derived.SevenTiedAt
namespace Go.Proofs.YtogohcefjffahaaGreatDoor
open Go.Deep Go.Lib Go.Proofs Go.Proofs.YtogohcefjffahaaGreatDoor
open Go.ChangeShapes Go.WideShapes Go.ChangeAt Go.RowKit


theorem prog_ok : ProgOK Tryz.prog := ⟨by kernel_rfl, fun f fn h => by
  have hall : (Tryz.prog.funcs.toList.all fun fn => !(fn.name == "runtime.NumGoroutine")) = true := by kernel_rfl
  rw [List.all_eq_true] at hall
  have := hall fn (by simpa using Array.mem_of_getElem? h)
  simpa using this⟩

theorem kept_of {W W' : World} (h1 : W'.os = W.os ∧ W'.output = W.output) (h2 : ∀ b, b < W.heap.size → W'.heap[b]? = W.heap[b]?) (may : MemPlace → Prop) : W.keptBut W' may := by
  refine ⟨h1.1, h1.2, fun i hi => ?_⟩
  rw [h2 i hi]
  split <;> simp_all

set_option maxRecDepth 100000 in
theorem chosen_all {n w : Int} (hw : -9223372036854775808 ≤ w) {W : World} (h : laidMetH Tryz.prog Rows.chosenRow.laid W) :
    Calls Tryz.prog 3 #[.int .i64 n, .int .i64 w] W fun e W' => e = .returned (.bool true) ∧ ∀ may, W.keptBut W' may := by
  obtain ⟨X, ty, hX, hR⟩ := start_ok h (rho n w)
  obtain ⟨p, hp, hv⟩ := c_case n w
  have hl : VRl X cArgs [.int .i64 n, .int .i64 w] := VRl_cons.2 ⟨_, _, rfl, VR_complex.2 (by rw [hX]; rfl), VRl_cons.2 ⟨_, _, rfl, VR_complex.2 (by rw [hX]; rfl), VRl_nil.2 rfl⟩⟩
  have hlaw : law 3 60 cArgs cCases Tryz.prog cT np ⟨h0 ty, 11⟩ Tryz.f3 := by rw [kc ty]; trivial
  have hc : ∀ v ∈ cArgs, ∃ k i, v = .complex .f64 k i := fun v hv => by
    simp only [cArgs, List.mem_cons, List.not_mem_nil, or_false] at hv
    rcases hv with rfl | rfl <;> exact ⟨_, _, rfl⟩
  have hT : TabOK Tryz.prog X.ρ cT := by rw [hX]; exact cT_ok hw
  have key : Calls Tryz.prog 3 [Value.int .i64 n, Value.int .i64 w].toArray W (Good X ⟨h0 ty, 11⟩ W) := law_ok prog_ok noop_ok hT Tryz.func3 hlaw hR hl hc (hv X hX) (c_all X) hp
  exact key.mono fun e W' ⟨h1, Z, s', h2⟩ => ⟨h1, fun may => kept_of h2.io (fun b hb => (h2.keep b hb (start_fr b)).1) may⟩

theorem wf_lo {n : Int} (h : (Lit.int .i64 n).wf = true) : -9223372036854775808 ≤ n := by
  simp only [Lit.wf, Bool.and_eq_true, decide_eq_true_eq] at h
  have e : IntKind.i64.min = -9223372036854775808 := by decide
  rw [e] at h
  exact h.1

theorem own_knob : ownKnob Tryz.prog.godebug = none := by kernel_rfl

/-- The door's own heap meets the condition. -/
theorem door_met (os : Os) (args : Array Value) : laidMetH Tryz.prog Rows.chosenRow.laid ((World.doorLaid Tryz.prog 77 os).forCall (fun _ _ => 0) ⟨#[], args, []⟩).memory :=
  laidMetH_of_parts3 (fuel := 8) (laidMet_of_run' 8 (by kernel_rfl) (by kernel_rfl)) (by kernel_rfl) (by kernel_rfl)

set_option maxRecDepth 100000 in
theorem chosen_lifted (os : Os) (started : os.Started) (H : Type) (enc : TypeId × Value → H) :
    ReturnsInHanded {} Tryz.checked os 3 .any (fun w args => (Rows.chosenSpec.pre enc Tryz.prog Tryz.f3 [] false w args ∧ laidMetH Tryz.prog Rows.chosenRow.laid w) ∧ sizedMet enc Tryz.prog Tryz.f3 (OpenSpec.ofChange Rows.chosenSpec) false w args)
      (Rows.chosenSpec.post enc Tryz.prog Tryz.f3 false true false false) := by
  refine returnsInHanded_of_change_and (C := Tryz.checked) (X := fun w _ => laidMetH Tryz.prog Rows.chosenRow.laid w) (fun _ _ _ hh h => h.of_heap hh) own_knob started (by kernel_rfl) Tryz.func3
    (ChangeSpec.witness_shaped (enc := enc) (C := Tryz.checked) (os := os) (X := fun w _ => laidMetH Tryz.prog Rows.chosenRow.laid w) false (World.doorLaid Tryz.prog 77 os) #[.int .i64 0, .int .i64 0] 8 rfl (World.shaped_of_RefB (by kernel_rfl) (by kernel_rfl)) (by kernel_rfl) (by kernel_rfl) (by kernel_rfl) (door_met os _)) ?_
  intro W base args ds gs before hval0 hW _ _ hL _
  have hval : ∀ (j : Nat) t v, Tryz.f3.params[j]? = some t → args[j]? = some v → Value.okWide Tryz.prog W .any base t v := hval0
  have hW' := hW
  obtain ⟨p, q, hA0, hV, rfl, hfz, _⟩ := hW
  have hA : DataW.TrodAll enc Tryz.prog W 0 (fun _ => true) true Tryz.f3.params.toList args.toList ds p := hA0
  rw [Tryz.params3] at hA hval
  obtain ⟨v0, v1, d0, d1, p0, p1, rfl, rfl, rfl, h0, h1⟩ := trodAll_two hA
  obtain ⟨rfl, rfl⟩ := trodVars_none hV
  obtain ⟨n, rfl, rfl, rfl, wn⟩ := open_int Tryz.underlying2 (hval 0 2 v0 rfl rfl) h0
  obtain ⟨u, rfl, rfl, rfl, wu⟩ := open_int Tryz.underlying3 (hval 1 3 v1 rfl rfl) h1
  clear hA0 hval0
  simp only [List.append_nil] at hW'
  refine (chosen_all (wf_lo wu) hL).mono fun e W' ⟨he, hk⟩ => ?_
  subst he
  refine ⟨_, rfl, _, _, _, [], [], [], hW', ?_, ?_, ?_, hk _, fun h => by cases h⟩
  · exact trodAll_mk1 (shut_bool Tryz.underlying4 true)
  · exact trodAll_mk2 (shut_int Tryz.underlying2 wn) (shut_int Tryz.underlying3 wu)
  · rfl
end Go.Proofs.YtogohcefjffahaaGreatDoor
