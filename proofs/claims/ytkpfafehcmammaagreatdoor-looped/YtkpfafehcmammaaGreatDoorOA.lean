import Derived.Test.YtkpfafehcmammaaGreatDoorAS
import Derived.Test.YtkpfafehcmammaaGreatDoorCards
import Derived.Test.YtkpfafehcmammaaGreatDoorTie
import Derived.ProofKit
import Derived.LaidMore
import Derived.OpenShut
import Derived.Stop.Joined
import Derived.SevenTiedAt
namespace Go.Proofs.YtkpfafehcmammaaGreatDoor
open Go.Deep Go.Lib Go.Proofs Go.Proofs.YtkpfafehcmammaaGreatDoor
open Go.ChangeShapes Go.WideShapes Go.ChangeAt Go.RowKit

theorem kept_of {W W' : World} (h1 : W'.os = W.os ∧ W'.output = W.output) (h2 : ∀ b, b < W.heap.size → W'.heap[b]? = W.heap[b]?) (may : MemPlace → Prop) : W.keptBut W' may := by
  refine ⟨h1.1, h1.2, fun i hi => ?_⟩
  rw [h2 i hi]
  split <;> simp_all

set_option maxRecDepth 100000 in
theorem looped_all {a b : Int} (ha : -9223372036854775808 ≤ a) (hb' : -9223372036854775808 ≤ b) {W : World} (h : laidMetH Tryz.prog Rows.loopedRow.laid W) :
    Calls Tryz.prog 3 #[.int .i64 a, .int .i64 b] W fun e W' => e = .returned (.bool true) ∧ ∀ may, W.keptBut W' may := by
  obtain ⟨X, ty, hX, hR⟩ := start_ok h (rhoL a b)
  have hl : VRl X [L3 0, L3 1] [.int .i64 a, .int .i64 b] := VRl_cons.2 ⟨_, _, rfl, VR_complex.2 (by rw [hX]; rfl), VRl_cons.2 ⟨_, _, rfl, VR_complex.2 (by rw [hX]; rfl), VRl_nil.2 rfl⟩⟩
  obtain ⟨c, hb, h1⟩ := ok_ex (of_true (kA ty))
  obtain ⟨t, h2, h3⟩ := setArgs_at h1
  have key : Calls Tryz.prog 3 [Value.int .i64 a, Value.int .i64 b].toArray W (Good X ⟨h0 ty, 11⟩ W) := by
    rw [← callsIn_wide (n := 0)]
    refine callsIn_of_wp Tryz.func3 hb trivial ?_
    refine looped_wp ha hb' hb hX hR (t := t) ?_ h2
    rw [Tryz.ntmps3]
    refine ⟨⟨by simp, fun m v hv => ?_⟩, rfl⟩
    change getT t m = some v at hv
    rw [h3 m] at hv
    split at hv
    · obtain ⟨u, h5, h6⟩ := hl.get hv
      refine ⟨u, ?_, h6⟩
      have hm : m < 2 := by rename_i hm; simpa using hm.2
      rw [Array.getElem?_append_left (by simpa using hm)]
      simpa using h5
    · rw [getT_nil] at hv; cases hv
  exact key.mono fun e W' ⟨h1, Z, s', h2⟩ => ⟨h1, fun may => kept_of h2.io (fun b hb => (h2.keep b hb (start_fr b)).1) may⟩

theorem wf_rng {n : Int} (h : (Lit.int .i64 n).wf = true) : -9223372036854775808 ≤ n ∧ n < 9223372036854775808 := by
  simp only [Lit.wf, Bool.and_eq_true, decide_eq_true_eq] at h
  have e1 : IntKind.i64.min = -9223372036854775808 := by decide
  have e2 : IntKind.i64.max = 9223372036854775807 := by decide
  rw [e1, e2] at h
  omega

theorem own_knob : ownKnob Tryz.prog.godebug = none := by kernel_rfl

/-- The door's own heap meets the condition. -/
theorem door_met (os : Os) (args : Array Value) : laidMetH Tryz.prog Rows.loopedRow.laid ((World.doorLaid Tryz.prog 77 os).forCall (fun _ _ => 0) ⟨#[], args, []⟩).memory :=
  laidMetH_of_parts3 (fuel := 8) (laidMet_of_run' 8 (by kernel_rfl) (by kernel_rfl)) (by kernel_rfl) (by kernel_rfl)

set_option maxRecDepth 100000 in
theorem looped_lifted (os : Os) (started : os.Started) (H : Type) (enc : TypeId × Value → H) :
    ReturnsInHanded {} Tryz.checked os 3 .any (fun w args => (Rows.loopedSpec.pre enc Tryz.prog Tryz.f3 [] false w args ∧ laidMetH Tryz.prog Rows.loopedRow.laid w) ∧ sizedMet enc Tryz.prog Tryz.f3 (OpenSpec.ofChange Rows.loopedSpec) false w args)
      (Rows.loopedSpec.post enc Tryz.prog Tryz.f3 false true false false) := by
  refine returnsInHanded_of_change_and (C := Tryz.checked) (X := fun w _ => laidMetH Tryz.prog Rows.loopedRow.laid w) (fun _ _ _ hh h => h.of_heap hh) own_knob started (by kernel_rfl) Tryz.func3
    (ChangeSpec.witness_shaped (enc := enc) (C := Tryz.checked) (os := os) (X := fun w _ => laidMetH Tryz.prog Rows.loopedRow.laid w) false (World.doorLaid Tryz.prog 77 os) #[.int .i64 0, .int .i64 0] 8 rfl (World.shaped_of_RefB (by kernel_rfl) (by kernel_rfl)) (by kernel_rfl) (by kernel_rfl) (by kernel_rfl) (door_met os _)) ?_
  intro W base args ds gs before hval0 hW _ _ hL _
  have hval : ∀ (j : Nat) t v, Tryz.f3.params[j]? = some t → args[j]? = some v → Value.okWide Tryz.prog W .any base t v := hval0
  have hW' := hW
  obtain ⟨p, q, hA0, hV, rfl, hfz, _⟩ := hW
  have hA : DataW.TrodAll enc Tryz.prog W 0 (fun _ => true) true Tryz.f3.params.toList args.toList ds p := hA0
  rw [Tryz.params3] at hA hval
  obtain ⟨v0, v1, d0, d1, p0, p1, rfl, rfl, rfl, h0, h1⟩ := trodAll_two hA
  obtain ⟨rfl, rfl⟩ := trodVars_none hV
  obtain ⟨n, rfl, rfl, rfl, wn⟩ := open_int Tryz.underlying3 (hval 0 3 v0 rfl rfl) h0
  obtain ⟨u, rfl, rfl, rfl, wu⟩ := open_int Tryz.underlying3 (hval 1 3 v1 rfl rfl) h1
  clear hA0 hval0
  simp only [List.append_nil] at hW'
  refine (looped_all (wf_rng wn).1 (wf_rng wu).1 hL).mono fun e W' ⟨he, hk⟩ => ?_
  subst he
  refine ⟨_, rfl, _, _, _, [], [], [], hW', ?_, ?_, ?_, hk _, fun h => by cases h⟩
  · exact trodAll_mk1 (shut_bool Tryz.underlying4 true)
  · exact trodAll_mk2 (shut_int Tryz.underlying3 wn) (shut_int Tryz.underlying3 wu)
  · rfl
end Go.Proofs.YtkpfafehcmammaaGreatDoor
