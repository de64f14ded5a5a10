/-
  Part 10 of the proof: Names6.
-/
import Derived.Test.YtgkpkngchploiaaGreatPart09
/-
  The parts of the section of names.
-/
namespace Go.Proofs.YtgkpkngchploiaaGreat
open Go.RowKit

/-- The names of functions. -/
def funcNamesM (m : Mdl) (s : ByteArray) (n i : Nat) : Except Err (Mdl × Nat) :=
  match namesOfM m.funcs.length s n i with
  | .error e => .error e
  | .ok (xs, j) => .ok ({ m with nfuncs := xs }, j)

set_option maxRecDepth 100000 in
set_option maxHeartbeats 3200000 in
theorem takeNamesA_any {w : World} {b mb B c0 c1 : Nat} {s : ByteArray} {i n : Nat} {m : Mdl} (h : Rd w b s i n) (hm : ModAt s (fun g => B ≤ g) w b mb m) (hb : b < B) (hmb : mb < B) (hB : B ≤ w.heap.size) (hfn : m.funcs.length ≤ 20)
    (hc1 : c1 ≠ b) (q0 : w.cell? ⟨c0, 0, none⟩ = some (.pointer (some ⟨b, 0, none⟩))) (q1 : w.cell? ⟨c1, 0, none⟩ = some (.pointer (some ⟨mb, 0, none⟩))) :
    Calls Tryz.prog 76 #[.pointer (some ⟨c0, 0, none⟩), .pointer (some ⟨c1, 0, none⟩)] w (OutS (both b mb) w b s n (isMod s B b mb) (funcNamesM m s n i)) := by
  obtain ⟨f, oM, hH⟩ := hm
  obtain ⟨F1, G1⟩ := oM.blk.twelve.1.2.1
  obtain ⟨F10, G10⟩ := oM.blk.twelve.2.2.2.2.2.1
  obtain ⟨p1, c1', hf1⟩ := Row.shape hH.h1
  rw [hf1] at F1
  have HH := hide hH
  clear hH
  have hne : mb ≠ b := oM.ne
  have hmr : mb < w.drew.heap.size := oM.lt
  have hc1w : c1 < w.drew.heap.size := World.block_lt_of_cell? _ _ q1
  go_enter Tryz.func76, Tryz.ntmps76
  cases hu : namesOfM m.funcs.length s n i with
  | error qp =>
    obtain ⟨q, p⟩ := qp
    have HU := hide hu
    clear hu
    go_wp2_with fail
    go_region_dies
    all_goals
      refine (namesOf_err m.funcs.length rfl ?_ (by omega) HU.out).mono ?_
      · exact h.drew
      rintro e w3 ⟨rfl, hx3⟩
      exact ⟨rfl, OutS.err_mk (by simp [funcNamesM, HU.out]) ((Kept.refl _ _).drew.trans hx3.both_of)⟩
  | ok xj =>
    obtain ⟨x, j3⟩ := xj
    have HU := hide hu
    clear hu
    go_wp2_with fail
    go_region_law (first
        | (refine step_call (f := 77) (args := #[.pointer (some ⟨b, 0, none⟩), .int .i64 (m.funcs.length : Nat)]) (by rfl) (by go_simp) (namesOf_ok m.funcs.length rfl h.drew (by omega) HU.out) ?_; rintro e w3 ⟨⟨px, cx, rfl, hnew⟩, hrd3, hx3⟩; refine ⟨_, rfl, ?_⟩; have q10 : w3.cell? ⟨mb, 10, none⟩ = some f.v10 := (hx3.other hmr hne).trans F10; have f10 : w3.frozen? ⟨mb, 10, none⟩ = false := (hx3.other_frozen hmr hne).trans G10; have q13 : w3.cell? ⟨c1, 0, none⟩ = some (.pointer (some ⟨mb, 0, none⟩)) := (hx3.other hc1w hc1).trans q1))
    all_goals
      go_wp2
      go_end0
      have hk3 : Kept (both b mb) w w3 := (Kept.refl _ _).drew.trans hx3.both_of
      have hI3 := (oM.drew.call hx3).set 10 (.slice px x.length cx)
      have hk0 := HH.out.kept (hk3.own2 (o := 10) (.slice px x.length cx)) (fun g _ hg hh => hh.elim (fun e => by omega) (fun e => by omega))
      have hnew3 := Row.mono (Row.other hnew (g := mb) (o := 10) (fun k hk => by have := oM.lt; have hk : w.heap.size ≤ k := hk; omega) (.slice px x.length cx)) (ok' := fun g => B ≤ g) (fun g _ hg => by have hg : w.heap.size ≤ g := hg; omega)
      refine OutS.ok_mk (x := { m with nfuncs := x }) (j := j3) (by simp [funcNamesM, HU.out]) (hk3.own2 _) ⟨rfl, { f with v10 := .slice px x.length cx }, hI3, ?_⟩ (hrd3.set_other hne _)
      exact ⟨hk0.h0, hk0.h1, hk0.h2, hk0.h3, hk0.h4, hk0.h5, hk0.h6, hk0.h7, hk0.h8, hk0.h9, hnew3, hk0.h11, hk0.nil6, hk0.nil8, hk0.nil11⟩

end Go.Proofs.YtgkpkngchploiaaGreat
