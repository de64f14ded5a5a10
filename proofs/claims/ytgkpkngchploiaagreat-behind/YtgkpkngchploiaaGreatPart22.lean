/-
  Part 22 of the proof: Fit5, Fit6, Fit7, Face1.
-/
import Derived.Test.YtgkpkngchploiaaGreatPart21
import Derived.Test.YtgkpkngchploiaaGreatPart17
import Derived.Test.YtgkpkngchploiaaGreatPart15
import Derived.Test.YtgkpkngchploiaaGreatPart03
import Derived.Test.YtgkpkngchploiaaGreatPart02
import Derived.Defers
import Derived.Recover
import Derived.Laws.Pointers
import Derived.BigRegion
/-
  checkStart.
-/
namespace Go.Proofs.YtgkpkngchploiaaGreat
open Go.RowKit

theorem wpOp_plain {P : Program} {ops : Array Oper} {Q : Exit → Act → World → Prop} {i : Nat} {K : Act → World → Prop} {a : Act} {w : World} {o : Oper} (ho : ops[i]? = some o) (hgd : o.guard = none) (h : o.wp P a w K Q) : wpOp P ops Q i K a w := by
  have hw : Region.wanted o (yielded ops a.tmps) = true := by simp [Region.wanted, hgd]
  unfold wpOp
  rw [ho]
  simp only [hw, if_true]
  exact .inl h

section
variable {K : Nat → Prop} {w : World} {mb : Nat} {s : ByteArray} {m : Mdl}

theorem startFit_bad {xi : Int} {xp : Nat} (h : ¬ xi < (m.funcs.length : Int)) : startFit m (xi, xp) = .error (3, xp) := by
  simp [startFit, thereM, h]

theorem startFit_ok {f xp : Nat} (h : f < m.funcs.length) : startFit m ((f : Int), xp) = if (typeOfM m f).ins.length = 0 ∧ (typeOfM m f).outs.length = 0 then .ok () else .error (4, xp) := by
  simp [startFit, thereM, h]

set_option maxRecDepth 100000 in
set_option maxHeartbeats 6400000 in
theorem checkStart_any (hm : MV s K w mb m) (hl : m.starts.length ≤ 50) (hx : ∀ x ∈ m.starts, 0 ≤ x.1 ∧ x.1 ≤ 4294967295) (hfs : ∀ x ∈ m.funcs, 0 ≤ x.1 ∧ x.1 < (m.types.length : Int)) :
    Calls Tryz.prog 23 #[.pointer (some ⟨mb, 0, none⟩)] w (Looks w (eachM (startFit m) m.starts)) := by
  have hmw := hm.lt
  have HMV := hide hm
  obtain ⟨hK, fl, hM, hH⟩ := hm
  obtain ⟨F, G⟩ := hM.twelve.2.1
  obtain ⟨F1, G1⟩ := hM.twelve.1.2.1
  obtain ⟨p, c, hf⟩ := Row.shape hH.h6
  obtain ⟨p1, c1, hf1⟩ := Row.shape hH.h1
  have hr := hH.h6
  rw [hf] at F hr
  rw [hf1] at F1
  have HX := hide hx
  have HFS := hide hfs
  clear hH hM hf hf1 hx hfs hK G G1
  have H0 : Hid (eachM (startFit m) m.starts = eachM (startFit m) (m.starts.drop 0)) := by show _ = _; simp
  go_enter Tryz.func23, Tryz.ntmps23
  go_wp2
  go_loopw [10] (fun q wr => ∃ k : Nat, k ≤ m.starts.length ∧ q = .int .i64 k ∧ Kept (fun _ => False) w wr ∧ eachM (startFit m) m.starts = eachM (startFit m) (m.starts.drop k)) (fun q _ => m.starts.length - (intOf q).toNat)
  case atStart => exact ⟨0, Nat.zero_le _, rfl, Kept.refl _ _, H0.out⟩
  case round =>
    obtain ⟨k, hk, rfl, hkp, hme⟩ := hrel
    have HE := hide hme
    clear hme H0
    by_cases hlt : k < m.starts.length
    · have hlt' : (k : Int) < (m.starts.length : Int) := by omega
      have hrr : isRow 62 2 numCells K m.starts wr (.slice p m.starts.length c) := Row.kept hr hkp (fun _ _ _ hc => hc)
      obtain ⟨g, cap, hv, -, hgl, hcap, hcell⟩ := Row.cells hrr (by omega)
      cases hv
      have hy : m.starts[k]? = some m.starts[k] := List.getElem?_eq_getElem hlt
      have HB := hide (fun e => eachM_bad (f := startFit m) (e := e) hlt)
      have HO := hide (eachM_ok (f := startFit m) hlt)
      have d0 : wr.cell? ⟨g, k * 2, none⟩ = some (.int .u32 m.starts[k].1) := (hcell (k * 2) (by omega)).trans (flat_get (m := 2) (o := 0) (fun _ => rfl) hy (by omega))
      have d1 : wr.cell? ⟨g, k * 2 + 1, none⟩ = some (.int .i64 (m.starts[k].2 : Nat)) := (hcell (k * 2 + 1) (by omega)).trans (flat_get (m := 2) (o := 1) (fun _ => rfl) hy (by omega))
      have hxk := HX.out _ (List.getElem_mem hlt)
      have F1r := (hkp.cell (p := ⟨mb, 1, none⟩) hmw (fun c => c)).trans F1
      have hmr : mb < wr.heap.size := Nat.lt_of_lt_of_le hmw hkp.size
      clear hcell hrr hy
      generalize m.starts[k] = x at *
      obtain ⟨xi, xp⟩ := x
      simp only at d0 d1 hxk HB HO
      obtain ⟨hx0, hx1⟩ := hxk
      have kp1 : Kept (fun _ => False) w (wr.alloc (.cells #[.int .u32 xi, .int .i64 (xp : Nat)] 62)) := hkp.alloc _
      have hm1 : mb < wr.heap.size + 1 := by omega
      have hm2 : mb < wr.heap.size + 1 + 1 := by omega
      have hwz := hkp.size
      have kr1 : Kept (fun _ => False) wr (wr.alloc (.cells #[.int .u32 xi, .int .i64 (xp : Nat)] 62)) := (Kept.refl _ _).alloc _
      have hsr : wr.heap.size < (wr.alloc (.cells #[.int .u32 xi, .int .i64 (xp : Nat)] 62)).heap.size := by simp
      have HS : Hid (∀ w', Kept (fun _ => False) (wr.alloc (.cells #[.int .u32 xi, .int .i64 (xp : Nat)] 62)) w' → (fun w' : World => w'.cell? ⟨wr.heap.size, 0, none⟩ = some (.int .u32 xi) ∧ w'.cell? ⟨wr.heap.size, 1, none⟩ = some (.int .i64 (xp : Nat)) ∧ w'.cell? ⟨mb, 1, none⟩ = some (.slice p1 m.funcs.length c1)) w') := fun w' hk => ⟨(hk.cell (p := ⟨wr.heap.size, 0, none⟩) hsr (fun c => c)).trans (by simp), (hk.cell (p := ⟨wr.heap.size, 1, none⟩) hsr (fun c => c)).trans (by simp), ((kr1.trans hk).cell (p := ⟨mb, 1, none⟩) hmr (fun c => c)).trans F1r⟩
      have HH0 := hide (HS.out _ ((Kept.refl _ _).drew))
      by_cases hth : xi < (m.funcs.length : Int)
      · obtain ⟨f, rfl⟩ : ∃ f : Nat, xi = (f : Int) := ⟨xi.toNat, by omega⟩
        have hfl : f < m.funcs.length := by omega
        have HFX := hide (HFS.out _ (List.getElem_mem hfl))
        have HTY : Hid (∀ W, Kept (fun _ => False) (wr.alloc (.cells #[.int .u32 (f : Int), .int .i64 (xp : Nat)] 62)) W → Calls Tryz.prog 37 #[.pointer (some ⟨mb, 0, none⟩), .int .i64 (f : Nat)] W fun e w' => Kept (fun _ => False) W w' ∧ ∃ pi ci po co, e = .returned (.agg #[.slice pi (typeOfM m f).ins.length ci, .slice po (typeOfM m f).outs.length co])) := fun W hk => by
          refine (typeOf_any f (HMV.out.kept (kp1.trans hk) (fun _ _ _ c => c)) hfl HFX.out).mono ?_
          rintro e w' ⟨hk', v, rfl, vi, vo, rfl, k1, k2⟩
          obtain ⟨pi, ci, rfl⟩ := Row.shape k1
          obtain ⟨po, co, rfl⟩ := Row.shape k2
          exact ⟨hk', pi, ci, po, co, rfl⟩
        have HFT : Hid (startFit m ((f : Int), xp) = if (typeOfM m f).ins.length = 0 ∧ (typeOfM m f).outs.length = 0 then .ok () else .error (4, xp)) := startFit_ok hfl
        generalize (typeOfM m f).ins.length = a1 at *
        generalize (typeOfM m f).outs.length = a2 at *
        go_wp2_with fail
        refine wp_region_held_drew (S := fun w' : World => w'.cell? ⟨wr.heap.size, 0, none⟩ = some (.int .u32 (f : Int)) ∧ w'.cell? ⟨wr.heap.size, 1, none⟩ = some (.int .i64 (xp : Nat)) ∧ w'.cell? ⟨mb, 1, none⟩ = some (.slice p1 m.funcs.length c1)) (by kernel_rfl) HH0.out (fun _ => ?_)
        refine tkh 0 HH0.out (h := ?_)
        refine tkh 1 HH0.out (h := ?_)
        refine tkh 2 HH0.out (h := ?_)
        refine tkh 3 HH0.out (h := ?_)
        refine tkh 4 HH0.out (h := ?_)
        refine tkh 5 HH0.out (h := ?_)
        refine tkh 6 HH0.out (h := ?_)
        refine wpAnyH_all (rs := [7, 9]) (by kernel_rfl) (by simp) ?_
        intro i hi
        have hi2 : i = 7 ∨ i = 9 := by simpa using hi
        clear hi
        rcases hi2 with rfl | rfl
        · refine wpOp_calls (f := 19) (args := #[.agg #[.int .u32 (f : Int), .int .i64 (xp : Nat)], .int .i64 (m.funcs.length : Nat)]) rfl rfl (by kernel_rfl) (there_ok _ hth hx0 hx1) ?_
          rintro ee w2 ⟨rfl, rfl⟩
          have k2 : Kept (fun _ => False) (wr.alloc (.cells #[.int .u32 (f : Int), .int .i64 (xp : Nat)] 62)) (((wr.alloc (.cells #[.int .u32 (f : Int), .int .i64 (xp : Nat)] 62)).drew).alloc (.cells #[.int .u32 (f : Int), .int .i64 (xp : Nat)] 62)) := ((Kept.refl _ _).drew).alloc _
          refine .inl ⟨_, rfl, HS.out _ k2, ?_⟩
          refine wpAnyH_all (rs := [8, 9]) (by kernel_rfl) (by simp) ?_
          intro i hi
          have hi2 : i = 8 ∨ i = 9 := by simpa using hi
          clear hi
          rcases hi2 with rfl | rfl
          · refine wpOp_calls (f := 37) (args := #[.pointer (some ⟨mb, 0, none⟩), .int .i64 (f : Nat)]) rfl rfl (by kernel_rfl) (HTY.out _ k2) ?_
            rintro ee w3 ⟨hk3, pi, ci, po, co, rfl⟩
            have k3 := k2.trans hk3
            have hs3 := Nat.lt_of_lt_of_le hsr k3.size
            have hm3 := Nat.lt_of_lt_of_le (Nat.lt_of_lt_of_le hmr kr1.size) k3.size
            obtain ⟨q0, q1, q2⟩ := HS.out _ k3
            refine .inl ⟨_, rfl, HS.out _ k3, ?_⟩
            refine wpAnyH_all (rs := [9]) (by kernel_rfl) (by simp) ?_
            intro i hi
            rw [List.mem_singleton] at hi
            subst hi
            refine wpOp_plain rfl rfl ?_
            go_wp2
            refine wpAnyH_all (rs := [10]) (by kernel_rfl) (by simp) ?_
            intro i hi
            rw [List.mem_singleton] at hi
            subst hi
            refine wpOp_plain rfl rfl ?_
            go_wp2
            refine wpAnyH_done (by kernel_rfl) ?_ _
            cases a1 with
            | zero =>
              cases a2 with
              | zero =>
                have HN := hide (HE.out.trans (HO.out (by rw [HFT.out, if_pos ⟨rfl, rfl⟩])))
                clear HB HO HE HFT HTY
                go_wp2
                go_roundw
                case rel => exact ⟨k + 1, by omega, by go_num, (kp1.trans k3).alloc _, HN.out⟩
                case measure => simp [intOf]; omega
              | succ b =>
                have HN : Hid (eachM (startFit m) m.starts = .error (4, xp)) := HE.out.trans (HB.out _ (by rw [HFT.out, if_neg (by omega)]))
                have hb : (0 : Int) < (b : Int) + 1 := by omega
                clear HB HO HE HFT HTY
                go_wp2_with fail
                refine (giveUp_any _ _ _).mono ?_
                rintro e w9 ⟨rfl, rfl⟩
                exact ⟨rfl, Says.err_mk HN.out ((kp1.trans k3).alloc _)⟩
            | succ b =>
              have HN : Hid (eachM (startFit m) m.starts = .error (4, xp)) := HE.out.trans (HB.out _ (by rw [HFT.out, if_neg (by omega)]))
              have hb : (0 : Int) < (b : Int) + 1 := by omega
              clear HB HO HE HFT HTY
              go_wp2_with fail
              refine (giveUp_any _ _ _).mono ?_
              rintro e w9 ⟨rfl, rfl⟩
              exact ⟨rfl, Says.err_mk HN.out ((kp1.trans k3).alloc _)⟩
          · refine wpOp_plain rfl rfl ?_
            go_wp2
            refine wpAnyH_all (rs := [8]) (by kernel_rfl) (by simp) ?_
            intro i hi
            rw [List.mem_singleton] at hi
            subst hi
            refine wpOp_calls (f := 37) (args := #[.pointer (some ⟨mb, 0, none⟩), .int .i64 (f : Nat)]) rfl rfl (by kernel_rfl) (HTY.out _ ((((Kept.refl _ _).alloc _).alloc _).drew)) ?_
            rintro ee w3 ⟨hk3, pi, ci, po, co, rfl⟩
            have kA : Kept (fun _ => False) (wr.alloc (.cells #[.int .u32 (f : Int), .int .i64 (xp : Nat)] 62)) w3 := ((((Kept.refl _ _).alloc _).alloc _).drew).trans hk3
            have hs3 := Nat.lt_of_lt_of_le hsr kA.size
            have hm3 := Nat.lt_of_lt_of_le (Nat.lt_of_lt_of_le hmr kr1.size) kA.size
            obtain ⟨q0, q1, q2⟩ := HS.out _ kA
            have hz3 := hk3.size
            simp at hz3
            have T0 : w3.cell? ⟨wr.heap.size + 1 + 1, 0, none⟩ = some (.slice none 0 0) := (hk3.cell (p := ⟨wr.heap.size + 1 + 1, 0, none⟩) (by simp) (fun c => c)).trans (by simp [go_sem])
            have T1 : w3.cell? ⟨wr.heap.size + 1 + 1, 1, none⟩ = some (.slice none 0 0) := (hk3.cell (p := ⟨wr.heap.size + 1 + 1, 1, none⟩) (by simp) (fun c => c)).trans (by simp [go_sem])
            have U0 : w3.frozen? ⟨wr.heap.size + 1 + 1, 0, none⟩ = false := (hk3.frozen (p := ⟨wr.heap.size + 1 + 1, 0, none⟩) (by simp) (fun c => c)).trans (by simp [go_sem])
            have U1 : w3.frozen? ⟨wr.heap.size + 1 + 1, 1, none⟩ = false := (hk3.frozen (p := ⟨wr.heap.size + 1 + 1, 1, none⟩) (by simp) (fun c => c)).trans (by simp [go_sem])
            have hne1 : ¬ wr.heap.size + 1 + 1 = wr.heap.size := by omega
            have hne2 : ¬ wr.heap.size + 1 + 1 = mb := by omega
            refine .inl ⟨_, rfl, HS.out _ kA, ?_⟩
            refine wpAnyH_all (rs := [10]) (by kernel_rfl) (by simp) ?_
            intro i hi
            rw [List.mem_singleton] at hi
            subst hi
            refine wpOp_plain rfl rfl ?_
            go_wp2
            refine wpAnyH_done (by kernel_rfl) ?_ _
            cases a1 with
            | zero =>
              cases a2 with
              | zero =>
                have HN := hide (HE.out.trans (HO.out (by rw [HFT.out, if_pos ⟨rfl, rfl⟩])))
                clear HB HO HE HFT HTY
                go_wp2
                go_roundw
                case rel => exact ⟨k + 1, by omega, by go_num, ((kp1.trans kA).setCell (p := ⟨wr.heap.size + 1 + 1, 0, none⟩) (fun h => absurd h (by simp; omega)) _).setCell (p := ⟨wr.heap.size + 1 + 1, 1, none⟩) (fun h => absurd h (by simp; omega)) _, HN.out⟩
                case measure => simp [intOf]; omega
              | succ b =>
                have HN : Hid (eachM (startFit m) m.starts = .error (4, xp)) := HE.out.trans (HB.out _ (by rw [HFT.out, if_neg (by omega)]))
                have hb : (0 : Int) < (b : Int) + 1 := by omega
                clear HB HO HE HFT HTY
                go_wp2_with fail
                refine (giveUp_any _ _ _).mono ?_
                rintro e w9 ⟨rfl, rfl⟩
                exact ⟨rfl, Says.err_mk HN.out (((kp1.trans kA).setCell (p := ⟨wr.heap.size + 1 + 1, 0, none⟩) (fun h => absurd h (by simp; omega)) _).setCell (p := ⟨wr.heap.size + 1 + 1, 1, none⟩) (fun h => absurd h (by simp; omega)) _)⟩
            | succ b =>
              have HN : Hid (eachM (startFit m) m.starts = .error (4, xp)) := HE.out.trans (HB.out _ (by rw [HFT.out, if_neg (by omega)]))
              have hb : (0 : Int) < (b : Int) + 1 := by omega
              clear HB HO HE HFT HTY
              go_wp2_with fail
              refine (giveUp_any _ _ _).mono ?_
              rintro e w9 ⟨rfl, rfl⟩
              exact ⟨rfl, Says.err_mk HN.out (((kp1.trans kA).setCell (p := ⟨wr.heap.size + 1 + 1, 0, none⟩) (fun h => absurd h (by simp; omega)) _).setCell (p := ⟨wr.heap.size + 1 + 1, 1, none⟩) (fun h => absurd h (by simp; omega)) _)⟩
        · refine wpOp_plain rfl rfl ?_
          go_wp2
          refine wpAnyH_all (rs := [7]) (by kernel_rfl) (by simp) ?_
          intro i hi
          rw [List.mem_singleton] at hi
          subst hi
          refine wpOp_calls (f := 19) (args := #[.agg #[.int .u32 (f : Int), .int .i64 (xp : Nat)], .int .i64 (m.funcs.length : Nat)]) rfl rfl (by kernel_rfl) (there_ok _ hth hx0 hx1) ?_
          rintro ee w2 ⟨rfl, rfl⟩
          have k2 : Kept (fun _ => False) (wr.alloc (.cells #[.int .u32 (f : Int), .int .i64 (xp : Nat)] 62)) ((((wr.alloc (.cells #[.int .u32 (f : Int), .int .i64 (xp : Nat)] 62)).alloc (.cells #[.slice none 0 0, .slice none 0 0] 85)).drew).alloc (.cells #[.int .u32 (f : Int), .int .i64 (xp : Nat)] 62)) := (((Kept.refl _ _).alloc _).drew).alloc _
          refine .inl ⟨_, rfl, HS.out _ k2, ?_⟩
          refine wpAnyH_all (rs := [8]) (by kernel_rfl) (by simp) ?_
          intro i hi
          rw [List.mem_singleton] at hi
          subst hi
          refine wpOp_calls (f := 37) (args := #[.pointer (some ⟨mb, 0, none⟩), .int .i64 (f : Nat)]) rfl rfl (by kernel_rfl) (HTY.out _ k2) ?_
          rintro ee w3 ⟨hk3, pi, ci, po, co, rfl⟩
          have kA := k2.trans hk3
          have hs3 := Nat.lt_of_lt_of_le hsr kA.size
          have hm3 := Nat.lt_of_lt_of_le (Nat.lt_of_lt_of_le hmr kr1.size) kA.size
          obtain ⟨q0, q1, q2⟩ := HS.out _ kA
          have hz3 := hk3.size
          simp at hz3
          have T0 : w3.cell? ⟨wr.heap.size + 1, 0, none⟩ = some (.slice none 0 0) := (hk3.cell (p := ⟨wr.heap.size + 1, 0, none⟩) (by simp) (fun c => c)).trans (by simp [go_sem])
          have T1 : w3.cell? ⟨wr.heap.size + 1, 1, none⟩ = some (.slice none 0 0) := (hk3.cell (p := ⟨wr.heap.size + 1, 1, none⟩) (by simp) (fun c => c)).trans (by simp [go_sem])
          have U0 : w3.frozen? ⟨wr.heap.size + 1, 0, none⟩ = false := (hk3.frozen (p := ⟨wr.heap.size + 1, 0, none⟩) (by simp) (fun c => c)).trans (by simp [go_sem])
          have U1 : w3.frozen? ⟨wr.heap.size + 1, 1, none⟩ = false := (hk3.frozen (p := ⟨wr.heap.size + 1, 1, none⟩) (by simp) (fun c => c)).trans (by simp [go_sem])
          have hne1 : ¬ wr.heap.size + 1 = wr.heap.size := by omega
          have hne2 : ¬ wr.heap.size + 1 = mb := by omega
          refine .inl ⟨_, rfl, HS.out _ kA, ?_⟩
          refine wpAnyH_all (rs := [10]) (by kernel_rfl) (by simp) ?_
          intro i hi
          rw [List.mem_singleton] at hi
          subst hi
          refine wpOp_plain rfl rfl ?_
          go_wp2
          refine wpAnyH_done (by kernel_rfl) ?_ _
          cases a1 with
          | zero =>
            cases a2 with
            | zero =>
              have HN := hide (HE.out.trans (HO.out (by rw [HFT.out, if_pos ⟨rfl, rfl⟩])))
              clear HB HO HE HFT HTY
              go_wp2
              go_roundw
              case rel => exact ⟨k + 1, by omega, by go_num, ((kp1.trans kA).setCell (p := ⟨wr.heap.size + 1, 0, none⟩) (fun h => absurd h (by simp; omega)) _).setCell (p := ⟨wr.heap.size + 1, 1, none⟩) (fun h => absurd h (by simp; omega)) _, HN.out⟩
              case measure => simp [intOf]; omega
            | succ b =>
              have HN : Hid (eachM (startFit m) m.starts = .error (4, xp)) := HE.out.trans (HB.out _ (by rw [HFT.out, if_neg (by omega)]))
              have hb : (0 : Int) < (b : Int) + 1 := by omega
              clear HB HO HE HFT HTY
              go_wp2_with fail
              refine (giveUp_any _ _ _).mono ?_
              rintro e w9 ⟨rfl, rfl⟩
              exact ⟨rfl, Says.err_mk HN.out (((kp1.trans kA).setCell (p := ⟨wr.heap.size + 1, 0, none⟩) (fun h => absurd h (by simp; omega)) _).setCell (p := ⟨wr.heap.size + 1, 1, none⟩) (fun h => absurd h (by simp; omega)) _)⟩
          | succ b =>
            have HN : Hid (eachM (startFit m) m.starts = .error (4, xp)) := HE.out.trans (HB.out _ (by rw [HFT.out, if_neg (by omega)]))
            have hb : (0 : Int) < (b : Int) + 1 := by omega
            clear HB HO HE HFT HTY
            go_wp2_with fail
            refine (giveUp_any _ _ _).mono ?_
            rintro e w9 ⟨rfl, rfl⟩
            exact ⟨rfl, Says.err_mk HN.out (((kp1.trans kA).setCell (p := ⟨wr.heap.size + 1, 0, none⟩) (fun h => absurd h (by simp; omega)) _).setCell (p := ⟨wr.heap.size + 1, 1, none⟩) (fun h => absurd h (by simp; omega)) _)⟩
      · have HN := hide (HE.out.trans (HB.out _ (startFit_bad hth)))
        have hge : (m.funcs.length : Int) ≤ xi := by omega
        clear HB HO HE
        go_wp2_with fail
        refine wp_region_held_drew (S := fun w' : World => w'.cell? ⟨wr.heap.size, 0, none⟩ = some (.int .u32 xi) ∧ w'.cell? ⟨wr.heap.size, 1, none⟩ = some (.int .i64 (xp : Nat)) ∧ w'.cell? ⟨mb, 1, none⟩ = some (.slice p1 m.funcs.length c1)) (by kernel_rfl) HH0.out (fun _ => ?_)
        refine tkh 0 HH0.out (h := ?_)
        refine tkh 1 HH0.out (h := ?_)
        refine tkh 2 HH0.out (h := ?_)
        refine tkh 3 HH0.out (h := ?_)
        refine tkh 4 HH0.out (h := ?_)
        refine tkh 5 HH0.out (h := ?_)
        refine tkh 6 HH0.out (h := ?_)
        refine wpAnyH_all (rs := [7, 9]) (by kernel_rfl) (by simp) ?_
        intro i hi
        have hi2 : i = 7 ∨ i = 9 := by simpa using hi
        clear hi
        rcases hi2 with rfl | rfl
        · refine wpOp_dies (f := 19) (args := #[.agg #[.int .u32 xi, .int .i64 (xp : Nat)], .int .i64 (m.funcs.length : Nat)]) rfl rfl (by kernel_rfl) (there_bad _ hge hx0 hx1) ?_
          rintro e w2 ⟨rfl, rfl⟩
          refine ⟨_, rfl, ?_⟩
          exact ⟨rfl, Says.err_mk HN.out (kp1.drew.alloc _)⟩
        · refine wpOp_plain rfl rfl ?_
          go_wp2
          refine wpAnyH_all (rs := [7]) (by kernel_rfl) (by simp) ?_
          intro i hi
          rw [List.mem_singleton] at hi
          subst hi
          refine wpOp_dies (f := 19) (args := #[.agg #[.int .u32 xi, .int .i64 (xp : Nat)], .int .i64 (m.funcs.length : Nat)]) rfl rfl (by kernel_rfl) (there_bad _ hge hx0 hx1) ?_
          rintro e w2 ⟨rfl, rfl⟩
          refine ⟨_, rfl, ?_⟩
          exact ⟨rfl, Says.err_mk HN.out ((((hkp.alloc _).alloc _).drew).alloc _)⟩
    · have HN := hide (HE.out.trans (eachM_done hlt))
      clear HE
      go_wp2
      go_end0
      exact Says.ok_mk HN.out hkp rfl

end

end Go.Proofs.YtgkpkngchploiaaGreat
/-
  checkElements.
-/
namespace Go.Proofs.YtgkpkngchploiaaGreat
open Go.RowKit

section
variable {K : Nat → Prop} {w : World} {mb : Nat} {s : ByteArray} {m : Mdl}

/-- An element, by its index. -/
theorem elems_cell {ts : List Elm} {v : Value} (h : isLst 88 5 elElm K ts w v) {k : Nat} (hk : k < ts.length) :
    ∃ g cap lv, v = .slice (some ⟨g, 0, none⟩) ts.length cap ∧ g < w.heap.size ∧ ts.length ≤ cap ∧ isRow 62 2 numCells K ts[k].funcs w lv ∧ w.cell? ⟨g, k * 5, none⟩ = some (.int .i64 (ts[k].at_ : Nat)) ∧ w.cell? ⟨g, k * 5 + 1, none⟩ = some (.int .i64 (ts[k].place.at_ : Nat)) ∧
      w.cell? ⟨g, k * 5 + 2, none⟩ = some (.int .u8 (ts[k].place.kind : Nat)) ∧ w.cell? ⟨g, k * 5 + 3, none⟩ = some (.int .i64 ts[k].place.val) ∧ w.cell? ⟨g, k * 5 + 4, none⟩ = some lv := by
  obtain ⟨css, hrow, hea⟩ := h
  obtain ⟨g, cap, hv, -, hg, hc, hcell⟩ := Row.cells hrow (by omega)
  have hy : ts[k]? = some ts[k] := List.getElem?_eq_getElem hk
  obtain ⟨cs, hcs, ⟨⟨lv, rfl, h1⟩, -⟩⟩ := hea.get hy
  exact ⟨g, cap, lv, hv, hg, hc, h1, (hcell (k * 5) (by omega)).trans (Each.flat (o := 0) hea hcs (by omega)), (hcell (k * 5 + 1) (by omega)).trans (Each.flat (o := 1) hea hcs (by omega)), (hcell (k * 5 + 2) (by omega)).trans (Each.flat (o := 2) hea hcs (by omega)), (hcell (k * 5 + 3) (by omega)).trans (Each.flat (o := 3) hea hcs (by omega)), (hcell (k * 5 + 4) (by omega)).trans (Each.flat (o := 4) hea hcs (by omega))⟩

theorem elemFit_none {e : Elm} (h : m.tables.length = 0) : elemFit m e = .error (3, e.at_) := by simp [elemFit, h]

theorem elemFit_cst {e : Elm} {q : Err} (h : ¬ m.tables.length = 0) (hc : cstFit 127 e.place = .error q) : elemFit m e = .error q := by simp [elemFit, h, hc]

theorem elemFit_each {e : Elm} {u : Unit} (h : ¬ m.tables.length = 0) (hc : cstFit 127 e.place = .ok u) : elemFit m e = eachM (thereU m.funcs.length) e.funcs := by simp [elemFit, h, hc]

set_option maxRecDepth 100000 in
set_option maxHeartbeats 6400000 in
theorem checkElements_any {N : Nat} (hm : MV s K w mb m) (hl : m.elems.length ≤ 50) (hx : ∀ x ∈ m.elems, elmOk N x) :
    Calls Tryz.prog 24 #[.pointer (some ⟨mb, 0, none⟩)] w (Looks w (eachM (elemFit m) m.elems)) := by
  have hmw := hm.lt
  obtain ⟨p1, c1, p2, c2, -, -, -, -, F1, F2, -, -⟩ := hm.four
  obtain ⟨hK, fl, hM, hH⟩ := hm
  obtain ⟨F, -⟩ := hM.twelve.2.2.1
  have hr := hH.h7
  obtain ⟨p, c, hf⟩ : ∃ p c, fl.v7 = .slice p m.elems.length c := by
    obtain ⟨css, h, -⟩ := hr
    exact Row.shape h
  rw [hf] at F hr
  have HR := hide hr
  have HX := hide hx
  clear hH hM hf hx hK hr
  have H0 : Hid (eachM (elemFit m) m.elems = eachM (elemFit m) (m.elems.drop 0)) := by show _ = _; simp
  go_enter Tryz.func24, Tryz.ntmps24
  go_wp2
  go_loopw [11] (fun q wo => ∃ k : Nat, k ≤ m.elems.length ∧ q = .int .i64 k ∧ Kept (fun _ => False) w wo ∧ eachM (elemFit m) m.elems = eachM (elemFit m) (m.elems.drop k)) (fun q _ => m.elems.length - (intOf q).toNat)
  case atStart => exact ⟨0, Nat.zero_le _, rfl, Kept.refl _ _, H0.out⟩
  case round =>
    obtain ⟨k, hk, rfl, hkp, hme⟩ := hrel
    obtain ⟨wo, hwo⟩ : ∃ x, x = wr := ⟨wr, rfl⟩
    subst hwo
    have HE := hide hme
    clear hme H0
    by_cases hlt : k < m.elems.length
    · have hlt' : (k : Int) < (m.elems.length : Int) := by omega
      obtain ⟨g, cap, lv, hv, hgl, hcap, hfr, d0, d1, d2, d3, d4⟩ := elems_cell (HR.out.kept hkp (fun _ _ _ c => c) (fun _ _ e => e.kept hkp (fun _ _ _ c => c))) hlt
      cases hv
      obtain ⟨pf, cf, rfl⟩ := Row.shape hfr
      have HB := hide (fun e => eachM_bad (f := elemFit m) (e := e) hlt)
      have HO := hide (eachM_ok (f := elemFit m) hlt)
      have hxk := HX.out _ (List.getElem_mem hlt)
      have F1r := (hkp.cell (p := ⟨mb, 1, none⟩) hmw (fun c => c)).trans F1
      have F2r := (hkp.cell (p := ⟨mb, 2, none⟩) hmw (fun c => c)).trans F2
      have hmr : mb < wo.heap.size := Nat.lt_of_lt_of_le hmw hkp.size
      have HFR := hide hfr
      clear hfr
      generalize m.elems[k] = x at *
      obtain ⟨xa, ⟨xb, xk, xz⟩, fs⟩ := x
      simp only at d0 d1 d2 d3 d4 HFR
      have hfl20 : fs.length ≤ 20 := hxk.2.2.1
      have HFX : Hid (∀ y ∈ fs, 0 ≤ y.1 ∧ y.1 ≤ 4294967295) := fun y hy => ⟨(hxk.2.2.2 y hy).1, (hxk.2.2.2 y hy).2.1⟩
      clear hxk
      by_cases hz : m.tables.length = 0
      · have tz : ((m.tables.length : Int) == 0) = true := by rw [hz]; rfl
        have HN := hide (HE.out.trans (HB.out _ (elemFit_none hz)))
        clear HE HO HB hz
        go_wp2_with fail
        refine (giveUp_any _ _ _).mono ?_
        rintro e w3 ⟨rfl, rfl⟩
        exact ⟨rfl, Says.err_mk HN.out (hkp.alloc _)⟩
      · have tz : ((m.tables.length : Int) == 0) = false := beq_eq_false_iff_ne.2 (by omega)
        have HZ := hide hz
        clear hz
        go_wp2_with fail
        refine (checkConstant_any _ _ 127 _ _ rfl).mono ?_
        rintro e w2 ⟨hk2, hok, herr⟩
        have hk3 := (hkp.alloc (.cells #[.int .i64 (xa : Nat), .int .i64 (xb : Nat), .int .u8 (xk : Nat), .int .i64 xz, .slice pf fs.length cf] 88)).trans hk2
        have hkr : Kept (fun _ => False) wo w2 := ((Kept.refl _ _).alloc _).trans hk2
        cases ho : cstFit 127 ⟨xb, xk, xz⟩ with
        | error qp =>
          obtain ⟨q, pp⟩ := qp
          have he := herr _ _ ho
          subst he
          exact ⟨rfl, Says.err_mk (HE.out.trans (HB.out _ (elemFit_cst HZ.out ho))) hk3⟩
        | ok u =>
          obtain ⟨v, rfl, rfl⟩ := hok u ho
          have HEF := hide (elemFit_each (e := ⟨xa, ⟨xb, xk, xz⟩, fs⟩) HZ.out ho)
          have hwe : wo.heap.size < (wo.alloc (.cells #[.int .i64 (xa : Nat), .int .i64 (xb : Nat), .int .u8 (xk : Nat), .int .i64 xz, .slice pf fs.length cf] 88)).heap.size := by simp
          have V4 : w2.cell? ⟨wo.heap.size, 4, none⟩ = some (.slice pf fs.length cf) := (hk2.cell (p := ⟨wo.heap.size, 4, none⟩) hwe (fun c => c)).trans (by simp)
          have H1 : Hid (eachM (thereU m.funcs.length) fs = eachM (thereU m.funcs.length) (fs.drop 0)) := by show _ = _; simp
          clear hok herr ho
          go_wp2
          go_loopw [30] (fun q wr => ∃ i : Nat, i ≤ fs.length ∧ q = .int .i64 i ∧ Kept (fun _ => False) w2 wr ∧ eachM (thereU m.funcs.length) fs = eachM (thereU m.funcs.length) (fs.drop i)) (fun q _ => fs.length - (intOf q).toNat)
          case atStart => exact ⟨0, Nat.zero_le _, rfl, Kept.refl _ _, H1.out⟩
          case round =>
            obtain ⟨i, hi, rfl, hkv, hmi⟩ := hrel
            have HI := hide hmi
            clear hmi H1
            have hkv0 := hk3.trans hkv
            by_cases hil : i < fs.length
            · have hil' : (i : Int) < (fs.length : Int) := by omega
              have hry : isRow 62 2 numCells K fs wr (.slice pf fs.length cf) := Row.kept HFR.out (hkr.trans hkv) (fun _ _ _ hc => hc)
              obtain ⟨g', cap', hv', -, hgl', hcap', hcell'⟩ := Row.cells hry (by omega)
              cases hv'
              have hyi : fs[i]? = some fs[i] := List.getElem?_eq_getElem hil
              have HB1 := hide (fun e => eachM_bad (f := thereU m.funcs.length) (e := e) hil)
              have HO1 := hide (eachM_ok (f := thereU m.funcs.length) hil)
              have e0 : wr.cell? ⟨g', i * 2, none⟩ = some (.int .u32 fs[i].1) := (hcell' (i * 2) (by omega)).trans (flat_get (m := 2) (o := 0) (fun _ => rfl) hyi (by omega))
              have e1 : wr.cell? ⟨g', i * 2 + 1, none⟩ = some (.int .i64 (fs[i].2 : Nat)) := (hcell' (i * 2 + 1) (by omega)).trans (flat_get (m := 2) (o := 1) (fun _ => rfl) hyi (by omega))
              have hyk := HFX.out _ (List.getElem_mem hil)
              have F1v := ((hkr.trans hkv).cell (p := ⟨mb, 1, none⟩) hmr (fun c => c)).trans F1r
              have hmv : mb < wr.heap.size := Nat.lt_of_lt_of_le hmr (hkr.trans hkv).size
              clear hcell' hry hyi
              generalize fs[i] = y at *
              obtain ⟨yi, yp⟩ := y
              simp only at e0 e1 hyk HB1 HO1
              obtain ⟨hx0, hx1⟩ := hyk
              have kp1 : Kept (fun _ => False) w ((wr.alloc (.cells #[.int .u32 yi, .int .i64 (yp : Nat)] 62)).drew) := (hkv0.alloc _).drew
              have kq1 : Kept (fun _ => False) w2 ((wr.alloc (.cells #[.int .u32 yi, .int .i64 (yp : Nat)] 62)).drew) := (hkv.alloc _).drew
              have kr1 : Kept (fun _ => False) wr ((wr.alloc (.cells #[.int .u32 yi, .int .i64 (yp : Nat)] 62)).drew) := ((Kept.refl _ _).alloc _).drew
              have hsr : wr.heap.size < ((wr.alloc (.cells #[.int .u32 yi, .int .i64 (yp : Nat)] 62)).drew).heap.size := by simp
              have HS : Hid (∀ w', Kept (fun _ => False) ((wr.alloc (.cells #[.int .u32 yi, .int .i64 (yp : Nat)] 62)).drew) w' → (fun w' : World => w'.cell? ⟨wr.heap.size, 0, none⟩ = some (.int .u32 yi) ∧ w'.cell? ⟨wr.heap.size, 1, none⟩ = some (.int .i64 (yp : Nat)) ∧ w'.cell? ⟨mb, 1, none⟩ = some (.slice p1 m.funcs.length c1)) w') := fun w' hk => ⟨(hk.cell (p := ⟨wr.heap.size, 0, none⟩) hsr (fun c => c)).trans (by simp), (hk.cell (p := ⟨wr.heap.size, 1, none⟩) hsr (fun c => c)).trans (by simp), ((kr1.trans hk).cell (p := ⟨mb, 1, none⟩) hmv (fun c => c)).trans F1v⟩
              have HH0 := hide (HS.out _ (Kept.refl _ _))
              by_cases hth : yi < (m.funcs.length : Int)
              · have HN := hide (HI.out.trans (HO1.out (by simp [thereU, hth])))
                clear HB1 HO1 HI
                go_wp2_with fail
                refine wp_region_held_drew (S := fun w' : World => w'.cell? ⟨wr.heap.size, 0, none⟩ = some (.int .u32 yi) ∧ w'.cell? ⟨wr.heap.size, 1, none⟩ = some (.int .i64 (yp : Nat)) ∧ w'.cell? ⟨mb, 1, none⟩ = some (.slice p1 m.funcs.length c1)) (by kernel_rfl) HH0.out (fun _ => ?_)
                refine tkh 0 HH0.out (h := ?_)
                refine tkh 1 HH0.out (h := ?_)
                refine tkh 2 HH0.out (h := ?_)
                refine tkh 3 HH0.out (h := ?_)
                refine tkh 4 HH0.out (h := ?_)
                refine tkh 5 HH0.out (h := ?_)
                refine wpAnyH_all (rs := [6]) (by kernel_rfl) (by simp) ?_
                intro i hi
                rw [List.mem_singleton] at hi
                subst hi
                refine wpOp_calls (f := 19) (args := #[.agg #[.int .u32 yi, .int .i64 (yp : Nat)], .int .i64 (m.funcs.length : Nat)]) rfl rfl (by kernel_rfl) (there_ok _ hth hx0 hx1) ?_
                rintro ee w4 ⟨rfl, rfl⟩
                refine .inl ⟨_, rfl, HS.out _ ((Kept.refl _ _).alloc _), ?_⟩
                refine wpAnyH_done (by kernel_rfl) ?_ _
                dsimp only [Act.put, List.setIfInBounds_toArray, List.set_cons_zero, List.set_cons_succ]
                clear HH0 HS
                go_wp2
                go_roundw
                case rel => exact ⟨i + 1, by omega, by go_num, kq1.alloc _, HN.out⟩
                case measure => simp [intOf]; omega
              · have HN := hide (HE.out.trans (HB.out _ (HEF.out.trans (HI.out.trans (HB1.out (3, yp) (by simp [thereU, hth]))))))
                have hge : (m.funcs.length : Int) ≤ yi := by omega
                clear HB HO HB1 HO1 HI HE HEF
                go_wp2_with fail
                refine wp_region_held_drew (S := fun w' : World => w'.cell? ⟨wr.heap.size, 0, none⟩ = some (.int .u32 yi) ∧ w'.cell? ⟨wr.heap.size, 1, none⟩ = some (.int .i64 (yp : Nat)) ∧ w'.cell? ⟨mb, 1, none⟩ = some (.slice p1 m.funcs.length c1)) (by kernel_rfl) HH0.out (fun _ => ?_)
                refine tkh 0 HH0.out (h := ?_)
                refine tkh 1 HH0.out (h := ?_)
                refine tkh 2 HH0.out (h := ?_)
                refine tkh 3 HH0.out (h := ?_)
                refine tkh 4 HH0.out (h := ?_)
                refine tkh 5 HH0.out (h := ?_)
                refine wpAnyH_all (rs := [6]) (by kernel_rfl) (by simp) ?_
                intro i hi
                rw [List.mem_singleton] at hi
                subst hi
                refine wpOp_dies (f := 19) (args := #[.agg #[.int .u32 yi, .int .i64 (yp : Nat)], .int .i64 (m.funcs.length : Nat)]) rfl rfl (by kernel_rfl) (there_bad _ hge hx0 hx1) ?_
                rintro e w4 ⟨rfl, rfl⟩
                refine ⟨_, rfl, ?_⟩
                exact ⟨rfl, Says.err_mk HN.out (kp1.alloc _)⟩
            · have HN := hide (HE.out.trans (HO.out (HEF.out.trans (HI.out.trans (eachM_done hil)))))
              clear HB HO HI HE HEF
              go_wp2
              go_roundw
              case rel => exact ⟨k + 1, by omega, by go_num, hkv0, HN.out⟩
              case measure => simp [intOf]; omega
    · have HN := hide (HE.out.trans (eachM_done hlt))
      clear HE
      go_wp2
      go_end0
      exact Says.ok_mk HN.out hkp rfl

end

end Go.Proofs.YtgkpkngchploiaaGreat
/-
  fit.Check.
-/
namespace Go.Proofs.YtgkpkngchploiaaGreat
open Go.RowKit

theorem eachM_all {α : Type} {f : α → Except Err Unit} : ∀ {xs : List α}, eachM f xs = .ok () → ∀ x ∈ xs, f x = .ok ()
  | [], _, x, hx => by simp at hx
  | y :: ys, h, x, hx => by
    simp only [eachM] at h
    cases hy : f y with
    | error e => rw [hy] at h; cases h
    | ok u =>
      rw [hy] at h
      rcases List.mem_cons.1 hx with rfl | hx
      · exact hy
      · exact eachM_all h x hx

section
variable {K : Nat → Prop} {w : World} {mb : Nat} {s : ByteArray} {m : Mdl}

/-- The rest of what fits, once the types of the functions are there. -/
def restFit (s : ByteArray) (m : Mdl) : Except Err Unit :=
  thenM (eachM (limFit 20) m.tables) <|
  thenM (eachM (limFit 16) m.mems) <|
  thenM (eachM (fun g => cstFit g.kind g.first) m.globals) <|
  thenM (eachM (exportFit m) (List.range m.exports.length)) <|
  thenM (eachM (startFit m) m.starts) <|
  thenM (eachM (elemFit m) m.elems) <|
  thenM (eachM (codeFit s m) (List.range m.codes.length)) <|
  eachM (dataFit m) m.data

theorem fitM_rest : fitM s m = thenM (eachM (thereU m.types.length) m.funcs) (restFit s m) := rfl

theorem thenM_bad {a b : Except Err Unit} {e : Err} (h : a = .error e) : thenM a b = .error e := by rw [h]; rfl
theorem thenM_good {a b : Except Err Unit} (h : a = .ok ()) : thenM a b = b := by rw [h]; rfl

theorem MV.modAt (h : MV s K w mb m) : ModAt s K w (mb + 1) mb m := by
  have hl := h.lt
  obtain ⟨-, f, h1, h2⟩ := h
  exact ⟨f, ⟨h1, hl, by omega⟩, h2⟩

/-- The lists that Check looks at itself. -/
theorem MV.lists (h : MV s K w mb m) : ∃ p0 c0 p1 c1 p2 c2 p3 c3 p8 c8, w.cell? ⟨mb, 0, none⟩ = some (.slice p0 m.types.length c0) ∧ w.cell? ⟨mb, 1, none⟩ = some (.slice p1 m.funcs.length c1) ∧ w.cell? ⟨mb, 2, none⟩ = some (.slice p2 m.tables.length c2) ∧ w.cell? ⟨mb, 3, none⟩ = some (.slice p3 m.mems.length c3) ∧ w.cell? ⟨mb, 8, none⟩ = some (.slice p8 m.codes.length c8) ∧
    isRow 62 2 numCells K m.funcs w (.slice p1 m.funcs.length c1) ∧ isRow 73 4 Lim.cells K m.tables w (.slice p2 m.tables.length c2) ∧ isRow 73 4 Lim.cells K m.mems w (.slice p3 m.mems.length c3) := by
  obtain ⟨-, f, hM, hH⟩ := h
  obtain ⟨⟨F0, -⟩, ⟨F1, -⟩, ⟨F2, -⟩, ⟨F3, -⟩, -, -⟩ := hM.twelve.1
  obtain ⟨F8, -⟩ := hM.twelve.2.2.2.1
  obtain ⟨css0, hr0, -⟩ := hH.h0
  obtain ⟨css8, hr8, -⟩ := hH.h8
  obtain ⟨p0, c0, e0⟩ := Row.shape hr0
  obtain ⟨p1, c1, e1⟩ := Row.shape hH.h1
  obtain ⟨p2, c2, e2⟩ := Row.shape hH.h2
  obtain ⟨p3, c3, e3⟩ := Row.shape hH.h3
  obtain ⟨p8, c8, e8⟩ := Row.shape hr8
  have r1 := hH.h1
  have r2 := hH.h2
  have r3 := hH.h3
  rw [e0] at F0
  rw [e1] at F1 r1
  rw [e2] at F2 r2
  rw [e3] at F3 r3
  rw [e8] at F8
  exact ⟨p0, c0, p1, c1, p2, c2, p3, c3, p8, c8, F0, F1, F2, F3, F8, r1, r2, r3⟩

set_option maxRecDepth 100000 in
set_option maxHeartbeats 6400000 in
theorem fitCheck_any (hm : MV s K w mb m) (ho : ModOk s.size m) (hs : s.size ≤ 5000) (hrd : AllRead s m) (hc : m.codes.length = m.funcs.length) :
    Calls Tryz.prog 11 #[.pointer (some ⟨mb, 0, none⟩)] w (Looks w (fitM s m)) := by
  have hmw := hm.lt
  have HMV := hide hm
  obtain ⟨p0, c0, p1, c1, p2, c2, p3, c3, p8, c8, F0, F1, F2, F3, F8, hr, r2, r3⟩ := hm.lists
  have HR2 := hide r2
  have HR3 := hide r3
  have HOK := hide ho
  have HRD := hide hrd
  have HLC := hide hc
  have hfl := ho.funcs.1
  have hcl : m.codes.length ≤ 20 := by omega
  have HX : Hid (∀ x ∈ m.funcs, 0 ≤ x.1 ∧ x.1 ≤ 4294967295) := fun x hx => ⟨(ho.funcs.2 x hx).1, (ho.funcs.2 x hx).2.1⟩
  clear hm r2 r3 ho hrd hc
  have H0 : Hid (eachM (thereU m.types.length) m.funcs = eachM (thereU m.types.length) (m.funcs.drop 0)) := by show _ = _; simp
  go_enter Tryz.func11, Tryz.ntmps11
  go_wp2
  go_loopw [10] (fun q wo => ∃ k : Nat, k ≤ m.funcs.length ∧ q = .int .i64 k ∧ Kept (fun _ => False) w wo ∧ eachM (thereU m.types.length) m.funcs = eachM (thereU m.types.length) (m.funcs.drop k)) (fun q _ => m.funcs.length - (intOf q).toNat)
  case atStart => exact ⟨0, Nat.zero_le _, rfl, Kept.refl _ _, H0.out⟩
  case round =>
    obtain ⟨k, hk, rfl, hkp, hme⟩ := hrel
    obtain ⟨wo, hwo⟩ : ∃ x, x = wr := ⟨wr, rfl⟩
    subst hwo
    have HE := hide hme
    clear hme H0
    by_cases hlt : k < m.funcs.length
    · have hlt' : (k : Int) < (m.funcs.length : Int) := by omega
      have hrr : isRow 62 2 numCells K m.funcs wo (.slice p1 m.funcs.length c1) := Row.kept hr hkp (fun _ _ _ hc => hc)
      obtain ⟨g, cap, hv, -, hgl, hcap, hcell⟩ := Row.cells hrr (by omega)
      cases hv
      have hy : m.funcs[k]? = some m.funcs[k] := List.getElem?_eq_getElem hlt
      have HB := hide (fun e => eachM_bad (f := thereU m.types.length) (e := e) hlt)
      have HO := hide (eachM_ok (f := thereU m.types.length) hlt)
      have d0 : wo.cell? ⟨g, k * 2, none⟩ = some (.int .u32 m.funcs[k].1) := (hcell (k * 2) (by omega)).trans (flat_get (m := 2) (o := 0) (fun _ => rfl) hy (by omega))
      have d1 : wo.cell? ⟨g, k * 2 + 1, none⟩ = some (.int .i64 (m.funcs[k].2 : Nat)) := (hcell (k * 2 + 1) (by omega)).trans (flat_get (m := 2) (o := 1) (fun _ => rfl) hy (by omega))
      have hxk := HX.out _ (List.getElem_mem hlt)
      have F0r := (hkp.cell (p := ⟨mb, 0, none⟩) hmw (fun c => c)).trans F0
      have hmr : mb < wo.heap.size := Nat.lt_of_lt_of_le hmw hkp.size
      clear hcell hrr hy
      generalize m.funcs[k] = x at *
      obtain ⟨xi, xp⟩ := x
      simp only at d0 d1 hxk HB HO
      obtain ⟨hx0, hx1⟩ := hxk
      have kp1 : Kept (fun _ => False) w ((wo.alloc (.cells #[.int .u32 xi, .int .i64 (xp : Nat)] 62)).drew) := (hkp.alloc _).drew
      have kr1 : Kept (fun _ => False) wo ((wo.alloc (.cells #[.int .u32 xi, .int .i64 (xp : Nat)] 62)).drew) := ((Kept.refl _ _).alloc _).drew
      have hsr : wo.heap.size < ((wo.alloc (.cells #[.int .u32 xi, .int .i64 (xp : Nat)] 62)).drew).heap.size := by simp
      have HS : Hid (∀ w', Kept (fun _ => False) ((wo.alloc (.cells #[.int .u32 xi, .int .i64 (xp : Nat)] 62)).drew) w' → (fun w' : World => w'.cell? ⟨wo.heap.size, 0, none⟩ = some (.int .u32 xi) ∧ w'.cell? ⟨wo.heap.size, 1, none⟩ = some (.int .i64 (xp : Nat)) ∧ w'.cell? ⟨mb, 0, none⟩ = some (.slice p0 m.types.length c0)) w') := fun w' hk => ⟨(hk.cell (p := ⟨wo.heap.size, 0, none⟩) hsr (fun c => c)).trans (by simp), (hk.cell (p := ⟨wo.heap.size, 1, none⟩) hsr (fun c => c)).trans (by simp), ((kr1.trans hk).cell (p := ⟨mb, 0, none⟩) hmr (fun c => c)).trans F0r⟩
      have HH0 := hide (HS.out _ (Kept.refl _ _))
      by_cases hth : xi < (m.types.length : Int)
      · have HN := hide (HE.out.trans (HO.out (by simp [thereU, hth])))
        clear HB HO HE
        go_wp2_with fail
        refine wp_region_held_drew (S := fun w' : World => w'.cell? ⟨wo.heap.size, 0, none⟩ = some (.int .u32 xi) ∧ w'.cell? ⟨wo.heap.size, 1, none⟩ = some (.int .i64 (xp : Nat)) ∧ w'.cell? ⟨mb, 0, none⟩ = some (.slice p0 m.types.length c0)) (by kernel_rfl) HH0.out (fun _ => ?_)
        refine tkh 0 HH0.out (h := ?_)
        refine tkh 1 HH0.out (h := ?_)
        refine tkh 2 HH0.out (h := ?_)
        refine tkh 3 HH0.out (h := ?_)
        refine tkh 4 HH0.out (h := ?_)
        refine tkh 5 HH0.out (h := ?_)
        refine wpAnyH_all (rs := [6]) (by kernel_rfl) (by simp) ?_
        intro i hi
        rw [List.mem_singleton] at hi
        subst hi
        refine wpOp_calls (f := 19) (args := #[.agg #[.int .u32 xi, .int .i64 (xp : Nat)], .int .i64 (m.types.length : Nat)]) rfl rfl (by kernel_rfl) (there_ok _ hth hx0 hx1) ?_
        rintro ee w2 ⟨rfl, rfl⟩
        refine .inl ⟨_, rfl, HS.out _ ((Kept.refl _ _).alloc _), ?_⟩
        refine wpAnyH_done (by kernel_rfl) ?_ _
        dsimp only [Act.put, List.setIfInBounds_toArray, List.set_cons_zero, List.set_cons_succ]
        clear HH0 HS
        go_wp2
        go_roundw
        case rel => exact ⟨k + 1, by omega, by go_num, kp1.alloc _, HN.out⟩
        case measure => simp [intOf]; omega
      · have HN := hide (fitM_rest.trans (thenM_bad (b := restFit s m) (HE.out.trans (HB.out (3, xp) (by simp [thereU, hth])))))
        have hge : (m.types.length : Int) ≤ xi := by omega
        clear HB HO HE
        go_wp2_with fail
        refine wp_region_held_drew (S := fun w' : World => w'.cell? ⟨wo.heap.size, 0, none⟩ = some (.int .u32 xi) ∧ w'.cell? ⟨wo.heap.size, 1, none⟩ = some (.int .i64 (xp : Nat)) ∧ w'.cell? ⟨mb, 0, none⟩ = some (.slice p0 m.types.length c0)) (by kernel_rfl) HH0.out (fun _ => ?_)
        refine tkh 0 HH0.out (h := ?_)
        refine tkh 1 HH0.out (h := ?_)
        refine tkh 2 HH0.out (h := ?_)
        refine tkh 3 HH0.out (h := ?_)
        refine tkh 4 HH0.out (h := ?_)
        refine tkh 5 HH0.out (h := ?_)
        refine wpAnyH_all (rs := [6]) (by kernel_rfl) (by simp) ?_
        intro i hi
        rw [List.mem_singleton] at hi
        subst hi
        refine wpOp_dies (f := 19) (args := #[.agg #[.int .u32 xi, .int .i64 (xp : Nat)], .int .i64 (m.types.length : Nat)]) rfl rfl (by kernel_rfl) (there_bad _ hge hx0 hx1) ?_
        rintro e w2 ⟨rfl, rfl⟩
        refine ⟨_, rfl, ?_⟩
        exact ⟨rfl, Says.err_mk HN.out (kp1.alloc _)⟩
    · have HN := HE.out.trans (eachM_done hlt)
      have HFS : Hid (∀ x ∈ m.funcs, 0 ≤ x.1 ∧ x.1 < (m.types.length : Int)) := fun x hx => ⟨(HX.out x hx).1, by
        have := eachM_all HN x hx
        unfold thereU at this
        split at this
        · assumption
        · cases this⟩
      have HE1 := hide (fitM_rest.trans (thenM_good (b := restFit s m) HN))
      clear HE HN hr
      -- the tables
      have F2r := (hkp.cell (p := ⟨mb, 2, none⟩) hmw (fun c => c)).trans F2
      have hmr : mb < wo.heap.size := Nat.lt_of_lt_of_le hmw hkp.size
      go_wp2_with fail
      refine (checkLimits_any 20 (Row.kept HR2.out hkp (fun _ _ _ c => c)) (by have := HOK.out.tables.1; omega)).mono ?_
      rintro e w1 ⟨hk1, hok, herr⟩
      have kp1 := hkp.trans hk1
      cases hq : eachM (limFit 20) m.tables with
      | error qp =>
        obtain ⟨q, p⟩ := qp
        have he := herr _ _ hq
        subst he
        exact ⟨rfl, Says.err_mk (HE1.out.trans (thenM_bad hq)) kp1⟩
      | ok u =>
      obtain ⟨v, rfl, rfl⟩ := hok u hq
      have HE2 := hide (HE1.out.trans (thenM_good hq))
      clear hok herr hq HE1 hk1
      -- the memories
      have F3r := (kp1.cell (p := ⟨mb, 3, none⟩) hmw (fun c => c)).trans F3
      have hmr1 : mb < w1.heap.size := Nat.lt_of_lt_of_le hmw kp1.size
      go_wp2_with fail
      refine (checkLimits_any 16 (Row.kept HR3.out kp1 (fun _ _ _ c => c)) (by have := HOK.out.mems.1; omega)).mono ?_
      rintro e w2 ⟨hk2, hok, herr⟩
      have kp2 := kp1.trans hk2
      cases hq : eachM (limFit 16) m.mems with
      | error qp =>
        obtain ⟨q, p⟩ := qp
        have he := herr _ _ hq
        subst he
        exact ⟨rfl, Says.err_mk (HE2.out.trans (thenM_bad hq)) kp2⟩
      | ok u =>
      obtain ⟨v, rfl, rfl⟩ := hok u hq
      have HE3 := hide (HE2.out.trans (thenM_good hq))
      clear hok herr hq HE2 hk2
      -- the globals
      go_wp2_with fail
      refine (checkGlobals_any (HMV.out.kept kp2 (fun _ _ _ c => c)).modAt (by have := HOK.out.globals.1; omega)).mono ?_
      rintro e w3 ⟨hk3, hok, herr⟩
      have kp3 := kp2.trans hk3
      cases hq : eachM (fun g => cstFit g.kind g.first) m.globals with
      | error qp =>
        obtain ⟨q, p⟩ := qp
        have he := herr _ _ hq
        subst he
        exact ⟨rfl, Says.err_mk (HE3.out.trans (thenM_bad hq)) kp3⟩
      | ok u =>
      obtain ⟨v, rfl, rfl⟩ := hok u hq
      have HE4 := hide (HE3.out.trans (thenM_good hq))
      clear hok herr hq HE3 hk3
      -- the exports
      go_wp2_with fail
      refine (checkExports_any (HMV.out.kept kp3 (fun _ _ _ c => c)) (by have := HOK.out.exports.1; omega) (fun x hx => ⟨(HOK.out.exports.2 x hx).2.1.1, (HOK.out.exports.2 x hx).2.1.2.1⟩)).mono ?_
      rintro e w4 ⟨hk4, hok, herr⟩
      have kp4 := kp3.trans hk4
      cases hq : eachM (exportFit m) (List.range m.exports.length) with
      | error qp =>
        obtain ⟨q, p⟩ := qp
        have he := herr _ _ hq
        subst he
        exact ⟨rfl, Says.err_mk (HE4.out.trans (thenM_bad hq)) kp4⟩
      | ok u =>
      obtain ⟨v, rfl, rfl⟩ := hok u hq
      have HE5 := hide (HE4.out.trans (thenM_good hq))
      clear hok herr hq HE4 hk4
      -- the start
      go_wp2_with fail
      refine (checkStart_any (HMV.out.kept kp4 (fun _ _ _ c => c)) (by have := HOK.out.starts.1; omega) (fun x hx => ⟨(HOK.out.starts.2 x hx).1, (HOK.out.starts.2 x hx).2.1⟩) HFS.out).mono ?_
      rintro e w5 ⟨hk5, hok, herr⟩
      have kp5 := kp4.trans hk5
      cases hq : eachM (startFit m) m.starts with
      | error qp =>
        obtain ⟨q, p⟩ := qp
        have he := herr _ _ hq
        subst he
        exact ⟨rfl, Says.err_mk (HE5.out.trans (thenM_bad hq)) kp5⟩
      | ok u =>
      obtain ⟨v, rfl, rfl⟩ := hok u hq
      have HE6 := hide (HE5.out.trans (thenM_good hq))
      clear hok herr hq HE5 hk5
      -- the elements
      go_wp2_with fail
      refine (checkElements_any (HMV.out.kept kp5 (fun _ _ _ c => c)) (by have := HOK.out.elems.1; omega) (fun x hx => HOK.out.elems.2 x hx)).mono ?_
      rintro e w6 ⟨hk6, hok, herr⟩
      have kp6 := kp5.trans hk6
      cases hq : eachM (elemFit m) m.elems with
      | error qp =>
        obtain ⟨q, p⟩ := qp
        have he := herr _ _ hq
        subst he
        exact ⟨rfl, Says.err_mk (HE6.out.trans (thenM_bad hq)) kp6⟩
      | ok u =>
      obtain ⟨v, rfl, rfl⟩ := hok u hq
      have HE7 := hide (HE6.out.trans (thenM_good hq))
      clear hok herr hq HE6 hk6
      -- the codes
      have F8r := (kp6.cell (p := ⟨mb, 8, none⟩) hmw (fun c => c)).trans F8
      have hmr6 : mb < w6.heap.size := Nat.lt_of_lt_of_le hmw kp6.size
      have H0 : Hid (eachM (codeFit s m) (List.range m.codes.length) = eachM (codeFit s m) ((List.range m.codes.length).drop 0)) := by show _ = _; simp
      go_wp2
      go_loopw [45] (fun q wr => ∃ k : Nat, k ≤ m.codes.length ∧ q = .int .i64 k ∧ Kept (fun _ => False) w wr ∧ eachM (codeFit s m) (List.range m.codes.length) = eachM (codeFit s m) ((List.range m.codes.length).drop k)) (fun q _ => m.codes.length - (intOf q).toNat)
      case atStart => exact ⟨0, Nat.zero_le _, rfl, kp6, H0.out⟩
      case round =>
        obtain ⟨k2, hk2, rfl, hkv, hme⟩ := hrel
        have HE := hide hme
        clear hme H0 F8r kp6 kp5 kp4 kp3 kp2 kp1 hkp
        by_cases hlt2 : k2 < m.codes.length
        · have hlt2' : (k2 : Int) < (m.codes.length : Int) := by omega
          have hrk : (List.range m.codes.length)[k2]'(by simpa using hlt2) = k2 := by simp
          have HB : Hid (∀ e, codeFit s m k2 = .error e → eachM (codeFit s m) (List.range m.codes.length) = .error e) := fun e he => HE.out.trans (eachM_bad (by simpa using hlt2) (by rw [hrk]; exact he))
          have HO : Hid (codeFit s m k2 = .ok () → eachM (codeFit s m) (List.range m.codes.length) = eachM (codeFit s m) ((List.range m.codes.length).drop (k2 + 1))) := fun he => HE.out.trans (eachM_ok (by simpa using hlt2) (by rw [hrk]; exact he))
          clear hrk HE
          go_wp2_with fail
          refine (checkCode_any (f := k2) (HMV.out.kept hkv (fun _ _ _ c => c)) HOK.out hs HRD.out HFS.out (by have := HLC.out; omega) HLC.out).mono ?_
          rintro e w7 ⟨hk7, hok, herr⟩
          have kp7 := hkv.trans hk7
          cases hq : codeFit s m k2 with
          | error qp =>
            obtain ⟨q, p⟩ := qp
            have he := herr _ _ hq
            subst he
            exact ⟨rfl, Says.err_mk (HE7.out.trans (thenM_bad (HB.out _ hq))) kp7⟩
          | ok u =>
            obtain ⟨v, rfl, rfl⟩ := hok u hq
            have HN := hide (HO.out hq)
            clear hok herr hq HO HB hk7 hkv
            go_wp2
            go_roundw
            case rel => exact ⟨k2 + 1, by omega, by go_num, kp7, HN.out⟩
            case measure => simp [intOf]; omega
        · have HE8 := hide (HE7.out.trans (thenM_good (HE.out.trans (eachM_done (by simpa using hlt2)))))
          clear HE HE7
          go_wp2_with fail
          refine (checkData_any (HMV.out.kept hkv (fun _ _ _ c => c)).modAt (by have := HOK.out.data.1; omega)).mono ?_
          rintro e w7 ⟨hk7, hok, herr⟩
          have kp7 := hkv.trans hk7
          cases hq : eachM (dataFit m) m.data with
          | error qp =>
            obtain ⟨q, p⟩ := qp
            have he := herr _ _ hq
            subst he
            exact ⟨rfl, Says.err_mk (HE8.out.trans hq) kp7⟩
          | ok u =>
            obtain ⟨v, rfl, rfl⟩ := hok u hq
            have HE9 := hide (HE8.out.trans hq)
            clear hok herr hq HE8 hk7 hkv
            go_wp2
            go_end0
            exact Says.ok_mk HE9.out kp7 rfl

end

end Go.Proofs.YtgkpkngchploiaaGreat
/-
  givenUp: what was given up is caught.
-/
namespace Go.Proofs.YtgkpkngchploiaaGreat
open Go.RowKit

theorem Blk.oneC' {w : World} {g : Nat} {a : Value} (h : Blk w g [a]) : w.cell? ⟨g, 0, none⟩ = some a ∧ w.frozen? ⟨g, 0, none⟩ = false := h 0 (by simp)

/-- Entered as a deferred call of a frame that returns: nothing is caught. -/
theorem catch_idle (p q : Addr) (w : World) :
    CallsD Tryz.prog 12 #[.pointer (some p), .pointer (some q)] .returning w fun e u' w' => e = .returned (.tuple #[]) ∧ u' = .returning ∧ w' = w := by
  refine callsD_of_wpS Tryz.func12 rfl fun c₀ cs hu => ?_
  apply wpS_seq
  apply wpS_region
  simp [wpOpsS, go_sem, recoverD, hu, Tryz.ntmps12, Exit.thenS]
  apply wpS_seq
  apply wpS_seq
  apply wpS_region
  simp [wpOpsS, go_sem, Exit.thenS]
  refine wpS_cond (t := true) (by simp [Act.eval, Array.replicate]) ?_
  simp only [if_true]
  refine wpS_of_wp (wp_ret ?_)
  cases c₀
  simp_all [bodyPostS, results, Tryz.results12, Exit.thenS]

set_option maxRecDepth 100000 in
set_option maxHeartbeats 1600000 in
/-- Of a frame that gives up: the error and the place are laid where they are told. -/
theorem catch_given (pe pa q p : Nat) (older : List PanicEntry) (w : World) (x y : Value) (hpe : Blk w pe [x]) (hpa : Blk w pa [y]) (hne : pe ≠ pa) :
    CallsD Tryz.prog 12 #[.pointer (some ⟨pe, 0, none⟩), .pointer (some ⟨pa, 0, none⟩)] (.panicking ({ v := .iface 36 (.agg #[.int .i64 (q : Nat), .int .i64 (p : Nat)]), recovered := false } :: older)) w fun e u' w' =>
      e = .returned (.tuple #[]) ∧ u' = .panicking ({ v := .iface 36 (.agg #[.int .i64 (q : Nat), .int .i64 (p : Nat)]), recovered := true } :: older) ∧ w'.cell? ⟨pe, 0, none⟩ = some (.int .i64 (q : Nat)) ∧ w'.cell? ⟨pa, 0, none⟩ = some (.int .i64 (p : Nat)) ∧ Kept (fun k => k = pe ∨ k = pa) w w' := by
  have hle := hpe.lt
  have hla := hpa.lt
  obtain ⟨E0, E1⟩ := hpe 0 (by simp)
  obtain ⟨A0, A1⟩ := hpa 0 (by simp)
  simp at E0 A0
  refine callsD_of_wpS Tryz.func12 rfl fun c₀ cs hu => ?_
  apply wpS_seq
  apply wpS_region
  simp [wpOpsS, go_sem, recoverD, hu, Tryz.ntmps12, Exit.thenS]
  apply wpS_seq
  apply wpS_seq
  apply wpS_region
  simp [wpOpsS, go_sem, Exit.thenS]
  refine wpS_cond (t := false) (by simp [Act.eval, Array.replicate]) ?_
  simp only [Bool.false_eq_true, if_false]
  refine wpS_of_wp (wp_skip ?_)
  simp only [Exit.thenS]
  simp only [Array.replicate_succ, Array.replicate_zero, List.push_toArray, List.append_toArray, List.nil_append, List.cons_append, List.setIfInBounds_toArray, List.set_cons_zero, List.set_cons_succ]
  refine wpS_of_wp ?_
  have HU := hide hu
  have hta : ∀ (w : World), (Instr.typeAssert (.iface 36 (.agg #[.int .i64 (q : Nat), .int .i64 (p : Nat)])) 20 36 true).run Tryz.prog w = .ok (.tuple #[.agg #[.int .i64 (q : Nat), .int .i64 (p : Nat)], .bool true]) w := fun _ => by kernel_rfl
  have hnot : ∀ (x : Bool) (w : World), (Op.unary .not (.bool x)).run Tryz.prog w = .ok (.bool (!x)) w := fun _ _ => rfl
  clear hu
  go_wp2_with fail
  have n1 : ¬ w.heap.size = pe := by omega
  have n2 : ¬ w.heap.size = pa := by omega
  have n3 : ¬ pa = pe := fun e => hne e.symm
  go_region
  have hk1 : ∀ (W : World) (o : Obj), Kept (fun _ => False) W (W.alloc o).drew := fun W o => ((Kept.refl _ _).alloc o).drew
  refine ⟨rfl, _, rfl, _, results_none rfl _ _ _, rfl, rfl, ?_, ?_, ?_⟩
  · rw [(hk1 _ _).cell (p := ⟨pe, 0, none⟩) (by simpa using hle) (fun c => c), World.cell?_setCell_other _ _ _ _ (fun c => hne (congrArg Addr.block c).symm)]
    exact World.cell?_setCell_same _ _ _ E0
  · rw [(hk1 _ _).cell (p := ⟨pa, 0, none⟩) (by simpa using hla) (fun c => c)]
    refine World.cell?_setCell_same _ _ _ (u := y) ?_
    rw [World.cell?_setCell_other _ _ _ _ (fun c => hne (congrArg Addr.block c))]
    exact A0
  · exact ((((Kept.refl _ w).setCell (p := ⟨pe, 0, none⟩) (fun _ => .inl rfl) _).setCell (p := ⟨pa, 0, none⟩) (fun _ => .inr rfl) _).alloc _).drew

set_option maxRecDepth 100000 in
set_option maxHeartbeats 1600000 in
/-- Whatever gives up, or does not. -/
theorem givenUp_any {F : Nat} {cap : Array Value} {w : World} {S : Nat → Prop} {V : World → Prop} {r : Except Err Unit} (he : Enters F) (hS : ∀ k, S k → k < w.heap.size)
    (hF : ∀ W, Kept (fun _ => False) w W → Calls Tryz.prog F cap W fun e W' => Kept S W W' ∧ V W' ∧ (∀ x, r = .ok x → e = .returned (.tuple #[])) ∧ ∀ q p, r = .error (q, p) → e = gaveUp q p)
    (hV : ∀ W W', V W → Kept (fun k => w.heap.size ≤ k) W W' → V W') :
    Calls Tryz.prog 8 #[.func (.func F) #[] cap] w fun e w' => Kept S w w' ∧ V w' ∧ (∀ x, r = .ok x → e = .returned (.tuple #[.int .i64 0, .int .i64 0])) ∧ ∀ q p : Nat, r = .error (q, p) → e = .returned (.tuple #[.int .i64 (q : Nat), .int .i64 (p : Nat)]) := by
  have hmf : ∀ (fn : Fn) (first cap : Array Value) (w : World), (Instr.makeFunc fn first cap).run Tryz.prog w = .ok (.func fn first cap) w := fun _ _ _ _ => rfl
  have he' : ∀ (args : Array Value) (w : World), (callFunc F args).run Tryz.prog w = .ok (.enter F args) w := he
  have hk0 : ∀ o1 o2, Kept (fun _ => False) w ((w.alloc o1).alloc o2) := fun _ _ => ((Kept.refl _ _).alloc _).alloc _
  have hB1 := Blk.new w #[.int .i64 0] 23
  have hB2 := Blk.new (w.alloc (.cells #[.int .i64 0] 23)) #[.int .i64 0] 3
  have hB1' := hB1.alloc (by simp) (.cells #[.int .i64 0] 3)
  rw [World.size_alloc] at hB2
  have HF := hide (hF _ (hk0 (.cells #[.int .i64 0] 23) (.cells #[.int .i64 0] 3)))
  have HV := hide hV
  have HB1 := hide hB1'
  have HB2 := hide hB2
  clear hF hV hB1 hB1' hB2
  go_enter_defers Tryz.func8, Tryz.ntmps8
  go_wp2_with fail
  refine HF.out.mono ?_
  rintro e W ⟨hk, hv, hok, herr⟩
  have hsz := hk.size
  simp at hsz
  have hkw : Kept S w W := ((hk0 _ _).mono (fun _ _ c => c.elim)).trans hk
  have n1 : ¬ S w.heap.size := fun c => Nat.lt_irrefl _ (hS _ c)
  have n2 : ¬ S (w.heap.size + 1) := fun c => by have := hS _ c; omega
  have W1 := HB1.out.kept hk (by simp; omega) n1
  have W2 := HB2.out.kept hk (by simp) n2
  cases hr : r with
  | error qp =>
    obtain ⟨q, p⟩ := qp
    have h := herr q p hr
    subst h
    refine leaves_cons (f := 12) (args := #[.pointer (some ⟨w.heap.size, 0, none⟩), .pointer (some ⟨w.heap.size + 1, 0, none⟩)]) (by simp) (by simp [go_sem]) ?_
    refine (catch_given w.heap.size (w.heap.size + 1) q p [] W _ _ W1 W2 (by omega)).mono ?_
    rintro e u' w'' ⟨rfl, rfl, c1, c2, hk2⟩
    have hkf : Kept S w w'' := hkw.fresh hk2 (fun i hi c => by omega)
    have hvf : V w'' := HV.out _ _ hv (hk2.mono (fun k _ c => by omega))
    simp [Leaves, settle, results, Tryz.results8, go_sem, c1, c2]
    exact ⟨hkf, hvf, fun x h => by (rw [hr] at h; cases h), fun q1 p1 h => by rw [hr] at h; cases h; exact ⟨rfl, rfl⟩⟩
  | ok x =>
    have h := hok x hr
    subst h
    obtain ⟨A1, A2⟩ := W1.oneC'
    obtain ⟨B1, B2⟩ := W2.oneC'
    have HR := hide hr
    have HV1 := hide hv
    have HKW := hide hkw
    clear hr hok herr hv hkw
    go_wp2
    refine leaves_cons (f := 12) (args := #[.pointer (some ⟨w.heap.size, 0, none⟩), .pointer (some ⟨w.heap.size + 1, 0, none⟩)]) (by simp) (by simp [go_sem]) ?_
    refine (catch_idle ⟨w.heap.size, 0, none⟩ ⟨w.heap.size + 1, 0, none⟩ _).mono ?_
    rintro e u' w'' ⟨rfl, rfl, rfl⟩
    have hk2 : Kept (fun k => w.heap.size ≤ k) W ((W.setCell ⟨w.heap.size, 0, none⟩ (.int .i64 0)).setCell ⟨w.heap.size + 1, 0, none⟩ (.int .i64 0)) := ((Kept.refl _ W).setCell (p := ⟨w.heap.size, 0, none⟩) (fun _ => Nat.le_refl _) _).setCell (p := ⟨w.heap.size + 1, 0, none⟩) (fun _ => Nat.le_succ _) _
    have hkf := HKW.out.fresh hk2 (fun i hi c => absurd c (by omega))
    have hvf := HV.out _ _ HV1.out hk2
    simp [Leaves, settle, results, Tryz.results8, go_sem, A1, B1]
    exact ⟨hkf, hvf, fun q1 p1 h => by (rw [HR.out] at h; cases h)⟩

end Go.Proofs.YtgkpkngchploiaaGreat
