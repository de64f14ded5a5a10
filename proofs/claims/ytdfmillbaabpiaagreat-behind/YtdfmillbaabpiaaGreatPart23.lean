/-
  Part 23 of the proof: Fit5, Fit6.
-/
import Derived.Test.YtdfmillbaabpiaaGreatPart22
import Derived.Test.YtdfmillbaabpiaaGreatPart17
/-
  checkStart.
-/
namespace Go.Proofs.YtdfmillbaabpiaaGreat
open Go.RowKit

theorem wpOp_plain {P : Program} {ops : Array Oper} {Q : Exit → Act → World → Prop} {i : Nat} {K : Act → World → Prop} {a : Act} {w : World} {o : Oper} (ho : ops[i]? = some o) (hgd : o.guard = none) (h : o.wp P a w K Q) : wpOp P ops Q i K a w := by
  have hw : Region.wanted o (yielded ops a.tmps) = true := by simp [Region.wanted, hgd]
  unfold wpOp
  rw [ho]
  simp only [hw, if_true]
  exact .inl h

section
variable {K : Nat → Prop} {w : World} {mb : Nat} {s : ByteArray} {m : Mdl}

theorem startFit_bad {xi : Int} {xp : Nat} (h : ¬ xi < (m.funcs.length : Int)) : startFit m (xi, xp) = .error (3, xp) := by
  simp [startFit, thereM, h]

theorem startFit_ok {f xp : Nat} (h : f < m.funcs.length) : startFit m ((f : Int), xp) = if (typeOfM m f).ins.length = 0 ∧ (typeOfM m f).outs.length = 0 then .ok () else .error (4, xp) := by
  simp [startFit, thereM, h]

set_option maxRecDepth 100000 in
set_option maxHeartbeats 6400000 in
theorem checkStart_any (hm : MV s K w mb m) (hl : m.starts.length ≤ 50) (hx : ∀ x ∈ m.starts, 0 ≤ x.1 ∧ x.1 ≤ 4294967295) (hfs : ∀ x ∈ m.funcs, 0 ≤ x.1 ∧ x.1 < (m.types.length : Int)) :
    Calls Tryz.prog 23 #[.pointer (some ⟨mb, 0, none⟩)] w (Looks w (eachM (startFit m) m.starts)) := by
  have hmw := hm.lt
  have HMV := hide hm
  obtain ⟨hK, fl, hM, hH⟩ := hm
  obtain ⟨F, G⟩ := hM.twelve.2.1
  obtain ⟨F1, G1⟩ := hM.twelve.1.2.1
  obtain ⟨p, c, hf⟩ := Row.shape hH.h6
  obtain ⟨p1, c1, hf1⟩ := Row.shape hH.h1
  have hr := hH.h6
  rw [hf] at F hr
  rw [hf1] at F1
  have HX := hide hx
  have HFS := hide hfs
  clear hH hM hf hf1 hx hfs hK G G1
  have H0 : Hid (eachM (startFit m) m.starts = eachM (startFit m) (m.starts.drop 0)) := by show _ = _; simp
  go_enter Tryz.func23, Tryz.ntmps23
  go_wp2
  go_loopw [10] (fun q wr => ∃ k : Nat, k ≤ m.starts.length ∧ q = .int .i64 k ∧ Kept (fun _ => False) w wr ∧ eachM (startFit m) m.starts = eachM (startFit m) (m.starts.drop k)) (fun q _ => m.starts.length - (intOf q).toNat)
  case atStart => exact ⟨0, Nat.zero_le _, rfl, Kept.refl _ _, H0.out⟩
  case round =>
    obtain ⟨k, hk, rfl, hkp, hme⟩ := hrel
    have HE := hide hme
    clear hme H0
    by_cases hlt : k < m.starts.length
    · have hlt' : (k : Int) < (m.starts.length : Int) := by omega
      have hrr : isRow 62 2 numCells K m.starts wr (.slice p m.starts.length c) := Row.kept hr hkp (fun _ _ _ hc => hc)
      obtain ⟨g, cap, hv, -, hgl, hcap, hcell⟩ := Row.cells hrr (by omega)
      cases hv
      have hy : m.starts[k]? = some m.starts[k] := List.getElem?_eq_getElem hlt
      have HB := hide (fun e => eachM_bad (f := startFit m) (e := e) hlt)
      have HO := hide (eachM_ok (f := startFit m) hlt)
      have d0 : wr.cell? ⟨g, k * 2, none⟩ = some (.int .u32 m.starts[k].1) := (hcell (k * 2) (by omega)).trans (flat_get (m := 2) (o := 0) (fun _ => rfl) hy (by omega))
      have d1 : wr.cell? ⟨g, k * 2 + 1, none⟩ = some (.int .i64 (m.starts[k].2 : Nat)) := (hcell (k * 2 + 1) (by omega)).trans (flat_get (m := 2) (o := 1) (fun _ => rfl) hy (by omega))
      have hxk := HX.out _ (List.getElem_mem hlt)
      have F1r := (hkp.cell (p := ⟨mb, 1, none⟩) hmw (fun c => c)).trans F1
      have hmr : mb < wr.heap.size := Nat.lt_of_lt_of_le hmw hkp.size
      clear hcell hrr hy
      generalize m.starts[k] = x at *
      obtain ⟨xi, xp⟩ := x
      simp only at d0 d1 hxk HB HO
      obtain ⟨hx0, hx1⟩ := hxk
      have kp1 : Kept (fun _ => False) w (wr.alloc (.cells #[.int .u32 xi, .int .i64 (xp : Nat)] 62)) := hkp.alloc _
      have hm1 : mb < wr.heap.size + 1 := by omega
      have hm2 : mb < wr.heap.size + 1 + 1 := by omega
      have hwz := hkp.size
      have kr1 : Kept (fun _ => False) wr (wr.alloc (.cells #[.int .u32 xi, .int .i64 (xp : Nat)] 62)) := (Kept.refl _ _).alloc _
      have hsr : wr.heap.size < (wr.alloc (.cells #[.int .u32 xi, .int .i64 (xp : Nat)] 62)).heap.size := by simp
      have HS : Hid (∀ w', Kept (fun _ => False) (wr.alloc (.cells #[.int .u32 xi, .int .i64 (xp : Nat)] 62)) w' → (fun w' : World => w'.cell? ⟨wr.heap.size, 0, none⟩ = some (.int .u32 xi) ∧ w'.cell? ⟨wr.heap.size, 1, none⟩ = some (.int .i64 (xp : Nat)) ∧ w'.cell? ⟨mb, 1, none⟩ = some (.slice p1 m.funcs.length c1)) w') := fun w' hk => ⟨(hk.cell (p := ⟨wr.heap.size, 0, none⟩) hsr (fun c => c)).trans (by simp), (hk.cell (p := ⟨wr.heap.size, 1, none⟩) hsr (fun c => c)).trans (by simp), ((kr1.trans hk).cell (p := ⟨mb, 1, none⟩) hmr (fun c => c)).trans F1r⟩
      have HH0 := hide (HS.out _ ((Kept.refl _ _).drew))
      by_cases hth : xi < (m.funcs.length : Int)
      · obtain ⟨f, rfl⟩ : ∃ f : Nat, xi = (f : Int) := ⟨xi.toNat, by omega⟩
        have hfl : f < m.funcs.length := by omega
        have HFX := hide (HFS.out _ (List.getElem_mem hfl))
        have HTY : Hid (∀ W, Kept (fun _ => False) (wr.alloc (.cells #[.int .u32 (f : Int), .int .i64 (xp : Nat)] 62)) W → Calls Tryz.prog 37 #[.pointer (some ⟨mb, 0, none⟩), .int .i64 (f : Nat)] W fun e w' => Kept (fun _ => False) W w' ∧ ∃ pi ci po co, e = .returned (.agg #[.slice pi (typeOfM m f).ins.length ci, .slice po (typeOfM m f).outs.length co])) := fun W hk => by
          refine (typeOf_any f (HMV.out.kept (kp1.trans hk) (fun _ _ _ c => c)) hfl HFX.out).mono ?_
          rintro e w' ⟨hk', v, rfl, vi, vo, rfl, k1, k2⟩
          obtain ⟨pi, ci, rfl⟩ := Row.shape k1
          obtain ⟨po, co, rfl⟩ := Row.shape k2
          exact ⟨hk', pi, ci, po, co, rfl⟩
        have HFT : Hid (startFit m ((f : Int), xp) = if (typeOfM m f).ins.length = 0 ∧ (typeOfM m f).outs.length = 0 then .ok () else .error (4, xp)) := startFit_ok hfl
        generalize (typeOfM m f).ins.length = a1 at *
        generalize (typeOfM m f).outs.length = a2 at *
        go_wp2_with fail
        refine wp_region_held_drew (S := fun w' : World => w'.cell? ⟨wr.heap.size, 0, none⟩ = some (.int .u32 (f : Int)) ∧ w'.cell? ⟨wr.heap.size, 1, none⟩ = some (.int .i64 (xp : Nat)) ∧ w'.cell? ⟨mb, 1, none⟩ = some (.slice p1 m.funcs.length c1)) (by kernel_rfl) HH0.out (fun _ => ?_)
        refine wpAnyH_take (i := 0) (v := ?av0) rfl (by kernel_rfl) (by kernel_rfl) (by kernel_rfl) (fun _ _ _ h => h) (Or.inl ⟨by rfl, ?ay0⟩) HH0.out ?ar0
        case ay0 => (intro w hSw; (try dsimp only at hSw); go_simp; try with_reducible rfl)
        dsimp only [Act.put, List.setIfInBounds_toArray, List.set_cons_zero, List.set_cons_succ]
        refine wpAnyH_take (i := 1) (v := ?av1) rfl (by kernel_rfl) (by kernel_rfl) (by kernel_rfl) (fun _ _ _ h => h) (Or.inl ⟨by rfl, ?ay1⟩) HH0.out ?ar1
        case ay1 => (intro w hSw; (try dsimp only at hSw); go_simp; try with_reducible rfl)
        dsimp only [Act.put, List.setIfInBounds_toArray, List.set_cons_zero, List.set_cons_succ]
        refine wpAnyH_take (i := 2) (v := ?av2) rfl (by kernel_rfl) (by kernel_rfl) (by kernel_rfl) (fun _ _ _ h => h) (Or.inl ⟨by rfl, ?ay2⟩) HH0.out ?ar2
        case ay2 => (intro w hSw; (try dsimp only at hSw); go_simp; try with_reducible rfl)
        dsimp only [Act.put, List.setIfInBounds_toArray, List.set_cons_zero, List.set_cons_succ]
        refine wpAnyH_take (i := 3) (v := ?av3) rfl (by kernel_rfl) (by kernel_rfl) (by kernel_rfl) (fun _ _ _ h => h) (Or.inl ⟨by rfl, ?ay3⟩) HH0.out ?ar3
        case ay3 => (intro w hSw; (try dsimp only at hSw); go_simp; try with_reducible rfl)
        dsimp only [Act.put, List.setIfInBounds_toArray, List.set_cons_zero, List.set_cons_succ]
        refine wpAnyH_take (i := 4) (v := ?av4) rfl (by kernel_rfl) (by kernel_rfl) (by kernel_rfl) (fun _ _ _ h => h) (Or.inl ⟨by rfl, ?ay4⟩) HH0.out ?ar4
        case ay4 => (intro w hSw; (try dsimp only at hSw); go_simp; try with_reducible rfl)
        dsimp only [Act.put, List.setIfInBounds_toArray, List.set_cons_zero, List.set_cons_succ]
        refine wpAnyH_take (i := 5) (v := ?av5) rfl (by kernel_rfl) (by kernel_rfl) (by kernel_rfl) (fun _ _ _ h => h) (Or.inl ⟨by rfl, ?ay5⟩) HH0.out ?ar5
        case ay5 => (intro w hSw; (try dsimp only at hSw); go_simp; try with_reducible rfl)
        dsimp only [Act.put, List.setIfInBounds_toArray, List.set_cons_zero, List.set_cons_succ]
        refine wpAnyH_take (i := 6) (v := ?av6) rfl (by kernel_rfl) (by kernel_rfl) (by kernel_rfl) (fun _ _ _ h => h) (Or.inl ⟨by rfl, ?ay6⟩) HH0.out ?ar6
        case ay6 => (intro w hSw; (try dsimp only at hSw); go_simp; try with_reducible rfl)
        dsimp only [Act.put, List.setIfInBounds_toArray, List.set_cons_zero, List.set_cons_succ]
        refine wpAnyH_all (rs := [7, 9]) (by kernel_rfl) (by simp) ?_
        intro i hi
        have hi2 : i = 7 ∨ i = 9 := by simpa using hi
        clear hi
        rcases hi2 with rfl | rfl
        · refine wpOp_calls (f := 19) (args := #[.agg #[.int .u32 (f : Int), .int .i64 (xp : Nat)], .int .i64 (m.funcs.length : Nat)]) rfl rfl (by kernel_rfl) (there_ok _ hth hx0 hx1) ?_
          rintro ee w2 ⟨rfl, rfl⟩
          have k2 : Kept (fun _ => False) (wr.alloc (.cells #[.int .u32 (f : Int), .int .i64 (xp : Nat)] 62)) (((wr.alloc (.cells #[.int .u32 (f : Int), .int .i64 (xp : Nat)] 62)).drew).alloc (.cells #[.int .u32 (f : Int), .int .i64 (xp : Nat)] 62)) := ((Kept.refl _ _).drew).alloc _
          refine .inl ⟨_, rfl, HS.out _ k2, ?_⟩
          refine wpAnyH_all (rs := [8, 9]) (by kernel_rfl) (by simp) ?_
          intro i hi
          have hi2 : i = 8 ∨ i = 9 := by simpa using hi
          clear hi
          rcases hi2 with rfl | rfl
          · refine wpOp_calls (f := 37) (args := #[.pointer (some ⟨mb, 0, none⟩), .int .i64 (f : Nat)]) rfl rfl (by kernel_rfl) (HTY.out _ k2) ?_
            rintro ee w3 ⟨hk3, pi, ci, po, co, rfl⟩
            have k3 := k2.trans hk3
            have hs3 := Nat.lt_of_lt_of_le hsr k3.size
            have hm3 := Nat.lt_of_lt_of_le (Nat.lt_of_lt_of_le hmr kr1.size) k3.size
            obtain ⟨q0, q1, q2⟩ := HS.out _ k3
            refine .inl ⟨_, rfl, HS.out _ k3, ?_⟩
            refine wpAnyH_all (rs := [9]) (by kernel_rfl) (by simp) ?_
            intro i hi
            rw [List.mem_singleton] at hi
            subst hi
            refine wpOp_plain rfl rfl ?_
            go_wp2
            refine wpAnyH_all (rs := [10]) (by kernel_rfl) (by simp) ?_
            intro i hi
            rw [List.mem_singleton] at hi
            subst hi
            refine wpOp_plain rfl rfl ?_
            go_wp2
            refine wpAnyH_done (by kernel_rfl) ?_ _
            cases a1 with
            | zero =>
              cases a2 with
              | zero =>
                have HN := hide (HE.out.trans (HO.out (by rw [HFT.out, if_pos ⟨rfl, rfl⟩])))
                clear HB HO HE HFT HTY
                go_wp2
                go_roundw
                case rel => exact ⟨k + 1, by omega, by go_num, (kp1.trans k3).alloc _, HN.out⟩
                case measure => simp [intOf]; omega
              | succ b =>
                have HN : Hid (eachM (startFit m) m.starts = .error (4, xp)) := HE.out.trans (HB.out _ (by rw [HFT.out, if_neg (by omega)]))
                have hb : (0 : Int) < (b : Int) + 1 := by omega
                clear HB HO HE HFT HTY
                go_wp2_with fail
                refine (giveUp_any _ _ _).mono ?_
                rintro e w9 ⟨rfl, rfl⟩
                exact ⟨rfl, Says.err_mk HN.out ((kp1.trans k3).alloc _)⟩
            | succ b =>
              have HN : Hid (eachM (startFit m) m.starts = .error (4, xp)) := HE.out.trans (HB.out _ (by rw [HFT.out, if_neg (by omega)]))
              have hb : (0 : Int) < (b : Int) + 1 := by omega
              clear HB HO HE HFT HTY
              go_wp2_with fail
              refine (giveUp_any _ _ _).mono ?_
              rintro e w9 ⟨rfl, rfl⟩
              exact ⟨rfl, Says.err_mk HN.out ((kp1.trans k3).alloc _)⟩
          · refine wpOp_plain rfl rfl ?_
            go_wp2
            refine wpAnyH_all (rs := [8]) (by kernel_rfl) (by simp) ?_
            intro i hi
            rw [List.mem_singleton] at hi
            subst hi
            refine wpOp_calls (f := 37) (args := #[.pointer (some ⟨mb, 0, none⟩), .int .i64 (f : Nat)]) rfl rfl (by kernel_rfl) (HTY.out _ ((((Kept.refl _ _).alloc _).alloc _).drew)) ?_
            rintro ee w3 ⟨hk3, pi, ci, po, co, rfl⟩
            have kA : Kept (fun _ => False) (wr.alloc (.cells #[.int .u32 (f : Int), .int .i64 (xp : Nat)] 62)) w3 := ((((Kept.refl _ _).alloc _).alloc _).drew).trans hk3
            have hs3 := Nat.lt_of_lt_of_le hsr kA.size
            have hm3 := Nat.lt_of_lt_of_le (Nat.lt_of_lt_of_le hmr kr1.size) kA.size
            obtain ⟨q0, q1, q2⟩ := HS.out _ kA
            have hz3 := hk3.size
            simp at hz3
            have T0 : w3.cell? ⟨wr.heap.size + 1 + 1, 0, none⟩ = some (.slice none 0 0) := (hk3.cell (p := ⟨wr.heap.size + 1 + 1, 0, none⟩) (by simp) (fun c => c)).trans (by simp [go_sem])
            have T1 : w3.cell? ⟨wr.heap.size + 1 + 1, 1, none⟩ = some (.slice none 0 0) := (hk3.cell (p := ⟨wr.heap.size + 1 + 1, 1, none⟩) (by simp) (fun c => c)).trans (by simp [go_sem])
            have U0 : w3.frozen? ⟨wr.heap.size + 1 + 1, 0, none⟩ = false := (hk3.frozen (p := ⟨wr.heap.size + 1 + 1, 0, none⟩) (by simp) (fun c => c)).trans (by simp [go_sem])
            have U1 : w3.frozen? ⟨wr.heap.size + 1 + 1, 1, none⟩ = false := (hk3.frozen (p := ⟨wr.heap.size + 1 + 1, 1, none⟩) (by simp) (fun c => c)).trans (by simp [go_sem])
            have hne1 : ¬ wr.heap.size + 1 + 1 = wr.heap.size := by omega
            have hne2 : ¬ wr.heap.size + 1 + 1 = mb := by omega
            refine .inl ⟨_, rfl, HS.out _ kA, ?_⟩
            refine wpAnyH_all (rs := [10]) (by kernel_rfl) (by simp) ?_
            intro i hi
            rw [List.mem_singleton] at hi
            subst hi
            refine wpOp_plain rfl rfl ?_
            go_wp2
            refine wpAnyH_done (by kernel_rfl) ?_ _
            cases a1 with
            | zero =>
              cases a2 with
              | zero =>
                have HN := hide (HE.out.trans (HO.out (by rw [HFT.out, if_pos ⟨rfl, rfl⟩])))
                clear HB HO HE HFT HTY
                go_wp2
                go_roundw
                case rel => exact ⟨k + 1, by omega, by go_num, ((kp1.trans kA).setCell (p := ⟨wr.heap.size + 1 + 1, 0, none⟩) (fun h => absurd h (by simp; omega)) _).setCell (p := ⟨wr.heap.size + 1 + 1, 1, none⟩) (fun h => absurd h (by simp; omega)) _, HN.out⟩
                case measure => simp [intOf]; omega
              | succ b =>
                have HN : Hid (eachM (startFit m) m.starts = .error (4, xp)) := HE.out.trans (HB.out _ (by rw [HFT.out, if_neg (by omega)]))
                have hb : (0 : Int) < (b : Int) + 1 := by omega
                clear HB HO HE HFT HTY
                go_wp2_with fail
                refine (giveUp_any _ _ _).mono ?_
                rintro e w9 ⟨rfl, rfl⟩
                exact ⟨rfl, Says.err_mk HN.out (((kp1.trans kA).setCell (p := ⟨wr.heap.size + 1 + 1, 0, none⟩) (fun h => absurd h (by simp; omega)) _).setCell (p := ⟨wr.heap.size + 1 + 1, 1, none⟩) (fun h => absurd h (by simp; omega)) _)⟩
            | succ b =>
              have HN : Hid (eachM (startFit m) m.starts = .error (4, xp)) := HE.out.trans (HB.out _ (by rw [HFT.out, if_neg (by omega)]))
              have hb : (0 : Int) < (b : Int) + 1 := by omega
              clear HB HO HE HFT HTY
              go_wp2_with fail
              refine (giveUp_any _ _ _).mono ?_
              rintro e w9 ⟨rfl, rfl⟩
              exact ⟨rfl, Says.err_mk HN.out (((kp1.trans kA).setCell (p := ⟨wr.heap.size + 1 + 1, 0, none⟩) (fun h => absurd h (by simp; omega)) _).setCell (p := ⟨wr.heap.size + 1 + 1, 1, none⟩) (fun h => absurd h (by simp; omega)) _)⟩
        · refine wpOp_plain rfl rfl ?_
          go_wp2
          refine wpAnyH_all (rs := [7]) (by kernel_rfl) (by simp) ?_
          intro i hi
          rw [List.mem_singleton] at hi
          subst hi
          refine wpOp_calls (f := 19) (args := #[.agg #[.int .u32 (f : Int), .int .i64 (xp : Nat)], .int .i64 (m.funcs.length : Nat)]) rfl rfl (by kernel_rfl) (there_ok _ hth hx0 hx1) ?_
          rintro ee w2 ⟨rfl, rfl⟩
          have k2 : Kept (fun _ => False) (wr.alloc (.cells #[.int .u32 (f : Int), .int .i64 (xp : Nat)] 62)) ((((wr.alloc (.cells #[.int .u32 (f : Int), .int .i64 (xp : Nat)] 62)).alloc (.cells #[.slice none 0 0, .slice none 0 0] 85)).drew).alloc (.cells #[.int .u32 (f : Int), .int .i64 (xp : Nat)] 62)) := (((Kept.refl _ _).alloc _).drew).alloc _
          refine .inl ⟨_, rfl, HS.out _ k2, ?_⟩
          refine wpAnyH_all (rs := [8]) (by kernel_rfl) (by simp) ?_
          intro i hi
          rw [List.mem_singleton] at hi
          subst hi
          refine wpOp_calls (f := 37) (args := #[.pointer (some ⟨mb, 0, none⟩), .int .i64 (f : Nat)]) rfl rfl (by kernel_rfl) (HTY.out _ k2) ?_
          rintro ee w3 ⟨hk3, pi, ci, po, co, rfl⟩
          have kA := k2.trans hk3
          have hs3 := Nat.lt_of_lt_of_le hsr kA.size
          have hm3 := Nat.lt_of_lt_of_le (Nat.lt_of_lt_of_le hmr kr1.size) kA.size
          obtain ⟨q0, q1, q2⟩ := HS.out _ kA
          have hz3 := hk3.size
          simp at hz3
          have T0 : w3.cell? ⟨wr.heap.size + 1, 0, none⟩ = some (.slice none 0 0) := (hk3.cell (p := ⟨wr.heap.size + 1, 0, none⟩) (by simp) (fun c => c)).trans (by simp [go_sem])
          have T1 : w3.cell? ⟨wr.heap.size + 1, 1, none⟩ = some (.slice none 0 0) := (hk3.cell (p := ⟨wr.heap.size + 1, 1, none⟩) (by simp) (fun c => c)).trans (by simp [go_sem])
          have U0 : w3.frozen? ⟨wr.heap.size + 1, 0, none⟩ = false := (hk3.frozen (p := ⟨wr.heap.size + 1, 0, none⟩) (by simp) (fun c => c)).trans (by simp [go_sem])
          have U1 : w3.frozen? ⟨wr.heap.size + 1, 1, none⟩ = false := (hk3.frozen (p := ⟨wr.heap.size + 1, 1, none⟩) (by simp) (fun c => c)).trans (by simp [go_sem])
          have hne1 : ¬ wr.heap.size + 1 = wr.heap.size := by omega
          have hne2 : ¬ wr.heap.size + 1 = mb := by omega
          refine .inl ⟨_, rfl, HS.out _ kA, ?_⟩
          refine wpAnyH_all (rs := [10]) (by kernel_rfl) (by simp) ?_
          intro i hi
          rw [List.mem_singleton] at hi
          subst hi
          refine wpOp_plain rfl rfl ?_
          go_wp2
          refine wpAnyH_done (by kernel_rfl) ?_ _
          cases a1 with
          | zero =>
            cases a2 with
            | zero =>
              have HN := hide (HE.out.trans (HO.out (by rw [HFT.out, if_pos ⟨rfl, rfl⟩])))
              clear HB HO HE HFT HTY
              go_wp2
              go_roundw
              case rel => exact ⟨k + 1, by omega, by go_num, ((kp1.trans kA).setCell (p := ⟨wr.heap.size + 1, 0, none⟩) (fun h => absurd h (by simp; omega)) _).setCell (p := ⟨wr.heap.size + 1, 1, none⟩) (fun h => absurd h (by simp; omega)) _, HN.out⟩
              case measure => simp [intOf]; omega
            | succ b =>
              have HN : Hid (eachM (startFit m) m.starts = .error (4, xp)) := HE.out.trans (HB.out _ (by rw [HFT.out, if_neg (by omega)]))
              have hb : (0 : Int) < (b : Int) + 1 := by omega
              clear HB HO HE HFT HTY
              go_wp2_with fail
              refine (giveUp_any _ _ _).mono ?_
              rintro e w9 ⟨rfl, rfl⟩
              exact ⟨rfl, Says.err_mk HN.out (((kp1.trans kA).setCell (p := ⟨wr.heap.size + 1, 0, none⟩) (fun h => absurd h (by simp; omega)) _).setCell (p := ⟨wr.heap.size + 1, 1, none⟩) (fun h => absurd h (by simp; omega)) _)⟩
          | succ b =>
            have HN : Hid (eachM (startFit m) m.starts = .error (4, xp)) := HE.out.trans (HB.out _ (by rw [HFT.out, if_neg (by omega)]))
            have hb : (0 : Int) < (b : Int) + 1 := by omega
            clear HB HO HE HFT HTY
            go_wp2_with fail
            refine (giveUp_any _ _ _).mono ?_
            rintro e w9 ⟨rfl, rfl⟩
            exact ⟨rfl, Says.err_mk HN.out (((kp1.trans kA).setCell (p := ⟨wr.heap.size + 1, 0, none⟩) (fun h => absurd h (by simp; omega)) _).setCell (p := ⟨wr.heap.size + 1, 1, none⟩) (fun h => absurd h (by simp; omega)) _)⟩
      · have HN := hide (HE.out.trans (HB.out _ (startFit_bad hth)))
        have hge : (m.funcs.length : Int) ≤ xi := by omega
        clear HB HO HE
        go_wp2_with fail
        refine wp_region_held_drew (S := fun w' : World => w'.cell? ⟨wr.heap.size, 0, none⟩ = some (.int .u32 xi) ∧ w'.cell? ⟨wr.heap.size, 1, none⟩ = some (.int .i64 (xp : Nat)) ∧ w'.cell? ⟨mb, 1, none⟩ = some (.slice p1 m.funcs.length c1)) (by kernel_rfl) HH0.out (fun _ => ?_)
        refine wpAnyH_take (i := 0) (v := ?bv0) rfl (by kernel_rfl) (by kernel_rfl) (by kernel_rfl) (fun _ _ _ h => h) (Or.inl ⟨by rfl, ?by0⟩) HH0.out ?br0
        case by0 => (intro w hSw; (try dsimp only at hSw); go_simp; try with_reducible rfl)
        dsimp only [Act.put, List.setIfInBounds_toArray, List.set_cons_zero, List.set_cons_succ]
        refine wpAnyH_take (i := 1) (v := ?bv1) rfl (by kernel_rfl) (by kernel_rfl) (by kernel_rfl) (fun _ _ _ h => h) (Or.inl ⟨by rfl, ?by1⟩) HH0.out ?br1
        case by1 => (intro w hSw; (try dsimp only at hSw); go_simp; try with_reducible rfl)
        dsimp only [Act.put, List.setIfInBounds_toArray, List.set_cons_zero, List.set_cons_succ]
        refine wpAnyH_take (i := 2) (v := ?bv2) rfl (by kernel_rfl) (by kernel_rfl) (by kernel_rfl) (fun _ _ _ h => h) (Or.inl ⟨by rfl, ?by2⟩) HH0.out ?br2
        case by2 => (intro w hSw; (try dsimp only at hSw); go_simp; try with_reducible rfl)
        dsimp only [Act.put, List.setIfInBounds_toArray, List.set_cons_zero, List.set_cons_succ]
        refine wpAnyH_take (i := 3) (v := ?bv3) rfl (by kernel_rfl) (by kernel_rfl) (by kernel_rfl) (fun _ _ _ h => h) (Or.inl ⟨by rfl, ?by3⟩) HH0.out ?br3
        case by3 => (intro w hSw; (try dsimp only at hSw); go_simp; try with_reducible rfl)
        dsimp only [Act.put, List.setIfInBounds_toArray, List.set_cons_zero, List.set_cons_succ]
        refine wpAnyH_take (i := 4) (v := ?bv4) rfl (by kernel_rfl) (by kernel_rfl) (by kernel_rfl) (fun _ _ _ h => h) (Or.inl ⟨by rfl, ?by4⟩) HH0.out ?br4
        case by4 => (intro w hSw; (try dsimp only at hSw); go_simp; try with_reducible rfl)
        dsimp only [Act.put, List.setIfInBounds_toArray, List.set_cons_zero, List.set_cons_succ]
        refine wpAnyH_take (i := 5) (v := ?bv5) rfl (by kernel_rfl) (by kernel_rfl) (by kernel_rfl) (fun _ _ _ h => h) (Or.inl ⟨by rfl, ?by5⟩) HH0.out ?br5
        case by5 => (intro w hSw; (try dsimp only at hSw); go_simp; try with_reducible rfl)
        dsimp only [Act.put, List.setIfInBounds_toArray, List.set_cons_zero, List.set_cons_succ]
        refine wpAnyH_take (i := 6) (v := ?bv6) rfl (by kernel_rfl) (by kernel_rfl) (by kernel_rfl) (fun _ _ _ h => h) (Or.inl ⟨by rfl, ?by6⟩) HH0.out ?br6
        case by6 => (intro w hSw; (try dsimp only at hSw); go_simp; try with_reducible rfl)
        dsimp only [Act.put, List.setIfInBounds_toArray, List.set_cons_zero, List.set_cons_succ]
        refine wpAnyH_all (rs := [7, 9]) (by kernel_rfl) (by simp) ?_
        intro i hi
        have hi2 : i = 7 ∨ i = 9 := by simpa using hi
        clear hi
        rcases hi2 with rfl | rfl
        · refine wpOp_dies (f := 19) (args := #[.agg #[.int .u32 xi, .int .i64 (xp : Nat)], .int .i64 (m.funcs.length : Nat)]) rfl rfl (by kernel_rfl) (there_bad _ hge hx0 hx1) ?_
          rintro e w2 ⟨rfl, rfl⟩
          refine ⟨_, rfl, ?_⟩
          exact ⟨rfl, Says.err_mk HN.out (kp1.drew.alloc _)⟩
        · refine wpOp_plain rfl rfl ?_
          go_wp2
          refine wpAnyH_all (rs := [7]) (by kernel_rfl) (by simp) ?_
          intro i hi
          rw [List.mem_singleton] at hi
          subst hi
          refine wpOp_dies (f := 19) (args := #[.agg #[.int .u32 xi, .int .i64 (xp : Nat)], .int .i64 (m.funcs.length : Nat)]) rfl rfl (by kernel_rfl) (there_bad _ hge hx0 hx1) ?_
          rintro e w2 ⟨rfl, rfl⟩
          refine ⟨_, rfl, ?_⟩
          exact ⟨rfl, Says.err_mk HN.out ((((hkp.alloc _).alloc _).drew).alloc _)⟩
    · have HN := hide (HE.out.trans (eachM_done hlt))
      clear HE
      go_wp2
      go_end0
      exact Says.ok_mk HN.out hkp rfl

end

end Go.Proofs.YtdfmillbaabpiaaGreat
/-
  checkElements.
-/
namespace Go.Proofs.YtdfmillbaabpiaaGreat
open Go.RowKit

section
variable {K : Nat → Prop} {w : World} {mb : Nat} {s : ByteArray} {m : Mdl}

/-- An element, by its index. -/
theorem elems_cell {ts : List Elm} {v : Value} (h : isLst 88 5 elElm K ts w v) {k : Nat} (hk : k < ts.length) :
    ∃ g cap lv, v = .slice (some ⟨g, 0, none⟩) ts.length cap ∧ g < w.heap.size ∧ ts.length ≤ cap ∧ isRow 62 2 numCells K ts[k].funcs w lv ∧ w.cell? ⟨g, k * 5, none⟩ = some (.int .i64 (ts[k].at_ : Nat)) ∧ w.cell? ⟨g, k * 5 + 1, none⟩ = some (.int .i64 (ts[k].place.at_ : Nat)) ∧
      w.cell? ⟨g, k * 5 + 2, none⟩ = some (.int .u8 (ts[k].place.kind : Nat)) ∧ w.cell? ⟨g, k * 5 + 3, none⟩ = some (.int .i64 ts[k].place.val) ∧ w.cell? ⟨g, k * 5 + 4, none⟩ = some lv := by
  obtain ⟨css, hrow, hea⟩ := h
  obtain ⟨g, cap, hv, -, hg, hc, hcell⟩ := Row.cells hrow (by omega)
  have hy : ts[k]? = some ts[k] := List.getElem?_eq_getElem hk
  obtain ⟨cs, hcs, ⟨⟨lv, rfl, h1⟩, -⟩⟩ := hea.get hy
  exact ⟨g, cap, lv, hv, hg, hc, h1, (hcell (k * 5) (by omega)).trans (Each.flat (o := 0) hea hcs (by omega)), (hcell (k * 5 + 1) (by omega)).trans (Each.flat (o := 1) hea hcs (by omega)), (hcell (k * 5 + 2) (by omega)).trans (Each.flat (o := 2) hea hcs (by omega)), (hcell (k * 5 + 3) (by omega)).trans (Each.flat (o := 3) hea hcs (by omega)), (hcell (k * 5 + 4) (by omega)).trans (Each.flat (o := 4) hea hcs (by omega))⟩

theorem elemFit_none {e : Elm} (h : m.tables.length = 0) : elemFit m e = .error (3, e.at_) := by simp [elemFit, h]

theorem elemFit_cst {e : Elm} {q : Err} (h : ¬ m.tables.length = 0) (hc : cstFit 127 e.place = .error q) : elemFit m e = .error q := by simp [elemFit, h, hc]

theorem elemFit_each {e : Elm} {u : Unit} (h : ¬ m.tables.length = 0) (hc : cstFit 127 e.place = .ok u) : elemFit m e = eachM (thereU m.funcs.length) e.funcs := by simp [elemFit, h, hc]

set_option maxRecDepth 100000 in
set_option maxHeartbeats 6400000 in
theorem checkElements_any {N : Nat} (hm : MV s K w mb m) (hl : m.elems.length ≤ 50) (hx : ∀ x ∈ m.elems, elmOk N x) :
    Calls Tryz.prog 24 #[.pointer (some ⟨mb, 0, none⟩)] w (Looks w (eachM (elemFit m) m.elems)) := by
  have hmw := hm.lt
  obtain ⟨p1, c1, p2, c2, -, -, -, -, F1, F2, -, -⟩ := hm.four
  obtain ⟨hK, fl, hM, hH⟩ := hm
  obtain ⟨F, -⟩ := hM.twelve.2.2.1
  have hr := hH.h7
  obtain ⟨p, c, hf⟩ : ∃ p c, fl.v7 = .slice p m.elems.length c := by
    obtain ⟨css, h, -⟩ := hr
    exact Row.shape h
  rw [hf] at F hr
  have HR := hide hr
  have HX := hide hx
  clear hH hM hf hx hK hr
  have H0 : Hid (eachM (elemFit m) m.elems = eachM (elemFit m) (m.elems.drop 0)) := by show _ = _; simp
  go_enter Tryz.func24, Tryz.ntmps24
  go_wp2
  go_loopw [11] (fun q wo => ∃ k : Nat, k ≤ m.elems.length ∧ q = .int .i64 k ∧ Kept (fun _ => False) w wo ∧ eachM (elemFit m) m.elems = eachM (elemFit m) (m.elems.drop k)) (fun q _ => m.elems.length - (intOf q).toNat)
  case atStart => exact ⟨0, Nat.zero_le _, rfl, Kept.refl _ _, H0.out⟩
  case round =>
    obtain ⟨k, hk, rfl, hkp, hme⟩ := hrel
    obtain ⟨wo, hwo⟩ : ∃ x, x = wr := ⟨wr, rfl⟩
    subst hwo
    have HE := hide hme
    clear hme H0
    by_cases hlt : k < m.elems.length
    · have hlt' : (k : Int) < (m.elems.length : Int) := by omega
      obtain ⟨g, cap, lv, hv, hgl, hcap, hfr, d0, d1, d2, d3, d4⟩ := elems_cell (HR.out.kept hkp (fun _ _ _ c => c) (fun _ _ e => e.kept hkp (fun _ _ _ c => c))) hlt
      cases hv
      obtain ⟨pf, cf, rfl⟩ := Row.shape hfr
      have HB := hide (fun e => eachM_bad (f := elemFit m) (e := e) hlt)
      have HO := hide (eachM_ok (f := elemFit m) hlt)
      have hxk := HX.out _ (List.getElem_mem hlt)
      have F1r := (hkp.cell (p := ⟨mb, 1, none⟩) hmw (fun c => c)).trans F1
      have F2r := (hkp.cell (p := ⟨mb, 2, none⟩) hmw (fun c => c)).trans F2
      have hmr : mb < wo.heap.size := Nat.lt_of_lt_of_le hmw hkp.size
      have HFR := hide hfr
      clear hfr
      generalize m.elems[k] = x at *
      obtain ⟨xa, ⟨xb, xk, xz⟩, fs⟩ := x
      simp only at d0 d1 d2 d3 d4 HFR
      have hfl20 : fs.length ≤ 20 := hxk.2.2.1
      have HFX : Hid (∀ y ∈ fs, 0 ≤ y.1 ∧ y.1 ≤ 4294967295) := fun y hy => ⟨(hxk.2.2.2 y hy).1, (hxk.2.2.2 y hy).2.1⟩
      clear hxk
      by_cases hz : m.tables.length = 0
      · have tz : ((m.tables.length : Int) == 0) = true := by rw [hz]; rfl
        have HN := hide (HE.out.trans (HB.out _ (elemFit_none hz)))
        clear HE HO HB hz
        go_wp2_with fail
        refine (giveUp_any _ _ _).mono ?_
        rintro e w3 ⟨rfl, rfl⟩
        exact ⟨rfl, Says.err_mk HN.out (hkp.alloc _)⟩
      · have tz : ((m.tables.length : Int) == 0) = false := beq_eq_false_iff_ne.2 (by omega)
        have HZ := hide hz
        clear hz
        go_wp2_with fail
        refine (checkConstant_any _ _ 127 _ _ rfl).mono ?_
        rintro e w2 ⟨hk2, hok, herr⟩
        have hk3 := (hkp.alloc (.cells #[.int .i64 (xa : Nat), .int .i64 (xb : Nat), .int .u8 (xk : Nat), .int .i64 xz, .slice pf fs.length cf] 88)).trans hk2
        have hkr : Kept (fun _ => False) wo w2 := ((Kept.refl _ _).alloc _).trans hk2
        cases ho : cstFit 127 ⟨xb, xk, xz⟩ with
        | error qp =>
          obtain ⟨q, pp⟩ := qp
          have he := herr _ _ ho
          subst he
          exact ⟨rfl, Says.err_mk (HE.out.trans (HB.out _ (elemFit_cst HZ.out ho))) hk3⟩
        | ok u =>
          obtain ⟨v, rfl, rfl⟩ := hok u ho
          have HEF := hide (elemFit_each (e := ⟨xa, ⟨xb, xk, xz⟩, fs⟩) HZ.out ho)
          have hwe : wo.heap.size < (wo.alloc (.cells #[.int .i64 (xa : Nat), .int .i64 (xb : Nat), .int .u8 (xk : Nat), .int .i64 xz, .slice pf fs.length cf] 88)).heap.size := by simp
          have V4 : w2.cell? ⟨wo.heap.size, 4, none⟩ = some (.slice pf fs.length cf) := (hk2.cell (p := ⟨wo.heap.size, 4, none⟩) hwe (fun c => c)).trans (by simp)
          have H1 : Hid (eachM (thereU m.funcs.length) fs = eachM (thereU m.funcs.length) (fs.drop 0)) := by show _ = _; simp
          clear hok herr ho
          go_wp2
          go_loopw [30] (fun q wr => ∃ i : Nat, i ≤ fs.length ∧ q = .int .i64 i ∧ Kept (fun _ => False) w2 wr ∧ eachM (thereU m.funcs.length) fs = eachM (thereU m.funcs.length) (fs.drop i)) (fun q _ => fs.length - (intOf q).toNat)
          case atStart => exact ⟨0, Nat.zero_le _, rfl, Kept.refl _ _, H1.out⟩
          case round =>
            obtain ⟨i, hi, rfl, hkv, hmi⟩ := hrel
            have HI := hide hmi
            clear hmi H1
            have hkv0 := hk3.trans hkv
            by_cases hil : i < fs.length
            · have hil' : (i : Int) < (fs.length : Int) := by omega
              have hry : isRow 62 2 numCells K fs wr (.slice pf fs.length cf) := Row.kept HFR.out (hkr.trans hkv) (fun _ _ _ hc => hc)
              obtain ⟨g', cap', hv', -, hgl', hcap', hcell'⟩ := Row.cells hry (by omega)
              cases hv'
              have hyi : fs[i]? = some fs[i] := List.getElem?_eq_getElem hil
              have HB1 := hide (fun e => eachM_bad (f := thereU m.funcs.length) (e := e) hil)
              have HO1 := hide (eachM_ok (f := thereU m.funcs.length) hil)
              have e0 : wr.cell? ⟨g', i * 2, none⟩ = some (.int .u32 fs[i].1) := (hcell' (i * 2) (by omega)).trans (flat_get (m := 2) (o := 0) (fun _ => rfl) hyi (by omega))
              have e1 : wr.cell? ⟨g', i * 2 + 1, none⟩ = some (.int .i64 (fs[i].2 : Nat)) := (hcell' (i * 2 + 1) (by omega)).trans (flat_get (m := 2) (o := 1) (fun _ => rfl) hyi (by omega))
              have hyk := HFX.out _ (List.getElem_mem hil)
              have F1v := ((hkr.trans hkv).cell (p := ⟨mb, 1, none⟩) hmr (fun c => c)).trans F1r
              have hmv : mb < wr.heap.size := Nat.lt_of_lt_of_le hmr (hkr.trans hkv).size
              clear hcell' hry hyi
              generalize fs[i] = y at *
              obtain ⟨yi, yp⟩ := y
              simp only at e0 e1 hyk HB1 HO1
              obtain ⟨hx0, hx1⟩ := hyk
              have kp1 : Kept (fun _ => False) w ((wr.alloc (.cells #[.int .u32 yi, .int .i64 (yp : Nat)] 62)).drew) := (hkv0.alloc _).drew
              have kq1 : Kept (fun _ => False) w2 ((wr.alloc (.cells #[.int .u32 yi, .int .i64 (yp : Nat)] 62)).drew) := (hkv.alloc _).drew
              have kr1 : Kept (fun _ => False) wr ((wr.alloc (.cells #[.int .u32 yi, .int .i64 (yp : Nat)] 62)).drew) := ((Kept.refl _ _).alloc _).drew
              have hsr : wr.heap.size < ((wr.alloc (.cells #[.int .u32 yi, .int .i64 (yp : Nat)] 62)).drew).heap.size := by simp
              have HS : Hid (∀ w', Kept (fun _ => False) ((wr.alloc (.cells #[.int .u32 yi, .int .i64 (yp : Nat)] 62)).drew) w' → (fun w' : World => w'.cell? ⟨wr.heap.size, 0, none⟩ = some (.int .u32 yi) ∧ w'.cell? ⟨wr.heap.size, 1, none⟩ = some (.int .i64 (yp : Nat)) ∧ w'.cell? ⟨mb, 1, none⟩ = some (.slice p1 m.funcs.length c1)) w') := fun w' hk => ⟨(hk.cell (p := ⟨wr.heap.size, 0, none⟩) hsr (fun c => c)).trans (by simp), (hk.cell (p := ⟨wr.heap.size, 1, none⟩) hsr (fun c => c)).trans (by simp), ((kr1.trans hk).cell (p := ⟨mb, 1, none⟩) hmv (fun c => c)).trans F1v⟩
              have HH0 := hide (HS.out _ (Kept.refl _ _))
              by_cases hth : yi < (m.funcs.length : Int)
              · have HN := hide (HI.out.trans (HO1.out (by simp [thereU, hth])))
                clear HB1 HO1 HI
                go_wp2_with fail
                refine wp_region_held_drew (S := fun w' : World => w'.cell? ⟨wr.heap.size, 0, none⟩ = some (.int .u32 yi) ∧ w'.cell? ⟨wr.heap.size, 1, none⟩ = some (.int .i64 (yp : Nat)) ∧ w'.cell? ⟨mb, 1, none⟩ = some (.slice p1 m.funcs.length c1)) (by kernel_rfl) HH0.out (fun _ => ?_)
                refine wpAnyH_take (i := 0) (v := ?av0) rfl (by kernel_rfl) (by kernel_rfl) (by kernel_rfl) (fun _ _ _ h => h) (Or.inl ⟨by rfl, ?ay0⟩) HH0.out ?ar0
                case ay0 => (intro w hSw; (try dsimp only at hSw); go_simp; try with_reducible rfl)
                dsimp only [Act.put, List.setIfInBounds_toArray, List.set_cons_zero, List.set_cons_succ]
                refine wpAnyH_take (i := 1) (v := ?av1) rfl (by kernel_rfl) (by kernel_rfl) (by kernel_rfl) (fun _ _ _ h => h) (Or.inl ⟨by rfl, ?ay1⟩) HH0.out ?ar1
                case ay1 => (intro w hSw; (try dsimp only at hSw); go_simp; try with_reducible rfl)
                dsimp only [Act.put, List.setIfInBounds_toArray, List.set_cons_zero, List.set_cons_succ]
                refine wpAnyH_take (i := 2) (v := ?av2) rfl (by kernel_rfl) (by kernel_rfl) (by kernel_rfl) (fun _ _ _ h => h) (Or.inl ⟨by rfl, ?ay2⟩) HH0.out ?ar2
                case ay2 => (intro w hSw; (try dsimp only at hSw); go_simp; try with_reducible rfl)
                dsimp only [Act.put, List.setIfInBounds_toArray, List.set_cons_zero, List.set_cons_succ]
                refine wpAnyH_take (i := 3) (v := ?av3) rfl (by kernel_rfl) (by kernel_rfl) (by kernel_rfl) (fun _ _ _ h => h) (Or.inl ⟨by rfl, ?ay3⟩) HH0.out ?ar3
                case ay3 => (intro w hSw; (try dsimp only at hSw); go_simp; try with_reducible rfl)
                dsimp only [Act.put, List.setIfInBounds_toArray, List.set_cons_zero, List.set_cons_succ]
                refine wpAnyH_take (i := 4) (v := ?av4) rfl (by kernel_rfl) (by kernel_rfl) (by kernel_rfl) (fun _ _ _ h => h) (Or.inl ⟨by rfl, ?ay4⟩) HH0.out ?ar4
                case ay4 => (intro w hSw; (try dsimp only at hSw); go_simp; try with_reducible rfl)
                dsimp only [Act.put, List.setIfInBounds_toArray, List.set_cons_zero, List.set_cons_succ]
                refine wpAnyH_take (i := 5) (v := ?av5) rfl (by kernel_rfl) (by kernel_rfl) (by kernel_rfl) (fun _ _ _ h => h) (Or.inl ⟨by rfl, ?ay5⟩) HH0.out ?ar5
                case ay5 => (intro w hSw; (try dsimp only at hSw); go_simp; try with_reducible rfl)
                dsimp only [Act.put, List.setIfInBounds_toArray, List.set_cons_zero, List.set_cons_succ]
                refine wpAnyH_all (rs := [6]) (by kernel_rfl) (by simp) ?_
                intro i hi
                rw [List.mem_singleton] at hi
                subst hi
                refine wpOp_calls (f := 19) (args := #[.agg #[.int .u32 yi, .int .i64 (yp : Nat)], .int .i64 (m.funcs.length : Nat)]) rfl rfl (by kernel_rfl) (there_ok _ hth hx0 hx1) ?_
                rintro ee w4 ⟨rfl, rfl⟩
                refine .inl ⟨_, rfl, HS.out _ ((Kept.refl _ _).alloc _), ?_⟩
                refine wpAnyH_done (by kernel_rfl) ?_ _
                dsimp only [Act.put, List.setIfInBounds_toArray, List.set_cons_zero, List.set_cons_succ]
                clear HH0 HS
                go_wp2
                go_roundw
                case rel => exact ⟨i + 1, by omega, by go_num, kq1.alloc _, HN.out⟩
                case measure => simp [intOf]; omega
              · have HN := hide (HE.out.trans (HB.out _ (HEF.out.trans (HI.out.trans (HB1.out (3, yp) (by simp [thereU, hth]))))))
                have hge : (m.funcs.length : Int) ≤ yi := by omega
                clear HB HO HB1 HO1 HI HE HEF
                go_wp2_with fail
                refine wp_region_held_drew (S := fun w' : World => w'.cell? ⟨wr.heap.size, 0, none⟩ = some (.int .u32 yi) ∧ w'.cell? ⟨wr.heap.size, 1, none⟩ = some (.int .i64 (yp : Nat)) ∧ w'.cell? ⟨mb, 1, none⟩ = some (.slice p1 m.funcs.length c1)) (by kernel_rfl) HH0.out (fun _ => ?_)
                refine wpAnyH_take (i := 0) (v := ?bv0) rfl (by kernel_rfl) (by kernel_rfl) (by kernel_rfl) (fun _ _ _ h => h) (Or.inl ⟨by rfl, ?by0⟩) HH0.out ?br0
                case by0 => (intro w hSw; (try dsimp only at hSw); go_simp; try with_reducible rfl)
                dsimp only [Act.put, List.setIfInBounds_toArray, List.set_cons_zero, List.set_cons_succ]
                refine wpAnyH_take (i := 1) (v := ?bv1) rfl (by kernel_rfl) (by kernel_rfl) (by kernel_rfl) (fun _ _ _ h => h) (Or.inl ⟨by rfl, ?by1⟩) HH0.out ?br1
                case by1 => (intro w hSw; (try dsimp only at hSw); go_simp; try with_reducible rfl)
                dsimp only [Act.put, List.setIfInBounds_toArray, List.set_cons_zero, List.set_cons_succ]
                refine wpAnyH_take (i := 2) (v := ?bv2) rfl (by kernel_rfl) (by kernel_rfl) (by kernel_rfl) (fun _ _ _ h => h) (Or.inl ⟨by rfl, ?by2⟩) HH0.out ?br2
                case by2 => (intro w hSw; (try dsimp only at hSw); go_simp; try with_reducible rfl)
                dsimp only [Act.put, List.setIfInBounds_toArray, List.set_cons_zero, List.set_cons_succ]
                refine wpAnyH_take (i := 3) (v := ?bv3) rfl (by kernel_rfl) (by kernel_rfl) (by kernel_rfl) (fun _ _ _ h => h) (Or.inl ⟨by rfl, ?by3⟩) HH0.out ?br3
                case by3 => (intro w hSw; (try dsimp only at hSw); go_simp; try with_reducible rfl)
                dsimp only [Act.put, List.setIfInBounds_toArray, List.set_cons_zero, List.set_cons_succ]
                refine wpAnyH_take (i := 4) (v := ?bv4) rfl (by kernel_rfl) (by kernel_rfl) (by kernel_rfl) (fun _ _ _ h => h) (Or.inl ⟨by rfl, ?by4⟩) HH0.out ?br4
                case by4 => (intro w hSw; (try dsimp only at hSw); go_simp; try with_reducible rfl)
                dsimp only [Act.put, List.setIfInBounds_toArray, List.set_cons_zero, List.set_cons_succ]
                refine wpAnyH_take (i := 5) (v := ?bv5) rfl (by kernel_rfl) (by kernel_rfl) (by kernel_rfl) (fun _ _ _ h => h) (Or.inl ⟨by rfl, ?by5⟩) HH0.out ?br5
                case by5 => (intro w hSw; (try dsimp only at hSw); go_simp; try with_reducible rfl)
                dsimp only [Act.put, List.setIfInBounds_toArray, List.set_cons_zero, List.set_cons_succ]
                refine wpAnyH_all (rs := [6]) (by kernel_rfl) (by simp) ?_
                intro i hi
                rw [List.mem_singleton] at hi
                subst hi
                refine wpOp_dies (f := 19) (args := #[.agg #[.int .u32 yi, .int .i64 (yp : Nat)], .int .i64 (m.funcs.length : Nat)]) rfl rfl (by kernel_rfl) (there_bad _ hge hx0 hx1) ?_
                rintro e w4 ⟨rfl, rfl⟩
                refine ⟨_, rfl, ?_⟩
                exact ⟨rfl, Says.err_mk HN.out (kp1.alloc _)⟩
            · have HN := hide (HE.out.trans (HO.out (HEF.out.trans (HI.out.trans (eachM_done hil)))))
              clear HB HO HI HE HEF
              go_wp2
              go_roundw
              case rel => exact ⟨k + 1, by omega, by go_num, hkv0, HN.out⟩
              case measure => simp [intOf]; omega
    · have HN := hide (HE.out.trans (eachM_done hlt))
      clear HE
      go_wp2
      go_end0
      exact Says.ok_mk HN.out hkp rfl

end

end Go.Proofs.YtdfmillbaabpiaaGreat
