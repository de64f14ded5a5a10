/-
  Part 18 of the proof: Body12, Body13, Body14, Body15, Body16.
-/
import Derived.Test.YtgkpkngchploiaaGreatPart17
/-
  Numbers, select.
-/
namespace Go.Proofs.YtgkpkngchploiaaGreat
open Go.RowKit

section
variable {K O N : Nat → Prop} {w W : World} {bb : Nat} {mp lv : Value} {st : Bd}

set_option maxHeartbeats 3200000 in
theorem checkNumber_at (h : At K O w W N bb mp lv st) (hb : st.blocks ≠ []) (x : Nat) (hs : st.stack.length ≤ 799000) :
    Calls Tryz.prog 66 #[.pointer (some ⟨bb, 0, none⟩), .int .u8 (x : Nat)] W (Ends K O w W (fun k => k < W.heap.size) bb mp lv (checkNumberM x st)) := by
  have HA := hide h.up
  clear h
  obtain ⟨m, h⟩ : ∃ m, checkNumberM x st = m := ⟨_, rfl⟩
  rw [h]
  unfold checkNumberM at h
  by_cases hx : x = 65
  · rw [if_pos hx] at h
    have t : ((x : Int) == 65) = true := by simp; omega
    subst h
    clear hx
    go_enter Tryz.func66, Tryz.ntmps66
    go_wp2_with fail
    refine (put_at (HA.out.alloc _) (kinds_made W [127] rfl rfl (by simp)) (by simp) (by simp; omega)).mono ?_
    rintro ee w1 ⟨hok1, -, -, hlow1⟩
    obtain ⟨rfl, hA1⟩ := hok1 _ rfl
    have HA1 := hide hA1
    clear hok1 hA1
    go_wp2
    go_end0
    exact Ends.ok_mk rfl HA1.out (((Kept.refl _ _).alloc _).trans hlow1)
  rw [if_neg hx] at h
  have t65 : ((x : Int) == 65) = false := beq_eq_false_iff_ne.2 (by omega)
  clear hx
  by_cases hx : x = 66
  · rw [if_pos hx] at h
    have t : ((x : Int) == 66) = true := by simp; omega
    subst h
    clear hx
    go_enter Tryz.func66, Tryz.ntmps66
    go_wp2_with fail
    refine (put_at (HA.out.alloc _) (kinds_made W [126] rfl rfl (by simp)) (by simp) (by simp; omega)).mono ?_
    rintro ee w1 ⟨hok1, -, -, hlow1⟩
    obtain ⟨rfl, hA1⟩ := hok1 _ rfl
    have HA1 := hide hA1
    clear hok1 hA1
    go_wp2
    go_end0
    exact Ends.ok_mk rfl HA1.out (((Kept.refl _ _).alloc _).trans hlow1)
  rw [if_neg hx] at h
  have t66 : ((x : Int) == 66) = false := beq_eq_false_iff_ne.2 (by omega)
  clear hx
  by_cases hx : x = 69
  · rw [if_pos hx] at h
    have t : ((x : Int) == 69) = true := by simp; omega
    have HM := hide h
    clear h hx
    go_enter Tryz.func66, Tryz.ntmps66
    go_wp2_with fail
    refine (compute_at (HA.out.alloc _) hb 127 (kinds_made W [127] rfl rfl (by simp)) HA.out.ne (by simp) hs rfl).mono ?_
    rw [HM.out]
    rintro ee w1 ⟨hok1, herr1, hk1, hlow1⟩
    have hlowW : Kept (fun k => k < W.heap.size ∧ ¬ K k) W w1 := (((Kept.refl _ _).alloc _).trans hlow1).mono (fun k hk c => ⟨hk, c.2⟩)
    clear HM
    rcases m with ⟨q, p⟩ | st1
    · have he := herr1 _ _ rfl
      subst he
      exact ⟨rfl, Ends.err_mk rfl hk1 hlowW⟩
    · obtain ⟨rfl, hA1⟩ := hok1 _ rfl
      have HA1 := hide hA1
      clear hok1 herr1 hA1
      go_wp2
      go_end0
      exact Ends.ok_mk rfl HA1.out hlowW
  rw [if_neg hx] at h
  have t69 : ((x : Int) == 69) = false := beq_eq_false_iff_ne.2 (by omega)
  clear hx
  by_cases hx : x ≤ 79
  · rw [if_pos hx] at h
    have t : (x : Int) ≤ 79 := by omega
    have HM := hide h
    clear h hx
    go_enter Tryz.func66, Tryz.ntmps66
    go_wp2_with fail
    refine (compute_at (HA.out.alloc _) hb 127 (kinds_made W [127, 127] rfl rfl (by simp)) HA.out.ne (by simp) hs rfl).mono ?_
    rw [HM.out]
    rintro ee w1 ⟨hok1, herr1, hk1, hlow1⟩
    have hlowW : Kept (fun k => k < W.heap.size ∧ ¬ K k) W w1 := (((Kept.refl _ _).alloc _).trans hlow1).mono (fun k hk c => ⟨hk, c.2⟩)
    clear HM
    rcases m with ⟨q, p⟩ | st1
    · have he := herr1 _ _ rfl
      subst he
      exact ⟨rfl, Ends.err_mk rfl hk1 hlowW⟩
    · obtain ⟨rfl, hA1⟩ := hok1 _ rfl
      have HA1 := hide hA1
      clear hok1 herr1 hA1
      go_wp2
      go_end0
      exact Ends.ok_mk rfl HA1.out hlowW
  rw [if_neg hx] at h
  have t79 : decide ((x : Int) ≤ 79) = false := decide_eq_false (by omega)
  clear hx
  by_cases hx : x = 80
  · rw [if_pos hx] at h
    have t : ((x : Int) == 80) = true := by simp; omega
    have HM := hide h
    clear h hx
    go_enter Tryz.func66, Tryz.ntmps66
    go_wp2_with fail
    refine (compute_at (HA.out.alloc _) hb 127 (kinds_made W [126] rfl rfl (by simp)) HA.out.ne (by simp) hs rfl).mono ?_
    rw [HM.out]
    rintro ee w1 ⟨hok1, herr1, hk1, hlow1⟩
    have hlowW : Kept (fun k => k < W.heap.size ∧ ¬ K k) W w1 := (((Kept.refl _ _).alloc _).trans hlow1).mono (fun k hk c => ⟨hk, c.2⟩)
    clear HM
    rcases m with ⟨q, p⟩ | st1
    · have he := herr1 _ _ rfl
      subst he
      exact ⟨rfl, Ends.err_mk rfl hk1 hlowW⟩
    · obtain ⟨rfl, hA1⟩ := hok1 _ rfl
      have HA1 := hide hA1
      clear hok1 herr1 hA1
      go_wp2
      go_end0
      exact Ends.ok_mk rfl HA1.out hlowW
  rw [if_neg hx] at h
  have t80 : ((x : Int) == 80) = false := beq_eq_false_iff_ne.2 (by omega)
  clear hx
  by_cases hx : x ≤ 90
  · rw [if_pos hx] at h
    have t : (x : Int) ≤ 90 := by omega
    have HM := hide h
    clear h hx
    go_enter Tryz.func66, Tryz.ntmps66
    go_wp2_with fail
    refine (compute_at (HA.out.alloc _) hb 127 (kinds_made W [126, 126] rfl rfl (by simp)) HA.out.ne (by simp) hs rfl).mono ?_
    rw [HM.out]
    rintro ee w1 ⟨hok1, herr1, hk1, hlow1⟩
    have hlowW : Kept (fun k => k < W.heap.size ∧ ¬ K k) W w1 := (((Kept.refl _ _).alloc _).trans hlow1).mono (fun k hk c => ⟨hk, c.2⟩)
    clear HM
    rcases m with ⟨q, p⟩ | st1
    · have he := herr1 _ _ rfl
      subst he
      exact ⟨rfl, Ends.err_mk rfl hk1 hlowW⟩
    · obtain ⟨rfl, hA1⟩ := hok1 _ rfl
      have HA1 := hide hA1
      clear hok1 herr1 hA1
      go_wp2
      go_end0
      exact Ends.ok_mk rfl HA1.out hlowW
  rw [if_neg hx] at h
  have t90 : decide ((x : Int) ≤ 90) = false := decide_eq_false (by omega)
  clear hx
  by_cases hx : x ≤ 105
  · rw [if_pos hx] at h
    have t : (x : Int) ≤ 105 := by omega
    have HM := hide h
    clear h hx
    go_enter Tryz.func66, Tryz.ntmps66
    go_wp2_with fail
    refine (compute_at (HA.out.alloc _) hb 127 (kinds_made W [127] rfl rfl (by simp)) HA.out.ne (by simp) hs rfl).mono ?_
    rw [HM.out]
    rintro ee w1 ⟨hok1, herr1, hk1, hlow1⟩
    have hlowW : Kept (fun k => k < W.heap.size ∧ ¬ K k) W w1 := (((Kept.refl _ _).alloc _).trans hlow1).mono (fun k hk c => ⟨hk, c.2⟩)
    clear HM
    rcases m with ⟨q, p⟩ | st1
    · have he := herr1 _ _ rfl
      subst he
      exact ⟨rfl, Ends.err_mk rfl hk1 hlowW⟩
    · obtain ⟨rfl, hA1⟩ := hok1 _ rfl
      have HA1 := hide hA1
      clear hok1 herr1 hA1
      go_wp2
      go_end0
      exact Ends.ok_mk rfl HA1.out hlowW
  rw [if_neg hx] at h
  have t105 : decide ((x : Int) ≤ 105) = false := decide_eq_false (by omega)
  clear hx
  by_cases hx : x ≤ 120
  · rw [if_pos hx] at h
    have t : (x : Int) ≤ 120 := by omega
    have HM := hide h
    clear h hx
    go_enter Tryz.func66, Tryz.ntmps66
    go_wp2_with fail
    refine (compute_at (HA.out.alloc _) hb 127 (kinds_made W [127, 127] rfl rfl (by simp)) HA.out.ne (by simp) hs rfl).mono ?_
    rw [HM.out]
    rintro ee w1 ⟨hok1, herr1, hk1, hlow1⟩
    have hlowW : Kept (fun k => k < W.heap.size ∧ ¬ K k) W w1 := (((Kept.refl _ _).alloc _).trans hlow1).mono (fun k hk c => ⟨hk, c.2⟩)
    clear HM
    rcases m with ⟨q, p⟩ | st1
    · have he := herr1 _ _ rfl
      subst he
      exact ⟨rfl, Ends.err_mk rfl hk1 hlowW⟩
    · obtain ⟨rfl, hA1⟩ := hok1 _ rfl
      have HA1 := hide hA1
      clear hok1 herr1 hA1
      go_wp2
      go_end0
      exact Ends.ok_mk rfl HA1.out hlowW
  rw [if_neg hx] at h
  have t120 : decide ((x : Int) ≤ 120) = false := decide_eq_false (by omega)
  clear hx
  by_cases hx : x ≤ 123
  · rw [if_pos hx] at h
    have t : (x : Int) ≤ 123 := by omega
    have HM := hide h
    clear h hx
    go_enter Tryz.func66, Tryz.ntmps66
    go_wp2_with fail
    refine (compute_at (HA.out.alloc _) hb 126 (kinds_made W [126] rfl rfl (by simp)) HA.out.ne (by simp) hs rfl).mono ?_
    rw [HM.out]
    rintro ee w1 ⟨hok1, herr1, hk1, hlow1⟩
    have hlowW : Kept (fun k => k < W.heap.size ∧ ¬ K k) W w1 := (((Kept.refl _ _).alloc _).trans hlow1).mono (fun k hk c => ⟨hk, c.2⟩)
    clear HM
    rcases m with ⟨q, p⟩ | st1
    · have he := herr1 _ _ rfl
      subst he
      exact ⟨rfl, Ends.err_mk rfl hk1 hlowW⟩
    · obtain ⟨rfl, hA1⟩ := hok1 _ rfl
      have HA1 := hide hA1
      clear hok1 herr1 hA1
      go_wp2
      go_end0
      exact Ends.ok_mk rfl HA1.out hlowW
  rw [if_neg hx] at h
  have t123 : decide ((x : Int) ≤ 123) = false := decide_eq_false (by omega)
  clear hx
  by_cases hx : x ≤ 138
  · rw [if_pos hx] at h
    have t : (x : Int) ≤ 138 := by omega
    have HM := hide h
    clear h hx
    go_enter Tryz.func66, Tryz.ntmps66
    go_wp2_with fail
    refine (compute_at (HA.out.alloc _) hb 126 (kinds_made W [126, 126] rfl rfl (by simp)) HA.out.ne (by simp) hs rfl).mono ?_
    rw [HM.out]
    rintro ee w1 ⟨hok1, herr1, hk1, hlow1⟩
    have hlowW : Kept (fun k => k < W.heap.size ∧ ¬ K k) W w1 := (((Kept.refl _ _).alloc _).trans hlow1).mono (fun k hk c => ⟨hk, c.2⟩)
    clear HM
    rcases m with ⟨q, p⟩ | st1
    · have he := herr1 _ _ rfl
      subst he
      exact ⟨rfl, Ends.err_mk rfl hk1 hlowW⟩
    · obtain ⟨rfl, hA1⟩ := hok1 _ rfl
      have HA1 := hide hA1
      clear hok1 herr1 hA1
      go_wp2
      go_end0
      exact Ends.ok_mk rfl HA1.out hlowW
  rw [if_neg hx] at h
  have t138 : decide ((x : Int) ≤ 138) = false := decide_eq_false (by omega)
  clear hx
  by_cases hx : x = 167
  · rw [if_pos hx] at h
    have t : ((x : Int) == 167) = true := by simp; omega
    have HM := hide h
    clear h hx
    go_enter Tryz.func66, Tryz.ntmps66
    go_wp2_with fail
    refine (compute_at (HA.out.alloc _) hb 127 (kinds_made W [126] rfl rfl (by simp)) HA.out.ne (by simp) hs rfl).mono ?_
    rw [HM.out]
    rintro ee w1 ⟨hok1, herr1, hk1, hlow1⟩
    have hlowW : Kept (fun k => k < W.heap.size ∧ ¬ K k) W w1 := (((Kept.refl _ _).alloc _).trans hlow1).mono (fun k hk c => ⟨hk, c.2⟩)
    clear HM
    rcases m with ⟨q, p⟩ | st1
    · have he := herr1 _ _ rfl
      subst he
      exact ⟨rfl, Ends.err_mk rfl hk1 hlowW⟩
    · obtain ⟨rfl, hA1⟩ := hok1 _ rfl
      have HA1 := hide hA1
      clear hok1 herr1 hA1
      go_wp2
      go_end0
      exact Ends.ok_mk rfl HA1.out hlowW
  rw [if_neg hx] at h
  have t167 : ((x : Int) == 167) = false := beq_eq_false_iff_ne.2 (by omega)
  clear hx
  have HM := hide h
  clear h
  go_enter Tryz.func66, Tryz.ntmps66
  go_wp2_with fail
  refine (compute_at (HA.out.alloc _) hb 126 (kinds_made W [127] rfl rfl (by simp)) HA.out.ne (by simp) hs rfl).mono ?_
  rw [HM.out]
  rintro ee w1 ⟨hok1, herr1, hk1, hlow1⟩
  have hlowW : Kept (fun k => k < W.heap.size ∧ ¬ K k) W w1 := (((Kept.refl _ _).alloc _).trans hlow1).mono (fun k hk c => ⟨hk, c.2⟩)
  clear HM
  rcases m with ⟨q, p⟩ | st1
  · have he := herr1 _ _ rfl
    subst he
    exact ⟨rfl, Ends.err_mk rfl hk1 hlowW⟩
  · obtain ⟨rfl, hA1⟩ := hok1 _ rfl
    have HA1 := hide hA1
    clear hok1 herr1 hA1
    go_wp2
    go_end0
    exact Ends.ok_mk rfl HA1.out hlowW

set_option maxHeartbeats 1600000 in
theorem checkSelect_at (h : At K O w W N bb mp lv st) (hb : st.blocks ≠ []) (hs : st.stack.length ≤ 799000) :
    Calls Tryz.prog 91 #[.pointer (some ⟨bb, 0, none⟩)] W (Ends K O w W (fun k => k < W.heap.size) bb mp lv (checkSelectM st)) := by
  have HA := hide h.up
  clear h
  go_enter Tryz.func91, Tryz.ntmps91
  go_wp2_with fail
  refine (take_at (HA.out.alloc _) hb (kinds_made W [127] rfl rfl (by simp)) HA.out.ne (by simp)).mono ?_
  rintro ee w1 ⟨hok1, herr1, hk1, hlow1⟩
  have hl1 : Kept (fun k => k < W.heap.size ∧ ¬ K k) W w1 := ((Kept.refl _ _).alloc _).trans hlow1
  cases hm1 : takeM st [127] with
  | error qp =>
    obtain ⟨q, p⟩ := qp
    have he := herr1 _ _ hm1
    subst he
    exact ⟨rfl, Ends.err_mk (by simp [checkSelectM, hm1]) hk1 hl1⟩
  | ok st1 =>
    obtain ⟨rfl, hA1⟩ := hok1 _ hm1
    have hf1 := takeM_facts HA.out.tidy.floor hm1
    have hb1 : st1.blocks ≠ [] := by rw [hf1.1]; exact hb
    have hs1 : st1.stack.length ≤ 799000 := by omega
    have ha1 := hf1.2.1
    have HA1 := hide hA1
    have HM1 := hide hm1
    clear hok1 herr1 hm1 hA1 hf1
    go_wp2_with fail
    refine (takeAny_at HA1.out hb1).mono ?_
    rintro ee w2 ⟨hok2, herr2, hk2, hlow2⟩
    have hl2 := hl1.lowTrans hlow2 rfl
    cases hm2 : takeTop st1 with
    | error qp =>
      obtain ⟨q, p⟩ := qp
      have he := herr2 _ _ hm2
      subst he
      exact ⟨rfl, Ends.err_mk (by simp [checkSelectM, HM1.out, hm2]) hk2 hl2⟩
    | ok x2 =>
      obtain ⟨k2, st2⟩ := x2
      obtain ⟨rfl, hA2, e2, a2, s2⟩ := hok2 _ _ hm2
      have hb2 : st2.blocks ≠ [] := by rw [e2]; exact hb1
      have HA2 := hide hA2
      have HM2 := hide hm2
      clear hok2 herr2 hm2 hA2 e2
      go_wp2_with fail
      refine (takeAny_at HA2.out hb2).mono ?_
      rintro ee w3 ⟨hok3, herr3, hk3, hlow3⟩
      have hl3 := hl2.lowTrans hlow3 rfl
      cases hm3 : takeTop st2 with
      | error qp =>
        obtain ⟨q, p⟩ := qp
        have he := herr3 _ _ hm3
        subst he
        exact ⟨rfl, Ends.err_mk (by simp [checkSelectM, HM1.out, HM2.out, hm3]) hk3 hl3⟩
      | ok x3 =>
        obtain ⟨k1, st3⟩ := x3
        obtain ⟨rfl, hA3, e3, a3, s3⟩ := hok3 _ _ hm3
        have HA3 := hide hA3
        have HC : Hid (checkSelectM st = if k2 ≠ 0 ∧ k2 ≠ (if k1 = 0 then k2 else k1) then .error (4, st.at_) else .ok (putM st3 [if k1 = 0 then k2 else k1])) := by show _ = _; simp only [checkSelectM, HM1.out, HM2.out, hm3]
        have hs3 : st3.stack.length + 1 ≤ 800000 := by omega
        have hat : st3.at_ = st.at_ := by omega
        clear hok3 herr3 hm3 hA3 HM1 HM2 e3 s3 a3 s2 a2 ha1
        by_cases h1 : k1 = 0
        · have t1 : ((k1 : Int) == 0) = true := by simp [h1]
          have HM : Hid (checkSelectM st = .ok (putM st3 [k2])) := by show _ = _; rw [HC.out, if_pos h1, if_neg (by simp)]
          clear h1 HC
          by_cases h2 : k2 = 0
          · have t2 : ((k2 : Int) != 0) = false := by simp [h2]
            clear h2
            go_wp2_with fail
            refine (put_at (HA3.out.alloc _) (kinds_made w3 [k2] rfl rfl (by simp)) (by simp) (by simpa using hs3)).mono ?_
            rintro ee w4 ⟨hok4, -, -, hlow4⟩
            obtain ⟨rfl, hA4⟩ := hok4 _ rfl
            have HA4 := hide hA4
            clear hok4 hA4
            go_wp2
            go_end0
            exact Ends.ok_mk HM.out HA4.out (hl3.lowTrans (((Kept.refl _ _).alloc _).trans hlow4) rfl)
          · have t2 : ((k2 : Int) != 0) = true := by rw [bne_iff_ne]; omega
            clear h2
            go_wp2_with fail
            refine (put_at (HA3.out.alloc _) (kinds_made w3 [k2] rfl rfl (by simp)) (by simp) (by simpa using hs3)).mono ?_
            rintro ee w4 ⟨hok4, -, -, hlow4⟩
            obtain ⟨rfl, hA4⟩ := hok4 _ rfl
            have HA4 := hide hA4
            clear hok4 hA4
            go_wp2
            go_end0
            exact Ends.ok_mk HM.out HA4.out (hl3.lowTrans (((Kept.refl _ _).alloc _).trans hlow4) rfl)
        · have t1 : ((k1 : Int) == 0) = false := beq_eq_false_iff_ne.2 (by omega)
          by_cases h2 : k2 = 0
          · have t2 : ((k2 : Int) != 0) = false := by simp [h2]
            have HM : Hid (checkSelectM st = .ok (putM st3 [k1])) := by show _ = _; rw [HC.out, if_neg h1, if_neg (by simp [h2])]
            clear h1 h2 HC
            go_wp2_with fail
            refine (put_at (HA3.out.alloc _) (kinds_made w3 [k1] rfl rfl (by simp)) (by simp) (by simpa using hs3)).mono ?_
            rintro ee w4 ⟨hok4, -, -, hlow4⟩
            obtain ⟨rfl, hA4⟩ := hok4 _ rfl
            have HA4 := hide hA4
            clear hok4 hA4
            go_wp2
            go_end0
            exact Ends.ok_mk HM.out HA4.out (hl3.lowTrans (((Kept.refl _ _).alloc _).trans hlow4) rfl)
          · have t2 : ((k2 : Int) != 0) = true := by rw [bne_iff_ne]; omega
            by_cases h3 : k2 = k1
            · have t3 : ((k2 : Int) != (k1 : Int)) = false := by simp [h3]
              have HM : Hid (checkSelectM st = .ok (putM st3 [k1])) := by show _ = _; rw [HC.out, if_neg h1, if_neg (by simp [h3])]
              clear h1 h2 h3 HC
              go_wp2_with fail
              refine (put_at (HA3.out.alloc _) (kinds_made w3 [k1] rfl rfl (by simp)) (by simp) (by simpa using hs3)).mono ?_
              rintro ee w4 ⟨hok4, -, -, hlow4⟩
              obtain ⟨rfl, hA4⟩ := hok4 _ rfl
              have HA4 := hide hA4
              clear hok4 hA4
              go_wp2
              go_end0
              exact Ends.ok_mk HM.out HA4.out (hl3.lowTrans (((Kept.refl _ _).alloc _).trans hlow4) rfl)
            · have t3 : ((k2 : Int) != (k1 : Int)) = true := by rw [bne_iff_ne]; omega
              have HM : Hid (checkSelectM st = .error (4, st.at_)) := by show _ = _; rw [HC.out, if_neg h1, if_pos ⟨h2, h3⟩]
              clear h1 h2 h3 HC
              go_wp2_with fail
              refine (refuse_at HA3.out).mono ?_
              rintro ee w4 ⟨rfl, rfl⟩
              rw [hat]
              exact ⟨rfl, Ends.err_mk HM.out HA3.out.kept hl3⟩

end

end Go.Proofs.YtgkpkngchploiaaGreat
/-
  Memory.
-/
namespace Go.Proofs.YtgkpkngchploiaaGreat
open Go.RowKit

section
variable {K O N : Nat → Prop} {w W : World} {bb mb : Nat} {lv : Value} {st : Bd} {s : ByteArray} {m : Mdl}

/-- The module's field, by way of the body. -/
theorem At.mems (h : At K O w W N bb (.pointer (some ⟨mb, 0, none⟩)) lv st) (hm : MV s K W mb m) : W.cell? ⟨bb, 0, none⟩ = some (.pointer (some ⟨mb, 0, none⟩)) ∧ ∃ p c, W.cell? ⟨mb, 3, none⟩ = some (.slice p m.mems.length c) := by
  obtain ⟨sv, bv, hB⟩ := h.body
  obtain ⟨-, f, hM, hH⟩ := hm
  obtain ⟨p, c, hv⟩ := Row.shape hH.h3
  exact ⟨hB.blk.five.1.1, p, c, by rw [← hv]; exact hM.twelve.1.2.2.2.1.1⟩

theorem need_at (h : At K O w W N bb (.pointer (some ⟨mb, 0, none⟩)) lv st) (many : Nat) : Calls Tryz.prog 89 #[.pointer (some ⟨bb, 0, none⟩), .int .i64 (many : Nat)] W fun e w' => w' = W ∧ e = (if many = 0 then gaveUp 3 st.at_ else .returned (.tuple #[])) := by
  obtain ⟨sv, bv, hB⟩ := h.body
  exact need_any many hB.blk

set_option maxHeartbeats 6400000 in
theorem checkMemory_at (h : At K O w W N bb (.pointer (some ⟨mb, 0, none⟩)) lv st) (hb : st.blocks ≠ []) (hm : MV s K W mb m) (a e x : Nat) (y : Beh) (pg pl : Option Addr) (ng cg nl cl : Nat) (hs : st.stack.length ≤ 799000) :
    Calls Tryz.prog 65 #[.pointer (some ⟨bb, 0, none⟩), .agg (yC a e x y (.slice pg ng cg) (.slice pl nl cl)).toArray] W (Ends K O w W (fun k => k < W.heap.size) bb (.pointer (some ⟨mb, 0, none⟩)) lv (checkMemoryM m x y st)) := by
  have HA := hide h.up
  have hbw := h.body.lt
  have hmw := hm.lt
  obtain ⟨I0, p3, c3, F3⟩ := h.mems hm
  clear h
  by_cases hz : m.mems.length = 0
  · have HM : Hid (checkMemoryM m x y st = .error (3, st.at_)) := by show _ = _; simp [checkMemoryM, hz]
    go_enter Tryz.func65, Tryz.ntmps65
    go_wp2_with fail
    refine (need_at (HA.out.alloc _) _).mono ?_
    rintro ee w1 ⟨rfl, he⟩
    rw [if_pos (by first | rfl | exact hz)] at he
    subst he
    exact ⟨rfl, Ends.err_mk HM.out (HA.out.alloc _).kept ((Kept.refl _ _).alloc _)⟩
  have HN : Hid (checkMemoryM m x y st = (if x = 63 then .ok (putM st [127])
  else if x = 64 then
    match takeM st [127] with
    | .error e => .error e
    | .ok st1 => .ok (putM st1 [127])
  else if x = 41 then loadM x 126 y st
  else if x = 40 ∨ x = 44 ∨ x = 45 then loadM x 127 y st
  else if x = 55 then storeM x 126 y st
  else if x = 54 ∨ x = 58 then storeM x 127 y st
  else .ok st)) := by show _ = _; unfold checkMemoryM; rw [if_neg hz] <;> rfl
  by_cases h63 : x = 63
  · subst h63
    have HE := hide HN.out
    clear HN
    have HM : Hid (checkMemoryM m 63 y st = .ok (putM st [127])) := HE.out
    clear HE
    go_enter Tryz.func65, Tryz.ntmps65
    go_wp2_with fail
    refine (need_at (HA.out.alloc _) _).mono ?_
    rintro ee w1 ⟨rfl, he⟩
    rw [if_neg hz] at he
    subst he
    go_wp2_with fail
    refine (put_at ((HA.out.alloc _).alloc _) (kinds_made _ [127] (by simp) rfl (by simp)) (by simp) (by simp; omega)).mono ?_
    rintro ee w2 ⟨hok2, -, -, hlow2⟩
    obtain ⟨rfl, hA2⟩ := hok2 _ rfl
    have HA2 := hide hA2
    clear hok2 hA2
    go_wp2
    go_end0
    exact Ends.ok_mk HM.out HA2.out ((((Kept.refl _ _).alloc _).alloc _).trans hlow2)
  by_cases h64 : x = 64
  · subst h64
    have HM : Hid (checkMemoryM m 64 y st = match takeM st [127] with | .error e => .error e | .ok st1 => .ok (putM st1 [127])) := HN.out
    clear HN
    go_enter Tryz.func65, Tryz.ntmps65
    go_wp2_with fail
    refine (need_at (HA.out.alloc _) _).mono ?_
    rintro ee w1 ⟨rfl, he⟩
    rw [if_neg hz] at he
    subst he
    go_wp2_with fail
    refine (take_at ((HA.out.alloc _).alloc _) hb (kinds_made _ [127] (by simp) rfl (by simp)) (HA.out.alloc _).ne (by simp)).mono ?_
    rintro ee w2 ⟨hok2, herr2, hk2, hlow2⟩
    have hlow : Kept (fun k => k < W.heap.size ∧ ¬ K k) W w2 := (((Kept.refl _ _).alloc _).alloc _).trans hlow2
    cases hm2 : takeM st [127] with
    | error qp =>
      obtain ⟨q, p⟩ := qp
      have he := herr2 _ _ hm2
      subst he
      exact ⟨rfl, Ends.err_mk (by rw [HM.out, hm2]) hk2 hlow⟩
    | ok st2 =>
      obtain ⟨rfl, hA2⟩ := hok2 _ hm2
      have hf := takeM_facts HA.out.tidy.floor hm2
      have hs2 : st2.stack.length ≤ 799000 := by omega
      have HE : Hid (checkMemoryM m 64 y st = .ok (putM st2 [127])) := by show _ = _; rw [HM.out, hm2]
      have HA2 := hide hA2
      clear hok2 herr2 hA2 hm2 HM hf
      go_wp2_with fail
      refine (put_at (HA2.out.alloc _) (kinds_made w2 [127] rfl rfl (by simp)) (by simp) (by simp; omega)).mono ?_
      rintro ee w3 ⟨hok3, -, -, hlow3⟩
      obtain ⟨rfl, hA3⟩ := hok3 _ rfl
      have HA3 := hide hA3
      clear hok3 hA3
      go_wp2
      go_end0
      exact Ends.ok_mk HE.out HA3.out (hlow.lowTrans (((Kept.refl _ _).alloc _).trans hlow3) rfl)
  by_cases h41 : x = 41
  · subst h41
    have HE : Hid (checkMemoryM m 41 y st = loadM 41 126 y st) := HN.out
    clear HN
    go_enter Tryz.func65, Tryz.ntmps65
    go_wp2_with fail
    refine (need_at (HA.out.alloc _) _).mono ?_
    rintro ee w1 ⟨rfl, he⟩
    rw [if_neg hz] at he
    subst he
    go_wp2_with fail
    refine (load_at (HA.out.alloc _) hb a e 41 y pg pl ng cg nl cl 126 hs rfl).mono ?_
    rintro ee w2 ⟨hok2, herr2, hk2, hlow2⟩
    have hlow : Kept (fun k => k < W.heap.size ∧ ¬ K k) W w2 := (((Kept.refl _ _).alloc _).trans hlow2).mono (fun k hk c => ⟨hk, c.2⟩)
    cases hm2 : loadM 41 126 y st with
    | error qp =>
      obtain ⟨q, p⟩ := qp
      have he := herr2 _ _ hm2
      subst he
      exact ⟨rfl, Ends.err_mk (HE.out.trans hm2) hk2 hlow⟩
    | ok st2 =>
      obtain ⟨rfl, hA2⟩ := hok2 _ hm2
      have HA2 := hide hA2
      have HE2 := hide (HE.out.trans hm2)
      clear hok2 herr2 hA2 hm2 HE
      go_wp2
      go_end0
      exact Ends.ok_mk HE2.out HA2.out hlow
  by_cases h40 : x = 40
  · subst h40
    have HE : Hid (checkMemoryM m 40 y st = loadM 40 127 y st) := HN.out
    clear HN
    go_enter Tryz.func65, Tryz.ntmps65
    go_wp2_with fail
    refine (need_at (HA.out.alloc _) _).mono ?_
    rintro ee w1 ⟨rfl, he⟩
    rw [if_neg hz] at he
    subst he
    go_wp2_with fail
    refine (load_at (HA.out.alloc _) hb a e 40 y pg pl ng cg nl cl 127 hs rfl).mono ?_
    rintro ee w2 ⟨hok2, herr2, hk2, hlow2⟩
    have hlow : Kept (fun k => k < W.heap.size ∧ ¬ K k) W w2 := (((Kept.refl _ _).alloc _).trans hlow2).mono (fun k hk c => ⟨hk, c.2⟩)
    cases hm2 : loadM 40 127 y st with
    | error qp =>
      obtain ⟨q, p⟩ := qp
      have he := herr2 _ _ hm2
      subst he
      exact ⟨rfl, Ends.err_mk (HE.out.trans hm2) hk2 hlow⟩
    | ok st2 =>
      obtain ⟨rfl, hA2⟩ := hok2 _ hm2
      have HA2 := hide hA2
      have HE2 := hide (HE.out.trans hm2)
      clear hok2 herr2 hA2 hm2 HE
      go_wp2
      go_end0
      exact Ends.ok_mk HE2.out HA2.out hlow
  by_cases h44 : x = 44
  · subst h44
    have HE : Hid (checkMemoryM m 44 y st = loadM 44 127 y st) := HN.out
    clear HN
    go_enter Tryz.func65, Tryz.ntmps65
    go_wp2_with fail
    refine (need_at (HA.out.alloc _) _).mono ?_
    rintro ee w1 ⟨rfl, he⟩
    rw [if_neg hz] at he
    subst he
    go_wp2_with fail
    refine (load_at (HA.out.alloc _) hb a e 44 y pg pl ng cg nl cl 127 hs rfl).mono ?_
    rintro ee w2 ⟨hok2, herr2, hk2, hlow2⟩
    have hlow : Kept (fun k => k < W.heap.size ∧ ¬ K k) W w2 := (((Kept.refl _ _).alloc _).trans hlow2).mono (fun k hk c => ⟨hk, c.2⟩)
    cases hm2 : loadM 44 127 y st with
    | error qp =>
      obtain ⟨q, p⟩ := qp
      have he := herr2 _ _ hm2
      subst he
      exact ⟨rfl, Ends.err_mk (HE.out.trans hm2) hk2 hlow⟩
    | ok st2 =>
      obtain ⟨rfl, hA2⟩ := hok2 _ hm2
      have HA2 := hide hA2
      have HE2 := hide (HE.out.trans hm2)
      clear hok2 herr2 hA2 hm2 HE
      go_wp2
      go_end0
      exact Ends.ok_mk HE2.out HA2.out hlow
  by_cases h45 : x = 45
  · subst h45
    have HE : Hid (checkMemoryM m 45 y st = loadM 45 127 y st) := HN.out
    clear HN
    go_enter Tryz.func65, Tryz.ntmps65
    go_wp2_with fail
    refine (need_at (HA.out.alloc _) _).mono ?_
    rintro ee w1 ⟨rfl, he⟩
    rw [if_neg hz] at he
    subst he
    go_wp2_with fail
    refine (load_at (HA.out.alloc _) hb a e 45 y pg pl ng cg nl cl 127 hs rfl).mono ?_
    rintro ee w2 ⟨hok2, herr2, hk2, hlow2⟩
    have hlow : Kept (fun k => k < W.heap.size ∧ ¬ K k) W w2 := (((Kept.refl _ _).alloc _).trans hlow2).mono (fun k hk c => ⟨hk, c.2⟩)
    cases hm2 : loadM 45 127 y st with
    | error qp =>
      obtain ⟨q, p⟩ := qp
      have he := herr2 _ _ hm2
      subst he
      exact ⟨rfl, Ends.err_mk (HE.out.trans hm2) hk2 hlow⟩
    | ok st2 =>
      obtain ⟨rfl, hA2⟩ := hok2 _ hm2
      have HA2 := hide hA2
      have HE2 := hide (HE.out.trans hm2)
      clear hok2 herr2 hA2 hm2 HE
      go_wp2
      go_end0
      exact Ends.ok_mk HE2.out HA2.out hlow
  by_cases h55 : x = 55
  · subst h55
    have HE : Hid (checkMemoryM m 55 y st = storeM 55 126 y st) := HN.out
    clear HN
    go_enter Tryz.func65, Tryz.ntmps65
    go_wp2_with fail
    refine (need_at (HA.out.alloc _) _).mono ?_
    rintro ee w1 ⟨rfl, he⟩
    rw [if_neg hz] at he
    subst he
    go_wp2_with fail
    refine (store_at (HA.out.alloc _) hb a e 55 y pg pl ng cg nl cl 126 rfl).mono ?_
    rintro ee w2 ⟨hok2, herr2, hk2, hlow2⟩
    have hlow : Kept (fun k => k < W.heap.size ∧ ¬ K k) W w2 := (((Kept.refl _ _).alloc _).trans hlow2).mono (fun k hk c => ⟨hk, c.2⟩)
    cases hm2 : storeM 55 126 y st with
    | error qp =>
      obtain ⟨q, p⟩ := qp
      have he := herr2 _ _ hm2
      subst he
      exact ⟨rfl, Ends.err_mk (HE.out.trans hm2) hk2 hlow⟩
    | ok st2 =>
      obtain ⟨rfl, hA2⟩ := hok2 _ hm2
      have HA2 := hide hA2
      have HE2 := hide (HE.out.trans hm2)
      clear hok2 herr2 hA2 hm2 HE
      go_wp2
      go_end0
      exact Ends.ok_mk HE2.out HA2.out hlow
  by_cases h54 : x = 54
  · subst h54
    have HE : Hid (checkMemoryM m 54 y st = storeM 54 127 y st) := HN.out
    clear HN
    go_enter Tryz.func65, Tryz.ntmps65
    go_wp2_with fail
    refine (need_at (HA.out.alloc _) _).mono ?_
    rintro ee w1 ⟨rfl, he⟩
    rw [if_neg hz] at he
    subst he
    go_wp2_with fail
    refine (store_at (HA.out.alloc _) hb a e 54 y pg pl ng cg nl cl 127 rfl).mono ?_
    rintro ee w2 ⟨hok2, herr2, hk2, hlow2⟩
    have hlow : Kept (fun k => k < W.heap.size ∧ ¬ K k) W w2 := (((Kept.refl _ _).alloc _).trans hlow2).mono (fun k hk c => ⟨hk, c.2⟩)
    cases hm2 : storeM 54 127 y st with
    | error qp =>
      obtain ⟨q, p⟩ := qp
      have he := herr2 _ _ hm2
      subst he
      exact ⟨rfl, Ends.err_mk (HE.out.trans hm2) hk2 hlow⟩
    | ok st2 =>
      obtain ⟨rfl, hA2⟩ := hok2 _ hm2
      have HA2 := hide hA2
      have HE2 := hide (HE.out.trans hm2)
      clear hok2 herr2 hA2 hm2 HE
      go_wp2
      go_end0
      exact Ends.ok_mk HE2.out HA2.out hlow
  by_cases h58 : x = 58
  · subst h58
    have HE : Hid (checkMemoryM m 58 y st = storeM 58 127 y st) := HN.out
    clear HN
    go_enter Tryz.func65, Tryz.ntmps65
    go_wp2_with fail
    refine (need_at (HA.out.alloc _) _).mono ?_
    rintro ee w1 ⟨rfl, he⟩
    rw [if_neg hz] at he
    subst he
    go_wp2_with fail
    refine (store_at (HA.out.alloc _) hb a e 58 y pg pl ng cg nl cl 127 rfl).mono ?_
    rintro ee w2 ⟨hok2, herr2, hk2, hlow2⟩
    have hlow : Kept (fun k => k < W.heap.size ∧ ¬ K k) W w2 := (((Kept.refl _ _).alloc _).trans hlow2).mono (fun k hk c => ⟨hk, c.2⟩)
    cases hm2 : storeM 58 127 y st with
    | error qp =>
      obtain ⟨q, p⟩ := qp
      have he := herr2 _ _ hm2
      subst he
      exact ⟨rfl, Ends.err_mk (HE.out.trans hm2) hk2 hlow⟩
    | ok st2 =>
      obtain ⟨rfl, hA2⟩ := hok2 _ hm2
      have HA2 := hide hA2
      have HE2 := hide (HE.out.trans hm2)
      clear hok2 herr2 hA2 hm2 HE
      go_wp2
      go_end0
      exact Ends.ok_mk HE2.out HA2.out hlow
  have HM : Hid (checkMemoryM m x y st = .ok st) := by
    show _ = _
    rw [HN.out]
    simp only [h63, h64, h41, h40, h44, h45, h55, h54, h58, or_self, if_false]
  have t63 : ((x : Int) == 63) = false := beq_eq_false_iff_ne.2 (by omega)
  have t64 : ((x : Int) == 64) = false := beq_eq_false_iff_ne.2 (by omega)
  have t41 : ((x : Int) == 41) = false := beq_eq_false_iff_ne.2 (by omega)
  have t40 : ((x : Int) == 40) = false := beq_eq_false_iff_ne.2 (by omega)
  have t44 : ((x : Int) == 44) = false := beq_eq_false_iff_ne.2 (by omega)
  have t45 : ((x : Int) == 45) = false := beq_eq_false_iff_ne.2 (by omega)
  have t55 : ((x : Int) == 55) = false := beq_eq_false_iff_ne.2 (by omega)
  have t54 : ((x : Int) == 54) = false := beq_eq_false_iff_ne.2 (by omega)
  have t58 : ((x : Int) == 58) = false := beq_eq_false_iff_ne.2 (by omega)
  clear HN h63 h64 h41 h40 h44 h45 h55 h54 h58
  go_enter Tryz.func65, Tryz.ntmps65
  go_wp2_with fail
  refine (need_at (HA.out.alloc _) _).mono ?_
  rintro ee w1 ⟨rfl, he⟩
  rw [if_neg hz] at he
  subst he
  go_wp2
  go_end0
  exact Ends.ok_mk HM.out (HA.out.alloc _) ((Kept.refl _ _).alloc _)

end

end Go.Proofs.YtgkpkngchploiaaGreat
/-
  Locals.
-/
namespace Go.Proofs.YtgkpkngchploiaaGreat
open Go.RowKit

section
variable {K O N : Nat → Prop} {w W : World} {bb : Nat} {mp : Value} {st : Bd}

theorem At.locals {lv : Value} (h : At K O w W N bb mp lv st) : W.cell? ⟨bb, 1, none⟩ = some lv := by
  obtain ⟨sv, bv, hB⟩ := h.body
  exact hB.blk.five.2.1.1

set_option maxRecDepth 100000 in
set_option maxHeartbeats 3200000 in
theorem checkLocal_bad {p0 : Option Addr} {c0 : Nat} {ls : List Nat} (h : At K O w W N bb mp (.slice p0 ls.length c0) st) (a e x : Nat) (y : Beh) (pg pl : Option Addr) (ng cg nl cl : Nat) (hx : 0 ≤ y.num.1 ∧ y.num.1 ≤ 4294967295) (hlt : ¬ y.num.1 < (ls.length : Int)) :
    Calls Tryz.prog 93 #[.pointer (some ⟨bb, 0, none⟩), .agg (yC a e x y (.slice pg ng cg) (.slice pl nl cl)).toArray] W (Ends K O w W (fun k => k < W.heap.size) bb mp (.slice p0 ls.length c0) (checkLocalM ls x y st)) := by
  have HA := hide h.up
  have hbw := h.body.lt
  have I1 := h.locals
  obtain ⟨h0, h1⟩ := hx
  have HM : Hid (checkLocalM ls x y st = .error (3, y.num.2)) := by show _ = _; simp [checkLocalM, thereM, hlt]
  clear h
  go_enter Tryz.func93, Tryz.ntmps93
  go_wp2_with fail
  have hHeld : (fun w' : World => w'.cell? ⟨bb, 1, none⟩ = some (.slice p0 ls.length c0) ∧ w'.cell? ⟨W.heap.size, 6, none⟩ = some (.int .u32 y.num.1) ∧ w'.cell? ⟨W.heap.size, 7, none⟩ = some (.int .i64 (y.num.2 : Nat))) ((W.alloc (.cells (yC a e x y (.slice pg ng cg) (.slice pl nl cl)).toArray 100)).drew) := by
    dsimp only
    exact ⟨(((Kept.refl (fun _ => False) W).alloc _).drew.cell hbw (fun c => c)).trans I1, by simp, by simp⟩
  refine wp_region_held_drew (S := fun w' : World => w'.cell? ⟨bb, 1, none⟩ = some (.slice p0 ls.length c0) ∧ w'.cell? ⟨W.heap.size, 6, none⟩ = some (.int .u32 y.num.1) ∧ w'.cell? ⟨W.heap.size, 7, none⟩ = some (.int .i64 (y.num.2 : Nat))) (by kernel_rfl) hHeld (fun _ => ?_)
  refine tkh 0 hHeld (h := ?_)
  refine tkh 1 hHeld (h := ?_)
  refine tkh 2 hHeld (h := ?_)
  refine tkh 3 hHeld (h := ?_)
  refine tkh 4 hHeld (h := ?_)
  refine tkh 5 hHeld (h := ?_)
  refine tkh 6 hHeld (h := ?_)
  refine tkh 7 hHeld (h := ?_)
  refine tkh 8 hHeld (h := ?_)
  refine tkh 9 hHeld (h := ?_)
  refine tkh 10 hHeld (h := ?_)
  refine wpAnyH_all (rs := [11]) (by kernel_rfl) (by simp) ?_
  intro i hi
  rw [List.mem_singleton] at hi
  subst hi
  refine wpOp_dies (f := 19) (args := #[.agg #[.int .u32 y.num.1, .int .i64 (y.num.2 : Nat)], .int .i64 (ls.length : Nat)]) rfl rfl (by kernel_rfl) (there_bad _ (by omega) h0 h1) ?_
  rintro ee w2 ⟨rfl, rfl⟩
  refine ⟨_, rfl, ?_⟩
  exact ⟨rfl, Ends.err_mk HM.out ((((HA.out.alloc _).kept.drew).alloc _)) (((Kept.refl _ _).alloc _).drew.alloc _)⟩

set_option maxRecDepth 100000 in
set_option maxHeartbeats 3200000 in
theorem checkLocal_ok {p0 : Option Addr} {c0 : Nat} {ls : List Nat} (h : At K O w W N bb mp (.slice p0 ls.length c0) st) (hb : st.blocks ≠ []) (hls : isKinds K ls W (.slice p0 ls.length c0)) (a e x : Nat) (y : Beh) (pg pl : Option Addr) (ng cg nl cl : Nat) (hx : 0 ≤ y.num.1 ∧ y.num.1 ≤ 4294967295) (hlt : y.num.1 < (ls.length : Int)) (hs : st.stack.length ≤ 799000) :
    Calls Tryz.prog 93 #[.pointer (some ⟨bb, 0, none⟩), .agg (yC a e x y (.slice pg ng cg) (.slice pl nl cl)).toArray] W (Ends K O w W (fun k => k < W.heap.size) bb mp (.slice p0 ls.length c0) (checkLocalM ls x y st)) := by
  have HA := hide h.up
  have hbw := h.body.lt
  have I1 := h.locals
  obtain ⟨h0, h1⟩ := hx
  obtain ⟨k, hk⟩ : ∃ k : Nat, y.num.1 = (k : Int) := ⟨y.num.1.toNat, by omega⟩
  have hkl : k < ls.length := by omega
  obtain ⟨g, cap, hv, hKg, hg, hc, C0⟩ := isKinds.cell hls hkl
  cases hv
  have HN : Hid (checkLocalM ls x y st = match (if x = 32 then .ok st else takeM st [ls.getD k 0]) with | .error e => .error e | .ok st1 => if x = 33 then .ok st1 else .ok (putM st1 [ls.getD k 0])) := by
    show _ = _
    have ht : thereM y.num ls.length = .ok k := by
      unfold thereM
      rw [if_pos hlt, hk]
      simp
    simp only [checkLocalM, ht]
    rfl
  clear h hls
  generalize ls.getD k 0 = kd at *
  obtain ⟨yt, ygi, yal, ⟨yn, ya⟩, yla, yva⟩ := y
  simp only at hk hlt h0 h1 HN ⊢
  subst hk
  have n1 := World.new_ne W _ I1
  have n2 := World.new_ne W _ C0
  go_enter Tryz.func93, Tryz.ntmps93
  go_wp2_with fail
  go_cut [4] from 5 to 18 (fun v WW => v = .int .u8 (kd : Nat) ∧ WW = ((W.alloc (.cells #[.int .i64 (a : Nat), .int .i64 (e : Nat), .int .u8 (x : Nat), .bool yt, .slice pg ng cg, .int .u32 yal, .int .u32 (k : Int), .int .i64 (ya : Nat), .slice pl nl cl, .int .i64 yva] 100)).alloc (.cells #[.int .u32 (k : Int), .int .i64 (ya : Nat)] 62)).drew)
  case first =>
    go_region_held3 (fun w' => w'.cell? ⟨bb, 1, none⟩ = some (.slice (some ⟨g, 0, none⟩) ls.length c0) ∧ w'.cell? ⟨W.heap.size, 6, none⟩ = some (.int .u32 (k : Int)) ∧ w'.cell? ⟨W.heap.size, 7, none⟩ = some (.int .i64 (ya : Nat)) ∧ w'.cell? ⟨g, k, none⟩ = some (.int .u8 (kd : Nat))) (go_keep) ((refine step_call (f := 19) (args := #[.agg #[.int .u32 (k : Int), .int .i64 (ya : Nat)], .int .i64 (ls.length : Nat)]) (by rfl) (by go_simp) (there_ok _ hlt h0 h1) ?_; rintro ee w' ⟨rfl, rfl⟩; refine ⟨_, rfl, ?_⟩))
    all_goals
      go_wp2
      go_meet
      case rel => exact ⟨rfl, rfl⟩
  case rest =>
    obtain ⟨rfl, rfl⟩ := hcut
    have hA1 := ((HA.out.alloc (.cells #[.int .i64 (a : Nat), .int .i64 (e : Nat), .int .u8 (x : Nat), .bool yt, .slice pg ng cg, .int .u32 yal, .int .u32 (k : Int), .int .i64 (ya : Nat), .slice pl nl cl, .int .i64 yva] 100)).alloc (.cells #[.int .u32 (k : Int), .int .i64 (ya : Nat)] 62)).drewN 1
    have hlow1 : Kept (fun k => k < W.heap.size ∧ ¬ K k) W (((W.alloc (.cells #[.int .i64 (a : Nat), .int .i64 (e : Nat), .int .u8 (x : Nat), .bool yt, .slice pg ng cg, .int .u32 yal, .int .u32 (k : Int), .int .i64 (ya : Nat), .slice pl nl cl, .int .i64 yva] 100)).alloc (.cells #[.int .u32 (k : Int), .int .i64 (ya : Nat)] 62)).drewN 1) := (((Kept.refl _ _).alloc _).alloc _).drewN _
    have hX : (((W.alloc (.cells #[.int .i64 (a : Nat), .int .i64 (e : Nat), .int .u8 (x : Nat), .bool yt, .slice pg ng cg, .int .u32 yal, .int .u32 (k : Int), .int .i64 (ya : Nat), .slice pl nl cl, .int .i64 yva] 100)).alloc (.cells #[.int .u32 (k : Int), .int .i64 (ya : Nat)] 62)).drewN 1).cell? ⟨W.heap.size, 2, none⟩ = some (.int .u8 (x : Nat)) := by
      have hk : Kept (fun _ => False) (W.alloc (.cells #[.int .i64 (a : Nat), .int .i64 (e : Nat), .int .u8 (x : Nat), .bool yt, .slice pg ng cg, .int .u32 yal, .int .u32 (k : Int), .int .i64 (ya : Nat), .slice pl nl cl, .int .i64 yva] 100)) (((W.alloc (.cells #[.int .i64 (a : Nat), .int .i64 (e : Nat), .int .u8 (x : Nat), .bool yt, .slice pg ng cg, .int .u32 yal, .int .u32 (k : Int), .int .i64 (ya : Nat), .slice pl nl cl, .int .i64 yva] 100)).alloc (.cells #[.int .u32 (k : Int), .int .i64 (ya : Nat)] 62)).drewN 1) := ((Kept.refl _ _).alloc _).drewN _
      rw [hk.cell (p := ⟨W.heap.size, 2, none⟩) (by simp) (fun c => c), World.cell?_alloc_new]
      rfl
    have HA1 := hide hA1
    have hsW : W.heap.size < (((W.alloc (.cells #[.int .i64 (a : Nat), .int .i64 (e : Nat), .int .u8 (x : Nat), .bool yt, .slice pg ng cg, .int .u32 yal, .int .u32 (k : Int), .int .i64 (ya : Nat), .slice pl nl cl, .int .i64 yva] 100)).alloc (.cells #[.int .u32 (k : Int), .int .i64 (ya : Nat)] 62)).drewN 1).heap.size := by simp; omega
    clear hA1 n1 n2 C0 I1
    generalize hW1 : ((W.alloc (.cells #[.int .i64 (a : Nat), .int .i64 (e : Nat), .int .u8 (x : Nat), .bool yt, .slice pg ng cg, .int .u32 yal, .int .u32 (k : Int), .int .i64 (ya : Nat), .slice pl nl cl, .int .i64 yva] 100)).alloc (.cells #[.int .u32 (k : Int), .int .i64 (ya : Nat)] 62)).drewN 1 = W1 at *
    have hW1' : ((W.alloc (.cells #[.int .i64 (a : Nat), .int .i64 (e : Nat), .int .u8 (x : Nat), .bool yt, .slice pg ng cg, .int .u32 yal, .int .u32 (k : Int), .int .i64 (ya : Nat), .slice pl nl cl, .int .i64 yva] 100)).alloc (.cells #[.int .u32 (k : Int), .int .i64 (ya : Nat)] 62)).drew = W1 := hW1
    rw [hW1']
    clear hW1 hW1'
    by_cases h32 : x = 32
    · have t32 : ((x : Int) != 32) = false := by simp [h32]
      have t33 : ((x : Int) != 33) = true := by rw [bne_iff_ne]; omega
      have HM : Hid (checkLocalM ls x ⟨yt, ygi, yal, ((k : Int), ya), yla, yva⟩ st = .ok (putM st [kd])) := by show _ = _; rw [HN.out]; simp [h32]
      clear h32 HN
      go_wp2_with fail
      refine (put_at (HA1.out.alloc _) (kinds_made W1 [kd] rfl rfl (by simp)) (by simp) (by simp; omega)).mono ?_
      rintro ee w3 ⟨hok3, -, -, hlow3⟩
      obtain ⟨rfl, hA3⟩ := hok3 _ rfl
      have HA3 := hide hA3
      clear hok3 hA3
      go_wp2
      go_end0
      exact Ends.ok_mk HM.out HA3.out ((hlow1.alloc _).trans hlow3)
    · have t32 : ((x : Int) != 32) = true := by rw [bne_iff_ne]; omega
      go_wp2_with fail
      refine (take_at (HA1.out.alloc _) hb (kinds_made W1 [kd] rfl rfl (by simp)) HA1.out.ne (by simp)).mono ?_
      rintro ee w2 ⟨hok2, herr2, hk2, hlow2⟩
      have hl2 := (hlow1.alloc _).trans hlow2
      have hX2 : w2.cell? ⟨W.heap.size, 2, none⟩ = some (.int .u8 (x : Nat)) := (hlow2.cell (p := ⟨W.heap.size, 2, none⟩) (by simp; omega) (fun c => Nat.lt_irrefl _ c.1)).trans ((World.cell?_alloc_lt _ _ _ hsW).trans hX)
      cases hm2 : takeM st [kd] with
      | error qp =>
        obtain ⟨q, p⟩ := qp
        have he := herr2 _ _ hm2
        subst he
        exact ⟨rfl, Ends.err_mk (by rw [HN.out, if_neg h32, hm2]) hk2 hl2⟩
      | ok st2 =>
        obtain ⟨rfl, hA2⟩ := hok2 _ hm2
        have hf := takeM_facts HA.out.tidy.floor hm2
        have hs2 : st2.stack.length ≤ 799000 := by omega
        have HA2 := hide hA2
        have HN2 : Hid (checkLocalM ls x ⟨yt, ygi, yal, ((k : Int), ya), yla, yva⟩ st = if x = 33 then .ok st2 else .ok (putM st2 [kd])) := by show _ = _; rw [HN.out, if_neg h32, hm2]
        clear hok2 herr2 hA2 hm2 HN hX hf
        by_cases h33 : x = 33
        · have t33 : ((x : Int) != 33) = false := by simp [h33]
          have HM := hide (HN2.out.trans (if_pos h33))
          clear h33 h32 HN2
          go_wp2
          go_end0
          exact Ends.ok_mk HM.out HA2.out hl2
        · have t33 : ((x : Int) != 33) = true := by rw [bne_iff_ne]; omega
          have HM := hide (HN2.out.trans (if_neg h33))
          clear h33 h32 HN2
          go_wp2_with fail
          refine (put_at (HA2.out.alloc _) (kinds_made w2 [kd] rfl rfl (by simp)) (by simp) (by simp; omega)).mono ?_
          rintro ee w3 ⟨hok3, -, -, hlow3⟩
          obtain ⟨rfl, hA3⟩ := hok3 _ rfl
          have HA3 := hide hA3
          clear hok3 hA3
          go_wp2
          go_end0
          exact Ends.ok_mk HM.out HA3.out (hl2.lowTrans (((Kept.refl _ _).alloc _).trans hlow3) rfl)
end

end Go.Proofs.YtgkpkngchploiaaGreat
/-
  Variables.
-/
namespace Go.Proofs.YtgkpkngchploiaaGreat
open Go.RowKit

section
variable {K O N : Nat → Prop} {w W : World} {bb mb : Nat} {lv : Value} {st : Bd} {s : ByteArray} {m : Mdl}

theorem global_at (h : At K O w W N bb (.pointer (some ⟨mb, 0, none⟩)) lv st) (hm : MV s K W mb m) (x : Int × Nat) (hx : 0 ≤ x.1 ∧ x.1 ≤ 4294967295) :
    Calls Tryz.prog 92 #[.pointer (some ⟨bb, 0, none⟩), .agg #[.int .u32 x.1, .int .i64 (x.2 : Nat)]] W (Says (fun _ => False) W (globalAtM m x) isGlobal) := by
  obtain ⟨sv, bv, hB⟩ := h.body
  by_cases hlt : x.1 < (m.globals.length : Int)
  · exact global_ok hB.blk hm hx hlt
  · exact global_bad hB.blk hm hx hlt

theorem typeAt_at (h : At K O w W N bb (.pointer (some ⟨mb, 0, none⟩)) lv st) (hm : MV s K W mb m) (x : Int × Nat) (hx : 0 ≤ x.1 ∧ x.1 ≤ 4294967295) :
    Calls Tryz.prog 90 #[.pointer (some ⟨bb, 0, none⟩), .agg #[.int .u32 x.1, .int .i64 (x.2 : Nat)]] W (Says (fun _ => False) W (typeAtM m x) (isTypeOf K)) := by
  obtain ⟨sv, bv, hB⟩ := h.body
  by_cases hlt : x.1 < (m.types.length : Int)
  · exact typeAt_ok hB.blk hm hx hlt
  · exact typeAt_bad hB.blk hm hx hlt

theorem field_glb0 (a b c d f : Value) (w : World) : (Instr.field 78 (.agg #[a, b, c, d, f]) 0).run Tryz.prog w = .ok a w := by kernel_rfl

/-- Behind a call that changes nothing that was there. -/
theorem At.quiet {W' : World} (h : At K O w W N bb (.pointer (some ⟨mb, 0, none⟩)) lv st) (hk : Kept (fun _ => False) W W') : At K O w W' N bb (.pointer (some ⟨mb, 0, none⟩)) lv st := by
  obtain ⟨sv, bv, hB⟩ := h.body
  exact ⟨h.kept.fresh hk (fun _ _ c => c.elim), ⟨sv, bv, hB.kept hk (fun _ _ c => c.elim)⟩, h.kb, h.dis, h.tidy, h.bls, h.stk⟩

set_option maxRecDepth 100000 in
set_option maxHeartbeats 6400000 in
theorem checkVariable_at {p0 : Option Addr} {c0 : Nat} {ls : List Nat} (h : At K O w W N bb (.pointer (some ⟨mb, 0, none⟩)) (.slice p0 ls.length c0) st) (hb : st.blocks ≠ []) (hm : MV s K W mb m) (hls : isKinds K ls W (.slice p0 ls.length c0)) (a e x : Nat) (y : Beh) (pg pl : Option Addr) (ng cg nl cl : Nat) (hx : 0 ≤ y.num.1 ∧ y.num.1 ≤ 4294967295) (hs : st.stack.length ≤ 799000) :
    Calls Tryz.prog 64 #[.pointer (some ⟨bb, 0, none⟩), .agg (yC a e x y (.slice pg ng cg) (.slice pl nl cl)).toArray] W (Ends K O w W (fun k => k < W.heap.size) bb (.pointer (some ⟨mb, 0, none⟩)) (.slice p0 ls.length c0) (checkVariableM m ls x y st)) := by
  have HA := hide h.up
  have hfld := field_glb0
  have HMV := hide hm
  have HLS := hide hls
  have hW0 : Kept (fun k => k < W.heap.size ∧ ¬ K k) W (W.alloc (.cells (yC a e x y (.slice pg ng cg) (.slice pl nl cl)).toArray 100)) := (Kept.refl _ _).alloc _
  clear h hm hls
  by_cases h26 : x = 26
  · subst h26
    have HN : Hid (checkVariableM m ls 26 y st = match takeTop st with | .error e => .error e | .ok (_, st1) => .ok st1) := rfl
    go_enter Tryz.func64, Tryz.ntmps64
    go_wp2_with fail
    refine (takeAny_at (HA.out.alloc _) hb).mono ?_
    rintro ee w2 ⟨hok2, herr2, hk2, hlow2⟩
    have hl2 : Kept (fun k => k < W.heap.size ∧ ¬ K k) W w2 := ((Kept.refl _ _).alloc _).trans hlow2
    cases hm2 : takeTop st with
    | error qp =>
      obtain ⟨q, p⟩ := qp
      have he := herr2 _ _ hm2
      subst he
      exact ⟨rfl, Ends.err_mk (by rw [HN.out, hm2]) hk2 hl2⟩
    | ok x2 =>
      obtain ⟨k2, st2⟩ := x2
      obtain ⟨rfl, hA2, -, -, -⟩ := hok2 _ _ hm2
      have HM : Hid (checkVariableM m ls 26 y st = .ok st2) := by show _ = _; rw [HN.out, hm2]
      have HA2 := hide hA2
      clear hok2 herr2 hm2 hA2 HN hW0
      go_wp2
      go_end0
      exact Ends.ok_mk HM.out HA2.out hl2
  by_cases h27 : x = 27
  · subst h27
    have HN : Hid (checkVariableM m ls 27 y st = checkSelectM st) := rfl
    go_enter Tryz.func64, Tryz.ntmps64
    go_wp2_with fail
    refine (checkSelect_at (HA.out.alloc _) hb hs).mono ?_
    rintro ee w2 ⟨hok2, herr2, hk2, hlow2⟩
    have hlow : Kept (fun k => k < W.heap.size ∧ ¬ K k) W w2 := (((Kept.refl _ _).alloc _).trans hlow2).mono (fun k hk c => ⟨hk, c.2⟩)
    cases hm2 : checkSelectM st with
    | error qp =>
      obtain ⟨q, p⟩ := qp
      have he := herr2 _ _ hm2
      subst he
      exact ⟨rfl, Ends.err_mk (HN.out.trans hm2) hk2 hlow⟩
    | ok st2 =>
      obtain ⟨rfl, hA2⟩ := hok2 _ hm2
      have HA2 := hide hA2
      have HE2 := hide (HN.out.trans hm2)
      clear hok2 herr2 hA2 hm2 HN
      go_wp2
      go_end0
      exact Ends.ok_mk HE2.out HA2.out hlow
  by_cases h35 : x = 35
  · subst h35
    have HN : Hid (checkVariableM m ls 35 y st = match globalAtM m y.num with | .error e => .error e | .ok g => .ok (putM st [g.kind])) := rfl
    go_enter Tryz.func64, Tryz.ntmps64
    go_wp2_with fail
    refine (global_at (HA.out.alloc _) (HMV.out.kept ((Kept.refl (fun _ => False) _).alloc _) (fun _ _ _ c => c)) y.num hx).mono ?_
    rintro ee w2 ⟨hk2, hok2, herr2⟩
    have hA2 := (HA.out.alloc (.cells #[.int .i64 (a : Nat), .int .i64 (e : Nat), .int .u8 35, .bool y.typed, .slice pg ng cg, .int .u32 y.align, .int .u32 y.num.1, .int .i64 (y.num.2 : Nat), .slice pl nl cl, .int .i64 y.val] 100)).quiet hk2
    have hl2 : Kept (fun k => k < W.heap.size ∧ ¬ K k) W w2 := ((Kept.refl _ _).alloc _).trans (hk2.mono (fun _ _ c => c.elim))
    cases hm2 : globalAtM m y.num with
    | error qp =>
      obtain ⟨q, p⟩ := qp
      have he := herr2 _ _ hm2
      subst he
      exact ⟨rfl, Ends.err_mk (by rw [HN.out, hm2]) hA2.kept hl2⟩
    | ok g =>
      obtain ⟨v, rfl, hv⟩ := hok2 _ hm2
      have hv : v = .agg #[.int .u8 (g.kind : Nat), .bool g.set_, .int .i64 (g.first.at_ : Nat), .int .u8 (g.first.kind : Nat), .int .i64 g.first.val] := hv
      subst hv
      have HM : Hid (checkVariableM m ls 35 y st = .ok (putM st [g.kind])) := by show _ = _; rw [HN.out, hm2]
      have HA2 := hide hA2
      clear hok2 herr2 hm2 hA2 HN hW0
      go_wp2_with fail
      refine (put_at (HA2.out.alloc _) (kinds_made w2 [g.kind] rfl rfl (by simp)) (by simp) (by simp; omega)).mono ?_
      rintro ee w3 ⟨hok3, -, -, hlow3⟩
      obtain ⟨rfl, hA3⟩ := hok3 _ rfl
      have HA3 := hide hA3
      clear hok3 hA3
      go_wp2
      go_end0
      exact Ends.ok_mk HM.out HA3.out ((hl2.alloc _).trans hlow3)
  by_cases h36 : x = 36
  · subst h36
    have HN : Hid (checkVariableM m ls 36 y st = match globalAtM m y.num with | .error e => .error e | .ok g => if g.set_ then takeM st [g.kind] else .error (4, st.at_)) := rfl
    go_enter Tryz.func64, Tryz.ntmps64
    go_wp2_with fail
    refine (global_at (HA.out.alloc _) (HMV.out.kept ((Kept.refl (fun _ => False) _).alloc _) (fun _ _ _ c => c)) y.num hx).mono ?_
    rintro ee w2 ⟨hk2, hok2, herr2⟩
    have hA2 := (HA.out.alloc (.cells #[.int .i64 (a : Nat), .int .i64 (e : Nat), .int .u8 36, .bool y.typed, .slice pg ng cg, .int .u32 y.align, .int .u32 y.num.1, .int .i64 (y.num.2 : Nat), .slice pl nl cl, .int .i64 y.val] 100)).quiet hk2
    have hl2 : Kept (fun k => k < W.heap.size ∧ ¬ K k) W w2 := ((Kept.refl _ _).alloc _).trans (hk2.mono (fun _ _ c => c.elim))
    cases hm2 : globalAtM m y.num with
    | error qp =>
      obtain ⟨q, p⟩ := qp
      have he := herr2 _ _ hm2
      subst he
      exact ⟨rfl, Ends.err_mk (by rw [HN.out, hm2]) hA2.kept hl2⟩
    | ok g =>
      obtain ⟨v, rfl, hv⟩ := hok2 _ hm2
      have hv : v = .agg #[.int .u8 (g.kind : Nat), .bool g.set_, .int .i64 (g.first.at_ : Nat), .int .u8 (g.first.kind : Nat), .int .i64 g.first.val] := hv
      subst hv
      have HM : Hid (checkVariableM m ls 36 y st = if g.set_ then takeM st [g.kind] else .error (4, st.at_)) := by show _ = _; rw [HN.out, hm2]
      have HA2 := hide hA2
      clear hok2 herr2 hm2 hA2 HN hW0
      cases hset : g.set_ with
      | false =>
        have HM2 : Hid (checkVariableM m ls 36 y st = .error (4, st.at_)) := by show _ = _; rw [HM.out, hset]; rfl
        clear HM
        go_wp2_with fail
        refine (refuse_at (HA2.out.alloc _)).mono ?_
        rintro ee w3 ⟨rfl, rfl⟩
        exact ⟨rfl, Ends.err_mk HM2.out (HA2.out.kept.alloc _) (hl2.alloc _)⟩
      | true =>
        have HM2 : Hid (checkVariableM m ls 36 y st = takeM st [g.kind]) := by show _ = _; rw [HM.out, hset]; rfl
        clear HM
        go_wp2_with fail
        refine (take_at ((HA2.out.alloc _).alloc _) hb (kinds_made _ [g.kind] (by simp) rfl (by simp)) (HA2.out.alloc _).ne (by simp)).mono ?_
        rintro ee w3 ⟨hok3, herr3, hk3, hlow3⟩
        have hl3 := ((hl2.alloc _).alloc _).trans hlow3
        cases hm3 : takeM st [g.kind] with
        | error qp =>
          obtain ⟨q, p⟩ := qp
          have he := herr3 _ _ hm3
          subst he
          exact ⟨rfl, Ends.err_mk (HM2.out.trans hm3) hk3 hl3⟩
        | ok st3 =>
          obtain ⟨rfl, hA3⟩ := hok3 _ hm3
          have HA3 := hide hA3
          have HE := hide (HM2.out.trans hm3)
          clear hok3 herr3 hm3 hA3 HM2
          go_wp2
          go_end0
          exact Ends.ok_mk HE.out HA3.out hl3
  have HN : Hid (checkVariableM m ls x y st = checkLocalM ls x y st) := by show _ = _; unfold checkVariableM; rw [if_neg h26, if_neg h27, if_neg h35, if_neg h36]
  have t26 : ((x : Int) == 26) = false := beq_eq_false_iff_ne.2 (by omega)
  have t27 : ((x : Int) == 27) = false := beq_eq_false_iff_ne.2 (by omega)
  have t35 : ((x : Int) == 35) = false := beq_eq_false_iff_ne.2 (by omega)
  have t36 : ((x : Int) == 36) = false := beq_eq_false_iff_ne.2 (by omega)
  clear h26 h27 h35 h36 hW0
  have HLoc : Hid (∀ W1, At K O w W1 (fun k => k < W.heap.size) bb (.pointer (some ⟨mb, 0, none⟩)) (.slice p0 ls.length c0) st → isKinds K ls W1 (.slice p0 ls.length c0) → Calls Tryz.prog 93 #[.pointer (some ⟨bb, 0, none⟩), .agg (yC a e x y (.slice pg ng cg) (.slice pl nl cl)).toArray] W1 (Ends K O w W1 (fun k => k < W1.heap.size) bb (.pointer (some ⟨mb, 0, none⟩)) (.slice p0 ls.length c0) (checkLocalM ls x y st))) := by
    intro W1 hA1 hl1
    by_cases hlt : y.num.1 < (ls.length : Int)
    · exact checkLocal_ok hA1 hb hl1 a e x y pg pl ng cg nl cl hx hlt hs
    · exact checkLocal_bad hA1 a e x y pg pl ng cg nl cl hx hlt
  go_enter Tryz.func64, Tryz.ntmps64
  go_wp2_with fail
  refine (HLoc.out _ (HA.out.alloc _) (Row.alloc HLS.out _)).mono ?_
  rintro ee w2 ⟨hok2, herr2, hk2, hlow2⟩
  have hlow : Kept (fun k => k < W.heap.size ∧ ¬ K k) W w2 := (((Kept.refl _ _).alloc _).trans hlow2).mono (fun k hk c => ⟨hk, c.2⟩)
  cases hm2 : checkLocalM ls x y st with
  | error qp =>
    obtain ⟨q, p⟩ := qp
    have he := herr2 _ _ hm2
    subst he
    exact ⟨rfl, Ends.err_mk (HN.out.trans hm2) hk2 hlow⟩
  | ok st2 =>
    obtain ⟨rfl, hA2⟩ := hok2 _ hm2
    have HA2 := hide hA2
    have HE2 := hide (HN.out.trans hm2)
    clear hok2 herr2 hA2 hm2 HN
    go_wp2
    go_end0
    exact Ends.ok_mk HE2.out HA2.out hlow
end

end Go.Proofs.YtgkpkngchploiaaGreat
/-
  Lists of kinds that are alike; what a block takes and gives.
-/
namespace Go.Proofs.YtgkpkngchploiaaGreat
open Go.RowKit

theorem drewN_twice (w : World) (a b : Nat) : (w.drewN a).drewN b = w.drewN (a + b) := by simp

set_option maxHeartbeats 1600000 in
theorem equalKinds_any {ok ok' : Nat → Prop} {w : World} {us vs : List Nat} {pa pb : Option Addr} {ca cb : Nat} (ha : isKinds ok us w (.slice pa us.length ca)) (hb : isKinds ok' vs w (.slice pb vs.length cb)) (hl : us.length ≤ 50) :
    Calls Tryz.prog 85 #[.slice pa us.length ca, .slice pb vs.length cb] w fun e w' => e = .returned (.bool (decide (us = vs))) ∧ ∃ k, w' = w.drewN k := by
  by_cases hn : us.length = vs.length
  · have tn : ((us.length : Int) != (vs.length : Int)) = false := by simp [hn]
    have HN := hide hn
    clear hn
    go_enter Tryz.func85, Tryz.ntmps85
    go_wp2
    go_loopw [13] (fun q wr => ∃ k : Nat, k ≤ us.length ∧ q = .int .i64 k ∧ (∃ j, wr = w.drewN j) ∧ ∀ i, i < k → us.getD i 0 = vs.getD i 0) (fun q _ => us.length - (intOf q).toNat)
    case atStart => exact ⟨0, Nat.zero_le _, rfl, ⟨0, rfl⟩, fun i hi => absurd hi (Nat.not_lt_zero _)⟩
    case round =>
      obtain ⟨k, hk, rfl, ⟨j, rfl⟩, hall⟩ := hrel
      have HALL := hide hall
      clear hall
      by_cases hlt : k < us.length
      · have hlt' : (k : Int) < (us.length : Int) := by omega
        have hlt2 : (k : Int) < (vs.length : Int) := by have := HN.out; omega
        obtain ⟨ga, c1, hv1, -, hg1, -, A0⟩ := isKinds.cell ha hlt
        obtain ⟨gb, c2, hv2, -, hg2, -, B0⟩ := isKinds.cell hb (i := k) (by omega)
        cases hv1
        cases hv2
        by_cases heq : us.getD k 0 = vs.getD k 0
        · have te : (((us.getD k 0 : Nat) : Int) != ((vs.getD k 0 : Nat) : Int)) = false := by rw [heq, bne_self_eq_false]
          have HE := hide heq
          have HA2 : Hid (∀ i, i < k + 1 → us.getD i 0 = vs.getD i 0) := fun i hi => by
            by_cases h : i = k
            · subst h; exact HE.out
            · exact HALL.out i (by omega)
          clear heq HALL HE
          generalize us.getD k 0 = x at te A0
          generalize vs.getD k 0 = y at te B0
          go_wp2
          go_quiet (fail)
          go_wp2
          go_roundw
          case rel => exact ⟨k + 1, by omega, by go_num, ⟨_, rfl⟩, HA2.out⟩
          case measure => simp [intOf]; omega
        · have te : (((us.getD k 0 : Nat) : Int) != ((vs.getD k 0 : Nat) : Int)) = true := by rw [bne_iff_ne]; omega
          have HD : Hid (decide (us = vs) = false) := decide_eq_false (fun e => heq (by rw [e]))
          clear heq
          generalize us.getD k 0 = x at *
          generalize vs.getD k 0 = y at *
          go_wp2
          go_quiet (fail)
          go_wp2
          go_ret
          exact ⟨by rw [HD.out]; rfl, _, drewN_twice _ _ _⟩
      · have HD : Hid (decide (us = vs) = true) := by
          refine decide_eq_true (List.ext_getElem (by exact HN.out) (fun i h1 h2 => ?_))
          have := HALL.out i (by omega)
          simpa [h1, h2] using this
        go_wp2
        go_ret
        exact ⟨by rw [HD.out]; rfl, _, rfl⟩
  · have tn : ((us.length : Int) != (vs.length : Int)) = true := by rw [bne_iff_ne]; omega
    have HD : Hid (decide (us = vs) = false) := decide_eq_false (fun e => hn (by rw [e]))
    clear hn
    go_enter Tryz.func85, Tryz.ntmps85
    go_wp2
    go_ret
    exact ⟨by rw [HD.out]; rfl, 0, rfl⟩

section
variable {K O N : Nat → Prop} {w W : World} {bb mb : Nat} {lv : Value} {st : Bd} {s : ByteArray} {m : Mdl}

set_option maxRecDepth 100000 in
set_option maxHeartbeats 1600000 in
theorem blockType_at (h : At K O w W N bb (.pointer (some ⟨mb, 0, none⟩)) lv st) (hm : MV s K W mb m) (a e x : Nat) (y : Beh) (pg pl : Option Addr) (cg nl cl : Nat) (hx : 0 ≤ y.num.1 ∧ y.num.1 ≤ 4294967295) (hg : isKinds K y.gives W (.slice pg y.gives.length cg)) :
    Calls Tryz.prog 83 #[.pointer (some ⟨bb, 0, none⟩), .agg #[.int .i64 (a : Nat), .int .i64 (e : Nat), .int .u8 (x : Nat), .bool y.typed, .slice pg y.gives.length cg, .int .u32 y.align, .int .u32 y.num.1, .int .i64 (y.num.2 : Nat), .slice pl nl cl, .int .i64 y.val]] W (Says (fun _ => False) W (blockTypeM m y) (isTypeOf K)) := by
  have HA := hide h.up
  have HMV := hide hm
  have HG := hide hg
  clear h hm hg
  cases hty : y.typed with
  | false =>
    have HM : Hid (blockTypeM m y = .ok ⟨[], y.gives⟩) := by show _ = _; simp [blockTypeM, hty]
    go_enter Tryz.func83, Tryz.ntmps83
    go_wp2
    refine bodyPost_ret (v := .agg #[.slice none 0 0, .slice pg y.gives.length cg]) ?_ rfl ?_
    · simp [results, Tryz.results83, go_sem]
    · have hk := ((Kept.refl (fun _ => False) W).alloc (.cells #[.int .i64 (a : Nat), .int .i64 (e : Nat), .int .u8 (x : Nat), .bool false, .slice pg y.gives.length cg, .int .u32 y.align, .int .u32 y.num.1, .int .i64 (y.num.2 : Nat), .slice pl nl cl, .int .i64 y.val] 100)).alloc (.cells #[.slice none 0 0, .slice pg y.gives.length cg] 85)
      exact Says.ok_mk HM.out hk ⟨_, _, rfl, Row.nil _ _ _ _, Row.kept HG.out hk (fun _ _ _ c => c)⟩
  | true =>
    have HM : Hid (blockTypeM m y = typeAtM m y.num) := by show _ = _; simp [blockTypeM, hty]
    have hkW : ∀ o1 o2, Kept (fun _ => False) W ((W.alloc o1).alloc o2) := fun o1 o2 => ((Kept.refl _ _).alloc _).alloc _
    go_enter Tryz.func83, Tryz.ntmps83
    go_wp2_with fail
    refine (typeAt_at ((HA.out.alloc _).alloc _) (HMV.out.kept (hkW _ _) (fun _ _ _ c => c)) y.num hx).mono ?_
    rintro ee w2 ⟨hk2, hok2, herr2⟩
    have hk02 := (hkW _ _).trans hk2
    have hR := ((Blk.new' (w := W.alloc (.cells #[.int .i64 (a : Nat), .int .i64 (e : Nat), .int .u8 (x : Nat), .bool true, .slice pg y.gives.length cg, .int .u32 y.align, .int .u32 y.num.1, .int .i64 (y.num.2 : Nat), .slice pl nl cl, .int .i64 y.val] 100)) (g := W.heap.size + 1) (c := #[.slice none 0 0, .slice none 0 0]) (t := 85) (by simp))).kept hk2 (by simp) (fun c => c)
    have hsz2 := hk2.size
    cases hm2 : typeAtM m y.num with
    | error qp =>
      obtain ⟨q, p⟩ := qp
      have he := herr2 _ _ hm2
      subst he
      exact ⟨rfl, Says.err_mk (HM.out.trans hm2) hk02⟩
    | ok t =>
      obtain ⟨v, rfl, vi, vo, rfl, k1, k2⟩ := hok2 _ hm2
      obtain ⟨pi, ci, rfl⟩ := Row.shape k1
      obtain ⟨po, co, rfl⟩ := Row.shape k2
      obtain ⟨⟨R0, S0⟩, ⟨R1, S1⟩⟩ := hR.two
      have HE := hide (HM.out.trans hm2)
      have H1 := hide k1
      have H2 := hide k2
      have hKR : ∀ g, K g → g ≠ W.heap.size + 1 := fun g hg e => by
        have h1 := HA.out.kb g hg
        have h2 := HA.out.kept.size
        omega
      clear hok2 herr2 hm2 k1 k2 hR HM
      go_wp2
      refine bodyPost_ret (v := .agg #[.slice pi t.ins.length ci, .slice po t.outs.length co]) ?_ rfl ?_
      · simp [results, Tryz.results83, go_sem, R0, R1]
      · exact Says.ok_mk HE.out ((hk02.new (by omega) _).new (by omega) _) ⟨_, _, rfl, Row.other (Row.other H1.out (fun g hg => hKR g hg) _) (fun g hg => hKR g hg) _, Row.other (Row.other H2.out (fun g hg => hKR g hg) _) (fun g hg => hKR g hg) _⟩
end

end Go.Proofs.YtgkpkngchploiaaGreat
