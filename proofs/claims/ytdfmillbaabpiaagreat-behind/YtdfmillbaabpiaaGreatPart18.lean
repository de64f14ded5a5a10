/-
  Part 18 of the proof: Body11, Body12, Body13, Body14.
-/
import Derived.Test.YtdfmillbaabpiaaGreatPart17
/-
  align, load, store, select.
-/
namespace Go.Proofs.YtdfmillbaabpiaaGreat
open Go.RowKit

section
variable {K O N : Nat → Prop} {w W : World} {bb : Nat} {mp lv : Value} {st : Bd}

def alignM (x : Nat) (y : Beh) (st : Bd) : Except Err Bd := if usualM x < y.align then .error (4, st.at_) else .ok st

set_option maxHeartbeats 800000 in
theorem align_at (h : At K O w W N bb mp lv st) (a e x : Nat) (y : Beh) (pg pl : Option Addr) (ng cg nl cl : Nat) :
    Calls Tryz.prog 111 #[.pointer (some ⟨bb, 0, none⟩), .agg #[.int .i64 (a : Nat), .int .i64 (e : Nat), .int .u8 (x : Nat), .bool y.typed, .slice pg ng cg, .int .u32 y.align, .int .u32 y.num.1, .int .i64 (y.num.2 : Nat), .slice pl nl cl, .int .i64 y.val]] W (Ends K O w W (fun k => k < W.heap.size) bb mp lv (alignM x y st)) := by
  have HA := hide h.up
  clear h
  by_cases hal : usualM x < y.align
  · have HM : Hid (alignM x y st = .error (4, st.at_)) := by show _ = _; simp [alignM, hal]
    go_enter Tryz.func111, Tryz.ntmps111
    go_wp2
    go_quiet (exact Calls.quiet_of_same (usual_any x _))
    go_wp2_with fail
    refine (refuse_at ((HA.out.alloc _).drewN _)).mono ?_
    rintro e w1 ⟨rfl, rfl⟩
    exact ⟨rfl, Ends.err_mk HM.out ((HA.out.alloc _).drewN _).kept (((Kept.refl _ _).alloc _).drewN _)⟩
  · have HM : Hid (alignM x y st = .ok st) := by show _ = _; simp [alignM, hal]
    have hal2 : decide (usualM x < y.align) = false := by simpa using hal
    have hal3 : y.align ≤ usualM x := by omega
    go_enter Tryz.func111, Tryz.ntmps111
    go_wp2
    go_quiet (exact Calls.quiet_of_same (usual_any x _))
    go_wp2
    go_end0
    exact Ends.ok_mk HM.out ((HA.out.alloc _).drewN _) (((Kept.refl _ _).alloc _).drewN _)

set_option maxHeartbeats 800000 in
theorem load_at (h : At K O w W N bb mp lv st) (hb : st.blocks ≠ []) (a e x : Nat) (y : Beh) (pg pl : Option Addr) (ng cg nl cl : Nat) (k : Nat) (hs : st.stack.length ≤ 799000) {z : Int} (hz : z = (k : Int)) :
    Calls Tryz.prog 94 #[.pointer (some ⟨bb, 0, none⟩), .agg #[.int .i64 (a : Nat), .int .i64 (e : Nat), .int .u8 (x : Nat), .bool y.typed, .slice pg ng cg, .int .u32 y.align, .int .u32 y.num.1, .int .i64 (y.num.2 : Nat), .slice pl nl cl, .int .i64 y.val], .int .u8 z] W (Ends K O w W (fun k => k < W.heap.size) bb mp lv (loadM x k y st)) := by
  subst hz
  have HA := hide h.up
  have hKb : ¬ K bb := fun c => h.body.dis bb h.body.own c
  clear h
  have HL : Hid (∀ st', alignM x y st = .ok st' → st' = st ∧ loadM x k y st = (match takeM st [127] with | .error e => .error e | .ok st1 => .ok (putM st1 [k]))) := by
    intro st' h
    unfold alignM at h
    unfold loadM
    split at h
    · cases h
    · rename_i hn; cases h; exact ⟨rfl, by rw [if_neg hn] <;> rfl⟩
  have HL2 : Hid (∀ q p, alignM x y st = .error (q, p) → loadM x k y st = .error (q, p)) := by
    intro q p h
    unfold alignM at h
    unfold loadM
    split at h
    · rename_i hn; cases h; rw [if_pos hn]
    · cases h
  go_enter Tryz.func94, Tryz.ntmps94
  go_wp2_with fail
  refine (align_at (HA.out.alloc _) a e x y pg pl ng cg nl cl).mono ?_
  rintro ee w1 ⟨hok1, herr1, hk1, hlow1⟩
  have hlowW : Kept (fun k => k < (W.alloc (.cells #[.int .i64 (a : Nat), .int .i64 (e : Nat), .int .u8 (x : Nat), .bool y.typed, .slice pg ng cg, .int .u32 y.align, .int .u32 y.num.1, .int .i64 (y.num.2 : Nat), .slice pl nl cl, .int .i64 y.val] 100)).heap.size ∧ ¬ K k) W w1 := ((Kept.refl _ _).alloc _).trans hlow1
  have hlowW2 : Kept (fun k => k < W.heap.size ∧ ¬ K k) W w1 := hlowW.mono (fun k hk c => ⟨hk, c.2⟩)
  cases hm : alignM x y st with
  | error qp =>
    obtain ⟨q, p⟩ := qp
    have he := herr1 _ _ hm
    subst he
    exact ⟨rfl, Ends.err_mk (HL2.out _ _ hm) hk1 hlowW2⟩
  | ok st0 =>
    obtain ⟨rfl, HLe⟩ := HL.out _ hm
    obtain ⟨rfl, hA1⟩ := hok1 _ hm
    have HA1 := hide hA1
    have HLE := hide HLe
    clear hok1 herr1 hm hA1 HLe HL HL2 hlow1 hlowW
    go_wp2_with fail
    refine (take_at (HA1.out.alloc _) hb (kinds_made w1 [127] rfl rfl (by simp)) HA1.out.ne (by simp)).mono ?_
    rintro ee w2 ⟨hok2, herr2, hk2, hlow2⟩
    have hlow12 : Kept (fun k => k < W.heap.size ∧ ¬ K k) W w2 := hlowW2.lowTrans (((Kept.refl _ _).alloc _).trans hlow2) rfl
    cases hm : takeM st0 [127] with
    | error qp =>
      obtain ⟨q, p⟩ := qp
      have he := herr2 _ _ hm
      subst he
      exact ⟨rfl, Ends.err_mk (by rw [HLE.out, hm]) hk2 hlow12⟩
    | ok st1 =>
      obtain ⟨rfl, hA2⟩ := hok2 _ hm
      have hf := takeM_facts HA.out.tidy.floor hm
      have hs1 : st1.stack.length ≤ 799000 := by omega
      have HM : Hid (loadM x k y st0 = .ok (putM st1 [k])) := by show _ = _; rw [HLE.out, hm]
      have HA2 := hide hA2
      clear hok2 herr2 hm hA2 HLE hf
      go_wp2_with fail
      refine (put_at (HA2.out.alloc _) (kinds_made w2 [k] rfl rfl (by simp)) (by simp) (by simp; omega)).mono ?_
      rintro ee w3 ⟨hok3, -, -, hlow3⟩
      obtain ⟨rfl, hA3⟩ := hok3 _ rfl
      have HA3 := hide hA3
      clear hok3 hA3
      go_wp2
      go_end0
      exact Ends.ok_mk HM.out HA3.out (hlow12.lowTrans (((Kept.refl _ _).alloc _).trans hlow3) rfl)

set_option maxHeartbeats 800000 in
theorem store_at (h : At K O w W N bb mp lv st) (hb : st.blocks ≠ []) (a e x : Nat) (y : Beh) (pg pl : Option Addr) (ng cg nl cl : Nat) (k : Nat) {z : Int} (hz : z = (k : Int)) :
    Calls Tryz.prog 95 #[.pointer (some ⟨bb, 0, none⟩), .agg #[.int .i64 (a : Nat), .int .i64 (e : Nat), .int .u8 (x : Nat), .bool y.typed, .slice pg ng cg, .int .u32 y.align, .int .u32 y.num.1, .int .i64 (y.num.2 : Nat), .slice pl nl cl, .int .i64 y.val], .int .u8 z] W (Ends K O w W (fun k => k < W.heap.size) bb mp lv (storeM x k y st)) := by
  subst hz
  have HA := hide h.up
  clear h
  have HL : Hid (∀ st', alignM x y st = .ok st' → st' = st ∧ storeM x k y st = takeM st [127, k]) := by
    intro st' h
    unfold alignM at h
    unfold storeM
    split at h
    · cases h
    · rename_i hn; cases h; exact ⟨rfl, by rw [if_neg hn] <;> rfl⟩
  have HL2 : Hid (∀ q p, alignM x y st = .error (q, p) → storeM x k y st = .error (q, p)) := by
    intro q p h
    unfold alignM at h
    unfold storeM
    split at h
    · rename_i hn; cases h; rw [if_pos hn]
    · cases h
  go_enter Tryz.func95, Tryz.ntmps95
  go_wp2_with fail
  refine (align_at (HA.out.alloc _) a e x y pg pl ng cg nl cl).mono ?_
  rintro ee w1 ⟨hok1, herr1, hk1, hlow1⟩
  have hlowW2 : Kept (fun k => k < W.heap.size ∧ ¬ K k) W w1 := (((Kept.refl _ _).alloc _).trans hlow1).mono (fun k hk c => ⟨hk, c.2⟩)
  cases hm : alignM x y st with
  | error qp =>
    obtain ⟨q, p⟩ := qp
    have he := herr1 _ _ hm
    subst he
    exact ⟨rfl, Ends.err_mk (HL2.out _ _ hm) hk1 hlowW2⟩
  | ok st0 =>
    obtain ⟨rfl, HLe⟩ := HL.out _ hm
    obtain ⟨rfl, hA1⟩ := hok1 _ hm
    have HA1 := hide hA1
    have HLE := hide HLe
    clear hok1 herr1 hm hA1 HLe HL HL2 hlow1
    go_wp2_with fail
    refine (take_at (HA1.out.alloc _) hb (kinds_made w1 [127, k] rfl rfl (by simp)) HA1.out.ne (by simp)).mono ?_
    rintro ee w2 ⟨hok2, herr2, hk2, hlow2⟩
    have hlow12 : Kept (fun k => k < W.heap.size ∧ ¬ K k) W w2 := hlowW2.lowTrans (((Kept.refl _ _).alloc _).trans hlow2) rfl
    cases hm : takeM st0 [127, k] with
    | error qp =>
      obtain ⟨q, p⟩ := qp
      have he := herr2 _ _ hm
      subst he
      exact ⟨rfl, Ends.err_mk (by rw [HLE.out, hm]) hk2 hlow12⟩
    | ok st1 =>
      obtain ⟨rfl, hA2⟩ := hok2 _ hm
      have HM : Hid (storeM x k y st0 = .ok st1) := by show _ = _; rw [HLE.out, hm]
      have HA2 := hide hA2
      clear hok2 herr2 hm hA2 HLE
      go_wp2
      go_end0
      exact Ends.ok_mk HM.out HA2.out hlow12
end

end Go.Proofs.YtdfmillbaabpiaaGreat
/-
  Numbers, select.
-/
namespace Go.Proofs.YtdfmillbaabpiaaGreat
open Go.RowKit

section
variable {K O N : Nat → Prop} {w W : World} {bb : Nat} {mp lv : Value} {st : Bd}

set_option maxHeartbeats 3200000 in
theorem checkNumber_at (h : At K O w W N bb mp lv st) (hb : st.blocks ≠ []) (x : Nat) (hs : st.stack.length ≤ 799000) :
    Calls Tryz.prog 66 #[.pointer (some ⟨bb, 0, none⟩), .int .u8 (x : Nat)] W (Ends K O w W (fun k => k < W.heap.size) bb mp lv (checkNumberM x st)) := by
  have HA := hide h.up
  clear h
  by_cases h0 : x = 65
  · have HM : Hid (checkNumberM x st = .ok (putM st [127])) := by show _ = _; unfold checkNumberM; rw [if_pos h0]
    have t0 : ((x : Int) == 65) = true := by simp; omega
    clear h0
    go_enter Tryz.func66, Tryz.ntmps66
    go_wp2_with fail
    refine (put_at (HA.out.alloc _) (kinds_made W [127] rfl rfl (by simp)) (by simp) (by simp; omega)).mono ?_
    rintro ee w1 ⟨hok1, -, -, hlow1⟩
    obtain ⟨rfl, hA1⟩ := hok1 _ rfl
    have HA1 := hide hA1
    clear hok1 hA1
    go_wp2
    go_end0
    exact Ends.ok_mk HM.out HA1.out (((Kept.refl _ _).alloc _).trans hlow1)
  by_cases h1 : x = 66
  · have HM : Hid (checkNumberM x st = .ok (putM st [126])) := by show _ = _; unfold checkNumberM; rw [if_neg h0, if_pos h1]
    have t0 : ((x : Int) == 65) = false := beq_eq_false_iff_ne.2 (by omega)
    have t1 : ((x : Int) == 66) = true := by simp; omega
    clear h0 h1
    go_enter Tryz.func66, Tryz.ntmps66
    go_wp2_with fail
    refine (put_at (HA.out.alloc _) (kinds_made W [126] rfl rfl (by simp)) (by simp) (by simp; omega)).mono ?_
    rintro ee w1 ⟨hok1, -, -, hlow1⟩
    obtain ⟨rfl, hA1⟩ := hok1 _ rfl
    have HA1 := hide hA1
    clear hok1 hA1
    go_wp2
    go_end0
    exact Ends.ok_mk HM.out HA1.out (((Kept.refl _ _).alloc _).trans hlow1)
  by_cases h2 : x = 69
  · have HM : Hid (checkNumberM x st = computeM 127 [127] st) := by show _ = _; unfold checkNumberM; rw [if_neg h0, if_neg h1, if_pos h2]
    have t0 : ((x : Int) == 65) = false := beq_eq_false_iff_ne.2 (by omega)
    have t1 : ((x : Int) == 66) = false := beq_eq_false_iff_ne.2 (by omega)
    have t2 : ((x : Int) == 69) = true := by simp; omega
    clear h0 h1 h2
    go_enter Tryz.func66, Tryz.ntmps66
    go_wp2_with fail
    refine (compute_at (HA.out.alloc _) hb 127 (kinds_made W [127] rfl rfl (by simp)) HA.out.ne (by simp) hs rfl).mono ?_
    rintro ee w1 ⟨hok1, herr1, hk1, hlow1⟩
    have hlowW : Kept (fun k => k < W.heap.size ∧ ¬ K k) W w1 := (((Kept.refl _ _).alloc _).trans hlow1).mono (fun k hk c => ⟨hk, c.2⟩)
    cases hm : computeM 127 [127] st with
    | error qp =>
      obtain ⟨q, p⟩ := qp
      have he := herr1 _ _ hm
      subst he
      exact ⟨rfl, Ends.err_mk (HM.out.trans hm) hk1 hlowW⟩
    | ok st1 =>
      obtain ⟨rfl, hA1⟩ := hok1 _ hm
      have HA1 := hide hA1
      have HE := hide (HM.out.trans hm)
      clear hok1 herr1 hA1 hm HM
      go_wp2
      go_end0
      exact Ends.ok_mk HE.out HA1.out hlowW
  by_cases h3 : x ≤ 79
  · have HM : Hid (checkNumberM x st = computeM 127 [127, 127] st) := by show _ = _; unfold checkNumberM; rw [if_neg h0, if_neg h1, if_neg h2, if_pos h3]
    have t0 : ((x : Int) == 65) = false := beq_eq_false_iff_ne.2 (by omega)
    have t1 : ((x : Int) == 66) = false := beq_eq_false_iff_ne.2 (by omega)
    have t2 : ((x : Int) == 69) = false := beq_eq_false_iff_ne.2 (by omega)
    have t3 : (x : Int) ≤ 79 := by omega
    clear h0 h1 h2 h3
    go_enter Tryz.func66, Tryz.ntmps66
    go_wp2_with fail
    refine (compute_at (HA.out.alloc _) hb 127 (kinds_made W [127, 127] rfl rfl (by simp)) HA.out.ne (by simp) hs rfl).mono ?_
    rintro ee w1 ⟨hok1, herr1, hk1, hlow1⟩
    have hlowW : Kept (fun k => k < W.heap.size ∧ ¬ K k) W w1 := (((Kept.refl _ _).alloc _).trans hlow1).mono (fun k hk c => ⟨hk, c.2⟩)
    cases hm : computeM 127 [127, 127] st with
    | error qp =>
      obtain ⟨q, p⟩ := qp
      have he := herr1 _ _ hm
      subst he
      exact ⟨rfl, Ends.err_mk (HM.out.trans hm) hk1 hlowW⟩
    | ok st1 =>
      obtain ⟨rfl, hA1⟩ := hok1 _ hm
      have HA1 := hide hA1
      have HE := hide (HM.out.trans hm)
      clear hok1 herr1 hA1 hm HM
      go_wp2
      go_end0
      exact Ends.ok_mk HE.out HA1.out hlowW
  by_cases h4 : x = 80
  · have HM : Hid (checkNumberM x st = computeM 127 [126] st) := by show _ = _; unfold checkNumberM; rw [if_neg h0, if_neg h1, if_neg h2, if_neg h3, if_pos h4]
    have t0 : ((x : Int) == 65) = false := beq_eq_false_iff_ne.2 (by omega)
    have t1 : ((x : Int) == 66) = false := beq_eq_false_iff_ne.2 (by omega)
    have t2 : ((x : Int) == 69) = false := beq_eq_false_iff_ne.2 (by omega)
    have t3 : decide ((x : Int) ≤ 79) = false := decide_eq_false (by omega)
    have t4 : ((x : Int) == 80) = true := by simp; omega
    clear h0 h1 h2 h3 h4
    go_enter Tryz.func66, Tryz.ntmps66
    go_wp2_with fail
    refine (compute_at (HA.out.alloc _) hb 127 (kinds_made W [126] rfl rfl (by simp)) HA.out.ne (by simp) hs rfl).mono ?_
    rintro ee w1 ⟨hok1, herr1, hk1, hlow1⟩
    have hlowW : Kept (fun k => k < W.heap.size ∧ ¬ K k) W w1 := (((Kept.refl _ _).alloc _).trans hlow1).mono (fun k hk c => ⟨hk, c.2⟩)
    cases hm : computeM 127 [126] st with
    | error qp =>
      obtain ⟨q, p⟩ := qp
      have he := herr1 _ _ hm
      subst he
      exact ⟨rfl, Ends.err_mk (HM.out.trans hm) hk1 hlowW⟩
    | ok st1 =>
      obtain ⟨rfl, hA1⟩ := hok1 _ hm
      have HA1 := hide hA1
      have HE := hide (HM.out.trans hm)
      clear hok1 herr1 hA1 hm HM
      go_wp2
      go_end0
      exact Ends.ok_mk HE.out HA1.out hlowW
  by_cases h5 : x ≤ 90
  · have HM : Hid (checkNumberM x st = computeM 127 [126, 126] st) := by show _ = _; unfold checkNumberM; rw [if_neg h0, if_neg h1, if_neg h2, if_neg h3, if_neg h4, if_pos h5]
    have t0 : ((x : Int) == 65) = false := beq_eq_false_iff_ne.2 (by omega)
    have t1 : ((x : Int) == 66) = false := beq_eq_false_iff_ne.2 (by omega)
    have t2 : ((x : Int) == 69) = false := beq_eq_false_iff_ne.2 (by omega)
    have t3 : decide ((x : Int) ≤ 79) = false := decide_eq_false (by omega)
    have t4 : ((x : Int) == 80) = false := beq_eq_false_iff_ne.2 (by omega)
    have t5 : (x : Int) ≤ 90 := by omega
    clear h0 h1 h2 h3 h4 h5
    go_enter Tryz.func66, Tryz.ntmps66
    go_wp2_with fail
    refine (compute_at (HA.out.alloc _) hb 127 (kinds_made W [126, 126] rfl rfl (by simp)) HA.out.ne (by simp) hs rfl).mono ?_
    rintro ee w1 ⟨hok1, herr1, hk1, hlow1⟩
    have hlowW : Kept (fun k => k < W.heap.size ∧ ¬ K k) W w1 := (((Kept.refl _ _).alloc _).trans hlow1).mono (fun k hk c => ⟨hk, c.2⟩)
    cases hm : computeM 127 [126, 126] st with
    | error qp =>
      obtain ⟨q, p⟩ := qp
      have he := herr1 _ _ hm
      subst he
      exact ⟨rfl, Ends.err_mk (HM.out.trans hm) hk1 hlowW⟩
    | ok st1 =>
      obtain ⟨rfl, hA1⟩ := hok1 _ hm
      have HA1 := hide hA1
      have HE := hide (HM.out.trans hm)
      clear hok1 herr1 hA1 hm HM
      go_wp2
      go_end0
      exact Ends.ok_mk HE.out HA1.out hlowW
  by_cases h6 : x ≤ 105
  · have HM : Hid (checkNumberM x st = computeM 127 [127] st) := by show _ = _; unfold checkNumberM; rw [if_neg h0, if_neg h1, if_neg h2, if_neg h3, if_neg h4, if_neg h5, if_pos h6]
    have t0 : ((x : Int) == 65) = false := beq_eq_false_iff_ne.2 (by omega)
    have t1 : ((x : Int) == 66) = false := beq_eq_false_iff_ne.2 (by omega)
    have t2 : ((x : Int) == 69) = false := beq_eq_false_iff_ne.2 (by omega)
    have t3 : decide ((x : Int) ≤ 79) = false := decide_eq_false (by omega)
    have t4 : ((x : Int) == 80) = false := beq_eq_false_iff_ne.2 (by omega)
    have t5 : decide ((x : Int) ≤ 90) = false := decide_eq_false (by omega)
    have t6 : (x : Int) ≤ 105 := by omega
    clear h0 h1 h2 h3 h4 h5 h6
    go_enter Tryz.func66, Tryz.ntmps66
    go_wp2_with fail
    refine (compute_at (HA.out.alloc _) hb 127 (kinds_made W [127] rfl rfl (by simp)) HA.out.ne (by simp) hs rfl).mono ?_
    rintro ee w1 ⟨hok1, herr1, hk1, hlow1⟩
    have hlowW : Kept (fun k => k < W.heap.size ∧ ¬ K k) W w1 := (((Kept.refl _ _).alloc _).trans hlow1).mono (fun k hk c => ⟨hk, c.2⟩)
    cases hm : computeM 127 [127] st with
    | error qp =>
      obtain ⟨q, p⟩ := qp
      have he := herr1 _ _ hm
      subst he
      exact ⟨rfl, Ends.err_mk (HM.out.trans hm) hk1 hlowW⟩
    | ok st1 =>
      obtain ⟨rfl, hA1⟩ := hok1 _ hm
      have HA1 := hide hA1
      have HE := hide (HM.out.trans hm)
      clear hok1 herr1 hA1 hm HM
      go_wp2
      go_end0
      exact Ends.ok_mk HE.out HA1.out hlowW
  by_cases h7 : x ≤ 120
  · have HM : Hid (checkNumberM x st = computeM 127 [127, 127] st) := by show _ = _; unfold checkNumberM; rw [if_neg h0, if_neg h1, if_neg h2, if_neg h3, if_neg h4, if_neg h5, if_neg h6, if_pos h7]
    have t0 : ((x : Int) == 65) = false := beq_eq_false_iff_ne.2 (by omega)
    have t1 : ((x : Int) == 66) = false := beq_eq_false_iff_ne.2 (by omega)
    have t2 : ((x : Int) == 69) = false := beq_eq_false_iff_ne.2 (by omega)
    have t3 : decide ((x : Int) ≤ 79) = false := decide_eq_false (by omega)
    have t4 : ((x : Int) == 80) = false := beq_eq_false_iff_ne.2 (by omega)
    have t5 : decide ((x : Int) ≤ 90) = false := decide_eq_false (by omega)
    have t6 : decide ((x : Int) ≤ 105) = false := decide_eq_false (by omega)
    have t7 : (x : Int) ≤ 120 := by omega
    clear h0 h1 h2 h3 h4 h5 h6 h7
    go_enter Tryz.func66, Tryz.ntmps66
    go_wp2_with fail
    refine (compute_at (HA.out.alloc _) hb 127 (kinds_made W [127, 127] rfl rfl (by simp)) HA.out.ne (by simp) hs rfl).mono ?_
    rintro ee w1 ⟨hok1, herr1, hk1, hlow1⟩
    have hlowW : Kept (fun k => k < W.heap.size ∧ ¬ K k) W w1 := (((Kept.refl _ _).alloc _).trans hlow1).mono (fun k hk c => ⟨hk, c.2⟩)
    cases hm : computeM 127 [127, 127] st with
    | error qp =>
      obtain ⟨q, p⟩ := qp
      have he := herr1 _ _ hm
      subst he
      exact ⟨rfl, Ends.err_mk (HM.out.trans hm) hk1 hlowW⟩
    | ok st1 =>
      obtain ⟨rfl, hA1⟩ := hok1 _ hm
      have HA1 := hide hA1
      have HE := hide (HM.out.trans hm)
      clear hok1 herr1 hA1 hm HM
      go_wp2
      go_end0
      exact Ends.ok_mk HE.out HA1.out hlowW
  by_cases h8 : x ≤ 123
  · have HM : Hid (checkNumberM x st = computeM 126 [126] st) := by show _ = _; unfold checkNumberM; rw [if_neg h0, if_neg h1, if_neg h2, if_neg h3, if_neg h4, if_neg h5, if_neg h6, if_neg h7, if_pos h8]
    have t0 : ((x : Int) == 65) = false := beq_eq_false_iff_ne.2 (by omega)
    have t1 : ((x : Int) == 66) = false := beq_eq_false_iff_ne.2 (by omega)
    have t2 : ((x : Int) == 69) = false := beq_eq_false_iff_ne.2 (by omega)
    have t3 : decide ((x : Int) ≤ 79) = false := decide_eq_false (by omega)
    have t4 : ((x : Int) == 80) = false := beq_eq_false_iff_ne.2 (by omega)
    have t5 : decide ((x : Int) ≤ 90) = false := decide_eq_false (by omega)
    have t6 : decide ((x : Int) ≤ 105) = false := decide_eq_false (by omega)
    have t7 : decide ((x : Int) ≤ 120) = false := decide_eq_false (by omega)
    have t8 : (x : Int) ≤ 123 := by omega
    clear h0 h1 h2 h3 h4 h5 h6 h7 h8
    go_enter Tryz.func66, Tryz.ntmps66
    go_wp2_with fail
    refine (compute_at (HA.out.alloc _) hb 126 (kinds_made W [126] rfl rfl (by simp)) HA.out.ne (by simp) hs rfl).mono ?_
    rintro ee w1 ⟨hok1, herr1, hk1, hlow1⟩
    have hlowW : Kept (fun k => k < W.heap.size ∧ ¬ K k) W w1 := (((Kept.refl _ _).alloc _).trans hlow1).mono (fun k hk c => ⟨hk, c.2⟩)
    cases hm : computeM 126 [126] st with
    | error qp =>
      obtain ⟨q, p⟩ := qp
      have he := herr1 _ _ hm
      subst he
      exact ⟨rfl, Ends.err_mk (HM.out.trans hm) hk1 hlowW⟩
    | ok st1 =>
      obtain ⟨rfl, hA1⟩ := hok1 _ hm
      have HA1 := hide hA1
      have HE := hide (HM.out.trans hm)
      clear hok1 herr1 hA1 hm HM
      go_wp2
      go_end0
      exact Ends.ok_mk HE.out HA1.out hlowW
  by_cases h9 : x ≤ 138
  · have HM : Hid (checkNumberM x st = computeM 126 [126, 126] st) := by show _ = _; unfold checkNumberM; rw [if_neg h0, if_neg h1, if_neg h2, if_neg h3, if_neg h4, if_neg h5, if_neg h6, if_neg h7, if_neg h8, if_pos h9]
    have t0 : ((x : Int) == 65) = false := beq_eq_false_iff_ne.2 (by omega)
    have t1 : ((x : Int) == 66) = false := beq_eq_false_iff_ne.2 (by omega)
    have t2 : ((x : Int) == 69) = false := beq_eq_false_iff_ne.2 (by omega)
    have t3 : decide ((x : Int) ≤ 79) = false := decide_eq_false (by omega)
    have t4 : ((x : Int) == 80) = false := beq_eq_false_iff_ne.2 (by omega)
    have t5 : decide ((x : Int) ≤ 90) = false := decide_eq_false (by omega)
    have t6 : decide ((x : Int) ≤ 105) = false := decide_eq_false (by omega)
    have t7 : decide ((x : Int) ≤ 120) = false := decide_eq_false (by omega)
    have t8 : decide ((x : Int) ≤ 123) = false := decide_eq_false (by omega)
    have t9 : (x : Int) ≤ 138 := by omega
    clear h0 h1 h2 h3 h4 h5 h6 h7 h8 h9
    go_enter Tryz.func66, Tryz.ntmps66
    go_wp2_with fail
    refine (compute_at (HA.out.alloc _) hb 126 (kinds_made W [126, 126] rfl rfl (by simp)) HA.out.ne (by simp) hs rfl).mono ?_
    rintro ee w1 ⟨hok1, herr1, hk1, hlow1⟩
    have hlowW : Kept (fun k => k < W.heap.size ∧ ¬ K k) W w1 := (((Kept.refl _ _).alloc _).trans hlow1).mono (fun k hk c => ⟨hk, c.2⟩)
    cases hm : computeM 126 [126, 126] st with
    | error qp =>
      obtain ⟨q, p⟩ := qp
      have he := herr1 _ _ hm
      subst he
      exact ⟨rfl, Ends.err_mk (HM.out.trans hm) hk1 hlowW⟩
    | ok st1 =>
      obtain ⟨rfl, hA1⟩ := hok1 _ hm
      have HA1 := hide hA1
      have HE := hide (HM.out.trans hm)
      clear hok1 herr1 hA1 hm HM
      go_wp2
      go_end0
      exact Ends.ok_mk HE.out HA1.out hlowW
  by_cases h10 : x = 167
  · have HM : Hid (checkNumberM x st = computeM 127 [126] st) := by show _ = _; unfold checkNumberM; rw [if_neg h0, if_neg h1, if_neg h2, if_neg h3, if_neg h4, if_neg h5, if_neg h6, if_neg h7, if_neg h8, if_neg h9, if_pos h10]
    have t0 : ((x : Int) == 65) = false := beq_eq_false_iff_ne.2 (by omega)
    have t1 : ((x : Int) == 66) = false := beq_eq_false_iff_ne.2 (by omega)
    have t2 : ((x : Int) == 69) = false := beq_eq_false_iff_ne.2 (by omega)
    have t3 : decide ((x : Int) ≤ 79) = false := decide_eq_false (by omega)
    have t4 : ((x : Int) == 80) = false := beq_eq_false_iff_ne.2 (by omega)
    have t5 : decide ((x : Int) ≤ 90) = false := decide_eq_false (by omega)
    have t6 : decide ((x : Int) ≤ 105) = false := decide_eq_false (by omega)
    have t7 : decide ((x : Int) ≤ 120) = false := decide_eq_false (by omega)
    have t8 : decide ((x : Int) ≤ 123) = false := decide_eq_false (by omega)
    have t9 : decide ((x : Int) ≤ 138) = false := decide_eq_false (by omega)
    have t10 : ((x : Int) == 167) = true := by simp; omega
    clear h0 h1 h2 h3 h4 h5 h6 h7 h8 h9 h10
    go_enter Tryz.func66, Tryz.ntmps66
    go_wp2_with fail
    refine (compute_at (HA.out.alloc _) hb 127 (kinds_made W [126] rfl rfl (by simp)) HA.out.ne (by simp) hs rfl).mono ?_
    rintro ee w1 ⟨hok1, herr1, hk1, hlow1⟩
    have hlowW : Kept (fun k => k < W.heap.size ∧ ¬ K k) W w1 := (((Kept.refl _ _).alloc _).trans hlow1).mono (fun k hk c => ⟨hk, c.2⟩)
    cases hm : computeM 127 [126] st with
    | error qp =>
      obtain ⟨q, p⟩ := qp
      have he := herr1 _ _ hm
      subst he
      exact ⟨rfl, Ends.err_mk (HM.out.trans hm) hk1 hlowW⟩
    | ok st1 =>
      obtain ⟨rfl, hA1⟩ := hok1 _ hm
      have HA1 := hide hA1
      have HE := hide (HM.out.trans hm)
      clear hok1 herr1 hA1 hm HM
      go_wp2
      go_end0
      exact Ends.ok_mk HE.out HA1.out hlowW
  have HM : Hid (checkNumberM x st = computeM 126 [127] st) := by show _ = _; unfold checkNumberM; rw [if_neg h0, if_neg h1, if_neg h2, if_neg h3, if_neg h4, if_neg h5, if_neg h6, if_neg h7, if_neg h8, if_neg h9, if_neg h10]
  have t0 : ((x : Int) == 65) = false := beq_eq_false_iff_ne.2 (by omega)
  have t1 : ((x : Int) == 66) = false := beq_eq_false_iff_ne.2 (by omega)
  have t2 : ((x : Int) == 69) = false := beq_eq_false_iff_ne.2 (by omega)
  have t3 : decide ((x : Int) ≤ 79) = false := decide_eq_false (by omega)
  have t4 : ((x : Int) == 80) = false := beq_eq_false_iff_ne.2 (by omega)
  have t5 : decide ((x : Int) ≤ 90) = false := decide_eq_false (by omega)
  have t6 : decide ((x : Int) ≤ 105) = false := decide_eq_false (by omega)
  have t7 : decide ((x : Int) ≤ 120) = false := decide_eq_false (by omega)
  have t8 : decide ((x : Int) ≤ 123) = false := decide_eq_false (by omega)
  have t9 : decide ((x : Int) ≤ 138) = false := decide_eq_false (by omega)
  have t10 : ((x : Int) == 167) = false := beq_eq_false_iff_ne.2 (by omega)
  clear h0 h1 h2 h3 h4 h5 h6 h7 h8 h9 h10
  go_enter Tryz.func66, Tryz.ntmps66
  go_wp2_with fail
  refine (compute_at (HA.out.alloc _) hb 126 (kinds_made W [127] rfl rfl (by simp)) HA.out.ne (by simp) hs rfl).mono ?_
  rintro ee w1 ⟨hok1, herr1, hk1, hlow1⟩
  have hlowW : Kept (fun k => k < W.heap.size ∧ ¬ K k) W w1 := (((Kept.refl _ _).alloc _).trans hlow1).mono (fun k hk c => ⟨hk, c.2⟩)
  cases hm : computeM 126 [127] st with
  | error qp =>
    obtain ⟨q, p⟩ := qp
    have he := herr1 _ _ hm
    subst he
    exact ⟨rfl, Ends.err_mk (HM.out.trans hm) hk1 hlowW⟩
  | ok st1 =>
    obtain ⟨rfl, hA1⟩ := hok1 _ hm
    have HA1 := hide hA1
    have HE := hide (HM.out.trans hm)
    clear hok1 herr1 hA1 hm HM
    go_wp2
    go_end0
    exact Ends.ok_mk HE.out HA1.out hlowW

set_option maxHeartbeats 1600000 in
theorem checkSelect_at (h : At K O w W N bb mp lv st) (hb : st.blocks ≠ []) (hs : st.stack.length ≤ 799000) :
    Calls Tryz.prog 91 #[.pointer (some ⟨bb, 0, none⟩)] W (Ends K O w W (fun k => k < W.heap.size) bb mp lv (checkSelectM st)) := by
  have HA := hide h.up
  clear h
  go_enter Tryz.func91, Tryz.ntmps91
  go_wp2_with fail
  refine (take_at (HA.out.alloc _) hb (kinds_made W [127] rfl rfl (by simp)) HA.out.ne (by simp)).mono ?_
  rintro ee w1 ⟨hok1, herr1, hk1, hlow1⟩
  have hl1 : Kept (fun k => k < W.heap.size ∧ ¬ K k) W w1 := ((Kept.refl _ _).alloc _).trans hlow1
  cases hm1 : takeM st [127] with
  | error qp =>
    obtain ⟨q, p⟩ := qp
    have he := herr1 _ _ hm1
    subst he
    exact ⟨rfl, Ends.err_mk (by simp [checkSelectM, hm1]) hk1 hl1⟩
  | ok st1 =>
    obtain ⟨rfl, hA1⟩ := hok1 _ hm1
    have hf1 := takeM_facts HA.out.tidy.floor hm1
    have hb1 : st1.blocks ≠ [] := by rw [hf1.1]; exact hb
    have hs1 : st1.stack.length ≤ 799000 := by omega
    have ha1 := hf1.2.1
    have HA1 := hide hA1
    have HM1 := hide hm1
    clear hok1 herr1 hm1 hA1 hf1
    go_wp2_with fail
    refine (takeAny_at HA1.out hb1).mono ?_
    rintro ee w2 ⟨hok2, herr2, hk2, hlow2⟩
    have hl2 := hl1.lowTrans hlow2 rfl
    cases hm2 : takeTop st1 with
    | error qp =>
      obtain ⟨q, p⟩ := qp
      have he := herr2 _ _ hm2
      subst he
      exact ⟨rfl, Ends.err_mk (by simp [checkSelectM, HM1.out, hm2]) hk2 hl2⟩
    | ok x2 =>
      obtain ⟨k2, st2⟩ := x2
      obtain ⟨rfl, hA2, e2, a2, s2⟩ := hok2 _ _ hm2
      have hb2 : st2.blocks ≠ [] := by rw [e2]; exact hb1
      have HA2 := hide hA2
      have HM2 := hide hm2
      clear hok2 herr2 hm2 hA2 e2
      go_wp2_with fail
      refine (takeAny_at HA2.out hb2).mono ?_
      rintro ee w3 ⟨hok3, herr3, hk3, hlow3⟩
      have hl3 := hl2.lowTrans hlow3 rfl
      cases hm3 : takeTop st2 with
      | error qp =>
        obtain ⟨q, p⟩ := qp
        have he := herr3 _ _ hm3
        subst he
        exact ⟨rfl, Ends.err_mk (by simp [checkSelectM, HM1.out, HM2.out, hm3]) hk3 hl3⟩
      | ok x3 =>
        obtain ⟨k1, st3⟩ := x3
        obtain ⟨rfl, hA3, e3, a3, s3⟩ := hok3 _ _ hm3
        have HA3 := hide hA3
        have HC : Hid (checkSelectM st = if k2 ≠ 0 ∧ k2 ≠ (if k1 = 0 then k2 else k1) then .error (4, st.at_) else .ok (putM st3 [if k1 = 0 then k2 else k1])) := by show _ = _; simp only [checkSelectM, HM1.out, HM2.out, hm3]
        have hs3 : st3.stack.length + 1 ≤ 800000 := by omega
        have hat : st3.at_ = st.at_ := by omega
        clear hok3 herr3 hm3 hA3 HM1 HM2 e3 s3 a3 s2 a2 ha1
        by_cases h1 : k1 = 0
        · have t1 : ((k1 : Int) == 0) = true := by simp [h1]
          have HM : Hid (checkSelectM st = .ok (putM st3 [k2])) := by show _ = _; rw [HC.out, if_pos h1, if_neg (by simp)]
          clear h1 HC
          by_cases h2 : k2 = 0
          · have t2 : ((k2 : Int) != 0) = false := by simp [h2]
            clear h2
            go_wp2_with fail
            refine (put_at (HA3.out.alloc _) (kinds_made w3 [k2] rfl rfl (by simp)) (by simp) (by simpa using hs3)).mono ?_
            rintro ee w4 ⟨hok4, -, -, hlow4⟩
            obtain ⟨rfl, hA4⟩ := hok4 _ rfl
            have HA4 := hide hA4
            clear hok4 hA4
            go_wp2
            go_end0
            exact Ends.ok_mk HM.out HA4.out (hl3.lowTrans (((Kept.refl _ _).alloc _).trans hlow4) rfl)
          · have t2 : ((k2 : Int) != 0) = true := by rw [bne_iff_ne]; omega
            clear h2
            go_wp2_with fail
            refine (put_at (HA3.out.alloc _) (kinds_made w3 [k2] rfl rfl (by simp)) (by simp) (by simpa using hs3)).mono ?_
            rintro ee w4 ⟨hok4, -, -, hlow4⟩
            obtain ⟨rfl, hA4⟩ := hok4 _ rfl
            have HA4 := hide hA4
            clear hok4 hA4
            go_wp2
            go_end0
            exact Ends.ok_mk HM.out HA4.out (hl3.lowTrans (((Kept.refl _ _).alloc _).trans hlow4) rfl)
        · have t1 : ((k1 : Int) == 0) = false := beq_eq_false_iff_ne.2 (by omega)
          by_cases h2 : k2 = 0
          · have t2 : ((k2 : Int) != 0) = false := by simp [h2]
            have HM : Hid (checkSelectM st = .ok (putM st3 [k1])) := by show _ = _; rw [HC.out, if_neg h1, if_neg (by simp [h2])]
            clear h1 h2 HC
            go_wp2_with fail
            refine (put_at (HA3.out.alloc _) (kinds_made w3 [k1] rfl rfl (by simp)) (by simp) (by simpa using hs3)).mono ?_
            rintro ee w4 ⟨hok4, -, -, hlow4⟩
            obtain ⟨rfl, hA4⟩ := hok4 _ rfl
            have HA4 := hide hA4
            clear hok4 hA4
            go_wp2
            go_end0
            exact Ends.ok_mk HM.out HA4.out (hl3.lowTrans (((Kept.refl _ _).alloc _).trans hlow4) rfl)
          · have t2 : ((k2 : Int) != 0) = true := by rw [bne_iff_ne]; omega
            by_cases h3 : k2 = k1
            · have t3 : ((k2 : Int) != (k1 : Int)) = false := by simp [h3]
              have HM : Hid (checkSelectM st = .ok (putM st3 [k1])) := by show _ = _; rw [HC.out, if_neg h1, if_neg (by simp [h3])]
              clear h1 h2 h3 HC
              go_wp2_with fail
              refine (put_at (HA3.out.alloc _) (kinds_made w3 [k1] rfl rfl (by simp)) (by simp) (by simpa using hs3)).mono ?_
              rintro ee w4 ⟨hok4, -, -, hlow4⟩
              obtain ⟨rfl, hA4⟩ := hok4 _ rfl
              have HA4 := hide hA4
              clear hok4 hA4
              go_wp2
              go_end0
              exact Ends.ok_mk HM.out HA4.out (hl3.lowTrans (((Kept.refl _ _).alloc _).trans hlow4) rfl)
            · have t3 : ((k2 : Int) != (k1 : Int)) = true := by rw [bne_iff_ne]; omega
              have HM : Hid (checkSelectM st = .error (4, st.at_)) := by show _ = _; rw [HC.out, if_neg h1, if_pos ⟨h2, h3⟩]
              clear h1 h2 h3 HC
              go_wp2_with fail
              refine (refuse_at HA3.out).mono ?_
              rintro ee w4 ⟨rfl, rfl⟩
              rw [hat]
              exact ⟨rfl, Ends.err_mk HM.out HA3.out.kept hl3⟩

end

end Go.Proofs.YtdfmillbaabpiaaGreat
/-
  Memory.
-/
namespace Go.Proofs.YtdfmillbaabpiaaGreat
open Go.RowKit

section
variable {K O N : Nat → Prop} {w W : World} {bb mb : Nat} {lv : Value} {st : Bd} {s : ByteArray} {m : Mdl}

/-- The module's field, by way of the body. -/
theorem At.mems (h : At K O w W N bb (.pointer (some ⟨mb, 0, none⟩)) lv st) (hm : MV s K W mb m) : W.cell? ⟨bb, 0, none⟩ = some (.pointer (some ⟨mb, 0, none⟩)) ∧ ∃ p c, W.cell? ⟨mb, 3, none⟩ = some (.slice p m.mems.length c) := by
  obtain ⟨sv, bv, hB⟩ := h.body
  obtain ⟨-, f, hM, hH⟩ := hm
  obtain ⟨p, c, hv⟩ := Row.shape hH.h3
  exact ⟨hB.blk.five.1.1, p, c, by rw [← hv]; exact hM.twelve.1.2.2.2.1.1⟩

theorem need_at (h : At K O w W N bb (.pointer (some ⟨mb, 0, none⟩)) lv st) (many : Nat) : Calls Tryz.prog 89 #[.pointer (some ⟨bb, 0, none⟩), .int .i64 (many : Nat)] W fun e w' => w' = W ∧ e = (if many = 0 then gaveUp 3 st.at_ else .returned (.tuple #[])) := by
  obtain ⟨sv, bv, hB⟩ := h.body
  exact need_any many hB.blk

set_option maxHeartbeats 6400000 in
theorem checkMemory_at (h : At K O w W N bb (.pointer (some ⟨mb, 0, none⟩)) lv st) (hb : st.blocks ≠ []) (hm : MV s K W mb m) (a e x : Nat) (y : Beh) (pg pl : Option Addr) (ng cg nl cl : Nat) (hs : st.stack.length ≤ 799000) :
    Calls Tryz.prog 65 #[.pointer (some ⟨bb, 0, none⟩), .agg #[.int .i64 (a : Nat), .int .i64 (e : Nat), .int .u8 (x : Nat), .bool y.typed, .slice pg ng cg, .int .u32 y.align, .int .u32 y.num.1, .int .i64 (y.num.2 : Nat), .slice pl nl cl, .int .i64 y.val]] W (Ends K O w W (fun k => k < W.heap.size) bb (.pointer (some ⟨mb, 0, none⟩)) lv (checkMemoryM m x y st)) := by
  have HA := hide h.up
  have hbw := h.body.lt
  have hmw := hm.lt
  obtain ⟨I0, p3, c3, F3⟩ := h.mems hm
  clear h
  by_cases hz : m.mems.length = 0
  · have HM : Hid (checkMemoryM m x y st = .error (3, st.at_)) := by show _ = _; simp [checkMemoryM, hz]
    go_enter Tryz.func65, Tryz.ntmps65
    go_wp2_with fail
    refine (need_at (HA.out.alloc _) _).mono ?_
    rintro ee w1 ⟨rfl, he⟩
    rw [if_pos (by first | rfl | exact hz)] at he
    subst he
    exact ⟨rfl, Ends.err_mk HM.out (HA.out.alloc _).kept ((Kept.refl _ _).alloc _)⟩
  have HN : Hid (checkMemoryM m x y st = (if x = 63 then .ok (putM st [127])
  else if x = 64 then
    match takeM st [127] with
    | .error e => .error e
    | .ok st1 => .ok (putM st1 [127])
  else if x = 41 then loadM x 126 y st
  else if x = 40 ∨ x = 44 ∨ x = 45 then loadM x 127 y st
  else if x = 55 then storeM x 126 y st
  else if x = 54 ∨ x = 58 then storeM x 127 y st
  else .ok st)) := by show _ = _; unfold checkMemoryM; rw [if_neg hz] <;> rfl
  by_cases h63 : x = 63
  · subst h63
    have HE := hide HN.out
    clear HN
    have HM : Hid (checkMemoryM m 63 y st = .ok (putM st [127])) := HE.out
    clear HE
    go_enter Tryz.func65, Tryz.ntmps65
    go_wp2_with fail
    refine (need_at (HA.out.alloc _) _).mono ?_
    rintro ee w1 ⟨rfl, he⟩
    rw [if_neg hz] at he
    subst he
    go_wp2_with fail
    refine (put_at ((HA.out.alloc _).alloc _) (kinds_made _ [127] (by simp) rfl (by simp)) (by simp) (by simp; omega)).mono ?_
    rintro ee w2 ⟨hok2, -, -, hlow2⟩
    obtain ⟨rfl, hA2⟩ := hok2 _ rfl
    have HA2 := hide hA2
    clear hok2 hA2
    go_wp2
    go_end0
    exact Ends.ok_mk HM.out HA2.out ((((Kept.refl _ _).alloc _).alloc _).trans hlow2)
  by_cases h64 : x = 64
  · subst h64
    have HM : Hid (checkMemoryM m 64 y st = match takeM st [127] with | .error e => .error e | .ok st1 => .ok (putM st1 [127])) := HN.out
    clear HN
    go_enter Tryz.func65, Tryz.ntmps65
    go_wp2_with fail
    refine (need_at (HA.out.alloc _) _).mono ?_
    rintro ee w1 ⟨rfl, he⟩
    rw [if_neg hz] at he
    subst he
    go_wp2_with fail
    refine (take_at ((HA.out.alloc _).alloc _) hb (kinds_made _ [127] (by simp) rfl (by simp)) (HA.out.alloc _).ne (by simp)).mono ?_
    rintro ee w2 ⟨hok2, herr2, hk2, hlow2⟩
    have hlow : Kept (fun k => k < W.heap.size ∧ ¬ K k) W w2 := (((Kept.refl _ _).alloc _).alloc _).trans hlow2
    cases hm2 : takeM st [127] with
    | error qp =>
      obtain ⟨q, p⟩ := qp
      have he := herr2 _ _ hm2
      subst he
      exact ⟨rfl, Ends.err_mk (by rw [HM.out, hm2]) hk2 hlow⟩
    | ok st2 =>
      obtain ⟨rfl, hA2⟩ := hok2 _ hm2
      have hf := takeM_facts HA.out.tidy.floor hm2
      have hs2 : st2.stack.length ≤ 799000 := by omega
      have HE : Hid (checkMemoryM m 64 y st = .ok (putM st2 [127])) := by show _ = _; rw [HM.out, hm2]
      have HA2 := hide hA2
      clear hok2 herr2 hA2 hm2 HM hf
      go_wp2_with fail
      refine (put_at (HA2.out.alloc _) (kinds_made w2 [127] rfl rfl (by simp)) (by simp) (by simp; omega)).mono ?_
      rintro ee w3 ⟨hok3, -, -, hlow3⟩
      obtain ⟨rfl, hA3⟩ := hok3 _ rfl
      have HA3 := hide hA3
      clear hok3 hA3
      go_wp2
      go_end0
      exact Ends.ok_mk HE.out HA3.out (hlow.lowTrans (((Kept.refl _ _).alloc _).trans hlow3) rfl)
  by_cases h41 : x = 41
  · subst h41
    have HE : Hid (checkMemoryM m 41 y st = loadM 41 126 y st) := HN.out
    clear HN
    go_enter Tryz.func65, Tryz.ntmps65
    go_wp2_with fail
    refine (need_at (HA.out.alloc _) _).mono ?_
    rintro ee w1 ⟨rfl, he⟩
    rw [if_neg hz] at he
    subst he
    go_wp2_with fail
    refine (load_at (HA.out.alloc _) hb a e 41 y pg pl ng cg nl cl 126 hs rfl).mono ?_
    rintro ee w2 ⟨hok2, herr2, hk2, hlow2⟩
    have hlow : Kept (fun k => k < W.heap.size ∧ ¬ K k) W w2 := (((Kept.refl _ _).alloc _).trans hlow2).mono (fun k hk c => ⟨hk, c.2⟩)
    cases hm2 : loadM 41 126 y st with
    | error qp =>
      obtain ⟨q, p⟩ := qp
      have he := herr2 _ _ hm2
      subst he
      exact ⟨rfl, Ends.err_mk (HE.out.trans hm2) hk2 hlow⟩
    | ok st2 =>
      obtain ⟨rfl, hA2⟩ := hok2 _ hm2
      have HA2 := hide hA2
      have HE2 := hide (HE.out.trans hm2)
      clear hok2 herr2 hA2 hm2 HE
      go_wp2
      go_end0
      exact Ends.ok_mk HE2.out HA2.out hlow
  by_cases h40 : x = 40
  · subst h40
    have HE : Hid (checkMemoryM m 40 y st = loadM 40 127 y st) := HN.out
    clear HN
    go_enter Tryz.func65, Tryz.ntmps65
    go_wp2_with fail
    refine (need_at (HA.out.alloc _) _).mono ?_
    rintro ee w1 ⟨rfl, he⟩
    rw [if_neg hz] at he
    subst he
    go_wp2_with fail
    refine (load_at (HA.out.alloc _) hb a e 40 y pg pl ng cg nl cl 127 hs rfl).mono ?_
    rintro ee w2 ⟨hok2, herr2, hk2, hlow2⟩
    have hlow : Kept (fun k => k < W.heap.size ∧ ¬ K k) W w2 := (((Kept.refl _ _).alloc _).trans hlow2).mono (fun k hk c => ⟨hk, c.2⟩)
    cases hm2 : loadM 40 127 y st with
    | error qp =>
      obtain ⟨q, p⟩ := qp
      have he := herr2 _ _ hm2
      subst he
      exact ⟨rfl, Ends.err_mk (HE.out.trans hm2) hk2 hlow⟩
    | ok st2 =>
      obtain ⟨rfl, hA2⟩ := hok2 _ hm2
      have HA2 := hide hA2
      have HE2 := hide (HE.out.trans hm2)
      clear hok2 herr2 hA2 hm2 HE
      go_wp2
      go_end0
      exact Ends.ok_mk HE2.out HA2.out hlow
  by_cases h44 : x = 44
  · subst h44
    have HE : Hid (checkMemoryM m 44 y st = loadM 44 127 y st) := HN.out
    clear HN
    go_enter Tryz.func65, Tryz.ntmps65
    go_wp2_with fail
    refine (need_at (HA.out.alloc _) _).mono ?_
    rintro ee w1 ⟨rfl, he⟩
    rw [if_neg hz] at he
    subst he
    go_wp2_with fail
    refine (load_at (HA.out.alloc _) hb a e 44 y pg pl ng cg nl cl 127 hs rfl).mono ?_
    rintro ee w2 ⟨hok2, herr2, hk2, hlow2⟩
    have hlow : Kept (fun k => k < W.heap.size ∧ ¬ K k) W w2 := (((Kept.refl _ _).alloc _).trans hlow2).mono (fun k hk c => ⟨hk, c.2⟩)
    cases hm2 : loadM 44 127 y st with
    | error qp =>
      obtain ⟨q, p⟩ := qp
      have he := herr2 _ _ hm2
      subst he
      exact ⟨rfl, Ends.err_mk (HE.out.trans hm2) hk2 hlow⟩
    | ok st2 =>
      obtain ⟨rfl, hA2⟩ := hok2 _ hm2
      have HA2 := hide hA2
      have HE2 := hide (HE.out.trans hm2)
      clear hok2 herr2 hA2 hm2 HE
      go_wp2
      go_end0
      exact Ends.ok_mk HE2.out HA2.out hlow
  by_cases h45 : x = 45
  · subst h45
    have HE : Hid (checkMemoryM m 45 y st = loadM 45 127 y st) := HN.out
    clear HN
    go_enter Tryz.func65, Tryz.ntmps65
    go_wp2_with fail
    refine (need_at (HA.out.alloc _) _).mono ?_
    rintro ee w1 ⟨rfl, he⟩
    rw [if_neg hz] at he
    subst he
    go_wp2_with fail
    refine (load_at (HA.out.alloc _) hb a e 45 y pg pl ng cg nl cl 127 hs rfl).mono ?_
    rintro ee w2 ⟨hok2, herr2, hk2, hlow2⟩
    have hlow : Kept (fun k => k < W.heap.size ∧ ¬ K k) W w2 := (((Kept.refl _ _).alloc _).trans hlow2).mono (fun k hk c => ⟨hk, c.2⟩)
    cases hm2 : loadM 45 127 y st with
    | error qp =>
      obtain ⟨q, p⟩ := qp
      have he := herr2 _ _ hm2
      subst he
      exact ⟨rfl, Ends.err_mk (HE.out.trans hm2) hk2 hlow⟩
    | ok st2 =>
      obtain ⟨rfl, hA2⟩ := hok2 _ hm2
      have HA2 := hide hA2
      have HE2 := hide (HE.out.trans hm2)
      clear hok2 herr2 hA2 hm2 HE
      go_wp2
      go_end0
      exact Ends.ok_mk HE2.out HA2.out hlow
  by_cases h55 : x = 55
  · subst h55
    have HE : Hid (checkMemoryM m 55 y st = storeM 55 126 y st) := HN.out
    clear HN
    go_enter Tryz.func65, Tryz.ntmps65
    go_wp2_with fail
    refine (need_at (HA.out.alloc _) _).mono ?_
    rintro ee w1 ⟨rfl, he⟩
    rw [if_neg hz] at he
    subst he
    go_wp2_with fail
    refine (store_at (HA.out.alloc _) hb a e 55 y pg pl ng cg nl cl 126 rfl).mono ?_
    rintro ee w2 ⟨hok2, herr2, hk2, hlow2⟩
    have hlow : Kept (fun k => k < W.heap.size ∧ ¬ K k) W w2 := (((Kept.refl _ _).alloc _).trans hlow2).mono (fun k hk c => ⟨hk, c.2⟩)
    cases hm2 : storeM 55 126 y st with
    | error qp =>
      obtain ⟨q, p⟩ := qp
      have he := herr2 _ _ hm2
      subst he
      exact ⟨rfl, Ends.err_mk (HE.out.trans hm2) hk2 hlow⟩
    | ok st2 =>
      obtain ⟨rfl, hA2⟩ := hok2 _ hm2
      have HA2 := hide hA2
      have HE2 := hide (HE.out.trans hm2)
      clear hok2 herr2 hA2 hm2 HE
      go_wp2
      go_end0
      exact Ends.ok_mk HE2.out HA2.out hlow
  by_cases h54 : x = 54
  · subst h54
    have HE : Hid (checkMemoryM m 54 y st = storeM 54 127 y st) := HN.out
    clear HN
    go_enter Tryz.func65, Tryz.ntmps65
    go_wp2_with fail
    refine (need_at (HA.out.alloc _) _).mono ?_
    rintro ee w1 ⟨rfl, he⟩
    rw [if_neg hz] at he
    subst he
    go_wp2_with fail
    refine (store_at (HA.out.alloc _) hb a e 54 y pg pl ng cg nl cl 127 rfl).mono ?_
    rintro ee w2 ⟨hok2, herr2, hk2, hlow2⟩
    have hlow : Kept (fun k => k < W.heap.size ∧ ¬ K k) W w2 := (((Kept.refl _ _).alloc _).trans hlow2).mono (fun k hk c => ⟨hk, c.2⟩)
    cases hm2 : storeM 54 127 y st with
    | error qp =>
      obtain ⟨q, p⟩ := qp
      have he := herr2 _ _ hm2
      subst he
      exact ⟨rfl, Ends.err_mk (HE.out.trans hm2) hk2 hlow⟩
    | ok st2 =>
      obtain ⟨rfl, hA2⟩ := hok2 _ hm2
      have HA2 := hide hA2
      have HE2 := hide (HE.out.trans hm2)
      clear hok2 herr2 hA2 hm2 HE
      go_wp2
      go_end0
      exact Ends.ok_mk HE2.out HA2.out hlow
  by_cases h58 : x = 58
  · subst h58
    have HE : Hid (checkMemoryM m 58 y st = storeM 58 127 y st) := HN.out
    clear HN
    go_enter Tryz.func65, Tryz.ntmps65
    go_wp2_with fail
    refine (need_at (HA.out.alloc _) _).mono ?_
    rintro ee w1 ⟨rfl, he⟩
    rw [if_neg hz] at he
    subst he
    go_wp2_with fail
    refine (store_at (HA.out.alloc _) hb a e 58 y pg pl ng cg nl cl 127 rfl).mono ?_
    rintro ee w2 ⟨hok2, herr2, hk2, hlow2⟩
    have hlow : Kept (fun k => k < W.heap.size ∧ ¬ K k) W w2 := (((Kept.refl _ _).alloc _).trans hlow2).mono (fun k hk c => ⟨hk, c.2⟩)
    cases hm2 : storeM 58 127 y st with
    | error qp =>
      obtain ⟨q, p⟩ := qp
      have he := herr2 _ _ hm2
      subst he
      exact ⟨rfl, Ends.err_mk (HE.out.trans hm2) hk2 hlow⟩
    | ok st2 =>
      obtain ⟨rfl, hA2⟩ := hok2 _ hm2
      have HA2 := hide hA2
      have HE2 := hide (HE.out.trans hm2)
      clear hok2 herr2 hA2 hm2 HE
      go_wp2
      go_end0
      exact Ends.ok_mk HE2.out HA2.out hlow
  have HM : Hid (checkMemoryM m x y st = .ok st) := by
    show _ = _
    rw [HN.out]
    simp only [h63, h64, h41, h40, h44, h45, h55, h54, h58, or_self, if_false]
  have t63 : ((x : Int) == 63) = false := beq_eq_false_iff_ne.2 (by omega)
  have t64 : ((x : Int) == 64) = false := beq_eq_false_iff_ne.2 (by omega)
  have t41 : ((x : Int) == 41) = false := beq_eq_false_iff_ne.2 (by omega)
  have t40 : ((x : Int) == 40) = false := beq_eq_false_iff_ne.2 (by omega)
  have t44 : ((x : Int) == 44) = false := beq_eq_false_iff_ne.2 (by omega)
  have t45 : ((x : Int) == 45) = false := beq_eq_false_iff_ne.2 (by omega)
  have t55 : ((x : Int) == 55) = false := beq_eq_false_iff_ne.2 (by omega)
  have t54 : ((x : Int) == 54) = false := beq_eq_false_iff_ne.2 (by omega)
  have t58 : ((x : Int) == 58) = false := beq_eq_false_iff_ne.2 (by omega)
  clear HN h63 h64 h41 h40 h44 h45 h55 h54 h58
  go_enter Tryz.func65, Tryz.ntmps65
  go_wp2_with fail
  refine (need_at (HA.out.alloc _) _).mono ?_
  rintro ee w1 ⟨rfl, he⟩
  rw [if_neg hz] at he
  subst he
  go_wp2
  go_end0
  exact Ends.ok_mk HM.out (HA.out.alloc _) ((Kept.refl _ _).alloc _)

end

end Go.Proofs.YtdfmillbaabpiaaGreat
/-
  Locals.
-/
namespace Go.Proofs.YtdfmillbaabpiaaGreat
open Go.RowKit

section
variable {K O N : Nat → Prop} {w W : World} {bb : Nat} {mp : Value} {st : Bd}

theorem At.locals {lv : Value} (h : At K O w W N bb mp lv st) : W.cell? ⟨bb, 1, none⟩ = some lv := by
  obtain ⟨sv, bv, hB⟩ := h.body
  exact hB.blk.five.2.1.1

set_option maxRecDepth 100000 in
set_option maxHeartbeats 3200000 in
theorem checkLocal_bad {p0 : Option Addr} {c0 : Nat} {ls : List Nat} (h : At K O w W N bb mp (.slice p0 ls.length c0) st) (a e x : Nat) (y : Beh) (pg pl : Option Addr) (ng cg nl cl : Nat) (hx : 0 ≤ y.num.1 ∧ y.num.1 ≤ 4294967295) (hlt : ¬ y.num.1 < (ls.length : Int)) :
    Calls Tryz.prog 93 #[.pointer (some ⟨bb, 0, none⟩), .agg #[.int .i64 (a : Nat), .int .i64 (e : Nat), .int .u8 (x : Nat), .bool y.typed, .slice pg ng cg, .int .u32 y.align, .int .u32 y.num.1, .int .i64 (y.num.2 : Nat), .slice pl nl cl, .int .i64 y.val]] W (Ends K O w W (fun k => k < W.heap.size) bb mp (.slice p0 ls.length c0) (checkLocalM ls x y st)) := by
  have HA := hide h.up
  have hbw := h.body.lt
  have I1 := h.locals
  obtain ⟨h0, h1⟩ := hx
  have HM : Hid (checkLocalM ls x y st = .error (3, y.num.2)) := by show _ = _; simp [checkLocalM, thereM, hlt]
  clear h
  go_enter Tryz.func93, Tryz.ntmps93
  go_wp2_with fail
  have hHeld : (fun w' : World => w'.cell? ⟨bb, 1, none⟩ = some (.slice p0 ls.length c0) ∧ w'.cell? ⟨W.heap.size, 6, none⟩ = some (.int .u32 y.num.1) ∧ w'.cell? ⟨W.heap.size, 7, none⟩ = some (.int .i64 (y.num.2 : Nat))) ((W.alloc (.cells #[.int .i64 (a : Nat), .int .i64 (e : Nat), .int .u8 (x : Nat), .bool y.typed, .slice pg ng cg, .int .u32 y.align, .int .u32 y.num.1, .int .i64 (y.num.2 : Nat), .slice pl nl cl, .int .i64 y.val] 100)).drew) := by
    dsimp only
    exact ⟨(((Kept.refl (fun _ => False) W).alloc _).drew.cell hbw (fun c => c)).trans I1, by simp, by simp⟩
  refine wp_region_held_drew (S := fun w' : World => w'.cell? ⟨bb, 1, none⟩ = some (.slice p0 ls.length c0) ∧ w'.cell? ⟨W.heap.size, 6, none⟩ = some (.int .u32 y.num.1) ∧ w'.cell? ⟨W.heap.size, 7, none⟩ = some (.int .i64 (y.num.2 : Nat))) (by kernel_rfl) hHeld (fun _ => ?_)
  refine wpAnyH_take (i := 0) (v := ?v0) rfl (by kernel_rfl) (by kernel_rfl) (by kernel_rfl) (fun _ _ _ h => h) (Or.inl ⟨by rfl, ?hy0⟩) hHeld ?rest0
  case hy0 => (intro w hSw; (try dsimp only at hSw); go_simp; try with_reducible rfl)
  dsimp only [Act.put, List.setIfInBounds_toArray, List.set_cons_zero, List.set_cons_succ]
  refine wpAnyH_take (i := 1) (v := ?v1) rfl (by kernel_rfl) (by kernel_rfl) (by kernel_rfl) (fun _ _ _ h => h) (Or.inl ⟨by rfl, ?hy1⟩) hHeld ?rest1
  case hy1 => (intro w hSw; (try dsimp only at hSw); go_simp; try with_reducible rfl)
  dsimp only [Act.put, List.setIfInBounds_toArray, List.set_cons_zero, List.set_cons_succ]
  refine wpAnyH_take (i := 2) (v := ?v2) rfl (by kernel_rfl) (by kernel_rfl) (by kernel_rfl) (fun _ _ _ h => h) (Or.inl ⟨by rfl, ?hy2⟩) hHeld ?rest2
  case hy2 => (intro w hSw; (try dsimp only at hSw); go_simp; try with_reducible rfl)
  dsimp only [Act.put, List.setIfInBounds_toArray, List.set_cons_zero, List.set_cons_succ]
  refine wpAnyH_take (i := 3) (v := ?v3) rfl (by kernel_rfl) (by kernel_rfl) (by kernel_rfl) (fun _ _ _ h => h) (Or.inl ⟨by rfl, ?hy3⟩) hHeld ?rest3
  case hy3 => (intro w hSw; (try dsimp only at hSw); go_simp; try with_reducible rfl)
  dsimp only [Act.put, List.setIfInBounds_toArray, List.set_cons_zero, List.set_cons_succ]
  refine wpAnyH_take (i := 4) (v := ?v4) rfl (by kernel_rfl) (by kernel_rfl) (by kernel_rfl) (fun _ _ _ h => h) (Or.inl ⟨by rfl, ?hy4⟩) hHeld ?rest4
  case hy4 => (intro w hSw; (try dsimp only at hSw); go_simp; try with_reducible rfl)
  dsimp only [Act.put, List.setIfInBounds_toArray, List.set_cons_zero, List.set_cons_succ]
  refine wpAnyH_take (i := 5) (v := ?v5) rfl (by kernel_rfl) (by kernel_rfl) (by kernel_rfl) (fun _ _ _ h => h) (Or.inl ⟨by rfl, ?hy5⟩) hHeld ?rest5
  case hy5 => (intro w hSw; (try dsimp only at hSw); go_simp; try with_reducible rfl)
  dsimp only [Act.put, List.setIfInBounds_toArray, List.set_cons_zero, List.set_cons_succ]
  refine wpAnyH_take (i := 6) (v := ?v6) rfl (by kernel_rfl) (by kernel_rfl) (by kernel_rfl) (fun _ _ _ h => h) (Or.inl ⟨by rfl, ?hy6⟩) hHeld ?rest6
  case hy6 => (intro w hSw; (try dsimp only at hSw); go_simp; try with_reducible rfl)
  dsimp only [Act.put, List.setIfInBounds_toArray, List.set_cons_zero, List.set_cons_succ]
  refine wpAnyH_take (i := 7) (v := ?v7) rfl (by kernel_rfl) (by kernel_rfl) (by kernel_rfl) (fun _ _ _ h => h) (Or.inl ⟨by rfl, ?hy7⟩) hHeld ?rest7
  case hy7 => (intro w hSw; (try dsimp only at hSw); go_simp; try with_reducible rfl)
  dsimp only [Act.put, List.setIfInBounds_toArray, List.set_cons_zero, List.set_cons_succ]
  refine wpAnyH_take (i := 8) (v := ?v8) rfl (by kernel_rfl) (by kernel_rfl) (by kernel_rfl) (fun _ _ _ h => h) (Or.inl ⟨by rfl, ?hy8⟩) hHeld ?rest8
  case hy8 => (intro w hSw; (try dsimp only at hSw); go_simp; try with_reducible rfl)
  dsimp only [Act.put, List.setIfInBounds_toArray, List.set_cons_zero, List.set_cons_succ]
  refine wpAnyH_take (i := 9) (v := ?v9) rfl (by kernel_rfl) (by kernel_rfl) (by kernel_rfl) (fun _ _ _ h => h) (Or.inl ⟨by rfl, ?hy9⟩) hHeld ?rest9
  case hy9 => (intro w hSw; (try dsimp only at hSw); go_simp; try with_reducible rfl)
  dsimp only [Act.put, List.setIfInBounds_toArray, List.set_cons_zero, List.set_cons_succ]
  refine wpAnyH_take (i := 10) (v := ?v10) rfl (by kernel_rfl) (by kernel_rfl) (by kernel_rfl) (fun _ _ _ h => h) (Or.inl ⟨by rfl, ?hy10⟩) hHeld ?rest10
  case hy10 => (intro w hSw; (try dsimp only at hSw); go_simp; try with_reducible rfl)
  dsimp only [Act.put, List.setIfInBounds_toArray, List.set_cons_zero, List.set_cons_succ]
  refine wpAnyH_all (rs := [11]) (by kernel_rfl) (by simp) ?_
  intro i hi
  rw [List.mem_singleton] at hi
  subst hi
  refine wpOp_dies (f := 19) (args := #[.agg #[.int .u32 y.num.1, .int .i64 (y.num.2 : Nat)], .int .i64 (ls.length : Nat)]) rfl rfl (by kernel_rfl) (there_bad _ (by omega) h0 h1) ?_
  rintro ee w2 ⟨rfl, rfl⟩
  refine ⟨_, rfl, ?_⟩
  exact ⟨rfl, Ends.err_mk HM.out ((((HA.out.alloc _).kept.drew).alloc _)) (((Kept.refl _ _).alloc _).drew.alloc _)⟩

set_option maxRecDepth 100000 in
set_option maxHeartbeats 3200000 in
theorem checkLocal_ok {p0 : Option Addr} {c0 : Nat} {ls : List Nat} (h : At K O w W N bb mp (.slice p0 ls.length c0) st) (hb : st.blocks ≠ []) (hls : isKinds K ls W (.slice p0 ls.length c0)) (a e x : Nat) (y : Beh) (pg pl : Option Addr) (ng cg nl cl : Nat) (hx : 0 ≤ y.num.1 ∧ y.num.1 ≤ 4294967295) (hlt : y.num.1 < (ls.length : Int)) (hs : st.stack.length ≤ 799000) :
    Calls Tryz.prog 93 #[.pointer (some ⟨bb, 0, none⟩), .agg #[.int .i64 (a : Nat), .int .i64 (e : Nat), .int .u8 (x : Nat), .bool y.typed, .slice pg ng cg, .int .u32 y.align, .int .u32 y.num.1, .int .i64 (y.num.2 : Nat), .slice pl nl cl, .int .i64 y.val]] W (Ends K O w W (fun k => k < W.heap.size) bb mp (.slice p0 ls.length c0) (checkLocalM ls x y st)) := by
  have HA := hide h.up
  have hbw := h.body.lt
  have I1 := h.locals
  obtain ⟨h0, h1⟩ := hx
  obtain ⟨k, hk⟩ : ∃ k : Nat, y.num.1 = (k : Int) := ⟨y.num.1.toNat, by omega⟩
  have hkl : k < ls.length := by omega
  obtain ⟨g, cap, hv, hKg, hg, hc, C0⟩ := isKinds.cell hls hkl
  cases hv
  have HN : Hid (checkLocalM ls x y st = match (if x = 32 then .ok st else takeM st [ls.getD k 0]) with | .error e => .error e | .ok st1 => if x = 33 then .ok st1 else .ok (putM st1 [ls.getD k 0])) := by
    show _ = _
    have ht : thereM y.num ls.length = .ok k := by
      unfold thereM
      rw [if_pos hlt, hk]
      simp
    simp only [checkLocalM, ht]
    rfl
  clear h hls
  generalize ls.getD k 0 = kd at *
  obtain ⟨yt, ygi, yal, ⟨yn, ya⟩, yla, yva⟩ := y
  simp only at hk hlt h0 h1 HN ⊢
  subst hk
  have n1 := World.new_ne W _ I1
  have n2 := World.new_ne W _ C0
  go_enter Tryz.func93, Tryz.ntmps93
  go_wp2_with fail
  go_cut [4] from 5 to 18 (fun v WW => v = .int .u8 (kd : Nat) ∧ WW = ((W.alloc (.cells #[.int .i64 (a : Nat), .int .i64 (e : Nat), .int .u8 (x : Nat), .bool yt, .slice pg ng cg, .int .u32 yal, .int .u32 (k : Int), .int .i64 (ya : Nat), .slice pl nl cl, .int .i64 yva] 100)).alloc (.cells #[.int .u32 (k : Int), .int .i64 (ya : Nat)] 62)).drew)
  case first =>
    go_region_held3 (fun w' => w'.cell? ⟨bb, 1, none⟩ = some (.slice (some ⟨g, 0, none⟩) ls.length c0) ∧ w'.cell? ⟨W.heap.size, 6, none⟩ = some (.int .u32 (k : Int)) ∧ w'.cell? ⟨W.heap.size, 7, none⟩ = some (.int .i64 (ya : Nat)) ∧ w'.cell? ⟨g, k, none⟩ = some (.int .u8 (kd : Nat))) (go_keep) ((refine step_call (f := 19) (args := #[.agg #[.int .u32 (k : Int), .int .i64 (ya : Nat)], .int .i64 (ls.length : Nat)]) (by rfl) (by go_simp) (there_ok _ hlt h0 h1) ?_; rintro ee w' ⟨rfl, rfl⟩; refine ⟨_, rfl, ?_⟩))
    all_goals
      go_wp2
      go_meet
      case rel => exact ⟨rfl, rfl⟩
  case rest =>
    obtain ⟨rfl, rfl⟩ := hcut
    have hA1 := ((HA.out.alloc (.cells #[.int .i64 (a : Nat), .int .i64 (e : Nat), .int .u8 (x : Nat), .bool yt, .slice pg ng cg, .int .u32 yal, .int .u32 (k : Int), .int .i64 (ya : Nat), .slice pl nl cl, .int .i64 yva] 100)).alloc (.cells #[.int .u32 (k : Int), .int .i64 (ya : Nat)] 62)).drewN 1
    have hlow1 : Kept (fun k => k < W.heap.size ∧ ¬ K k) W (((W.alloc (.cells #[.int .i64 (a : Nat), .int .i64 (e : Nat), .int .u8 (x : Nat), .bool yt, .slice pg ng cg, .int .u32 yal, .int .u32 (k : Int), .int .i64 (ya : Nat), .slice pl nl cl, .int .i64 yva] 100)).alloc (.cells #[.int .u32 (k : Int), .int .i64 (ya : Nat)] 62)).drewN 1) := (((Kept.refl _ _).alloc _).alloc _).drewN _
    have hX : (((W.alloc (.cells #[.int .i64 (a : Nat), .int .i64 (e : Nat), .int .u8 (x : Nat), .bool yt, .slice pg ng cg, .int .u32 yal, .int .u32 (k : Int), .int .i64 (ya : Nat), .slice pl nl cl, .int .i64 yva] 100)).alloc (.cells #[.int .u32 (k : Int), .int .i64 (ya : Nat)] 62)).drewN 1).cell? ⟨W.heap.size, 2, none⟩ = some (.int .u8 (x : Nat)) := by
      have hk : Kept (fun _ => False) (W.alloc (.cells #[.int .i64 (a : Nat), .int .i64 (e : Nat), .int .u8 (x : Nat), .bool yt, .slice pg ng cg, .int .u32 yal, .int .u32 (k : Int), .int .i64 (ya : Nat), .slice pl nl cl, .int .i64 yva] 100)) (((W.alloc (.cells #[.int .i64 (a : Nat), .int .i64 (e : Nat), .int .u8 (x : Nat), .bool yt, .slice pg ng cg, .int .u32 yal, .int .u32 (k : Int), .int .i64 (ya : Nat), .slice pl nl cl, .int .i64 yva] 100)).alloc (.cells #[.int .u32 (k : Int), .int .i64 (ya : Nat)] 62)).drewN 1) := ((Kept.refl _ _).alloc _).drewN _
      rw [hk.cell (p := ⟨W.heap.size, 2, none⟩) (by simp) (fun c => c), World.cell?_alloc_new]
      rfl
    have HA1 := hide hA1
    have hsW : W.heap.size < (((W.alloc (.cells #[.int .i64 (a : Nat), .int .i64 (e : Nat), .int .u8 (x : Nat), .bool yt, .slice pg ng cg, .int .u32 yal, .int .u32 (k : Int), .int .i64 (ya : Nat), .slice pl nl cl, .int .i64 yva] 100)).alloc (.cells #[.int .u32 (k : Int), .int .i64 (ya : Nat)] 62)).drewN 1).heap.size := by simp; omega
    clear hA1 n1 n2 C0 I1
    generalize hW1 : ((W.alloc (.cells #[.int .i64 (a : Nat), .int .i64 (e : Nat), .int .u8 (x : Nat), .bool yt, .slice pg ng cg, .int .u32 yal, .int .u32 (k : Int), .int .i64 (ya : Nat), .slice pl nl cl, .int .i64 yva] 100)).alloc (.cells #[.int .u32 (k : Int), .int .i64 (ya : Nat)] 62)).drewN 1 = W1 at *
    have hW1' : ((W.alloc (.cells #[.int .i64 (a : Nat), .int .i64 (e : Nat), .int .u8 (x : Nat), .bool yt, .slice pg ng cg, .int .u32 yal, .int .u32 (k : Int), .int .i64 (ya : Nat), .slice pl nl cl, .int .i64 yva] 100)).alloc (.cells #[.int .u32 (k : Int), .int .i64 (ya : Nat)] 62)).drew = W1 := hW1
    rw [hW1']
    clear hW1 hW1'
    by_cases h32 : x = 32
    · have t32 : ((x : Int) != 32) = false := by simp [h32]
      have t33 : ((x : Int) != 33) = true := by rw [bne_iff_ne]; omega
      have HM : Hid (checkLocalM ls x ⟨yt, ygi, yal, ((k : Int), ya), yla, yva⟩ st = .ok (putM st [kd])) := by show _ = _; rw [HN.out]; simp [h32]
      clear h32 HN
      go_wp2_with fail
      refine (put_at (HA1.out.alloc _) (kinds_made W1 [kd] rfl rfl (by simp)) (by simp) (by simp; omega)).mono ?_
      rintro ee w3 ⟨hok3, -, -, hlow3⟩
      obtain ⟨rfl, hA3⟩ := hok3 _ rfl
      have HA3 := hide hA3
      clear hok3 hA3
      go_wp2
      go_end0
      exact Ends.ok_mk HM.out HA3.out ((hlow1.alloc _).trans hlow3)
    · have t32 : ((x : Int) != 32) = true := by rw [bne_iff_ne]; omega
      go_wp2_with fail
      refine (take_at (HA1.out.alloc _) hb (kinds_made W1 [kd] rfl rfl (by simp)) HA1.out.ne (by simp)).mono ?_
      rintro ee w2 ⟨hok2, herr2, hk2, hlow2⟩
      have hl2 := (hlow1.alloc _).trans hlow2
      have hX2 : w2.cell? ⟨W.heap.size, 2, none⟩ = some (.int .u8 (x : Nat)) := (hlow2.cell (p := ⟨W.heap.size, 2, none⟩) (by simp; omega) (fun c => Nat.lt_irrefl _ c.1)).trans ((World.cell?_alloc_lt _ _ _ hsW).trans hX)
      cases hm2 : takeM st [kd] with
      | error qp =>
        obtain ⟨q, p⟩ := qp
        have he := herr2 _ _ hm2
        subst he
        exact ⟨rfl, Ends.err_mk (by rw [HN.out, if_neg h32, hm2]) hk2 hl2⟩
      | ok st2 =>
        obtain ⟨rfl, hA2⟩ := hok2 _ hm2
        have hf := takeM_facts HA.out.tidy.floor hm2
        have hs2 : st2.stack.length ≤ 799000 := by omega
        have HA2 := hide hA2
        have HN2 : Hid (checkLocalM ls x ⟨yt, ygi, yal, ((k : Int), ya), yla, yva⟩ st = if x = 33 then .ok st2 else .ok (putM st2 [kd])) := by show _ = _; rw [HN.out, if_neg h32, hm2]
        clear hok2 herr2 hA2 hm2 HN hX hf
        by_cases h33 : x = 33
        · have t33 : ((x : Int) != 33) = false := by simp [h33]
          have HM := hide (HN2.out.trans (if_pos h33))
          clear h33 h32 HN2
          go_wp2
          go_end0
          exact Ends.ok_mk HM.out HA2.out hl2
        · have t33 : ((x : Int) != 33) = true := by rw [bne_iff_ne]; omega
          have HM := hide (HN2.out.trans (if_neg h33))
          clear h33 h32 HN2
          go_wp2_with fail
          refine (put_at (HA2.out.alloc _) (kinds_made w2 [kd] rfl rfl (by simp)) (by simp) (by simp; omega)).mono ?_
          rintro ee w3 ⟨hok3, -, -, hlow3⟩
          obtain ⟨rfl, hA3⟩ := hok3 _ rfl
          have HA3 := hide hA3
          clear hok3 hA3
          go_wp2
          go_end0
          exact Ends.ok_mk HM.out HA3.out (hl2.lowTrans (((Kept.refl _ _).alloc _).trans hlow3) rfl)
end

end Go.Proofs.YtdfmillbaabpiaaGreat
