/-
  Part 23 of the proof: Face2, Keep1, Keep2.
-/
import Derived.Test.YtgkpkngchploiaaGreatPart22
import Derived.Test.YtgkpkngchploiaaGreatPart14
import Derived.Laws.BytesArg
/-
  fitting; Check.
-/
namespace Go.Proofs.YtgkpkngchploiaaGreat
open Go.RowKit

theorem Holds12.mono {s : ByteArray} {K K' : Nat → Prop} {w : World} {f : Fields} {m : Mdl} (H : Holds12 s K w f m) (hm : ∀ g, g < w.heap.size → K g → K' g) : Holds12 s K' w f m := by
  refine ⟨H.h0.mono hm ?_, Row.mono H.h1 hm, Row.mono H.h2 hm, Row.mono H.h3 hm, Row.mono H.h4 hm, Row.mono H.h5 hm, Row.mono H.h6 hm, H.h7.mono hm ?_, H.h8.mono hm ?_, Row.mono H.h9 hm, Row.mono H.h10 hm, H.h11.mono hm ?_, H.nil6, H.nil8, H.nil11⟩
  · rintro x cs ⟨a, b, e, c, d⟩; exact ⟨a, b, e, Row.mono c hm, Row.mono d hm⟩
  · rintro x cs ⟨a, e, c⟩; exact ⟨a, e, Row.mono c hm⟩
  · rintro x cs ⟨a, b, e, c, d⟩; exact ⟨a, b, e, Row.mono c hm, d.mono hm⟩
  · rintro x cs ⟨a, e, c⟩; exact ⟨a, e, Row.mono c hm⟩

theorem checkAll_err {s : ByteArray} {e : Err} (h : readM s = .error e) : checkAll s = .error e := by simp [checkAll, h]

theorem checkAll_ok {s : ByteArray} {m : Mdl} {j : Nat} (h : readM s = .ok (m, j)) : checkAll s = fitM s m := by simp [checkAll, h]

set_option maxHeartbeats 1600000 in
theorem fittingIn_any {w : World} {bx mx : Nat} {s : ByteArray} {o : Option Addr} (hb : w.cell? ⟨bx, 0, none⟩ = some (.string s)) (hm : Blk w mx [.pointer o]) (hs : s.size ≤ 5000) :
    Calls Tryz.prog 9 #[.pointer (some ⟨bx, 0, none⟩), .pointer (some ⟨mx, 0, none⟩)] w fun e w' => Kept (only mx) w w' ∧ (∃ o, w'.cell? ⟨mx, 0, none⟩ = some (.pointer o)) ∧ (∀ x, checkAll s = .ok x → e = .returned (.tuple #[])) ∧ ∀ q p, checkAll s = .error (q, p) → e = gaveUp q p := by
  have hmw := hm.lt
  obtain ⟨M0, M1⟩ := hm.oneC'
  go_enter Tryz.func9, Tryz.ntmps9
  go_wp2_with fail
  refine (read_any s _ hs).mono ?_
  rintro e w1 ⟨hk1, hok, herr⟩
  cases hr : readM s with
  | error qp =>
    obtain ⟨q, p⟩ := qp
    have he := herr _ _ hr
    subst he
    exact ⟨rfl, hk1.mono (fun _ _ c => c.elim), ⟨o, (hk1.cell (p := ⟨mx, 0, none⟩) hmw (fun c => c)).trans M0⟩, fun x h => by (rw [checkAll_err hr] at h; cases h), fun q' p' h => by rw [checkAll_err hr] at h; cases h; rfl⟩
  | ok mj =>
    obtain ⟨m, j⟩ := mj
    obtain ⟨b, mb, B, rfl, h1, h2, h3, h4, f, oM, hH⟩ := hok _ _ hr
    obtain ⟨hOk, hlen⟩ := readM_ok hr
    have hRd := readM_reads hr
    have C0 := (hk1.cell (p := ⟨mx, 0, none⟩) hmw (fun c => c)).trans M0
    have C1 := (hk1.frozen (p := ⟨mx, 0, none⟩) hmw (fun c => c)).trans M1
    have hv1 : MV s (fun k => w.heap.size ≤ k) w1 mb m := ⟨h1, f, oM.blk, hH.mono (fun g _ hg => by omega)⟩
    have hv2 : MV s (fun k => w.heap.size ≤ k) (w1.setCell ⟨mx, 0, none⟩ (.pointer (some ⟨mb, 0, none⟩))) mb m := hv1.kept (S := only mx) ((Kept.refl _ _).own _) (fun g _ hg (e : g = mx) => by omega)
    have HV := hide hv2
    have HC := hide (checkAll_ok hr)
    have kp1 : Kept (only mx) w (w1.setCell ⟨mx, 0, none⟩ (.pointer (some ⟨mb, 0, none⟩))) := (hk1.mono (fun _ _ c => c.elim)).own _
    have C2 : (w1.setCell ⟨mx, 0, none⟩ (.pointer (some ⟨mb, 0, none⟩))).cell? ⟨mx, 0, none⟩ = some (.pointer (some ⟨mb, 0, none⟩)) := World.cell?_setCell_same _ _ _ C0
    have hl1 : mx < (w1.setCell ⟨mx, 0, none⟩ (.pointer (some ⟨mb, 0, none⟩))).heap.size := by simpa using Nat.lt_of_lt_of_le hmw hk1.size
    have HC2 := hide C2
    have HKP := hide kp1
    clear hok herr hr hH oM hv1 hv2 hk1 C2 kp1
    go_wp2_with fail
    refine (fitCheck_any HV.out hOk hs hRd hlen).mono ?_
    rintro e w2 ⟨hk2, hok, herr⟩
    have kp2 : Kept (only mx) w w2 := HKP.out.trans (hk2.mono (fun _ _ c => c.elim))
    have C3 := (hk2.cell (p := ⟨mx, 0, none⟩) hl1 (fun c => c)).trans HC2.out
    cases hq : fitM s m with
    | error qp =>
      obtain ⟨q, p⟩ := qp
      have he := herr _ _ hq
      subst he
      exact ⟨rfl, kp2, ⟨_, C3⟩, fun x h => by (rw [HC.out, hq] at h; cases h), fun q' p' h => by rw [HC.out, hq] at h; cases h; rfl⟩
    | ok u =>
      obtain ⟨v, rfl, rfl⟩ := hok u hq
      have HQ := hide (HC.out.trans hq)
      clear hok herr hq
      go_wp2
      go_end0
      exact ⟨kp2, ⟨_, C3⟩, fun _ _ => rfl, fun q' p' h => by (rw [HQ.out] at h; cases h)⟩

theorem enters_fittingIn : Enters 9 := enters_of Tryz.func9 (by kernel_rfl) (by kernel_rfl)

/-- What Check answers. -/
def checkAns (s : ByteArray) : Nat × Nat := if 5000 < s.size then (1, 0) else answer (checkAll s)

set_option maxHeartbeats 1600000 in
theorem fitting_any (s : ByteArray) (w : World) (hz : s.size ≤ 9223372036854775807) :
    Calls Tryz.prog 7 #[.string s] w fun e w' => (∃ o, e = .returned (.tuple #[.pointer o, .int .i64 ((checkAns s).1 : Nat), .int .i64 ((checkAns s).2 : Nat)])) ∧ Kept (fun _ => False) w w' := by
  have hmf : ∀ (fn : Fn) (first cap : Array Value) (w : World), (Instr.makeFunc fn first cap).run Tryz.prog w = .ok (.func fn first cap) w := fun _ _ _ _ => rfl
  by_cases hl : 5000 < s.size
  · have t1 : decide ((5000 : Int) < (s.size : Int)) = true := decide_eq_true (by omega)
    have HA : Hid (checkAns s = (1, 0)) := by show _ = _; simp [checkAns, hl]
    clear hl
    go_enter Tryz.func7, Tryz.ntmps7
    go_wp2
    go_ret3
    exact ⟨⟨none, by rw [HA.out]; rfl⟩, (Kept.refl _ _).alloc _⟩
  · have t1 : decide ((5000 : Int) < (s.size : Int)) = false := decide_eq_false (by omega)
    have HA : Hid (checkAns s = answer (checkAll s)) := by show _ = _; simp [checkAns, hl]
    have hs : s.size ≤ 5000 := by omega
    have HS := hide hs
    clear hl hs
    go_enter Tryz.func7, Tryz.ntmps7
    go_wp2_with fail
    refine (givenUp_any (S := only (w.heap.size + 1)) (V := fun W => w.heap.size + 1 < W.heap.size ∧ ∃ o, W.cell? ⟨w.heap.size + 1, 0, none⟩ = some (.pointer o)) (r := checkAll s) enters_fittingIn ?_ ?_ ?_).mono ?_
    · rintro k rfl; simp
    · intro W hk
      have hB := (Blk.new' (w := w.alloc (.cells #[.string s] 9)) (g := w.heap.size + 1) (c := #[.pointer none]) (t := 29) (by simp)).kept hk (by simp) (fun c => c)
      refine (fittingIn_any (bx := w.heap.size) (mx := w.heap.size + 1) (s := s) ?_ hB HS.out).mono ?_
      · exact (hk.cell (p := ⟨w.heap.size, 0, none⟩) (by simp; omega) (fun c => c)).trans (by simp [go_sem])
      · rintro e W' ⟨h1, h2, h3, h4⟩
        exact ⟨h1, ⟨Nat.lt_of_lt_of_le hB.lt h1.size, h2⟩, h3, h4⟩
    · rintro W W' ⟨hl, o, ho⟩ hk
      exact ⟨Nat.lt_of_lt_of_le hl hk.size, o, (hk.cell (p := ⟨w.heap.size + 1, 0, none⟩) hl (fun (c : _ ≤ _) => by simp at c; omega)).trans ho⟩
    rintro e w1 ⟨hk, ⟨hl, o, ho⟩, hok, herr⟩
    have kp : Kept (fun _ => False) w w1 := (((Kept.refl _ _).alloc _).alloc _).fresh hk (fun i hi (c : i = _) => by omega)
    cases hr : checkAll s with
    | error qp =>
      obtain ⟨q, p⟩ := qp
      have he := herr q p hr
      subst he
      have HB : Hid (checkAns s = (q, p)) := by show _ = _; rw [HA.out, hr]; rfl
      clear hok herr hr HA
      go_wp2
      go_ret3
      exact ⟨⟨o, by rw [HB.out]; rfl⟩, kp⟩
    | ok u =>
      have he := hok u hr
      subst he
      have HB : Hid (checkAns s = (0, 0)) := by show _ = _; rw [HA.out, hr]; rfl
      clear hok herr hr HA
      go_wp2
      go_ret3
      exact ⟨⟨o, by rw [HB.out]; rfl⟩, kp⟩

set_option maxHeartbeats 800000 in
theorem check_any (s : ByteArray) (w : World) (hz : s.size ≤ 9223372036854775807) :
    Calls Tryz.prog 5 #[.string s] w fun e w' => e = .returned (.tuple #[.int .i64 ((checkAns s).1 : Nat), .int .i64 ((checkAns s).2 : Nat)]) ∧ Kept (fun _ => False) w w' := by
  go_enter Tryz.func5, Tryz.ntmps5
  go_wp2_with fail
  refine (fitting_any s _ hz).mono ?_
  rintro e w1 ⟨⟨o, rfl⟩, hk⟩
  go_wp2
  go_ret2
  exact ⟨rfl, hk⟩

end Go.Proofs.YtgkpkngchploiaaGreat
/-
  fits, pick.
-/
namespace Go.Proofs.YtgkpkngchploiaaGreat
open Go.RowKit

theorem ans_ex : checkAns exBytes = (0, 0) := by
  unfold checkAns
  rw [if_neg (by decide), ex_fits]

theorem ans_other : checkAns exOther = (2, 8) := by
  unfold checkAns
  rw [if_neg (by decide), ex_other]

set_option maxRecDepth 100000 in
set_option maxHeartbeats 1600000 in
theorem fits_any (w : World) : Calls Tryz.prog 4 #[] w fun e w' => e = .returned (.bool true) ∧ Kept (fun _ => False) w w' := by
  go_enter Tryz.func4, Tryz.ntmps4
  go_wp2_with fail
  refine (check_any exBytes _ (by decide)).mono ?_
  rintro e w1 ⟨rfl, hk1⟩
  rw [ans_ex]
  go_wp2_with fail
  refine (check_any exOther _ (by decide)).mono ?_
  rintro e w2 ⟨rfl, hk2⟩
  rw [ans_other]
  go_wp2
  go_ret
  exact ⟨rfl, hk1.trans hk2⟩

set_option maxHeartbeats 800000 in
theorem pick_any (c : Int) (w : World) (h0 : -9223372036854775808 ≤ c) (h1 : c ≤ 9223372036854775807) : Calls Tryz.prog 6 #[.int .i64 c, .int .i64 256] w fun e w' => (∃ z : Int, e = .returned (.int .i64 z)) ∧ w' = w := by
  by_cases hc : c < 0
  · go_enter Tryz.func6, Tryz.ntmps6
    go_wp2
    go_ret
    exact ⟨⟨_, rfl⟩, rfl⟩
  · have hc' : ¬ c < 0 := hc
    go_enter Tryz.func6, Tryz.ntmps6
    go_wp2
    go_ret
    exact ⟨⟨_, rfl⟩, rfl⟩

end Go.Proofs.YtgkpkngchploiaaGreat
/-
  Behind.
-/
namespace Go.Proofs.YtgkpkngchploiaaGreat
open Go.RowKit

/-- What Check may answer: too long; something is wrong at a place among the bytes; or it fits. -/
theorem ans_facts (s : ByteArray) : (5000 < s.size ∧ checkAns s = (1, 0)) ∨ (s.size ≤ 5000 ∧ ∃ q p, checkAns s = (q, p) ∧ 2 ≤ q ∧ p ≤ s.size) ∨ (s.size ≤ 5000 ∧ checkAns s = (0, 0) ∧ ∃ m j, readM s = .ok (m, j)) := by
  unfold checkAns
  by_cases hl : 5000 < s.size
  · exact .inl ⟨hl, by rw [if_pos hl]⟩
  · rw [if_neg hl]
    refine .inr ?_
    cases hr : readM s with
    | error qp =>
      obtain ⟨q, p⟩ := qp
      have := readM_err hr
      exact .inl ⟨by omega, q, p, by rw [checkAll_err hr]; rfl, by omega, this.2⟩
    | ok mj =>
      obtain ⟨m, j⟩ := mj
      rw [checkAll_ok hr]
      cases hf : fitM s m with
      | error qp =>
        obtain ⟨q, p⟩ := qp
        have := fitM_err (readM_ok hr).1 hf
        exact .inl ⟨by omega, q, p, rfl, this.1, this.2.2⟩
      | ok u => exact .inr ⟨by omega, rfl, m, j, rfl⟩

/-- A byte more behind a module: refused there, or behind it. -/
theorem ans_behind {s s' : ByteArray} {m : Mdl} {j : Nat} (hl : s.size < 5000) (hz : s'.size = s.size + 1) (ha : Alike s.size s s') (h : readM s = .ok (m, j)) : checkAns s' = (2, s.size) ∨ checkAns s' = (2, s.size + 1) := by
  obtain ⟨p, hp, hq⟩ := readM_behind hz ha h
  unfold checkAns
  rw [if_neg (by omega), checkAll_err hp]
  rcases hq with rfl | rfl
  · exact .inl rfl
  · exact .inr rfl

theorem alike_push (s t : ByteArray) (_ : t.size = 1) : (s ++ t).size = s.size + t.size ∧ Alike s.size s (s ++ t) := by
  refine ⟨ByteArray.size_append, ⟨Nat.le_refl _, by rw [ByteArray.size_append]; omega, fun k hk => ?_⟩⟩
  rw [bt_eq hk, bt_eq (by rw [ByteArray.size_append]; omega)]
  congr 1
  exact (ByteArray.getElem_append_left hk).symm

set_option maxRecDepth 100000 in
set_option maxHeartbeats 3200000 in
theorem behind_any (s : ByteArray) (c : Int) (w : World) (hz : s.size ≤ 9223372036854775807) (h0 : -9223372036854775808 ≤ c) (h1 : c ≤ 9223372036854775807) :
    Calls Tryz.prog 3 #[.string s, .int .i64 c] w fun e w' => e = .returned (.bool true) ∧ Kept (fun _ => False) w w' := by
  have hnot : ∀ (x : Bool) (w : World), (Op.unary .not (.bool x)).run Tryz.prog w = .ok (.bool (!x)) w := fun _ _ => rfl
  have hcv : ∀ (W : World) (z : Int), (convert 27 9 (.slice (some ⟨W.heap.size, 0, none⟩) 1 1)).run Tryz.prog (W.alloc (.cells #[.int .u8 z] 5)) = .ok (.string (strOfNums [z])) (W.alloc (.cells #[.int .u8 z] 5)) := fun W z => by
    refine run_convert_bytes_arg (P := Tryz.prog) (W.alloc (.cells #[.int .u8 z] 5)) 27 5 Tryz.underlying27 Tryz.underlying5 W.heap.size 0 1 1 [z] rfl (fun i hi => ?_) 9 Tryz.underlying9
    obtain rfl : i = 0 := by omega
    simp
  go_enter Tryz.func3, Tryz.ntmps3
  go_wp2_with fail
  refine (fits_any _).mono ?_
  rintro e w1 ⟨rfl, hk1⟩
  go_wp2_with fail
  refine (check_any s _ (by omega)).mono ?_
  rintro e w2 ⟨rfl, hk2⟩
  rcases ans_facts s with ⟨hl, ha⟩ | ⟨hl, q, p, ha, hq, hp⟩ | ⟨hl, ha, m, j, hr⟩
  · rw [ha]
    clear hl ha
    go_wp2
    go_ret
    exact ⟨rfl, hk1.trans hk2⟩
  · rw [ha]
    have t1 : ((q : Int) == 0) = false := by simp; omega
    have t2 : ((q : Int) != 0) = true := by simp; omega
    have t3 : ((q : Int) != 1) = true := by simp; omega
    have t4 : decide (s.size < p) = false := decide_eq_false (by omega)
    have t5 : decide ((p : Int) < 0) = false := decide_eq_false (by omega)
    clear hl ha hq hp
    go_wp2
    go_ret
    exact ⟨rfl, hk1.trans hk2⟩
  · rw [ha]
    by_cases hm : s.size < 5000
    · have t1 : decide ((5000 : Int) ≤ (s.size : Int)) = false := decide_eq_false (by omega)
      have HM := hide hm
      have HR := hide hr
      clear hl ha hr hm
      go_wp2_with fail
      refine (pick_any c _ h0 h1).mono ?_
      rintro e w3 ⟨⟨z, rfl⟩, rfl⟩
      have hcat : ¬ 9223372036854775807 < s.size + (strOfNums [z % 256]).size := by rw [strOfNums_size]; have := HM.out; simp; omega
      go_wp2_with fail
      obtain ⟨hsz, hal⟩ := alike_push s (strOfNums [z % 256]) (strOfNums_size _)
      rw [strOfNums_size] at hsz
      refine (check_any (s ++ strOfNums [z % 256]) _ (by rw [hsz]; have := HM.out; simp; omega)).mono ?_
      rintro e w4 ⟨rfl, hk4⟩
      have hkf := (hk1.trans hk2).trans (((Kept.refl _ _).alloc _).trans hk4)
      rcases ans_behind HM.out hsz hal HR.out with ha | ha
      · rw [ha]
        clear ha hsz hal hcat hcv
        go_wp2
        go_ret
        exact ⟨rfl, hkf⟩
      · rw [ha]
        clear ha hsz hal hcat hcv
        have hw : wrap64 ((s.size : Int) + 1) = (s.size : Int) + 1 := by have := HM.out; unfold wrap64; omega
        go_wp2
        go_ret
        exact ⟨rfl, hkf⟩
    · have t1 : decide ((5000 : Int) ≤ (s.size : Int)) = true := decide_eq_true (by omega)
      clear hl ha hr hm
      go_wp2
      go_ret
      exact ⟨rfl, hk1.trans hk2⟩

end Go.Proofs.YtgkpkngchploiaaGreat
