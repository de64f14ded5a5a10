/-
  Part 12 of the proof: Sec2, Upto, Read1, Fm1.
-/
import Derived.Test.YtgkpkngchploiaaGreatPart11
import Derived.Test.YtgkpkngchploiaaGreatPart08
/-
  section.
-/
namespace Go.Proofs.YtgkpkngchploiaaGreat
open Go.RowKit

set_option maxRecDepth 100000 in
set_option maxHeartbeats 1600000 in
theorem sectionIn_any {w : World} {b mb B c0 c1 c2 : Nat} {s : ByteArray} {i n : Nat} {m : Mdl} (which : Nat) (h : Rd w b s i n) (hm : ModAt s (fun g => B ≤ g) w b mb m) (hb : b < B) (hmb : mb < B) (hB : B ≤ w.heap.size) (hr : Ready m which)
    (q0 : w.cell? ⟨c0, 0, none⟩ = some (.pointer (some ⟨mb, 0, none⟩))) (q1 : w.cell? ⟨c1, 0, none⟩ = some (.pointer (some ⟨b, 0, none⟩))) (q2 : w.cell? ⟨c2, 0, none⟩ = some (.int .u8 (which : Nat))) :
    Calls Tryz.prog 32 #[.pointer (some ⟨c0, 0, none⟩), .pointer (some ⟨c1, 0, none⟩), .pointer (some ⟨c2, 0, none⟩)] w (OutS (both b mb) w b s n (isMod s B b mb) (contM m which s n i)) := by
  go_enter Tryz.func32, Tryz.ntmps32
  go_wp2_with fail
  refine (content_any which h hm hb hmb hB hr).mono ?_
  rintro e w1 ⟨hk, hok, herr⟩
  cases ho : contM m which s n i with
  | error qp =>
    obtain ⟨q, p⟩ := qp
    have he := herr _ _ ho
    subst he
    exact ⟨rfl, OutS.err_mk rfl hk⟩
  | ok xj =>
    obtain ⟨x, j⟩ := xj
    obtain ⟨u, rfl, ⟨rfl, hv⟩, hrd⟩ := hok _ _ ho
    have HV := hide hv
    have HO := hide ho
    clear hv hok herr ho
    go_wp2
    go_end0
    exact OutS.ok_mk HO.out hk ⟨rfl, HV.out⟩ hrd

/-- What a module keeps to when sections up to a rank have been read. -/
structure Upto (m : Mdl) (last : Nat) : Prop where
  fair : Fair m
  st : last < 8 → m.starts = []
  co : last < 10 → m.codes = []
  nm : last < 12 → m.nlocals = []

theorem Upto.ready {m : Mdl} {last x : Nat} (h : Upto m last) (hr : last < rankN x) (hn : 10 < rankN x → m.codes.length = m.funcs.length) : Ready m x := by
  have hk : x ≤ 11 ∧ x ≠ 2 := by
    unfold rankN at hr
    split at hr
    · omega
    · split at hr <;> omega
  refine ⟨h.fair, hk, ?_, ?_, ?_⟩
  · rintro rfl; exact h.st hr
  · rintro rfl; exact h.co hr
  · rintro rfl; exact ⟨h.nm hr, hn (by decide)⟩

/-- A section of a higher rank than the last one. -/
def secM (m : Mdl) (last : Nat) (s : ByteArray) (n i : Nat) : Except Err ((Mdl × Nat) × Nat) :=
  match byteM s n i with
  | .error e => .error e
  | .ok (x, j) =>
    if rankN x ≤ last then .error (2, i)
    else if 10 < rankN x ∧ m.codes.length ≠ m.funcs.length then .error (2, i)
    else
      match withinM (contM m x) s n j with
      | .error e => .error e
      | .ok (m1, j1) => .ok ((m1, rankN x), j1)

/-- The rank comes back; the module lies there. -/
def isSec (s : ByteArray) (B b mb : Nat) (x : Mdl × Nat) (w : World) (v : Value) : Prop := v = .int .i64 (x.2 : Nat) ∧ ModAt s (fun g => B ≤ g) w b mb x.1

theorem enters_sectionIn : Enters 32 := enters_of Tryz.func32 (by kernel_rfl) (by kernel_rfl)

theorem rankN_le (x : Nat) : rankN x ≤ 12 := by
  unfold rankN
  split
  · omega
  · split <;> omega

theorem rank10 (w : World) : Calls Tryz.prog 29 #[.int .u8 10] w fun e w' => e = .returned (.int .i64 10) ∧ w' = w := rank_any 10 w

set_option maxRecDepth 100000 in
set_option maxHeartbeats 3200000 in
theorem section_any {w : World} {b mb B : Nat} {s : ByteArray} {i n : Nat} {m : Mdl} (last : Nat) (h : Rd w b s i n) (hm : ModAt s (fun g => B ≤ g) w b mb m) (hb : b < B) (hmb : mb < B) (hB : B ≤ w.heap.size) (hup : Upto m last) :
    Calls Tryz.prog 16 #[.pointer (some ⟨mb, 0, none⟩), .pointer (some ⟨b, 0, none⟩), .int .i64 (last : Nat)] w (OutS (both b mb) w b s n (isSec s B b mb) (secM m last s n i)) := by
  have hmf : ∀ (fn : Fn) (first cap : Array Value) (w : World), (Instr.makeFunc fn first cap).run Tryz.prog w = .ok (.func fn first cap) w := fun _ _ _ _ => rfl
  have hbw := h.lt
  have HUP := hide hup
  clear hup
  go_enter Tryz.func16, Tryz.ntmps16
  go_wp2_with fail
  have hm0 := (hm.call (w' := w.alloc (.cells #[.pointer (some ⟨mb, 0, none⟩)] 29)) ((Kept.refl _ _).alloc _) (by omega)).call (w' := (w.alloc (.cells #[.pointer (some ⟨mb, 0, none⟩)] 29)).alloc (.cells #[.pointer (some ⟨b, 0, none⟩)] 57)) ((Kept.refl _ _).alloc _) (by omega)
  have ox0 := (OB.new (b := b) (g := w.heap.size) (c := #[.pointer (some ⟨mb, 0, none⟩)]) (t := 29) hbw rfl).alloc (.cells #[.pointer (some ⟨b, 0, none⟩)] 57)
  have oy0 := OB.new (w := w.alloc (.cells #[.pointer (some ⟨mb, 0, none⟩)] 29)) (b := b) (g := w.heap.size + 1) (c := #[.pointer (some ⟨b, 0, none⟩)]) (t := 57) (by simp; omega) (by simp)
  have hk0 : Kept (both b mb) w ((w.alloc (.cells #[.pointer (some ⟨mb, 0, none⟩)] 29)).alloc (.cells #[.pointer (some ⟨b, 0, none⟩)] 57)) := ((Kept.refl _ w).alloc _).alloc _
  have HM0 := hide hm0
  clear hm0 hm
  refine (at_any ((h.alloc _).alloc _)).mono ?_
  rintro e w0 ⟨rfl, rfl⟩
  obtain ⟨X0, Y0⟩ := ox0.blk.oneC
  obtain ⟨X1, Y1⟩ := oy0.blk.oneC
  go_wp2_with fail
  refine (byte_any ((h.alloc _).alloc _)).mono ?_
  rintro e w1 ⟨hx1, hok, herr⟩
  have hk1 := hk0.trans hx1.both_of
  have HM1 := hide (HM0.out.call hx1 (by omega))
  have ox1 := ox0.call hx1
  have oy1 := oy0.call hx1
  clear hx1 hk0 HM0 ox0 oy0 X0 Y0 X1 Y1
  cases ho : byteM s n i with
  | error qp =>
    obtain ⟨q, p⟩ := qp
    have he := herr _ _ ho
    subst he
    exact ⟨rfl, OutS.err_mk (by simp [secM, ho]) hk1⟩
  | ok xj =>
    obtain ⟨x, j⟩ := xj
    obtain ⟨u, rfl, hv, hrd1⟩ := hok _ _ ho
    have hv : u = .int .u8 (x : Nat) := hv
    subst hv
    have HO1 := hide ho
    clear hok herr ho
    have hsz1 := hk1.size
    have hrl := rankN_le x
    have hbw1 := hrd1.lt
    have hk2 := hk1.alloc (.cells #[.int .u8 (x : Nat)] 5)
    have hrd2 := hrd1.alloc (.cells #[.int .u8 (x : Nat)] 5)
    have ox2 := ox1.alloc (.cells #[.int .u8 (x : Nat)] 5)
    have oy2 := oy1.alloc (.cells #[.int .u8 (x : Nat)] 5)
    have oz2 := OB.new (w := w1) (b := b) (g := w1.heap.size) (c := #[.int .u8 (x : Nat)]) (t := 5) hbw1 rfl
    have HM2 := hide (HM1.out.call (w' := w1.alloc (.cells #[.int .u8 (x : Nat)] 5)) ((Kept.refl _ _).alloc _) (by omega))
    obtain ⟨X0, Y0⟩ := ox2.blk.oneC
    obtain ⟨X1, Y1⟩ := oy2.blk.oneC
    obtain ⟨X2, Y2⟩ := oz2.blk.oneC
    have hx0 := ox1.lt
    have hy0 := oy1.lt
    by_cases hr : rankN x ≤ last
    · have t1 : decide (((rankN x : Nat) : Int) ≤ ((last : Nat) : Int)) = true := by simp; omega
      have HR := hide hr
      clear hr
      go_wp2_with fail
      refine (rank_any _ _).mono ?_
      rintro e w2 ⟨rfl, rfl⟩
      go_wp2_with fail
      refine (refuse_any _ _).mono ?_
      rintro e w2 ⟨rfl, rfl⟩
      exact ⟨rfl, OutS.err_mk (by simp [secM, HO1.out, HR.out]) hk2⟩
    · have t1 : decide (((rankN x : Nat) : Int) ≤ ((last : Nat) : Int)) = false := by simp; omega
      have hr' : ¬ ((rankN x : Nat) : Int) ≤ ((last : Nat) : Int) := by omega
      go_wp2_with fail
      refine (rank_any _ _).mono ?_
      rintro e w2 ⟨rfl, rfl⟩
      by_cases h10 : 10 < rankN x
      · have t2 : decide ((10 : Int) < ((rankN x : Nat) : Int)) = true := by simp; omega
        have h10' : (10 : Int) < ((rankN x : Nat) : Int) := by omega
        by_cases hcf : m.codes.length = m.funcs.length
        · have HSEC : Hid (secM m last s n i = match withinM (contM m x) s n j with | .error e => .error e | .ok (m1, j1) => .ok ((m1, rankN x), j1)) := by show _ = _; simp [secM, HO1.out, hr, hcf]
          have HRD : Hid (Ready m x) := HUP.out.ready (by omega) (fun _ => hcf)
          have HCF := hide hcf
          clear hcf hr h10
          go_wp2_with fail
          refine (rank_any _ _).mono ?_
          rintro e w2 ⟨rfl, rfl⟩
          go_wp2_with fail
          refine (rank10 _).mono ?_
          rintro e w2 ⟨rfl, rfl⟩
          go_wp2_with fail
          refine (needCodes_any _ HM2.out).mono ?_
          rintro e w2 ⟨⟨k2, rfl⟩, he⟩
          rw [if_pos HCF.out] at he
          subst he
          have ox3 := ox2.drewN k2
          have oy3 := oy2.drewN k2
          have oz3 := oz2.drewN k2
          have hk3 := hk2.drewN k2
          have hrd3 := hrd2.drewN k2
          have HM3 := hide (HM2.out.call (w' := (w1.alloc (.cells #[.int .u8 (x : Nat)] 5)).drewN k2) ((Kept.refl _ _).drewN _) (by omega))
          have hsz3 := hk3.size
          clear X0 Y0 X1 Y1 X2 Y2 ox2 oy2 oz2 HM2 HM1 hk2 hrd2
          obtain ⟨X0, Y0⟩ := ox3.blk.oneC
          obtain ⟨X1, Y1⟩ := oy3.blk.oneC
          obtain ⟨X2, Y2⟩ := oz3.blk.oneC
          go_wp2_with fail
          refine (within_any (S := both b mb) (K := 32) (cap := #[.pointer (some ⟨w.heap.size, 0, none⟩), .pointer (some ⟨w.heap.size + 1, 0, none⟩), .pointer (some ⟨w1.heap.size, 0, none⟩)]) (contM m x)
            (fun W => OB W b w.heap.size [.pointer (some ⟨mb, 0, none⟩)] ∧ OB W b (w.heap.size + 1) [.pointer (some ⟨b, 0, none⟩)] ∧ OB W b w1.heap.size [.int .u8 (x : Nat)] ∧ ModAt s (fun g => B ≤ g) W b mb m)
            (fun y W => ModAt s (fun g => B ≤ g) W b mb y) hrd3 ⟨ox3, oy3, oz3, HM3.out⟩ enters_sectionIn (.inl rfl) ?_ ?_ ?_).mono ?_
          · rintro W W' ⟨h1, h2, h3, h4⟩ hk
            exact ⟨h1.call hk, h2.call hk, h3.call hk, h4.call hk (by omega)⟩
          · rintro y W W' h1 hk
            exact h1.call hk (by omega)
          · rintro W j n' hrd ⟨h1, h2, h3, h4⟩ hsz
            exact sectionIn_any x hrd h4 hb hmb (by omega) HRD.out h1.blk.oneC.1 h2.blk.oneC.1 h3.blk.oneC.1
          rintro e w4 ⟨hx4, hok, herr⟩
          have hk4 := hk3.trans hx4
          have oz4 := oz3.kept hx4 (fun hh => hh.elim (fun e => by omega) (fun e => by omega))
          clear hx4 ox3 oy3 oz3 HM3 X0 Y0 X1 Y1 X2 Y2
          cases ho : withinM (contM m x) s n j with
          | error qp =>
            obtain ⟨q, p⟩ := qp
            have he := herr _ _ ho
            subst he
            exact ⟨rfl, OutS.err_mk (HSEC.out.trans (by rw [ho])) hk4⟩
          | ok xj =>
            obtain ⟨m1, j1⟩ := xj
            obtain ⟨u, rfl, ⟨rfl, hm4⟩, hrd4⟩ := hok _ _ ho
            have HS2 := hide (HSEC.out.trans (by rw [ho]))
            have HM4 := hide hm4
            clear hok herr ho hm4
            obtain ⟨X2, Y2⟩ := oz4.blk.oneC
            go_wp2_with fail
            refine (rank_any _ _).mono ?_
            rintro e w5 ⟨rfl, rfl⟩
            go_wp2
            go_ret
            exact OutS.ok_mk (x := (m1, rankN x)) (j := j1) HS2.out hk4 ⟨rfl, HM4.out⟩ hrd4
        · have HSEC : Hid (secM m last s n i = .error (2, i)) := by show _ = _; simp [secM, HO1.out, hr, h10, hcf]
          have HCF := hide hcf
          clear hcf hr h10
          go_wp2_with fail
          refine (rank_any _ _).mono ?_
          rintro e w2 ⟨rfl, rfl⟩
          go_wp2_with fail
          refine (rank10 _).mono ?_
          rintro e w2 ⟨rfl, rfl⟩
          go_wp2_with fail
          refine (needCodes_any _ HM2.out).mono ?_
          rintro e w2 ⟨⟨k2, rfl⟩, he⟩
          rw [if_neg HCF.out] at he
          subst he
          exact ⟨rfl, OutS.err_mk HSEC.out (hk2.drewN _)⟩
      · have t2 : decide ((10 : Int) < ((rankN x : Nat) : Int)) = false := by simp; omega
        have h10' : ¬ (10 : Int) < ((rankN x : Nat) : Int) := by omega
        have HSEC : Hid (secM m last s n i = match withinM (contM m x) s n j with | .error e => .error e | .ok (m1, j1) => .ok ((m1, rankN x), j1)) := by show _ = _; simp [secM, HO1.out, hr, h10]
        have HRD : Hid (Ready m x) := HUP.out.ready (by omega) (fun c => absurd c h10)
        clear hr h10
        go_wp2_with fail
        refine (rank_any _ _).mono ?_
        rintro e w2 ⟨rfl, rfl⟩
        go_wp2_with fail
        refine (rank10 _).mono ?_
        rintro e w2 ⟨rfl, rfl⟩
        have ox3 := ox2
        have oy3 := oy2
        have oz3 := oz2
        have hk3 := hk2
        have hrd3 := hrd2
        have HM3 := hide HM2.out
        have hsz3 := hk3.size
        clear X0 Y0 X1 Y1 X2 Y2 ox2 oy2 oz2 HM2 HM1 hk2 hrd2
        obtain ⟨X0, Y0⟩ := ox3.blk.oneC
        obtain ⟨X1, Y1⟩ := oy3.blk.oneC
        obtain ⟨X2, Y2⟩ := oz3.blk.oneC
        go_wp2_with fail
        refine (within_any (S := both b mb) (K := 32) (cap := #[.pointer (some ⟨w.heap.size, 0, none⟩), .pointer (some ⟨w.heap.size + 1, 0, none⟩), .pointer (some ⟨w1.heap.size, 0, none⟩)]) (contM m x)
          (fun W => OB W b w.heap.size [.pointer (some ⟨mb, 0, none⟩)] ∧ OB W b (w.heap.size + 1) [.pointer (some ⟨b, 0, none⟩)] ∧ OB W b w1.heap.size [.int .u8 (x : Nat)] ∧ ModAt s (fun g => B ≤ g) W b mb m)
          (fun y W => ModAt s (fun g => B ≤ g) W b mb y) hrd3 ⟨ox3, oy3, oz3, HM3.out⟩ enters_sectionIn (.inl rfl) ?_ ?_ ?_).mono ?_
        · rintro W W' ⟨h1, h2, h3, h4⟩ hk
          exact ⟨h1.call hk, h2.call hk, h3.call hk, h4.call hk (by omega)⟩
        · rintro y W W' h1 hk
          exact h1.call hk (by omega)
        · rintro W j n' hrd ⟨h1, h2, h3, h4⟩ hsz
          exact sectionIn_any x hrd h4 hb hmb (by omega) HRD.out h1.blk.oneC.1 h2.blk.oneC.1 h3.blk.oneC.1
        rintro e w4 ⟨hx4, hok, herr⟩
        have hk4 := hk3.trans hx4
        have oz4 := oz3.kept hx4 (fun hh => hh.elim (fun e => by omega) (fun e => by omega))
        clear hx4 ox3 oy3 oz3 HM3 X0 Y0 X1 Y1 X2 Y2
        cases ho : withinM (contM m x) s n j with
        | error qp =>
          obtain ⟨q, p⟩ := qp
          have he := herr _ _ ho
          subst he
          exact ⟨rfl, OutS.err_mk (HSEC.out.trans (by rw [ho])) hk4⟩
        | ok xj =>
          obtain ⟨m1, j1⟩ := xj
          obtain ⟨u, rfl, ⟨rfl, hm4⟩, hrd4⟩ := hok _ _ ho
          have HS2 := hide (HSEC.out.trans (by rw [ho]))
          have HM4 := hide hm4
          clear hok herr ho hm4
          obtain ⟨X2, Y2⟩ := oz4.blk.oneC
          go_wp2_with fail
          refine (rank_any _ _).mono ?_
          rintro e w5 ⟨rfl, rfl⟩
          go_wp2
          go_ret
          exact OutS.ok_mk (x := (m1, rankN x)) (j := j1) HS2.out hk4 ⟨rfl, HM4.out⟩ hrd4

end Go.Proofs.YtgkpkngchploiaaGreat
/-
  What a module keeps to, section by section.
-/
namespace Go.Proofs.YtgkpkngchploiaaGreat
open Go.RowKit

section
variable {α : Type} {tM : ByteArray → Nat → Nat → Except Err (α × Nat)} {s : ByteArray} {n : Nat} {P : α → Prop}

theorem listGo_all (ht : ∀ i x j, tM s n i = .ok (x, j) → P x) : ∀ (k : Nat) (acc : List α) (j : Nat) {xs : List α} {j' : Nat}, (∀ x ∈ acc, P x) → listGo tM s n k acc j = .ok (xs, j') → xs.length = acc.length + k ∧ ∀ x ∈ xs, P x
  | 0, acc, j, xs, j', ha, h => by simp [listGo] at h; obtain ⟨rfl, -⟩ := h; exact ⟨rfl, ha⟩
  | k + 1, acc, j, xs, j', ha, h => by
    unfold listGo at h
    cases ho : tM s n j with
    | error e => rw [ho] at h; cases h
    | ok xj =>
      obtain ⟨x, j2⟩ := xj
      rw [ho] at h
      have := listGo_all ht k (acc ++ [x]) j2 (by
        intro y hy
        rcases List.mem_append.1 hy with hy | hy
        · exact ha y hy
        · simp at hy; subst hy; exact ht _ _ _ ho) h
      refine ⟨?_, this.2⟩
      have h1 := this.1
      simp at h1; omega

theorem listM_all {most i : Nat} {xs : List α} {j : Nat} (ht : ∀ i x j, tM s n i = .ok (x, j) → P x) (h : listM most tM s n i = .ok (xs, j)) : xs.length ≤ most ∧ ∀ x ∈ xs, P x := by
  unfold listM at h
  cases ho : countM most s n i with
  | error e => rw [ho] at h; cases h
  | ok xj =>
    obtain ⟨k, j2⟩ := xj
    rw [ho] at h
    have hc := (countM_facts ho).1
    have := listGo_all ht k [] j2 (by simp) h
    refine ⟨?_, this.2⟩
    have h1 := this.1
    simp at h1; omega
end

theorem typeM_ins {s : ByteArray} {n i j : Nat} {t : Ty} (h : typeM s n i = .ok (t, j)) : t.ins.length ≤ 8 := by
  unfold typeM at h
  split at h
  · cases h
  · split at h
    · cases h
    · rename_i h1
      split at h
      · cases h
      · cases h; exact (listM_all (P := fun _ => True) (fun _ _ _ _ => trivial) h1).1

theorem localsGo_len {s : ByteArray} {n : Nat} : ∀ (k : Nat) (acc : List Nat) (j : Nat) {xs : List Nat} {j' : Nat}, acc.length ≤ 50 → localsGo s n k acc j = .ok (xs, j') → xs.length ≤ 50
  | 0, acc, j, xs, j', ha, h => by simp [localsGo] at h; obtain ⟨rfl, -⟩ := h; exact ha
  | k + 1, acc, j, xs, j', ha, h => by
    unfold localsGo at h
    cases ho : countM (50 - acc.length) s n j with
    | error e => rw [ho] at h; cases h
    | ok xj =>
      obtain ⟨c, j2⟩ := xj
      rw [ho] at h
      have hc := (countM_facts ho).1
      simp only at h
      cases hk : kindM s n j2 with
      | error e => rw [hk] at h; cases h
      | ok yj =>
        obtain ⟨kd, j3⟩ := yj
        rw [hk] at h
        exact localsGo_len k _ _ (by simp; omega) h

theorem codeM_locs {s : ByteArray} {n i j : Nat} {x : Cod} (h : codeM s n i = .ok (x, j)) : x.1.length ≤ 50 := by
  obtain ⟨n', j', h⟩ := withinM_get h
  unfold codeInM at h
  split at h
  · cases h
  · rename_i ls j2 h1
    split at h
    · cases h
    · cases h
      unfold localsM at h1
      split at h1
      · cases h1
      · exact localsGo_len _ _ _ (by simp) h1

theorem uM_num {s : ByteArray} {n i j : Nat} {x : Int × Nat} (h : uM s n i = .ok (x, j)) : 0 ≤ x.1 ∧ x.1 ≤ 4294967295 := by
  obtain ⟨v, a⟩ := x
  have := uM_facts h
  exact ⟨this.1, this.2.1⟩

theorem withinM_on {α : Type} {tM : ByteArray → Nat → Nat → Except Err (α × Nat)} {s : ByteArray} {n i : Nat} {x : α} {j : Nat} (h : withinM tM s n i = .ok (x, j)) : i < j := by
  unfold withinM at h
  split at h
  · cases h
  · rename_i v a j1 hu
    have := uM_facts hu
    split at h
    · split at h <;> cases h
    · split at h
      · cases h
      · split at h
        · cases h
        · cases h; omega

/-- Of what the contents of a section may be. -/
theorem contM_upto {m m1 : Mdl} {last x : Nat} {s : ByteArray} {n i j : Nat} (hu : Upto m last) (hr : last < rankN x) (hrd : Ready m x) (h : contM m x s n i = .ok (m1, j)) : Upto m1 (rankN x) := by
  obtain ⟨hf, h8, h10, h12⟩ := hu
  obtain ⟨k1, k2⟩ := hrd.known
  rcases (show x = 0 ∨ x = 1 ∨ x = 3 ∨ x = 4 ∨ x = 5 ∨ x = 6 ∨ x = 7 ∨ x = 8 ∨ x = 9 ∨ x = 10 ∨ x = 11 by omega) with rfl | rfl | rfl | rfl | rfl | rfl | rfl | rfl | rfl | rfl | rfl
  all_goals
    first
    | have hr : last < 1 := hr
    | skip
  · have h : namesM m s n i = .ok (m1, j) := h
    have hsame : m1.types = m.types ∧ m1.funcs = m.funcs ∧ m1.codes = m.codes := by
      unfold namesM at h
      split at h
      · cases h
      · split at h
        · cases h
        · rename_i ho
          obtain ⟨xs, rfl⟩ := part1_same ho
          rcases partM_get h with rfl | ⟨_, _, h⟩
          · exact ⟨rfl, rfl, rfl⟩
          · unfold localNamesM at h
            split at h
            · cases h
            · split at h
              · cases h
              · cases h; exact ⟨rfl, rfl, rfl⟩
    refine ⟨⟨?_, ?_, ?_, ?_, ?_⟩, fun c => absurd c (by decide), fun c => absurd c (by decide), fun c => absurd c (by decide)⟩
    · rw [hsame.1]; exact hf.types
    · rw [hsame.1]; exact hf.ins
    · rw [hsame.2.1]; exact hf.funcs
    · rw [hsame.2.1]; exact hf.nums
    · rw [hsame.2.2]; exact hf.locs
  · have h : cont1M m s n i = .ok (m1, j) := h
    unfold cont1M at h
    split at h
    · cases h
    · rename_i ho
      cases h
      have := listM_all (P := fun t : Ty => t.ins.length ≤ 8) (fun _ _ _ ht => typeM_ins ht) ho
      exact ⟨⟨this.1, this.2, hf.funcs, hf.nums, hf.locs⟩, fun _ => h8 (by omega), fun _ => h10 (by omega), fun _ => h12 (by omega)⟩
  · have hr : last < 3 := hr
    have h : cont3M m s n i = .ok (m1, j) := h
    unfold cont3M at h
    split at h
    · cases h
    · rename_i ho
      cases h
      have := listM_all (P := fun x : Int × Nat => 0 ≤ x.1 ∧ x.1 ≤ 4294967295) (fun _ _ _ ht => uM_num ht) ho
      exact ⟨⟨hf.types, hf.ins, this.1, this.2, hf.locs⟩, fun _ => h8 (by omega), fun _ => h10 (by omega), fun _ => h12 (by omega)⟩
  · have hr : last < 4 := hr
    have h : cont4M m s n i = .ok (m1, j) := h
    unfold cont4M at h
    split at h
    · cases h
    · cases h
      exact ⟨⟨hf.types, hf.ins, hf.funcs, hf.nums, hf.locs⟩, fun _ => h8 (by omega), fun _ => h10 (by omega), fun _ => h12 (by omega)⟩
  · have hr : last < 5 := hr
    have h : cont5M m s n i = .ok (m1, j) := h
    unfold cont5M at h
    split at h
    · cases h
    · cases h
      exact ⟨⟨hf.types, hf.ins, hf.funcs, hf.nums, hf.locs⟩, fun _ => h8 (by omega), fun _ => h10 (by omega), fun _ => h12 (by omega)⟩
  · have hr : last < 6 := hr
    have h : cont6M m s n i = .ok (m1, j) := h
    unfold cont6M at h
    split at h
    · cases h
    · cases h
      exact ⟨⟨hf.types, hf.ins, hf.funcs, hf.nums, hf.locs⟩, fun _ => h8 (by omega), fun _ => h10 (by omega), fun _ => h12 (by omega)⟩
  · have hr : last < 7 := hr
    have h : cont7M m s n i = .ok (m1, j) := h
    unfold cont7M at h
    split at h
    · cases h
    · cases h
      exact ⟨⟨hf.types, hf.ins, hf.funcs, hf.nums, hf.locs⟩, fun _ => h8 (by omega), fun _ => h10 (by omega), fun _ => h12 (by omega)⟩
  · have hr : last < 8 := hr
    have h : cont8M m s n i = .ok (m1, j) := h
    unfold cont8M at h
    split at h
    · cases h
    · cases h
      exact ⟨⟨hf.types, hf.ins, hf.funcs, hf.nums, hf.locs⟩, fun c => absurd c (by decide), fun _ => h10 (by omega), fun _ => h12 (by omega)⟩
  · have hr : last < 9 := hr
    have h : cont9M m s n i = .ok (m1, j) := h
    unfold cont9M at h
    split at h
    · cases h
    · cases h
      exact ⟨⟨hf.types, hf.ins, hf.funcs, hf.nums, hf.locs⟩, fun c => absurd c (by decide), fun _ => h10 (by omega), fun _ => h12 (by omega)⟩
  · have hr : last < 10 := hr
    have h : codesM m s n i = .ok (m1, j) := h
    unfold codesM at h
    split at h
    · cases h
    · split at h
      · split at h
        · cases h
        · rename_i ho
          cases h
          have := listGo_all (P := fun x : Cod => x.1.length ≤ 50) (fun _ _ _ ht => codeM_locs ht) _ _ _ (by simp) ho
          exact ⟨⟨hf.types, hf.ins, hf.funcs, hf.nums, this.2⟩, fun c => absurd c (by decide), fun c => absurd c (by decide), fun _ => h12 (by omega)⟩
      · cases h
  · have hr : last < 11 := hr
    have h : cont11M m s n i = .ok (m1, j) := h
    unfold cont11M at h
    split at h
    · cases h
    · cases h
      exact ⟨⟨hf.types, hf.ins, hf.funcs, hf.nums, hf.locs⟩, fun c => absurd c (by decide), fun c => absurd c (by decide), fun _ => h12 (by omega)⟩

theorem secM_upto {m m1 : Mdl} {last rk : Nat} {s : ByteArray} {n i j : Nat} (hu : Upto m last) (h : secM m last s n i = .ok ((m1, rk), j)) : Upto m1 rk ∧ last < rk ∧ i < j := by
  unfold secM at h
  cases ho : byteM s n i with
  | error e => rw [ho] at h; cases h
  | ok xj =>
    obtain ⟨x, j0⟩ := xj
    rw [ho] at h
    simp only at h
    have hj0 : i < j0 := by
      unfold byteM at ho
      split at ho
      · cases ho; omega
      · cases ho
    by_cases hr : rankN x ≤ last
    · rw [if_pos hr] at h; cases h
    · rw [if_neg hr] at h
      by_cases hc : 10 < rankN x ∧ m.codes.length ≠ m.funcs.length
      · rw [if_pos hc] at h; cases h
      · rw [if_neg hc] at h
        split at h
        · cases h
        · rename_i hw
          cases h
          have hon := withinM_on hw
          obtain ⟨n', j', ht⟩ := withinM_get hw
          have hrdy := hu.ready (x := x) (by omega) (fun c => by
            by_cases e : m.codes.length = m.funcs.length
            · exact e
            · exact absurd ⟨c, e⟩ hc)
          exact ⟨contM_upto hu (by omega) hrdy ht, by omega, by omega⟩

end Go.Proofs.YtgkpkngchploiaaGreat
/-
  Read.
-/
namespace Go.Proofs.YtgkpkngchploiaaGreat
open Go.RowKit

set_option maxHeartbeats 400000 in
theorem scanNew_any (s : ByteArray) (w : World) : Calls Tryz.prog 13 #[.string s] w fun e w' => e = .returned (.agg #[.string s, .int .i64 0, .int .i64 (s.size : Nat)]) ∧ Kept (fun _ => False) w w' := by
  go_enter Tryz.func13, Tryz.ntmps13
  go_wp2
  refine bodyPost_ret (v := .agg #[.string s, .int .i64 0, .int .i64 (s.size : Nat)]) ?_ rfl ⟨rfl, ?_⟩
  · simp [results, Tryz.results13, go_sem]
  · exact (Kept.refl _ _).alloc _

/-- Section by section. -/
def readGo (s : ByteArray) (n : Nat) : Nat → Mdl → Nat → Nat → Except Err (Mdl × Nat)
  | 0, _, _, i => .error (2, i)
  | k + 1, m, last, i =>
    if n ≤ i then (if m.codes.length = m.funcs.length then .ok (m, i) else .error (2, i))
    else match secM m last s n i with
      | .error e => .error e
      | .ok ((m1, rk), j) => readGo s n k m1 rk j

def readM (s : ByteArray) : Except Err (Mdl × Nat) :=
  match exactlyM [0, 97, 115, 109, 1, 0, 0, 0] s s.size 0 with
  | .error e => .error e
  | .ok (_, j) => readGo s s.size 13 Mdl.new 0 j

theorem Upto.new : Upto Mdl.new 0 := ⟨⟨by simp [Mdl.new], by simp [Mdl.new], by simp [Mdl.new], by simp [Mdl.new], by simp [Mdl.new]⟩, fun _ => rfl, fun _ => rfl, fun _ => rfl⟩

def Fields.nil : Fields := ⟨.slice none 0 0, .slice none 0 0, .slice none 0 0, .slice none 0 0, .slice none 0 0, .slice none 0 0, .slice none 0 0, .slice none 0 0, .slice none 0 0, .slice none 0 0, .slice none 0 0, .slice none 0 0⟩

theorem Holds12.new (s : ByteArray) (ok : Nat → Prop) (w : World) : Holds12 s ok w Fields.nil Mdl.new :=
  ⟨⟨[], Row.nil _ _ _ _, trivial⟩, Row.nil _ _ _ _, Row.nil _ _ _ _, Row.nil _ _ _ _, Row.nil _ _ _ _, Row.nil _ _ _ _, Row.nil _ _ _ _, ⟨[], Row.nil _ _ _ _, trivial⟩, ⟨[], Row.nil _ _ _ _, trivial⟩, Row.nil _ _ _ _, Row.nil _ _ _ _, ⟨[], Row.nil _ _ _ _, trivial⟩, fun _ => rfl, fun _ => rfl, fun _ => rfl⟩

theorem Rd.new {w : World} {s : ByteArray} {g : Nat} {t : TypeId} (hs : s.size ≤ 5000) (hg : g = w.heap.size) : Rd (w.alloc (.cells #[.string s, .int .i64 0, .int .i64 (s.size : Nat)] t)) g s 0 s.size := by
  subst hg
  obtain ⟨⟨a, b⟩, ⟨c, d⟩, ⟨e, f⟩⟩ := (Blk.new w #[.string s, .int .i64 0, .int .i64 (s.size : Nat)] t).three
  exact ⟨a, c, e, b, d, f, Nat.zero_le _, Nat.le_refl _, hs⟩

theorem readGo_end {s : ByteArray} {n k last i : Nat} {m : Mdl} (hk : 0 < k) (hi : n ≤ i) : readGo s n k m last i = if m.codes.length = m.funcs.length then .ok (m, i) else .error (2, i) := by
  obtain ⟨j, rfl⟩ : ∃ j, k = j + 1 := ⟨k - 1, by omega⟩
  simp [readGo, hi]

theorem readGo_err {s : ByteArray} {n k last i : Nat} {m : Mdl} {e : Err} (hk : 0 < k) (hi : i < n) (h : secM m last s n i = .error e) : readGo s n k m last i = .error e := by
  obtain ⟨j, rfl⟩ : ∃ j, k = j + 1 := ⟨k - 1, by omega⟩
  simp [readGo, h, show ¬ n ≤ i by omega]

theorem readGo_ok {s : ByteArray} {n k last i rk j2 : Nat} {m m1 : Mdl} (hk : 0 < k) (hi : i < n) (h : secM m last s n i = .ok ((m1, rk), j2)) : readGo s n k m last i = readGo s n (k - 1) m1 rk j2 := by
  obtain ⟨j, rfl⟩ : ∃ j, k = j + 1 := ⟨k - 1, by omega⟩
  simp [readGo, h, show ¬ n ≤ i by omega]

theorem secM_rank {m m1 : Mdl} {last rk : Nat} {s : ByteArray} {n i j : Nat} (h : secM m last s n i = .ok ((m1, rk), j)) : rk ≤ 12 := by
  unfold secM at h
  split at h
  · cases h
  · split at h
    · cases h
    · split at h
      · cases h
      · split at h
        · cases h
        · cases h; exact rankN_le _

/-- What Read leaves: the module, or the place where it gave up. -/
def ReadOut (s : ByteArray) (w : World) (e : Ending) (w' : World) : Prop :=
  Kept (fun _ => False) w w' ∧ (∀ m j, readM s = .ok (m, j) → ∃ b mb B, e = .returned (.pointer (some ⟨mb, 0, none⟩)) ∧ w.heap.size ≤ mb ∧ mb < B ∧ w.heap.size ≤ b ∧ b < B ∧ ModAt s (fun g => B ≤ g) w' b mb m) ∧ ∀ q p, readM s = .error (q, p) → e = gaveUp q p

theorem ReadOut.err {s : ByteArray} {w w' : World} {q p : Nat} (hr : readM s = .error (q, p)) (hk : Kept (fun _ => False) w w') : ReadOut s w (gaveUp q p) w' :=
  ⟨hk, fun m j h => by (rw [hr] at h; cases h), fun q' p' h => by rw [hr] at h; cases h; rfl⟩

theorem Kept.none_of {S : Nat → Prop} {w w' : World} (h : Kept S w w') (hs : ∀ k, k < w.heap.size → ¬ S k) : Kept (fun _ => False) w w' := h.mono (fun k hk hh => hs k hk hh)

set_option maxRecDepth 100000 in
set_option maxHeartbeats 1600000 in
theorem read_any (s : ByteArray) (w : World) (hs : s.size ≤ 5000) : Calls Tryz.prog 10 #[.string s] w (ReadOut s w) := by
  have hnot : ∀ (x : Bool) (w : World), (Op.unary .not (.bool x)).run Tryz.prog w = .ok (.bool (!x)) w := fun _ _ => rfl
  go_enter Tryz.func10, Tryz.ntmps10
  go_wp2_with fail
  refine (scanNew_any s _).mono ?_
  rintro e w1 ⟨rfl, hk1⟩
  have hsz1 := hk1.size
  go_wp2_with fail
  refine (exactly_any (Rd.new hs rfl) (by decide)).mono ?_
  rintro e w2 ⟨hx2, hok, herr⟩
  have hk2 : Kept (fun _ => False) w w2 := (hk1.alloc _).fresh hx2 (fun k hk (e : k = w1.heap.size) => by omega)
  have hsz2 := hx2.size
  have ht : tl { data := #[0, 97, 115, 109, 1, 0, 0, 0] } 0 = [0, 97, 115, 109, 1, 0, 0, 0] := by rfl
  rw [ht] at hok herr
  clear hx2 ht
  cases ho : exactlyM [0, 97, 115, 109, 1, 0, 0, 0] s s.size 0 with
  | error qp =>
    obtain ⟨q, p⟩ := qp
    have he := herr _ _ ho
    subst he
    exact ⟨rfl, ReadOut.err (by simp [readM, ho]) hk2⟩
  | ok xj =>
    obtain ⟨_, j0⟩ := xj
    obtain ⟨u, rfl, -, hrd2⟩ := hok _ _ ho
    have HM : Hid (readM s = readGo s s.size 13 Mdl.new 0 j0) := by show _ = _; simp [readM, ho]
    clear hok herr ho
    have hb2 := hrd2.lt
    generalize hbb : w1.heap.size = b at *
    have hm0 : ModAt s (fun g => w2.heap.size + 1 ≤ g) (w2.alloc (.cells #[.slice none 0 0, .slice none 0 0, .slice none 0 0, .slice none 0 0, .slice none 0 0, .slice none 0 0, .slice none 0 0, .slice none 0 0, .slice none 0 0, .slice none 0 0, .slice none 0 0, .slice none 0 0] 55)) b w2.heap.size Mdl.new :=
      ⟨Fields.nil, OB.new hb2 rfl, Holds12.new _ _ _⟩
    have HM0 := hide hm0
    clear hm0
    go_wp2
    go_loopw [5] (fun q wr => ∃ (k j last : Nat) (m : Mdl), last ≤ 12 ∧ 13 - last ≤ k ∧ q = .int .i64 (last : Nat) ∧ Rd wr b s j s.size ∧ Kept (fun _ => False) w wr ∧ ModAt s (fun g => w2.heap.size + 1 ≤ g) wr b w2.heap.size m ∧ w2.heap.size + 1 ≤ wr.heap.size ∧ Upto m last ∧ readM s = readGo s s.size k m last j) (fun q _ => 12 - (intOf q).toNat)
    case atStart => exact ⟨13, j0, 0, Mdl.new, by omega, by omega, rfl, hrd2.alloc _, hk2.alloc _, HM0.out, by simp, Upto.new, HM.out⟩
    case round =>
      obtain ⟨k, j, last, m, hl, hk, rfl, hrd, hkp, hm, hsz, hup, hme⟩ := hrel
      have HE := hide hme
      have HMD := hide hm
      have HUP := hide hup
      clear hme hm hup HM0 HM
      by_cases hlt : j < s.size
      · have hd : decide (s.size ≤ j) = false := by simp; omega
        go_wp2_with fail
        refine (done_any hrd).mono ?_
        rintro e w3 ⟨rfl, k3, rfl⟩
        have hrd3 := hrd.drewN k3
        have hkp3 := hkp.drewN k3
        have HM3 := hide (HMD.out.call (w' := wr.drewN k3) ((Kept.refl _ _).drewN _) (by omega))
        clear HMD
        go_wp2_with fail
        refine (section_any (B := w2.heap.size + 1) last hrd3 HM3.out (by omega) (by omega) hsz HUP.out).mono ?_
        rintro e w4 ⟨hx4, hok, herr⟩
        have hk4 : Kept (fun _ => False) w w4 := hkp3.fresh hx4 (fun i hi hh => hh.elim (fun e => by omega) (fun e => by have := hk2.size; omega))
        have hsz4 : w2.heap.size + 1 ≤ w4.heap.size := Nat.le_trans hsz hx4.size
        clear hx4
        cases ho : secM m last s s.size j with
        | error qp =>
          obtain ⟨q, p⟩ := qp
          have he := herr _ _ ho
          subst he
          exact ⟨rfl, ReadOut.err (HE.out.trans (readGo_err (by omega) hlt ho)) hk4⟩
        | ok xj =>
          obtain ⟨⟨m1, rk⟩, j2⟩ := xj
          obtain ⟨u, rfl, ⟨hv, hm4⟩, hrd4⟩ := hok _ _ ho
          subst hv
          obtain ⟨hu4, hlr, -⟩ := secM_upto HUP.out ho
          have hr12 := secM_rank ho
          have HH := hide (HE.out.trans (readGo_ok (by omega) hlt ho))
          have HM4 := hide hm4
          have HU4 := hide hu4
          clear hok herr ho hm4 hu4
          go_wp2
          go_roundw
          case rel => exact ⟨k - 1, j2, rk, m1, hr12, by omega, by go_num, hrd4, hk4, HM4.out, hsz4, HU4.out, HH.out⟩
          case measure => simp [intOf]; omega
      · have hd : decide (s.size ≤ j) = true := by simp; omega
        have hj := hrd.le
        have HEnd := hide (HE.out.trans (readGo_end (by omega) (by omega)))
        go_wp2_with fail
        refine (done_any hrd).mono ?_
        rintro e w3 ⟨rfl, k3, rfl⟩
        have hrd3 := hrd.drewN k3
        have hkp3 := hkp.drewN k3
        have HM3 := hide (HMD.out.call (w' := wr.drewN k3) ((Kept.refl _ _).drewN _) (by omega))
        go_wp2_with fail
        refine (at_any hrd3).mono ?_
        rintro e w4 ⟨rfl, rfl⟩
        go_wp2_with fail
        refine (needCodes_any _ HM3.out).mono ?_
        rintro e w4 ⟨⟨k4, rfl⟩, he⟩
        by_cases hc : m.codes.length = m.funcs.length
        · rw [if_pos hc] at he
          subst he
          have HR := hide (HEnd.out.trans (if_pos hc))
          clear hc HEnd
          go_wp2
          go_ret
          refine ⟨hkp.drewN _, fun m' j' h => ?_, fun q p h => by (rw [HR.out] at h; cases h)⟩
          rw [HR.out] at h
          cases h
          exact ⟨b, w2.heap.size, w2.heap.size + 1, rfl, hk2.size, by omega, by omega, by omega, HMD.out.call ((Kept.refl _ _).drewN _) (by omega)⟩
        · rw [if_neg hc] at he
          subst he
          exact ⟨rfl, ReadOut.err (HEnd.out.trans (if_neg hc)) (hkp3.drewN _)⟩

end Go.Proofs.YtgkpkngchploiaaGreat
/-
  Whether a module fits, in plain words: the stack of kinds, the blocks, each instruction.
-/
namespace Go.Proofs.YtgkpkngchploiaaGreat
open Go.RowKit

/-- A block that is gone through: its word, what it takes and gives, how many kinds lie below, whether nothing comes to what follows. -/
structure Blo where
  word : Nat
  takes : List Nat
  gives : List Nat
  floor : Nat
  cut : Bool

/-- A code that is gone through: its kinds (the top one last), its blocks (the innermost first), the place. -/
structure Bd where
  stack : List Nat
  blocks : List Blo
  at_ : Nat

def Blo.none : Blo := ⟨0, [], [], 0, false⟩

def Bd.inner (st : Bd) : Blo := st.blocks.headD Blo.none

def thereM (x : Int × Nat) (many : Nat) : Except Err Nat := if x.1 < (many : Int) then .ok x.1.toNat else .error (3, x.2)

def takeAnyM (bl : Blo) (at_ : Nat) (stk : List Nat) : Except Err (Nat × List Nat) :=
  if stk.length = bl.floor then (if bl.cut then .ok (0, stk) else .error (4, at_))
  else .ok (stk.getD (stk.length - 1) 0, stk.take (stk.length - 1))

def takeGo (bl : Blo) (at_ : Nat) (ks : List Nat) : Nat → List Nat → Except Err (List Nat)
  | 0, stk => .ok stk
  | i + 1, stk => match takeAnyM bl at_ stk with
    | .error e => .error e
    | .ok (got, stk') => if got ≠ ks.getD i 0 ∧ got ≠ 0 then .error (4, at_) else takeGo bl at_ ks i stk'

def takeM (st : Bd) (ks : List Nat) : Except Err Bd :=
  match takeGo st.inner st.at_ ks ks.length st.stack with
  | .error e => .error e
  | .ok stk => .ok { st with stack := stk }

def putM (st : Bd) (ks : List Nat) : Bd := { st with stack := st.stack ++ ks }

def cutOffM (st : Bd) : Bd := { st with stack := st.stack.take st.inner.floor, blocks := { st.inner with cut := true } :: st.blocks.tail }

def enterM (word : Nat) (t : Ty) (st : Bd) : Except Err Bd :=
  match takeM st t.ins with
  | .error e => .error e
  | .ok st1 => .ok { st1 with blocks := ⟨word, t.ins, t.outs, st1.stack.length, false⟩ :: st1.blocks, stack := st1.stack ++ t.ins }

def leaveM (st : Bd) : Except Err (Blo × Bd) :=
  match takeM st st.inner.gives with
  | .error e => .error e
  | .ok st1 => if st1.stack.length = st.inner.floor then .ok (st.inner, { st1 with blocks := st1.blocks.tail }) else .error (4, st.at_)

def labelTakesM (b : Blo) : List Nat := if b.word = 3 then b.takes else b.gives

def labelM (st : Bd) (x : Int × Nat) : Except Err (List Nat) :=
  match thereM x st.blocks.length with
  | .error e => .error e
  | .ok k => .ok (labelTakesM (st.blocks.getD k Blo.none))

def typeAtM (m : Mdl) (x : Int × Nat) : Except Err Ty :=
  match thereM x m.types.length with
  | .error e => .error e
  | .ok k => .ok (m.types.getD k ⟨[], []⟩)

def typeOfM (m : Mdl) (f : Nat) : Ty := m.types.getD (m.funcs.getD f (0, 0)).1.toNat ⟨[], []⟩

def blockTypeM (m : Mdl) (y : Beh) : Except Err Ty := if y.typed then typeAtM m y.num else .ok ⟨[], y.gives⟩

def callM (t : Ty) (st : Bd) : Except Err Bd :=
  match takeM st t.ins with
  | .error e => .error e
  | .ok st1 => .ok (putM st1 t.outs)

def checkBlockM (m : Mdl) (x : Nat) (y : Beh) (st : Bd) : Except Err Bd :=
  if x = 0 then .ok (cutOffM st)
  else if x = 2 ∨ x = 3 then
    match blockTypeM m y with
    | .error e => .error e
    | .ok t => enterM x t st
  else if x = 4 then
    match blockTypeM m y with
    | .error e => .error e
    | .ok t => match takeM st [127] with
      | .error e => .error e
      | .ok st1 => enterM 4 t st1
  else if x = 5 then
    match leaveM st with
    | .error e => .error e
    | .ok (left, st1) => enterM 5 ⟨left.takes, left.gives⟩ (putM st1 left.takes)
  else if x = 11 then
    match leaveM st with
    | .error e => .error e
    | .ok (left, st1) => if left.word = 4 ∧ left.takes ≠ left.gives then .error (4, st.at_) else .ok (putM st1 left.gives)
  else .ok st

/-- The labels, one after the other. -/
def labelsGo (st : Bd) : List (Int × Nat) → List (List Nat) → Except Err (List (List Nat))
  | [], acc => .ok acc
  | x :: xs, acc => match labelM st x with
    | .error e => .error e
    | .ok ks => labelsGo st xs (acc ++ [ks])

/-- Each of them looked at. -/
def lookGo (st : Bd) (last : List Nat) : List (List Nat) → Except Err Unit
  | [] => .ok ()
  | ks :: rest => if ks.length ≠ last.length then .error (4, st.at_) else
    match takeM st ks with
    | .error e => .error e
    | .ok _ => lookGo st last rest

def checkTableM (y : Beh) (st : Bd) : Except Err Bd :=
  match labelsGo st y.labels [] with
  | .error e => .error e
  | .ok others => match labelM st y.num with
    | .error e => .error e
    | .ok last => match takeM st [127] with
      | .error e => .error e
      | .ok st1 => match lookGo st1 last others with
        | .error e => .error e
        | .ok _ => match takeM st1 last with
          | .error e => .error e
          | .ok st2 => .ok (cutOffM st2)

def checkJumpM (m : Mdl) (x : Nat) (y : Beh) (st : Bd) : Except Err Bd :=
  if x = 12 then
    match labelM st y.num with
    | .error e => .error e
    | .ok ks => match takeM st ks with
      | .error e => .error e
      | .ok st1 => .ok (cutOffM st1)
  else if x = 13 then
    match labelM st y.num with
    | .error e => .error e
    | .ok ks => match takeM st [127] with
      | .error e => .error e
      | .ok st1 => match takeM st1 ks with
        | .error e => .error e
        | .ok st2 => .ok (putM st2 ks)
  else if x = 14 then checkTableM y st
  else if x = 15 then
    match takeM st (st.blocks.getD (st.blocks.length - 1) Blo.none).gives with
    | .error e => .error e
    | .ok st1 => .ok (cutOffM st1)
  else if x = 16 then
    match thereM y.num m.funcs.length with
    | .error e => .error e
    | .ok f => callM (typeOfM m f) st
  else if x = 17 then
    if m.tables.length = 0 then .error (3, st.at_) else
    match typeAtM m y.num with
    | .error e => .error e
    | .ok t => match takeM st [127] with
      | .error e => .error e
      | .ok st1 => callM t st1
  else .ok st

def takeTop (st : Bd) : Except Err (Nat × Bd) :=
  match takeAnyM st.inner st.at_ st.stack with
  | .error e => .error e
  | .ok (k, stk) => .ok (k, { st with stack := stk })

def checkSelectM (st : Bd) : Except Err Bd :=
  match takeM st [127] with
  | .error e => .error e
  | .ok st1 => match takeTop st1 with
    | .error e => .error e
    | .ok (second, st2) => match takeTop st2 with
      | .error e => .error e
      | .ok (first, st3) => if second ≠ 0 ∧ second ≠ (if first = 0 then second else first) then .error (4, st.at_) else .ok (putM st3 [if first = 0 then second else first])

def globalAtM (m : Mdl) (x : Int × Nat) : Except Err Glb :=
  match thereM x m.globals.length with
  | .error e => .error e
  | .ok k => .ok (m.globals.getD k ⟨0, false, ⟨0, 0, 0⟩⟩)

def checkLocalM (ls : List Nat) (x : Nat) (y : Beh) (st : Bd) : Except Err Bd :=
  match thereM y.num ls.length with
  | .error e => .error e
  | .ok k => match (if x = 32 then .ok st else takeM st [ls.getD k 0]) with
    | .error e => .error e
    | .ok st1 => if x = 33 then .ok st1 else .ok (putM st1 [ls.getD k 0])

def checkVariableM (m : Mdl) (ls : List Nat) (x : Nat) (y : Beh) (st : Bd) : Except Err Bd :=
  if x = 26 then
    match takeTop st with
    | .error e => .error e
    | .ok (_, st1) => .ok st1
  else if x = 27 then checkSelectM st
  else if x = 35 then
    match globalAtM m y.num with
    | .error e => .error e
    | .ok g => .ok (putM st [g.kind])
  else if x = 36 then
    match globalAtM m y.num with
    | .error e => .error e
    | .ok g => if g.set_ then takeM st [g.kind] else .error (4, st.at_)
  else checkLocalM ls x y st

def usualM (x : Nat) : Int := if x = 44 ∨ x = 45 ∨ x = 58 then 0 else if x = 41 ∨ x = 55 then 3 else 2

def loadM (x k : Nat) (y : Beh) (st : Bd) : Except Err Bd :=
  if usualM x < y.align then .error (4, st.at_) else
  match takeM st [127] with
  | .error e => .error e
  | .ok st1 => .ok (putM st1 [k])

def storeM (x k : Nat) (y : Beh) (st : Bd) : Except Err Bd :=
  if usualM x < y.align then .error (4, st.at_) else takeM st [127, k]

def checkMemoryM (m : Mdl) (x : Nat) (y : Beh) (st : Bd) : Except Err Bd :=
  if m.mems.length = 0 then .error (3, st.at_)
  else if x = 63 then .ok (putM st [127])
  else if x = 64 then
    match takeM st [127] with
    | .error e => .error e
    | .ok st1 => .ok (putM st1 [127])
  else if x = 41 then loadM x 126 y st
  else if x = 40 ∨ x = 44 ∨ x = 45 then loadM x 127 y st
  else if x = 55 then storeM x 126 y st
  else if x = 54 ∨ x = 58 then storeM x 127 y st
  else .ok st

def computeM (puts : Nat) (takes : List Nat) (st : Bd) : Except Err Bd :=
  match takeM st takes with
  | .error e => .error e
  | .ok st1 => .ok (putM st1 [puts])

def checkNumberM (x : Nat) (st : Bd) : Except Err Bd :=
  if x = 65 then .ok (putM st [127])
  else if x = 66 then .ok (putM st [126])
  else if x = 69 then computeM 127 [127] st
  else if x ≤ 79 then computeM 127 [127, 127] st
  else if x = 80 then computeM 127 [126] st
  else if x ≤ 90 then computeM 127 [126, 126] st
  else if x ≤ 105 then computeM 127 [127] st
  else if x ≤ 120 then computeM 127 [127, 127] st
  else if x ≤ 123 then computeM 126 [126] st
  else if x ≤ 138 then computeM 126 [126, 126] st
  else if x = 167 then computeM 127 [126] st
  else computeM 126 [127] st

def checkM (m : Mdl) (ls : List Nat) (x : Nat) (y : Beh) (st : Bd) : Except Err Bd :=
  if x ≤ 11 then checkBlockM m x y st
  else if x ≤ 17 then checkJumpM m x y st
  else if x ≤ 36 then checkVariableM m ls x y st
  else if x ≤ 64 then checkMemoryM m x y st
  else checkNumberM x st

/-- A code's instructions, from place j on. -/
def insFit (m : Mdl) (ls : List Nat) (s : ByteArray) (n : Nat) : Nat → List Nat → Nat → Bd → Except Err Unit
  | 0, _, _, _ => .error (2, n)
  | fuel + 1, os, j, st =>
    match byteM s n j with
    | .error e => .error e
    | .ok (x, j1) =>
      match (if x = 11 ∧ os = [] then .ok os else nestM os j x) with
      | .error e => .error e
      | .ok os' =>
        match behM j x s n j1 with
        | .error e => .error e
        | .ok (y, e) =>
          match checkM m ls x y { st with at_ := j } with
          | .error e => .error e
          | .ok st' => if x = 11 ∧ os = [] then .ok () else insFit m ls s n fuel os' e st'

def codeFit (s : ByteArray) (m : Mdl) (f : Nat) : Except Err Unit :=
  insFit m ((typeOfM m f).ins ++ (m.codes.getD f ([], 0, 0)).1) s (m.codes.getD f ([], 0, 0)).2.2 ((m.codes.getD f ([], 0, 0)).2.2 - (m.codes.getD f ([], 0, 0)).2.1) [] (m.codes.getD f ([], 0, 0)).2.1
    ⟨[], [⟨2, [], (typeOfM m f).outs, 0, false⟩], 0⟩

/-- One after the other, from the k-th on. -/
def eachM {α : Type} (f : α → Except Err Unit) : List α → Except Err Unit
  | [] => .ok ()
  | x :: xs => match f x with
    | .error e => .error e
    | .ok _ => eachM f xs

def thereU (many : Nat) (x : Int × Nat) : Except Err Unit := if x.1 < (many : Int) then .ok () else .error (3, x.2)

def limFit (most : Int) (x : Lim) : Except Err Unit := if most < x.least ∨ (x.has = true ∧ (x.most < x.least ∨ most < x.most)) then .error (5, x.at_) else .ok ()

def cstFit (k : Nat) (c : Cst) : Except Err Unit := if c.kind = k then .ok () else .error (4, c.at_)

def manyM (m : Mdl) (of_ : Nat) : Nat := if of_ = 0 then m.funcs.length else if of_ = 1 then m.tables.length else if of_ = 2 then m.mems.length else m.globals.length

def exportFit (m : Mdl) (i : Nat) : Except Err Unit :=
  match m.exports[i]? with
  | none => .ok ()
  | some e => if (m.exports.take i).any (fun e' => decide (e'.name.data.toList = e.name.data.toList)) then .error (6, e.nameAt) else thereU (manyM m e.of_) e.idx

def startFit (m : Mdl) (x : Int × Nat) : Except Err Unit :=
  match thereM x m.funcs.length with
  | .error e => .error e
  | .ok f => if (typeOfM m f).ins.length = 0 ∧ (typeOfM m f).outs.length = 0 then .ok () else .error (4, x.2)

def elemFit (m : Mdl) (e : Elm) : Except Err Unit :=
  if m.tables.length = 0 then .error (3, e.at_) else
  match cstFit 127 e.place with
  | .error q => .error q
  | .ok _ => eachM (thereU m.funcs.length) e.funcs

def dataFit (m : Mdl) (d : Dat) : Except Err Unit := if m.mems.length = 0 then .error (3, d.at_) else cstFit 127 d.place

def thenM (a b : Except Err Unit) : Except Err Unit := match a with
  | .error e => .error e
  | .ok _ => b

def fitM (s : ByteArray) (m : Mdl) : Except Err Unit :=
  thenM (eachM (thereU m.types.length) m.funcs) <|
  thenM (eachM (limFit 20) m.tables) <|
  thenM (eachM (limFit 16) m.mems) <|
  thenM (eachM (fun g => cstFit g.kind g.first) m.globals) <|
  thenM (eachM (exportFit m) (List.range m.exports.length)) <|
  thenM (eachM (startFit m) m.starts) <|
  thenM (eachM (elemFit m) m.elems) <|
  thenM (eachM (codeFit s m) (List.range m.codes.length)) <|
  eachM (dataFit m) m.data

end Go.Proofs.YtgkpkngchploiaaGreat
