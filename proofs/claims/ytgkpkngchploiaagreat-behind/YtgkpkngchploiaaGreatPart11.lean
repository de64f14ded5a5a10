/-
  Part 11 of the proof: Names7, Names8, Sec1, Cont1, Cont2, Cont3.
-/
import Derived.Test.YtgkpkngchploiaaGreatPart09
import Derived.Test.YtgkpkngchploiaaGreatPart10
/-
  takeNames$2, takePart.
-/
namespace Go.Proofs.YtgkpkngchploiaaGreat
open Go.RowKit

set_option maxHeartbeats 800000 in
theorem takeNamesB_any {w : World} {b mb B c0 c1 : Nat} {s : ByteArray} {i n : Nat} {m : Mdl} (h : Rd w b s i n) (hm : ModAt s (fun g => B ≤ g) w b mb m) (hb : b < B) (hmb : mb < B) (hB : B ≤ w.heap.size) (hf : Fair m) (hcl : m.nlocals = []) (hcf : m.codes.length = m.funcs.length)
    (q0 : w.cell? ⟨c0, 0, none⟩ = some (.pointer (some ⟨mb, 0, none⟩))) (q1 : w.cell? ⟨c1, 0, none⟩ = some (.pointer (some ⟨b, 0, none⟩))) :
    Calls Tryz.prog 78 #[.pointer (some ⟨c0, 0, none⟩), .pointer (some ⟨c1, 0, none⟩)] w (OutS (both b mb) w b s n (isMod s B b mb) (localNamesM m s n i)) := by
  go_enter Tryz.func78, Tryz.ntmps78
  go_wp2_with fail
  refine (takeLocalNames_any h hm hb hmb hB hf hcl hcf).mono ?_
  rintro e w1 ⟨hk, hok, herr⟩
  cases ho : localNamesM m s n i with
  | error qp =>
    obtain ⟨q, p⟩ := qp
    have he := herr _ _ ho
    subst he
    exact ⟨rfl, OutS.err_mk rfl hk⟩
  | ok xj =>
    obtain ⟨x, j⟩ := xj
    obtain ⟨u, rfl, hv, hrd⟩ := hok _ _ ho
    obtain ⟨rfl, hv⟩ := hv
    have HV := hide hv
    have HO := hide ho
    clear hv hok herr ho
    go_wp2
    go_end0
    exact OutS.ok_mk HO.out hk ⟨rfl, HV.out⟩ hrd

/-- A part of the names, if it stands there. -/
def partM {α : Type} (which : Nat) (x0 : α) (tM : ByteArray → Nat → Nat → Except Err (α × Nat)) (s : ByteArray) (n i : Nat) : Except Err (α × Nat) :=
  if i < n then (if bt s i = which then withinM tM s n (i + 1) else .ok (x0, i)) else .ok (x0, i)

set_option maxRecDepth 100000 in
set_option maxHeartbeats 1600000 in
theorem takePart_any {α : Type} {S : Nat → Prop} {w : World} {b : Nat} {s : ByteArray} {i n K : Nat} {cap : Array Value} (which : Nat) (x0 : α) (tM : ByteArray → Nat → Nat → Except Err (α × Nat)) (Pre : World → Prop) (Post : α → World → Prop)
    (h : Rd w b s i n) (hpre : Pre w) (hx0 : Post x0 w) (hc : Enters K) (hS : S b) (hPre : ∀ W W', Pre W → Kept (only b) W W' → Pre W') (hPost : ∀ x W W', Post x W → Kept (only b) W W' → Post x W')
    (ht : ∀ W j n', Rd W b s j n' → Pre W → w.heap.size ≤ W.heap.size → Calls Tryz.prog K cap W (OutS S W b s n' (isDone Post) (tM s n' j))) :
    Calls Tryz.prog 75 #[.pointer (some ⟨b, 0, none⟩), .int .u8 (which : Nat), .func (.func K) #[] cap] w (OutS S w b s n (isDone Post) (partM which x0 tM s n i)) := by
  have HT := hide ht
  have HPre := hide hPre
  have HPost := hide hPost
  have HP := hide hpre
  have HX := hide hx0
  clear ht hPre hPost hpre hx0
  have hob : ∀ (W W' : World), Kept (only b) W W' → Kept S W W' := fun W W' hk => hk.mono (fun k _ (e : k = b) => e ▸ hS)
  have HOb := hide hob
  clear hob
  go_enter Tryz.func75, Tryz.ntmps75
  by_cases hi : i < n
  · have hd : decide (n ≤ i) = false := by simp; omega
    go_wp2_with fail
    refine (done_any h).mono ?_
    rintro e w1 ⟨rfl, k1, rfl⟩
    go_wp2_with fail
    refine (peek_any (h.drewN k1)).mono ?_
    rintro e w2 ⟨hk2, hok, herr⟩
    obtain ⟨u, rfl, hv, hrd⟩ := hok _ _ (show peekM s n i = .ok (bt s i, i) by simp [peekM, hi])
    have hv : u = .int .u8 (bt s i : Nat) := hv
    subst hv
    have hk02 := ((Kept.refl (only b) w).drewN k1).trans hk2
    clear hok herr
    by_cases hw : bt s i = which
    · have t1 : (((bt s i : Nat) : Int) != ((which : Nat) : Int)) = false := by simp [hw]
      have HW : Hid (partM which x0 tM s n i = withinM tM s n (i + 1)) := by show _ = _; simp [partM, hi, hw]
      go_wp2_with fail
      refine (byte_any hrd).mono ?_
      rintro e w3 ⟨hk3, hok, herr⟩
      obtain ⟨u, rfl, hv, hrd3⟩ := hok _ _ (show byteM s n i = .ok (bt s i, i + 1) by simp [byteM, hi])
      have hk03 := hk02.trans hk3
      clear hok herr
      go_wp2_with fail
      refine (within_any (S := S) (cap := cap) tM Pre Post hrd3 (HPre.out _ _ HP.out hk03) hc hS HPre.out HPost.out (fun W j n' h1 h2 h3 => HT.out W j n' h1 h2 (Nat.le_trans hk03.size h3))).mono ?_
      rintro e w4 ⟨hk4, hok, herr⟩
      cases ho : withinM tM s n (i + 1) with
      | error qp =>
        obtain ⟨q, p⟩ := qp
        have he := herr _ _ ho
        subst he
        exact ⟨rfl, OutS.err_mk (HW.out.trans ho) ((HOb.out _ _ hk03).trans hk4)⟩
      | ok xj =>
        obtain ⟨x, j⟩ := xj
        obtain ⟨u, rfl, ⟨rfl, hp⟩, hrd4⟩ := hok _ _ ho
        have HHP := hide hp
        have HO := hide ho
        clear hp hok herr ho
        go_wp2
        go_end0
        exact OutS.ok_mk (HW.out.trans HO.out) ((HOb.out _ _ hk03).trans hk4) ⟨rfl, HHP.out⟩ hrd4
    · have t1 : (((bt s i : Nat) : Int) != ((which : Nat) : Int)) = true := by simp; omega
      have HW : Hid (partM which x0 tM s n i = .ok (x0, i)) := by show _ = _; simp [partM, hi, hw]
      go_wp2
      go_end0
      exact OutS.ok_mk HW.out (HOb.out _ _ hk02) ⟨rfl, HPost.out _ _ _ HX.out hk02⟩ hrd
  · have hd : decide (n ≤ i) = true := by simp; omega
    have HW : Hid (partM which x0 tM s n i = .ok (x0, i)) := by show _ = _; simp [partM, hi]
    go_wp2_with fail
    refine (done_any h).mono ?_
    rintro e w1 ⟨rfl, k1, rfl⟩
    go_wp2
    go_end0
    exact OutS.ok_mk HW.out ((Kept.refl _ _).drewN _) ⟨rfl, HPost.out _ _ _ HX.out ((Kept.refl _ _).drewN _)⟩ (h.drewN _)

end Go.Proofs.YtgkpkngchploiaaGreat
/-
  takeNames.
-/
namespace Go.Proofs.YtgkpkngchploiaaGreat
open Go.RowKit

/-- The section of names. -/
def namesM (m : Mdl) (s : ByteArray) (n i : Nat) : Except Err (Mdl × Nat) :=
  match exactlyM [4, 110, 97, 109, 101] s n i with
  | .error e => .error e
  | .ok (_, j) =>
    match partM 1 m (funcNamesM m) s n j with
    | .error e => .error e
    | .ok (m1, j2) => partM 2 m1 (localNamesM m1) s n j2

theorem withinM_get {α : Type} {tM : ByteArray → Nat → Nat → Except Err (α × Nat)} {s : ByteArray} {n i : Nat} {x : α} {j : Nat} (h : withinM tM s n i = .ok (x, j)) : ∃ n' j', tM s n' j' = .ok (x, j) := by
  unfold withinM at h
  split at h
  · cases h
  · split at h
    · split at h <;> cases h
    · split at h
      · cases h
      · rename_i ht
        split at h
        · cases h
        · cases h; exact ⟨_, _, ht⟩

theorem partM_get {α : Type} {which : Nat} {x0 : α} {tM : ByteArray → Nat → Nat → Except Err (α × Nat)} {s : ByteArray} {n i : Nat} {x : α} {j : Nat} (h : partM which x0 tM s n i = .ok (x, j)) : x = x0 ∨ ∃ n' j' , tM s n' j' = .ok (x, j) := by
  unfold partM at h
  split at h
  · split at h
    · exact .inr (withinM_get h)
    · cases h; exact .inl rfl
  · cases h; exact .inl rfl

theorem funcNamesM_same {m m1 : Mdl} {s : ByteArray} {n i j : Nat} (h : funcNamesM m s n i = .ok (m1, j)) : ∃ xs, m1 = { m with nfuncs := xs } := by
  unfold funcNamesM at h
  split at h
  · cases h
  · cases h; exact ⟨_, rfl⟩

theorem part1_same {m m1 : Mdl} {s : ByteArray} {n i j : Nat} (h : partM 1 m (funcNamesM m) s n i = .ok (m1, j)) : ∃ xs, m1 = { m with nfuncs := xs } := by
  rcases partM_get h with rfl | ⟨_, _, h⟩
  · exact ⟨m1.nfuncs, rfl⟩
  · exact funcNamesM_same h

theorem enters_takeNamesA : Enters 76 := enters_of Tryz.func76 (by kernel_rfl) (by kernel_rfl)
theorem enters_takeNamesB : Enters 78 := enters_of Tryz.func78 (by kernel_rfl) (by kernel_rfl)

set_option maxRecDepth 100000 in
set_option maxHeartbeats 3200000 in
theorem takeNames_any {w : World} {b mb B : Nat} {s : ByteArray} {i n : Nat} {m : Mdl} (h : Rd w b s i n) (hm : ModAt s (fun g => B ≤ g) w b mb m) (hb : b < B) (hmb : mb < B) (hB : B ≤ w.heap.size) (hf : Fair m) (hcl : m.nlocals = []) (hcf : m.codes.length = m.funcs.length) :
    Calls Tryz.prog 58 #[.pointer (some ⟨mb, 0, none⟩), .pointer (some ⟨b, 0, none⟩)] w (OutS (both b mb) w b s n (isMod s B b mb) (namesM m s n i)) := by
  have hmf : ∀ (fn : Fn) (first cap : Array Value) (w : World), (Instr.makeFunc fn first cap).run Tryz.prog w = .ok (.func fn first cap) w := fun _ _ _ _ => rfl
  have hbw := h.lt
  have HF := hide hf
  clear hf
  go_enter Tryz.func58, Tryz.ntmps58
  go_wp2_with fail
  have hm0 := (hm.call (w' := w.alloc (.cells #[.pointer (some ⟨mb, 0, none⟩)] 29)) ((Kept.refl _ _).alloc _) (by omega)).call (w' := (w.alloc (.cells #[.pointer (some ⟨mb, 0, none⟩)] 29)).alloc (.cells #[.pointer (some ⟨b, 0, none⟩)] 57)) ((Kept.refl _ _).alloc _) (by omega)
  have ox0 := (OB.new (b := b) (g := w.heap.size) (c := #[.pointer (some ⟨mb, 0, none⟩)]) (t := 29) hbw rfl).alloc (.cells #[.pointer (some ⟨b, 0, none⟩)] 57)
  have oy0 := OB.new (w := w.alloc (.cells #[.pointer (some ⟨mb, 0, none⟩)] 29)) (b := b) (g := w.heap.size + 1) (c := #[.pointer (some ⟨b, 0, none⟩)]) (t := 57) (by simp; omega) (by simp)
  have hk0 : Kept (both b mb) w ((w.alloc (.cells #[.pointer (some ⟨mb, 0, none⟩)] 29)).alloc (.cells #[.pointer (some ⟨b, 0, none⟩)] 57)) := ((Kept.refl _ w).alloc _).alloc _
  refine (exactly_any ((h.alloc _).alloc _) (by decide)).mono ?_
  rintro e w1 ⟨hx1, hok, herr⟩
  have hk1 := hk0.trans hx1.both_of
  have hm1 := hm0.call hx1 (by omega)
  have ox1 := ox0.call hx1
  have oy1 := oy0.call hx1
  have ht : tl { data := #[4, 110, 97, 109, 101] } 0 = [4, 110, 97, 109, 101] := by rfl
  rw [ht] at hok herr
  clear hx1 hk0 hm0 ox0 oy0 hm ht
  cases ho : exactlyM [4, 110, 97, 109, 101] s n i with
  | error qp =>
    obtain ⟨q, p⟩ := qp
    have he := herr _ _ ho
    subst he
    exact ⟨rfl, OutS.err_mk (by simp [namesM, ho]) hk1⟩
  | ok xj =>
    obtain ⟨_, j1⟩ := xj
    obtain ⟨u, rfl, -, hrd1⟩ := hok _ _ ho
    have HO1 := hide ho
    clear hok herr ho
    have hsz1 := hk1.size
    have HM1 := hide hm1
    clear hm1
    obtain ⟨X0, Y0⟩ := ox1.blk.oneC
    obtain ⟨X1, Y1⟩ := oy1.blk.oneC
    go_wp2_with fail
    refine (takePart_any (S := both b mb) (K := 76) (cap := #[.pointer (some ⟨w.heap.size + 1, 0, none⟩), .pointer (some ⟨w.heap.size, 0, none⟩)]) 1 m (funcNamesM m)
      (fun W => OB W b w.heap.size [.pointer (some ⟨mb, 0, none⟩)] ∧ OB W b (w.heap.size + 1) [.pointer (some ⟨b, 0, none⟩)] ∧ ModAt s (fun g => B ≤ g) W b mb m)
      (fun x W => ModAt s (fun g => B ≤ g) W b mb x) hrd1 ⟨ox1, oy1, HM1.out⟩ HM1.out enters_takeNamesA (.inl rfl) ?_ ?_ ?_).mono ?_
    · rintro W W' ⟨h1, h2, h3⟩ hk
      exact ⟨h1.call hk, h2.call hk, h3.call hk (by omega)⟩
    · rintro x W W' h1 hk
      exact h1.call hk (by omega)
    · rintro W j n' hrd ⟨h1, h2, h3⟩ hsz
      exact takeNamesA_any hrd h3 hb hmb (by omega) HF.out.funcs (by omega) h2.blk.oneC.1 h1.blk.oneC.1
    rintro e w2 ⟨hx2, hok, herr⟩
    have hk2 := hk1.trans hx2
    have ox2 := ox1.kept hx2 (fun hh => hh.elim (fun e => by omega) (fun e => by omega))
    have oy2 := oy1.kept hx2 (fun hh => hh.elim (fun e => by omega) (fun e => by omega))
    clear hx2 ox1 oy1 HM1 X0 Y0 X1 Y1
    cases ho : partM 1 m (funcNamesM m) s n j1 with
    | error qp =>
      obtain ⟨q, p⟩ := qp
      have he := herr _ _ ho
      subst he
      exact ⟨rfl, OutS.err_mk (by simp [namesM, HO1.out, ho]) hk2⟩
    | ok xj =>
      obtain ⟨m1, j2⟩ := xj
      obtain ⟨u, rfl, ⟨rfl, hm2⟩, hrd2⟩ := hok _ _ ho
      have HO2 := hide ho
      obtain ⟨xs, hm1⟩ := part1_same ho
      have hf1 : Fair m1 := by subst hm1; exact ⟨HF.out.types, HF.out.ins, HF.out.funcs, HF.out.nums, HF.out.locs⟩
      have hcl1 : m1.nlocals = [] := by subst hm1; exact hcl
      have hcf1 : m1.codes.length = m1.funcs.length := by subst hm1; exact hcf
      have HF1 := hide hf1
      clear hok herr ho hm1 hf1
      have hsz2 := hk2.size
      have HM2 := hide hm2
      clear hm2
      obtain ⟨X0, Y0⟩ := ox2.blk.oneC
      obtain ⟨X1, Y1⟩ := oy2.blk.oneC
      go_wp2_with fail
      refine (takePart_any (S := both b mb) (K := 78) (cap := #[.pointer (some ⟨w.heap.size, 0, none⟩), .pointer (some ⟨w.heap.size + 1, 0, none⟩)]) 2 m1 (localNamesM m1)
        (fun W => OB W b w.heap.size [.pointer (some ⟨mb, 0, none⟩)] ∧ OB W b (w.heap.size + 1) [.pointer (some ⟨b, 0, none⟩)] ∧ ModAt s (fun g => B ≤ g) W b mb m1)
        (fun x W => ModAt s (fun g => B ≤ g) W b mb x) hrd2 ⟨ox2, oy2, HM2.out⟩ HM2.out enters_takeNamesB (.inl rfl) ?_ ?_ ?_).mono ?_
      · rintro W W' ⟨h1, h2, h3⟩ hk
        exact ⟨h1.call hk, h2.call hk, h3.call hk (by omega)⟩
      · rintro x W W' h1 hk
        exact h1.call hk (by omega)
      · rintro W j n' hrd ⟨h1, h2, h3⟩ hsz
        exact takeNamesB_any hrd h3 hb hmb (by omega) HF1.out hcl1 hcf1 h1.blk.oneC.1 h2.blk.oneC.1
      rintro e w3 ⟨hx3, hok, herr⟩
      have hk3 := hk2.trans hx3
      clear hx3 ox2 oy2 HM2 X0 Y0 X1 Y1
      cases ho : partM 2 m1 (localNamesM m1) s n j2 with
      | error qp =>
        obtain ⟨q, p⟩ := qp
        have he := herr _ _ ho
        subst he
        exact ⟨rfl, OutS.err_mk (by simp [namesM, HO1.out, HO2.out, ho]) hk3⟩
      | ok xj =>
        obtain ⟨m2, j3⟩ := xj
        obtain ⟨u, rfl, ⟨rfl, hm3⟩, hrd3⟩ := hok _ _ ho
        have HO3 := hide ho
        have HM3 := hide hm3
        clear hok herr ho hm3
        go_wp2
        go_end0
        exact OutS.ok_mk (by simp [namesM, HO1.out, HO2.out, HO3.out]) hk3 ⟨rfl, HM3.out⟩ hrd3

end Go.Proofs.YtgkpkngchploiaaGreat
/-
  rank, needCodes.
-/
namespace Go.Proofs.YtgkpkngchploiaaGreat
open Go.RowKit

/-- How far behind a section stands. -/
def rankN (x : Nat) : Nat := if x = 0 then 12 else if x = 2 ∨ 11 < x then 0 else x

set_option maxHeartbeats 800000 in
theorem rank_any (x : Nat) (w : World) : Calls Tryz.prog 29 #[.int .u8 (x : Nat)] w fun e w' => e = .returned (.int .i64 (rankN x : Nat)) ∧ w' = w := by
  by_cases h0 : x = 0
  · subst h0
    go_enter Tryz.func29, Tryz.ntmps29
    go_wp2
    go_ret
    exact ⟨rfl, rfl⟩
  · have t0 : ((x : Int) == 0) = false := by simp; omega
    by_cases h1 : x = 2
    · subst h1
      go_enter Tryz.func29, Tryz.ntmps29
      go_wp2
      go_ret
      exact ⟨rfl, rfl⟩
    · have t1 : ((x : Int) == 2) = false := by simp; omega
      by_cases h2 : 11 < x
      · have t2 : decide ((11 : Int) < (x : Int)) = true := by simp; omega
        have HR : Hid (rankN x = 0) := by show _ = _; simp [rankN, h0, h2]
        clear h0 h1 h2
        go_enter Tryz.func29, Tryz.ntmps29
        go_wp2
        go_ret
        exact ⟨by rw [HR.out]; rfl, rfl⟩
      · have t2 : decide ((11 : Int) < (x : Int)) = false := by simp; omega
        have HR : Hid (rankN x = x) := by show _ = _; simp [rankN, h0, h1, h2]
        have hx : (x : Int) ≤ 11 := by omega
        clear h0 h1 h2
        go_enter Tryz.func29, Tryz.ntmps29
        go_wp2
        go_ret
        exact ⟨by rw [HR.out]; rfl, rfl⟩

set_option maxHeartbeats 800000 in
theorem needCodes_any {w : World} {b mb : Nat} {s : ByteArray} {ok : Nat → Prop} {m : Mdl} (at_ : Int) (hm : ModAt s ok w b mb m) :
    Calls Tryz.prog 17 #[.pointer (some ⟨mb, 0, none⟩), .int .i64 at_] w fun e w' => (∃ k, w' = w.drewN k) ∧ e = if m.codes.length = m.funcs.length then .returned (.tuple #[]) else gaveUp 2 at_ := by
  obtain ⟨f, oM, hH⟩ := hm
  obtain ⟨F1, G1⟩ := oM.blk.twelve.1.2.1
  obtain ⟨F8, G8⟩ := oM.blk.twelve.2.2.2.1
  obtain ⟨p1, c1, hf1⟩ := Row.shape hH.h1
  obtain ⟨css, hr8, -⟩ := hH.h8
  obtain ⟨p8, c8, hf8⟩ := Row.shape hr8
  rw [hf1] at F1
  rw [hf8] at F8
  clear hH hr8 oM
  by_cases he : m.codes.length = m.funcs.length
  · rw [if_pos he]
    rw [he] at F8
    have t1 : (((m.funcs.length : Nat) : Int) != ((m.funcs.length : Nat) : Int)) = false := by simp
    clear he
    go_enter Tryz.func17, Tryz.ntmps17
    go_wp2
    go_quiet (fail)
    go_wp2
    go_end0
    exact ⟨⟨_, rfl⟩, rfl⟩
  · rw [if_neg he]
    have t1 : (((m.codes.length : Nat) : Int) != ((m.funcs.length : Nat) : Int)) = true := by simp; omega
    go_enter Tryz.func17, Tryz.ntmps17
    go_wp2
    go_quiet (fail)
    go_wp2_with fail
    refine (refuse_any _ _).mono ?_
    rintro e w3 ⟨rfl, rfl⟩
    exact ⟨rfl, ⟨_, rfl⟩, rfl⟩

end Go.Proofs.YtgkpkngchploiaaGreat
/-
  content: the sections that are lists.
-/
namespace Go.Proofs.YtgkpkngchploiaaGreat
open Go.RowKit

/-- Blocks from here on lie from there on. -/
theorem isLst.toB {α : Type} {E : TypeId} {size : Nat} {El : (Nat → Prop) → α → World → List Value → Prop} {xs : List α} {w : World} {v : Value} {A B : Nat} (h : isLst E size El (fun g => A ≤ g) xs w v) (hB : B ≤ A)
    (he : ∀ x cs, El (fun g => A ≤ g) x w cs → El (fun g => B ≤ g) x w cs) : isLst E size El (fun g => B ≤ g) xs w v := by
  obtain ⟨css, h1, h2⟩ := h
  exact ⟨css, Row.mono h1 (fun g _ hg => Nat.le_trans hB hg), h2.to (fun x cs hh => ⟨he x cs hh.1, hh.2⟩)⟩

theorem elTy.mono {ok ok' : Nat → Prop} {w : World} {x : Ty} {cs : List Value} (h : elTy ok x w cs) (hm : ∀ g, g < w.heap.size → ok g → ok' g) : elTy ok' x w cs := by
  obtain ⟨vi, vo, e, a, c⟩ := h
  exact ⟨vi, vo, e, Row.mono a hm, Row.mono c hm⟩

theorem elElm.mono {ok ok' : Nat → Prop} {w : World} {x : Elm} {cs : List Value} (h : elElm ok x w cs) (hm : ∀ g, g < w.heap.size → ok g → ok' g) : elElm ok' x w cs := by
  obtain ⟨vl, e, a⟩ := h
  exact ⟨vl, e, Row.mono a hm⟩

theorem enters_takeType : Enters 44 := enters_of Tryz.func44 (by kernel_rfl) (by kernel_rfl)
theorem enters_takeTable : Enters 47 := enters_of Tryz.func47 (by kernel_rfl) (by kernel_rfl)
theorem enters_takeLimits : Enters 48 := enters_of Tryz.func48 (by kernel_rfl) (by kernel_rfl)
theorem enters_takeGlobal : Enters 50 := enters_of Tryz.func50 (by kernel_rfl) (by kernel_rfl)
theorem enters_takeExport : Enters 52 := enters_of Tryz.func52 (by kernel_rfl) (by kernel_rfl)
theorem enters_takeElement : Enters 54 := enters_of Tryz.func54 (by kernel_rfl) (by kernel_rfl)
theorem enters_takeData : Enters 57 := enters_of Tryz.func57 (by kernel_rfl) (by kernel_rfl)

def cont1M (m : Mdl) (s : ByteArray) (n i : Nat) : Except Err (Mdl × Nat) :=
  match listM 20 typeM s n i with
  | .error e => .error e
  | .ok (xs, j) => .ok ({ m with types := xs }, j)

set_option maxRecDepth 100000 in
set_option maxHeartbeats 1600000 in
theorem content1_any {w : World} {b mb B : Nat} {s : ByteArray} {i n : Nat} {m : Mdl} (h : Rd w b s i n) (hm : ModAt s (fun g => B ≤ g) w b mb m) (hb : b < B) (hmb : mb < B) (hB : B ≤ w.heap.size) :
    Calls Tryz.prog 33 #[.pointer (some ⟨mb, 0, none⟩), .pointer (some ⟨b, 0, none⟩), .int .u8 1] w (OutS (both b mb) w b s n (isMod s B b mb) (cont1M m s n i)) := by
  obtain ⟨f, oM, hH⟩ := hm
  have HH := hide hH
  clear hH
  go_enter Tryz.func33, Tryz.ntmps33
  go_wp2_with fail
  refine (listType_any 20 44 typeM h (by omega) enters_takeType (fun w1 j hj => takeType_any hj)).mono ?_
  rintro e w1 ⟨hx1, hok, herr⟩
  have hk1 : Kept (both b mb) w w1 := hx1.both_of
  have oM1 := oM.call hx1
  clear hx1 oM
  cases ho : listM 20 typeM s n i with
  | error qp =>
    obtain ⟨q, p⟩ := qp
    have he := herr _ _ ho
    subst he
    exact ⟨rfl, OutS.err_mk (by simp [cont1M, ho]) hk1⟩
  | ok xj =>
    obtain ⟨x, j⟩ := xj
    obtain ⟨u, rfl, hv, hrd⟩ := hok _ _ ho
    have hsh : ∃ p c, u = .slice p x.length c := by obtain ⟨css, hr, -⟩ := hv; exact Row.shape hr
    obtain ⟨px, cx, rfl⟩ := hsh
    have HO := hide ho
    have HV := hide hv
    clear hok herr ho hv
    obtain ⟨F, G⟩ := oM1.blk.twelve.1.1
    go_wp2
    go_end0
    have hmw := oM1.lt
    have hk2 := hk1.own2 (o := 0) (.slice px x.length cx)
    have hk0 := HH.out.kept hk2 (fun g _ hg hh => hh.elim (fun e => by omega) (fun e => by omega))
    have hI := oM1.set 0 (.slice px x.length cx)
    have hv := HV.out
    refine OutS.ok_mk (x := { m with types := x }) (j := j) (by simp [cont1M, HO.out]) hk2 ⟨rfl, { f with v0 := .slice px x.length cx }, hI, ?_⟩ (hrd.set_other oM1.ne _)
    have hnew := hv.kept (S := only mb) (w' := w1.setCell ⟨mb, 0, none⟩ (.slice px x.length cx)) ((Kept.refl _ _).own _) (fun g _ hg (e : g = mb) => by have hg : w.heap.size ≤ g := hg; omega) (fun y cs hy => hy.kept (S := only mb) ((Kept.refl _ _).own _) (fun g _ hg (e : g = mb) => by have hg : w.heap.size ≤ g := hg; omega))
    have hnew := hnew.toB (B := B) (by omega) (fun y cs hy => hy.mono (fun g _ hg => by have hg : w.heap.size ≤ g := hg; omega))
    exact ⟨hnew, hk0.h1, hk0.h2, hk0.h3, hk0.h4, hk0.h5, hk0.h6, hk0.h7, hk0.h8, hk0.h9, hk0.h10, hk0.h11, hk0.nil6, hk0.nil8, hk0.nil11⟩

def cont3M (m : Mdl) (s : ByteArray) (n i : Nat) : Except Err (Mdl × Nat) :=
  match listM 20 uM s n i with
  | .error e => .error e
  | .ok (xs, j) => .ok ({ m with funcs := xs }, j)

set_option maxRecDepth 100000 in
set_option maxHeartbeats 1600000 in
theorem content3_any {w : World} {b mb B : Nat} {s : ByteArray} {i n : Nat} {m : Mdl} (h : Rd w b s i n) (hm : ModAt s (fun g => B ≤ g) w b mb m) (hb : b < B) (hmb : mb < B) (hB : B ≤ w.heap.size) :
    Calls Tryz.prog 33 #[.pointer (some ⟨mb, 0, none⟩), .pointer (some ⟨b, 0, none⟩), .int .u8 3] w (OutS (both b mb) w b s n (isMod s B b mb) (cont3M m s n i)) := by
  obtain ⟨f, oM, hH⟩ := hm
  have HH := hide hH
  clear hH
  go_enter Tryz.func33, Tryz.ntmps33
  go_wp2_with fail
  refine (listNumber_any 20 42 uM h (by omega) enters_U (fun w1 j hj => u_any hj)).mono ?_
  rintro e w1 ⟨hx1, hok, herr⟩
  have hk1 : Kept (both b mb) w w1 := hx1.both_of
  have oM1 := oM.call hx1
  clear hx1 oM
  cases ho : listM 20 uM s n i with
  | error qp =>
    obtain ⟨q, p⟩ := qp
    have he := herr _ _ ho
    subst he
    exact ⟨rfl, OutS.err_mk (by simp [cont3M, ho]) hk1⟩
  | ok xj =>
    obtain ⟨x, j⟩ := xj
    obtain ⟨u, rfl, hv, hrd⟩ := hok _ _ ho
    obtain ⟨px, cx, rfl⟩ := Row.shape hv
    have HO := hide ho
    have HV := hide hv
    clear hok herr ho hv
    obtain ⟨F, G⟩ := oM1.blk.twelve.1.2.1
    go_wp2
    go_end0
    have hmw := oM1.lt
    have hk2 := hk1.own2 (o := 1) (.slice px x.length cx)
    have hk0 := HH.out.kept hk2 (fun g _ hg hh => hh.elim (fun e => by omega) (fun e => by omega))
    have hI := oM1.set 1 (.slice px x.length cx)
    have hv := HV.out
    refine OutS.ok_mk (x := { m with funcs := x }) (j := j) (by simp [cont3M, HO.out]) hk2 ⟨rfl, { f with v1 := .slice px x.length cx }, hI, ?_⟩ (hrd.set_other oM1.ne _)
    have hnew := Row.mono (Row.other hv (g := mb) (o := 1) (fun k hk => by have hk : w.heap.size ≤ k := hk; omega) (.slice px x.length cx)) (ok' := fun g => B ≤ g) (fun g _ hg => by have hg : w.heap.size ≤ g := hg; omega)
    exact ⟨hk0.h0, hnew, hk0.h2, hk0.h3, hk0.h4, hk0.h5, hk0.h6, hk0.h7, hk0.h8, hk0.h9, hk0.h10, hk0.h11, hk0.nil6, hk0.nil8, hk0.nil11⟩

def cont4M (m : Mdl) (s : ByteArray) (n i : Nat) : Except Err (Mdl × Nat) :=
  match listM 1 tableM s n i with
  | .error e => .error e
  | .ok (xs, j) => .ok ({ m with tables := xs }, j)

set_option maxRecDepth 100000 in
set_option maxHeartbeats 1600000 in
theorem content4_any {w : World} {b mb B : Nat} {s : ByteArray} {i n : Nat} {m : Mdl} (h : Rd w b s i n) (hm : ModAt s (fun g => B ≤ g) w b mb m) (hb : b < B) (hmb : mb < B) (hB : B ≤ w.heap.size) :
    Calls Tryz.prog 33 #[.pointer (some ⟨mb, 0, none⟩), .pointer (some ⟨b, 0, none⟩), .int .u8 4] w (OutS (both b mb) w b s n (isMod s B b mb) (cont4M m s n i)) := by
  obtain ⟨f, oM, hH⟩ := hm
  have HH := hide hH
  clear hH
  go_enter Tryz.func33, Tryz.ntmps33
  go_wp2_with fail
  refine (listLimits_any 1 47 tableM h (by omega) enters_takeTable (fun w1 j hj => takeTable_any hj)).mono ?_
  rintro e w1 ⟨hx1, hok, herr⟩
  have hk1 : Kept (both b mb) w w1 := hx1.both_of
  have oM1 := oM.call hx1
  clear hx1 oM
  cases ho : listM 1 tableM s n i with
  | error qp =>
    obtain ⟨q, p⟩ := qp
    have he := herr _ _ ho
    subst he
    exact ⟨rfl, OutS.err_mk (by simp [cont4M, ho]) hk1⟩
  | ok xj =>
    obtain ⟨x, j⟩ := xj
    obtain ⟨u, rfl, hv, hrd⟩ := hok _ _ ho
    obtain ⟨px, cx, rfl⟩ := Row.shape hv
    have HO := hide ho
    have HV := hide hv
    clear hok herr ho hv
    obtain ⟨F, G⟩ := oM1.blk.twelve.1.2.2.1
    go_wp2
    go_end0
    have hmw := oM1.lt
    have hk2 := hk1.own2 (o := 2) (.slice px x.length cx)
    have hk0 := HH.out.kept hk2 (fun g _ hg hh => hh.elim (fun e => by omega) (fun e => by omega))
    have hI := oM1.set 2 (.slice px x.length cx)
    have hv := HV.out
    refine OutS.ok_mk (x := { m with tables := x }) (j := j) (by simp [cont4M, HO.out]) hk2 ⟨rfl, { f with v2 := .slice px x.length cx }, hI, ?_⟩ (hrd.set_other oM1.ne _)
    have hnew := Row.mono (Row.other hv (g := mb) (o := 2) (fun k hk => by have hk : w.heap.size ≤ k := hk; omega) (.slice px x.length cx)) (ok' := fun g => B ≤ g) (fun g _ hg => by have hg : w.heap.size ≤ g := hg; omega)
    exact ⟨hk0.h0, hk0.h1, hnew, hk0.h3, hk0.h4, hk0.h5, hk0.h6, hk0.h7, hk0.h8, hk0.h9, hk0.h10, hk0.h11, hk0.nil6, hk0.nil8, hk0.nil11⟩

def cont5M (m : Mdl) (s : ByteArray) (n i : Nat) : Except Err (Mdl × Nat) :=
  match listM 1 limM s n i with
  | .error e => .error e
  | .ok (xs, j) => .ok ({ m with mems := xs }, j)

set_option maxRecDepth 100000 in
set_option maxHeartbeats 1600000 in
theorem content5_any {w : World} {b mb B : Nat} {s : ByteArray} {i n : Nat} {m : Mdl} (h : Rd w b s i n) (hm : ModAt s (fun g => B ≤ g) w b mb m) (hb : b < B) (hmb : mb < B) (hB : B ≤ w.heap.size) :
    Calls Tryz.prog 33 #[.pointer (some ⟨mb, 0, none⟩), .pointer (some ⟨b, 0, none⟩), .int .u8 5] w (OutS (both b mb) w b s n (isMod s B b mb) (cont5M m s n i)) := by
  obtain ⟨f, oM, hH⟩ := hm
  have HH := hide hH
  clear hH
  go_enter Tryz.func33, Tryz.ntmps33
  go_wp2_with fail
  refine (listLimits_any 1 48 limM h (by omega) enters_takeLimits (fun w1 j hj => takeLimits_any hj)).mono ?_
  rintro e w1 ⟨hx1, hok, herr⟩
  have hk1 : Kept (both b mb) w w1 := hx1.both_of
  have oM1 := oM.call hx1
  clear hx1 oM
  cases ho : listM 1 limM s n i with
  | error qp =>
    obtain ⟨q, p⟩ := qp
    have he := herr _ _ ho
    subst he
    exact ⟨rfl, OutS.err_mk (by simp [cont5M, ho]) hk1⟩
  | ok xj =>
    obtain ⟨x, j⟩ := xj
    obtain ⟨u, rfl, hv, hrd⟩ := hok _ _ ho
    obtain ⟨px, cx, rfl⟩ := Row.shape hv
    have HO := hide ho
    have HV := hide hv
    clear hok herr ho hv
    obtain ⟨F, G⟩ := oM1.blk.twelve.1.2.2.2.1
    go_wp2
    go_end0
    have hmw := oM1.lt
    have hk2 := hk1.own2 (o := 3) (.slice px x.length cx)
    have hk0 := HH.out.kept hk2 (fun g _ hg hh => hh.elim (fun e => by omega) (fun e => by omega))
    have hI := oM1.set 3 (.slice px x.length cx)
    have hv := HV.out
    refine OutS.ok_mk (x := { m with mems := x }) (j := j) (by simp [cont5M, HO.out]) hk2 ⟨rfl, { f with v3 := .slice px x.length cx }, hI, ?_⟩ (hrd.set_other oM1.ne _)
    have hnew := Row.mono (Row.other hv (g := mb) (o := 3) (fun k hk => by have hk : w.heap.size ≤ k := hk; omega) (.slice px x.length cx)) (ok' := fun g => B ≤ g) (fun g _ hg => by have hg : w.heap.size ≤ g := hg; omega)
    exact ⟨hk0.h0, hk0.h1, hk0.h2, hnew, hk0.h4, hk0.h5, hk0.h6, hk0.h7, hk0.h8, hk0.h9, hk0.h10, hk0.h11, hk0.nil6, hk0.nil8, hk0.nil11⟩

def cont6M (m : Mdl) (s : ByteArray) (n i : Nat) : Except Err (Mdl × Nat) :=
  match listM 10 globalM s n i with
  | .error e => .error e
  | .ok (xs, j) => .ok ({ m with globals := xs }, j)

set_option maxRecDepth 100000 in
set_option maxHeartbeats 1600000 in
theorem content6_any {w : World} {b mb B : Nat} {s : ByteArray} {i n : Nat} {m : Mdl} (h : Rd w b s i n) (hm : ModAt s (fun g => B ≤ g) w b mb m) (hb : b < B) (hmb : mb < B) (hB : B ≤ w.heap.size) :
    Calls Tryz.prog 33 #[.pointer (some ⟨mb, 0, none⟩), .pointer (some ⟨b, 0, none⟩), .int .u8 6] w (OutS (both b mb) w b s n (isMod s B b mb) (cont6M m s n i)) := by
  obtain ⟨f, oM, hH⟩ := hm
  have HH := hide hH
  clear hH
  go_enter Tryz.func33, Tryz.ntmps33
  go_wp2_with fail
  refine (listGlobal_any 10 50 globalM h (by omega) enters_takeGlobal (fun w1 j hj => takeGlobal_any hj)).mono ?_
  rintro e w1 ⟨hx1, hok, herr⟩
  have hk1 : Kept (both b mb) w w1 := hx1.both_of
  have oM1 := oM.call hx1
  clear hx1 oM
  cases ho : listM 10 globalM s n i with
  | error qp =>
    obtain ⟨q, p⟩ := qp
    have he := herr _ _ ho
    subst he
    exact ⟨rfl, OutS.err_mk (by simp [cont6M, ho]) hk1⟩
  | ok xj =>
    obtain ⟨x, j⟩ := xj
    obtain ⟨u, rfl, hv, hrd⟩ := hok _ _ ho
    obtain ⟨px, cx, rfl⟩ := Row.shape hv
    have HO := hide ho
    have HV := hide hv
    clear hok herr ho hv
    obtain ⟨F, G⟩ := oM1.blk.twelve.1.2.2.2.2.1
    go_wp2
    go_end0
    have hmw := oM1.lt
    have hk2 := hk1.own2 (o := 4) (.slice px x.length cx)
    have hk0 := HH.out.kept hk2 (fun g _ hg hh => hh.elim (fun e => by omega) (fun e => by omega))
    have hI := oM1.set 4 (.slice px x.length cx)
    have hv := HV.out
    refine OutS.ok_mk (x := { m with globals := x }) (j := j) (by simp [cont6M, HO.out]) hk2 ⟨rfl, { f with v4 := .slice px x.length cx }, hI, ?_⟩ (hrd.set_other oM1.ne _)
    have hnew := Row.mono (Row.other hv (g := mb) (o := 4) (fun k hk => by have hk : w.heap.size ≤ k := hk; omega) (.slice px x.length cx)) (ok' := fun g => B ≤ g) (fun g _ hg => by have hg : w.heap.size ≤ g := hg; omega)
    exact ⟨hk0.h0, hk0.h1, hk0.h2, hk0.h3, hnew, hk0.h5, hk0.h6, hk0.h7, hk0.h8, hk0.h9, hk0.h10, hk0.h11, hk0.nil6, hk0.nil8, hk0.nil11⟩

def cont7M (m : Mdl) (s : ByteArray) (n i : Nat) : Except Err (Mdl × Nat) :=
  match listM 20 exportM s n i with
  | .error e => .error e
  | .ok (xs, j) => .ok ({ m with exports := xs }, j)

set_option maxRecDepth 100000 in
set_option maxHeartbeats 1600000 in
theorem content7_any {w : World} {b mb B : Nat} {s : ByteArray} {i n : Nat} {m : Mdl} (h : Rd w b s i n) (hm : ModAt s (fun g => B ≤ g) w b mb m) (hb : b < B) (hmb : mb < B) (hB : B ≤ w.heap.size) :
    Calls Tryz.prog 33 #[.pointer (some ⟨mb, 0, none⟩), .pointer (some ⟨b, 0, none⟩), .int .u8 7] w (OutS (both b mb) w b s n (isMod s B b mb) (cont7M m s n i)) := by
  obtain ⟨f, oM, hH⟩ := hm
  have HH := hide hH
  clear hH
  go_enter Tryz.func33, Tryz.ntmps33
  go_wp2_with fail
  refine (listExport_any 20 52 exportM h (by omega) enters_takeExport (fun w1 j hj => takeExport_any hj)).mono ?_
  rintro e w1 ⟨hx1, hok, herr⟩
  have hk1 : Kept (both b mb) w w1 := hx1.both_of
  have oM1 := oM.call hx1
  clear hx1 oM
  cases ho : listM 20 exportM s n i with
  | error qp =>
    obtain ⟨q, p⟩ := qp
    have he := herr _ _ ho
    subst he
    exact ⟨rfl, OutS.err_mk (by simp [cont7M, ho]) hk1⟩
  | ok xj =>
    obtain ⟨x, j⟩ := xj
    obtain ⟨u, rfl, hv, hrd⟩ := hok _ _ ho
    obtain ⟨px, cx, rfl⟩ := Row.shape hv
    have HO := hide ho
    have HV := hide hv
    clear hok herr ho hv
    obtain ⟨F, G⟩ := oM1.blk.twelve.1.2.2.2.2.2
    go_wp2
    go_end0
    have hmw := oM1.lt
    have hk2 := hk1.own2 (o := 5) (.slice px x.length cx)
    have hk0 := HH.out.kept hk2 (fun g _ hg hh => hh.elim (fun e => by omega) (fun e => by omega))
    have hI := oM1.set 5 (.slice px x.length cx)
    have hv := HV.out
    refine OutS.ok_mk (x := { m with exports := x }) (j := j) (by simp [cont7M, HO.out]) hk2 ⟨rfl, { f with v5 := .slice px x.length cx }, hI, ?_⟩ (hrd.set_other oM1.ne _)
    have hnew := Row.mono (Row.other hv (g := mb) (o := 5) (fun k hk => by have hk : w.heap.size ≤ k := hk; omega) (.slice px x.length cx)) (ok' := fun g => B ≤ g) (fun g _ hg => by have hg : w.heap.size ≤ g := hg; omega)
    exact ⟨hk0.h0, hk0.h1, hk0.h2, hk0.h3, hk0.h4, hnew, hk0.h6, hk0.h7, hk0.h8, hk0.h9, hk0.h10, hk0.h11, hk0.nil6, hk0.nil8, hk0.nil11⟩

def cont9M (m : Mdl) (s : ByteArray) (n i : Nat) : Except Err (Mdl × Nat) :=
  match listM 5 elemM s n i with
  | .error e => .error e
  | .ok (xs, j) => .ok ({ m with elems := xs }, j)

set_option maxRecDepth 100000 in
set_option maxHeartbeats 1600000 in
theorem content9_any {w : World} {b mb B : Nat} {s : ByteArray} {i n : Nat} {m : Mdl} (h : Rd w b s i n) (hm : ModAt s (fun g => B ≤ g) w b mb m) (hb : b < B) (hmb : mb < B) (hB : B ≤ w.heap.size) :
    Calls Tryz.prog 33 #[.pointer (some ⟨mb, 0, none⟩), .pointer (some ⟨b, 0, none⟩), .int .u8 9] w (OutS (both b mb) w b s n (isMod s B b mb) (cont9M m s n i)) := by
  obtain ⟨f, oM, hH⟩ := hm
  have HH := hide hH
  clear hH
  go_enter Tryz.func33, Tryz.ntmps33
  go_wp2_with fail
  refine (listElement_any 5 54 elemM h (by omega) enters_takeElement (fun w1 j hj => takeElement_any hj)).mono ?_
  rintro e w1 ⟨hx1, hok, herr⟩
  have hk1 : Kept (both b mb) w w1 := hx1.both_of
  have oM1 := oM.call hx1
  clear hx1 oM
  cases ho : listM 5 elemM s n i with
  | error qp =>
    obtain ⟨q, p⟩ := qp
    have he := herr _ _ ho
    subst he
    exact ⟨rfl, OutS.err_mk (by simp [cont9M, ho]) hk1⟩
  | ok xj =>
    obtain ⟨x, j⟩ := xj
    obtain ⟨u, rfl, hv, hrd⟩ := hok _ _ ho
    have hsh : ∃ p c, u = .slice p x.length c := by obtain ⟨css, hr, -⟩ := hv; exact Row.shape hr
    obtain ⟨px, cx, rfl⟩ := hsh
    have HO := hide ho
    have HV := hide hv
    clear hok herr ho hv
    obtain ⟨F, G⟩ := oM1.blk.twelve.2.2.1
    go_wp2
    go_end0
    have hmw := oM1.lt
    have hk2 := hk1.own2 (o := 7) (.slice px x.length cx)
    have hk0 := HH.out.kept hk2 (fun g _ hg hh => hh.elim (fun e => by omega) (fun e => by omega))
    have hI := oM1.set 7 (.slice px x.length cx)
    have hv := HV.out
    refine OutS.ok_mk (x := { m with elems := x }) (j := j) (by simp [cont9M, HO.out]) hk2 ⟨rfl, { f with v7 := .slice px x.length cx }, hI, ?_⟩ (hrd.set_other oM1.ne _)
    have hnew := hv.kept (S := only mb) (w' := w1.setCell ⟨mb, 7, none⟩ (.slice px x.length cx)) ((Kept.refl _ _).own _) (fun g _ hg (e : g = mb) => by have hg : w.heap.size ≤ g := hg; omega) (fun y cs hy => hy.kept (S := only mb) ((Kept.refl _ _).own _) (fun g _ hg (e : g = mb) => by have hg : w.heap.size ≤ g := hg; omega))
    have hnew := hnew.toB (B := B) (by omega) (fun y cs hy => hy.mono (fun g _ hg => by have hg : w.heap.size ≤ g := hg; omega))
    exact ⟨hk0.h0, hk0.h1, hk0.h2, hk0.h3, hk0.h4, hk0.h5, hk0.h6, hnew, hk0.h8, hk0.h9, hk0.h10, hk0.h11, hk0.nil6, hk0.nil8, hk0.nil11⟩

def cont11M (m : Mdl) (s : ByteArray) (n i : Nat) : Except Err (Mdl × Nat) :=
  match listM 10 dataM s n i with
  | .error e => .error e
  | .ok (xs, j) => .ok ({ m with data := xs }, j)

set_option maxRecDepth 100000 in
set_option maxHeartbeats 1600000 in
theorem content11_any {w : World} {b mb B : Nat} {s : ByteArray} {i n : Nat} {m : Mdl} (h : Rd w b s i n) (hm : ModAt s (fun g => B ≤ g) w b mb m) (hb : b < B) (hmb : mb < B) (hB : B ≤ w.heap.size) :
    Calls Tryz.prog 33 #[.pointer (some ⟨mb, 0, none⟩), .pointer (some ⟨b, 0, none⟩), .int .u8 11] w (OutS (both b mb) w b s n (isMod s B b mb) (cont11M m s n i)) := by
  obtain ⟨f, oM, hH⟩ := hm
  have HH := hide hH
  clear hH
  go_enter Tryz.func33, Tryz.ntmps33
  go_wp2_with fail
  refine (listData_any 10 57 dataM h (by omega) enters_takeData (fun w1 j hj => takeData_any hj)).mono ?_
  rintro e w1 ⟨hx1, hok, herr⟩
  have hk1 : Kept (both b mb) w w1 := hx1.both_of
  have oM1 := oM.call hx1
  clear hx1 oM
  cases ho : listM 10 dataM s n i with
  | error qp =>
    obtain ⟨q, p⟩ := qp
    have he := herr _ _ ho
    subst he
    exact ⟨rfl, OutS.err_mk (by simp [cont11M, ho]) hk1⟩
  | ok xj =>
    obtain ⟨x, j⟩ := xj
    obtain ⟨u, rfl, hv, hrd⟩ := hok _ _ ho
    obtain ⟨px, cx, rfl⟩ := Row.shape hv
    have HO := hide ho
    have HV := hide hv
    clear hok herr ho hv
    obtain ⟨F, G⟩ := oM1.blk.twelve.2.2.2.2.1
    go_wp2
    go_end0
    have hmw := oM1.lt
    have hk2 := hk1.own2 (o := 9) (.slice px x.length cx)
    have hk0 := HH.out.kept hk2 (fun g _ hg hh => hh.elim (fun e => by omega) (fun e => by omega))
    have hI := oM1.set 9 (.slice px x.length cx)
    have hv := HV.out
    refine OutS.ok_mk (x := { m with data := x }) (j := j) (by simp [cont11M, HO.out]) hk2 ⟨rfl, { f with v9 := .slice px x.length cx }, hI, ?_⟩ (hrd.set_other oM1.ne _)
    have hnew := Row.mono (Row.other hv (g := mb) (o := 9) (fun k hk => by have hk : w.heap.size ≤ k := hk; omega) (.slice px x.length cx)) (ok' := fun g => B ≤ g) (fun g _ hg => by have hg : w.heap.size ≤ g := hg; omega)
    exact ⟨hk0.h0, hk0.h1, hk0.h2, hk0.h3, hk0.h4, hk0.h5, hk0.h6, hk0.h7, hk0.h8, hnew, hk0.h10, hk0.h11, hk0.nil6, hk0.nil8, hk0.nil11⟩

end Go.Proofs.YtgkpkngchploiaaGreat
/-
  content: section 8, section 10.
-/
namespace Go.Proofs.YtgkpkngchploiaaGreat
open Go.RowKit

def cont8M (m : Mdl) (s : ByteArray) (n i : Nat) : Except Err (Mdl × Nat) :=
  match uM s n i with
  | .error e => .error e
  | .ok (x, j) => .ok ({ m with starts := [x] }, j)

set_option maxRecDepth 100000 in
set_option maxHeartbeats 3200000 in
theorem content8_any {w : World} {b mb B : Nat} {s : ByteArray} {i n : Nat} {m : Mdl} (h : Rd w b s i n) (hm : ModAt s (fun g => B ≤ g) w b mb m) (hb : b < B) (hmb : mb < B) (hB : B ≤ w.heap.size) (hst : m.starts = []) :
    Calls Tryz.prog 33 #[.pointer (some ⟨mb, 0, none⟩), .pointer (some ⟨b, 0, none⟩), .int .u8 8] w (OutS (both b mb) w b s n (isMod s B b mb) (cont8M m s n i)) := by
  obtain ⟨i0, hi0, hz0, hz1, hz2⟩ := info_parts Tryz.info62
  obtain ⟨f, oM, hH⟩ := hm
  obtain ⟨I6, J6⟩ := oM.blk.twelve.2.1
  rw [hH.nil6 hst] at I6
  have HH := hide hH
  clear hH
  have hne := oM.ne
  have hmr : mb < w.drew.heap.size := oM.lt
  go_enter Tryz.func33, Tryz.ntmps33
  cases hu : uM s n i with
  | error qp =>
    obtain ⟨q, p⟩ := qp
    have HU := hide hu
    clear hu
    go_wp2_with fail
    go_region_dies
    all_goals
      refine (u_err ?_ HU.out).mono ?_
      · exact h.drew
      rintro e w2 ⟨rfl, hx2⟩
      exact ⟨rfl, OutS.err_mk (by simp [cont8M, HU.out]) ((Kept.refl _ _).drew.trans hx2.both_of)⟩
  | ok xj =>
    obtain ⟨⟨v, p⟩, j2⟩ := xj
    have HU := hide hu
    clear hu
    go_wp2_with fail
    have hbw := h.lt
    have hown : Hid (∀ w2 : World, w2.ownsRow w.heap.size 62 2 (.slice none 0 0) 0 []) := fun w2 => World.ownsRow_nil w2 _ _ _
    go_region_law (first
        | (refine step_call (f := 42) (args := #[.pointer (some ⟨b, 0, none⟩)]) (by rfl) (by go_simp) (u_ok h.drew HU.out) ?_; rintro e w2 ⟨rfl, hrd2, hx2⟩; refine ⟨_, rfl, ?_⟩; have q6 : w2.cell? ⟨mb, 6, none⟩ = some (.slice none 0 0) := (hx2.other hmr hne).trans I6; have f6 : w2.frozen? ⟨mb, 6, none⟩ = false := (hx2.other_frozen hmr hne).trans J6; have hcw2 : mb < w2.heap.size := Nat.lt_of_lt_of_le hmr hx2.size)
        | ((refine step_append_lies _ (by rfl) _ _ _ (by rfl) w.heap.size 62 i0 _ 2 16 Tryz.underlying43 hi0 hz0 hz1 hz2 rfl (by omega) (.slice none 0 0) 0 [] (by rfl) (hown.out _) ⟨w2.heap.size, 0, none⟩ 1 1 [.int .u32 v, .int .i64 (p : Nat)] (by rfl) (by rfl) (World.news_of_block (cs := #[.int .u32 v, .int .i64 (p : Nat)]) (t := 62) (fr := (0, 0)) (heap_alloc_new w2 _)) (by simp [Value.oneCell']) (by omega) (by unfold maxLen; omega) (by omega) (by have h9 : w.heap.size ≤ w2.heap.size := hx2.size; first | omega | (simp; omega) | (simp at *)) (w2.heap.size + 1) (by simp) ?_; intro gg cap w3 hown3 hgrow hat hlt3; have hfar : some mb ≠ (Value.slice none 0 0).ownBlock := (fun e => by simp [Value.ownBlock] at e); have q63 : w3.cell? ⟨mb, 6, none⟩ = some (.slice none 0 0) := (hgrow.cell_far ⟨mb, 6, none⟩ (by simp; omega) hfar).trans ((World.cell?_alloc_lt _ _ _ hcw2).trans q6); have f63 : w3.frozen? ⟨mb, 6, none⟩ = false := (hgrow.frozen_far ⟨mb, 6, none⟩ (by simp; omega) hfar).trans ((World.frozen?_alloc_old _ _ _ (by simp; omega)).trans f6))))
    all_goals
      have ho2 := hown.out (w2.alloc (.cells #[.int .u32 v, .int .i64 (p : Nat)] 62))
      have hrd3 := (grown_rd (hrd2.alloc _) ho2 h.lt hgrow).set_other (o := 6) hne (.slice (some ⟨gg, 0, none⟩) 1 cap)
      have hk3 := (grown_kept (((Kept.refl _ _).drew.trans hx2.both_of).alloc _) ho2 (Nat.le_refl _) hgrow).own2 (b := b) (c := mb) (o := 6) (.slice (some ⟨gg, 0, none⟩) 1 cap)
      have hI3 := (((oM.drew.call hx2).alloc (.cells #[.int .u32 v, .int .i64 (p : Nat)] 62)).kept (Kept.of_grown hgrow) (fun e => hfar e.symm)).set 6 (.slice (some ⟨gg, 0, none⟩) 1 cap)
      have hmw : mb < w.heap.size := oM.lt
      have hrow3 : isRow 62 2 numCells (fun g => B ≤ g) [(v, p)] (w3.setCell ⟨mb, 6, none⟩ (.slice (some ⟨gg, 0, none⟩) 1 cap)) (.slice (some ⟨gg, 0, none⟩) 1 cap) := by
        have q := Row.mono (Row.other (Row.ofBase (ok := fun g => w.heap.size ≤ g) hown3 (fun g hg _ => hg)) (g := mb) (o := 6) (fun k hk => by have hk : w.heap.size ≤ k := hk; omega) (.slice (some ⟨gg, 0, none⟩) 1 cap)) (ok' := fun g => B ≤ g) (fun g _ hg => Nat.le_trans hB hg)
        simpa [isRow, numCells] using q
      have HR := hide hrow3
      have HI3 := hide hI3
      have HK3 := hide hk3
      have HRD := hide hrd3
      clear hrow3 hown3 hgrow hat hlt3 q63 f63 q6 f6 hx2 ho2 hI3 hrd2 hown hk3 hrd3
      go_wp2
      go_end0
      have hk0 := HH.out.kept HK3.out (fun g _ hg hh => hh.elim (fun e => by omega) (fun e => by omega))
      refine OutS.ok_mk (x := { m with starts := [(v, p)] }) (j := j2) (by simp [cont8M, HU.out]) HK3.out ⟨rfl, { f with v6 := .slice (some ⟨gg, 0, none⟩) 1 cap }, HI3.out, ?_⟩ HRD.out
      exact ⟨hk0.h0, hk0.h1, hk0.h2, hk0.h3, hk0.h4, hk0.h5, HR.out, hk0.h7, hk0.h8, hk0.h9, hk0.h10, hk0.h11, fun e => by simp at e, hk0.nil8, hk0.nil11⟩

set_option maxRecDepth 100000 in
set_option maxHeartbeats 1600000 in
theorem content10_any {w : World} {b mb B : Nat} {s : ByteArray} {i n : Nat} {m : Mdl} (h : Rd w b s i n) (hm : ModAt s (fun g => B ≤ g) w b mb m) (hb : b < B) (hmb : mb < B) (hB : B ≤ w.heap.size) (hnf : m.funcs.length ≤ 20) (hcl : m.codes = []) :
    Calls Tryz.prog 33 #[.pointer (some ⟨mb, 0, none⟩), .pointer (some ⟨b, 0, none⟩), .int .u8 10] w (OutS (both b mb) w b s n (isMod s B b mb) (codesM m s n i)) := by
  go_enter Tryz.func33, Tryz.ntmps33
  go_wp2_with fail
  refine (takeCodes_any h hm hb hmb hB hnf hcl).mono ?_
  rintro e w1 ⟨hk, hok, herr⟩
  cases ho : codesM m s n i with
  | error qp =>
    obtain ⟨q, p⟩ := qp
    have he := herr _ _ ho
    subst he
    exact ⟨rfl, OutS.err_mk rfl hk⟩
  | ok xj =>
    obtain ⟨x, j⟩ := xj
    obtain ⟨u, rfl, ⟨rfl, hv⟩, hrd⟩ := hok _ _ ho
    have HV := hide hv
    have HO := hide ho
    clear hv hok herr ho
    go_wp2
    go_end0
    exact OutS.ok_mk HO.out hk ⟨rfl, HV.out⟩ hrd

end Go.Proofs.YtgkpkngchploiaaGreat
/-
  content.
-/
namespace Go.Proofs.YtgkpkngchploiaaGreat
open Go.RowKit

set_option maxRecDepth 100000 in
set_option maxHeartbeats 1600000 in
theorem content0_any {w : World} {b mb B : Nat} {s : ByteArray} {i n : Nat} {m : Mdl} (h : Rd w b s i n) (hm : ModAt s (fun g => B ≤ g) w b mb m) (hb : b < B) (hmb : mb < B) (hB : B ≤ w.heap.size) (hf : Fair m) (hcl : m.nlocals = []) (hcf : m.codes.length = m.funcs.length) :
    Calls Tryz.prog 33 #[.pointer (some ⟨mb, 0, none⟩), .pointer (some ⟨b, 0, none⟩), .int .u8 0] w (OutS (both b mb) w b s n (isMod s B b mb) (namesM m s n i)) := by
  go_enter Tryz.func33, Tryz.ntmps33
  go_wp2_with fail
  refine (takeNames_any h hm hb hmb hB hf hcl hcf).mono ?_
  rintro e w1 ⟨hk, hok, herr⟩
  cases ho : namesM m s n i with
  | error qp =>
    obtain ⟨q, p⟩ := qp
    have he := herr _ _ ho
    subst he
    exact ⟨rfl, OutS.err_mk rfl hk⟩
  | ok xj =>
    obtain ⟨x, j⟩ := xj
    obtain ⟨u, rfl, ⟨rfl, hv⟩, hrd⟩ := hok _ _ ho
    have HV := hide hv
    have HO := hide ho
    clear hv hok herr ho
    go_wp2
    go_end0
    exact OutS.ok_mk HO.out hk ⟨rfl, HV.out⟩ hrd

/-- What is in a section. -/
def contM (m : Mdl) (which : Nat) (s : ByteArray) (n i : Nat) : Except Err (Mdl × Nat) :=
  match which with
  | 0 => namesM m s n i
  | 1 => cont1M m s n i
  | 3 => cont3M m s n i
  | 4 => cont4M m s n i
  | 5 => cont5M m s n i
  | 6 => cont6M m s n i
  | 7 => cont7M m s n i
  | 8 => cont8M m s n i
  | 9 => cont9M m s n i
  | 10 => codesM m s n i
  | 11 => cont11M m s n i
  | _ => .ok (m, i)

/-- A module may take that section. -/
structure Ready (m : Mdl) (which : Nat) : Prop where
  fair : Fair m
  known : which ≤ 11 ∧ which ≠ 2
  st : which = 8 → m.starts = []
  co : which = 10 → m.codes = []
  nm : which = 0 → m.nlocals = [] ∧ m.codes.length = m.funcs.length

theorem content_any {w : World} {b mb B : Nat} {s : ByteArray} {i n : Nat} {m : Mdl} (which : Nat) (h : Rd w b s i n) (hm : ModAt s (fun g => B ≤ g) w b mb m) (hb : b < B) (hmb : mb < B) (hB : B ≤ w.heap.size) (hr : Ready m which) :
    Calls Tryz.prog 33 #[.pointer (some ⟨mb, 0, none⟩), .pointer (some ⟨b, 0, none⟩), .int .u8 (which : Nat)] w (OutS (both b mb) w b s n (isMod s B b mb) (contM m which s n i)) := by
  obtain ⟨hf, ⟨h1, h2⟩, h3, h4, h5⟩ := hr
  rcases (show which = 0 ∨ which = 1 ∨ which = 3 ∨ which = 4 ∨ which = 5 ∨ which = 6 ∨ which = 7 ∨ which = 8 ∨ which = 9 ∨ which = 10 ∨ which = 11 by omega) with rfl | rfl | rfl | rfl | rfl | rfl | rfl | rfl | rfl | rfl | rfl
  · exact content0_any h hm hb hmb hB hf (h5 rfl).1 (h5 rfl).2
  · exact content1_any h hm hb hmb hB
  · exact content3_any h hm hb hmb hB
  · exact content4_any h hm hb hmb hB
  · exact content5_any h hm hb hmb hB
  · exact content6_any h hm hb hmb hB
  · exact content7_any h hm hb hmb hB
  · exact content8_any h hm hb hmb hB (h3 rfl)
  · exact content9_any h hm hb hmb hB
  · exact content10_any h hm hb hmb hB hf.funcs (h4 rfl)
  · exact content11_any h hm hb hmb hB

end Go.Proofs.YtgkpkngchploiaaGreat
