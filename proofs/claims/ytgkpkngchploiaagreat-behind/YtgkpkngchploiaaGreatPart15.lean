/-
  Part 15 of the proof: Fit2, Fit3, Body1, Body2, Body3, Body5.
-/
import Derived.Test.YtgkpkngchploiaaGreatPart14
import Derived.Deep.QuietTactic
import Derived.BigQuiet
import Derived.Deep.AppendLies
import Derived.Deep.RegionLaw
import Derived.Test.YtgkpkngchploiaaGreatPart04
/-
  checkConstant, checkGlobals, checkData.
-/
namespace Go.Proofs.YtgkpkngchploiaaGreat
open Go.RowKit

set_option maxHeartbeats 400000 in
theorem checkConstant_any (a kd k : Nat) (z : Int) (w : World) {kz : Int} (hz : kz = (k : Int)) :
    Calls Tryz.prog 35 #[.agg #[.int .i64 (a : Nat), .int .u8 (kd : Nat), .int .i64 z], .int .u8 kz] w (Looks w (cstFit k ⟨a, kd, z⟩)) := by
  subst hz
  by_cases hlt : kd = k
  · have t1 : (((kd : Nat) : Int) != ((k : Nat) : Int)) = false := by simp [hlt]
    subst hlt
    go_enter Tryz.func35, Tryz.ntmps35
    go_wp2
    go_end0
    exact Says.ok_mk (x := ()) (by simp [cstFit]) ((Kept.refl _ _).alloc _) rfl
  · have t1 : (((kd : Nat) : Int) != ((k : Nat) : Int)) = true := by simp; omega
    go_enter Tryz.func35, Tryz.ntmps35
    go_wp2_with fail
    refine (giveUp_any _ _ _).mono ?_
    rintro e w3 ⟨rfl, rfl⟩
    exact ⟨rfl, Says.err_mk (by simp [cstFit, hlt]) ((Kept.refl _ _).alloc _)⟩

set_option maxHeartbeats 800000 in
theorem checkGlobals_any {w : World} {b mb : Nat} {s : ByteArray} {ok : Nat → Prop} {m : Mdl} (hm : ModAt s ok w b mb m) (hl : m.globals.length ≤ 50) :
    Calls Tryz.prog 21 #[.pointer (some ⟨mb, 0, none⟩)] w (Looks w (eachM (fun g => cstFit g.kind g.first) m.globals)) := by
  obtain ⟨f, oM, hH⟩ := hm
  obtain ⟨F, G⟩ := oM.blk.twelve.1.2.2.2.2.1
  obtain ⟨p, c, hf⟩ := Row.shape hH.h4
  have hr := hH.h4
  rw [hf] at F hr
  clear hH oM
  have H0 : Hid (eachM (fun g => cstFit g.kind g.first) m.globals = eachM (fun g => cstFit g.kind g.first) (m.globals.drop 0)) := by show _ = _; simp
  go_enter Tryz.func21, Tryz.ntmps21
  go_wp2
  go_loopw [9] (fun q wr => ∃ k : Nat, k ≤ m.globals.length ∧ q = .int .i64 k ∧ Kept (fun _ => False) w wr ∧ eachM (fun g => cstFit g.kind g.first) m.globals = eachM (fun g => cstFit g.kind g.first) (m.globals.drop k)) (fun q _ => m.globals.length - (intOf q).toNat)
  case atStart => exact ⟨0, Nat.zero_le _, rfl, Kept.refl _ _, H0.out⟩
  case round =>
    obtain ⟨k, hk, rfl, hkp, hme⟩ := hrel
    have HE := hide hme
    clear hme H0
    by_cases hlt : k < m.globals.length
    · have hlt' : (k : Int) < (m.globals.length : Int) := by omega
      have hrr : isRow 78 5 Glb.cells ok m.globals wr (.slice p m.globals.length c) := Row.kept hr hkp (fun _ _ _ hc => hc)
      obtain ⟨g, cap, hv, -, hgl, hcap, hcell⟩ := Row.cells hrr (by omega)
      cases hv
      have hx : m.globals[k]? = some m.globals[k] := List.getElem?_eq_getElem hlt
      have HB := hide (fun e => eachM_bad (f := fun g : Glb => cstFit g.kind g.first) (e := e) hlt)
      have HO := hide (eachM_ok (f := fun g : Glb => cstFit g.kind g.first) hlt)
      have c0 : wr.cell? ⟨g, k * 5, none⟩ = some (.int .u8 (m.globals[k].kind : Nat)) := (hcell (k * 5) (by omega)).trans (flat_get (m := 5) (o := 0) (fun _ => rfl) hx (by omega))
      have c1 : wr.cell? ⟨g, k * 5 + 1, none⟩ = some (.bool m.globals[k].set_) := (hcell (k * 5 + 1) (by omega)).trans (flat_get (m := 5) (o := 1) (fun _ => rfl) hx (by omega))
      have c2 : wr.cell? ⟨g, k * 5 + 2, none⟩ = some (.int .i64 (m.globals[k].first.at_ : Nat)) := (hcell (k * 5 + 2) (by omega)).trans (flat_get (m := 5) (o := 2) (fun _ => rfl) hx (by omega))
      have c3 : wr.cell? ⟨g, k * 5 + 3, none⟩ = some (.int .u8 (m.globals[k].first.kind : Nat)) := (hcell (k * 5 + 3) (by omega)).trans (flat_get (m := 5) (o := 3) (fun _ => rfl) hx (by omega))
      have c4 : wr.cell? ⟨g, k * 5 + 4, none⟩ = some (.int .i64 m.globals[k].first.val) := (hcell (k * 5 + 4) (by omega)).trans (flat_get (m := 5) (o := 4) (fun _ => rfl) hx (by omega))
      clear hcell hrr hr hx
      generalize m.globals[k] = x at *
      go_wp2_with fail
      refine (checkConstant_any _ _ x.kind _ _ rfl).mono ?_
      rintro e w2 ⟨hk2, hok, herr⟩
      have hk3 := (hkp.alloc _).trans hk2
      cases ho : cstFit x.kind x.first with
      | ok u =>
        obtain ⟨v, rfl, rfl⟩ := hok u ho
        have HN := hide (HE.out.trans (HO.out ho))
        clear HE HO HB ho hok herr
        go_wp2
        go_roundw
        case rel => exact ⟨k + 1, by omega, by go_num, hk3, HN.out⟩
        case measure => simp [intOf]; omega
      | error qp =>
        obtain ⟨q, pp⟩ := qp
        have he := herr _ _ ho
        subst he
        exact ⟨rfl, Says.err_mk (HE.out.trans (HB.out _ ho)) hk3⟩
    · have HN := hide (HE.out.trans (eachM_done hlt))
      clear HE
      go_wp2
      go_end0
      exact Says.ok_mk HN.out hkp rfl

set_option maxHeartbeats 800000 in
theorem checkData_any {w : World} {b mb : Nat} {s : ByteArray} {ok : Nat → Prop} {m : Mdl} (hm : ModAt s ok w b mb m) (hl : m.data.length ≤ 50) :
    Calls Tryz.prog 26 #[.pointer (some ⟨mb, 0, none⟩)] w (Looks w (eachM (dataFit m) m.data)) := by
  obtain ⟨f, oM, hH⟩ := hm
  obtain ⟨F3, G3⟩ := oM.blk.twelve.1.2.2.2.1
  obtain ⟨p3, d3, hf3⟩ := Row.shape hH.h3
  rw [hf3] at F3
  obtain ⟨F, G⟩ := oM.blk.twelve.2.2.2.2.1
  have hmw := oM.lt
  obtain ⟨p, c, hf⟩ := Row.shape hH.h9
  have hr := hH.h9
  rw [hf] at F hr
  clear hH oM hf3
  have H0 : Hid (eachM (dataFit m) m.data = eachM (dataFit m) (m.data.drop 0)) := by show _ = _; simp
  go_enter Tryz.func26, Tryz.ntmps26
  go_wp2
  go_loopw [9] (fun q wr => ∃ k : Nat, k ≤ m.data.length ∧ q = .int .i64 k ∧ Kept (fun _ => False) w wr ∧ eachM (dataFit m) m.data = eachM (dataFit m) (m.data.drop k)) (fun q _ => m.data.length - (intOf q).toNat)
  case atStart => exact ⟨0, Nat.zero_le _, rfl, Kept.refl _ _, H0.out⟩
  case round =>
    obtain ⟨k, hk, rfl, hkp, hme⟩ := hrel
    have HE := hide hme
    clear hme H0
    by_cases hlt : k < m.data.length
    · have hlt' : (k : Int) < (m.data.length : Int) := by omega
      have F3r := (hkp.cell (p := ⟨mb, 3, none⟩) hmw (fun c => c)).trans F3
      have hmr : mb < wr.heap.size := Nat.lt_of_lt_of_le hmw hkp.size
      have hrr : isRow 103 5 Dat.cells ok m.data wr (.slice p m.data.length c) := Row.kept hr hkp (fun _ _ _ hc => hc)
      obtain ⟨g, cap, hv, -, hgl, hcap, hcell⟩ := Row.cells hrr (by omega)
      cases hv
      have hx : m.data[k]? = some m.data[k] := List.getElem?_eq_getElem hlt
      have HB := hide (fun e => eachM_bad (f := dataFit m) (e := e) hlt)
      have HO := hide (eachM_ok (f := dataFit m) hlt)
      have c0 : wr.cell? ⟨g, k * 5, none⟩ = some (.int .i64 (m.data[k].at_ : Nat)) := (hcell (k * 5) (by omega)).trans (flat_get (m := 5) (o := 0) (fun _ => rfl) hx (by omega))
      have c1 : wr.cell? ⟨g, k * 5 + 1, none⟩ = some (.int .i64 (m.data[k].place.at_ : Nat)) := (hcell (k * 5 + 1) (by omega)).trans (flat_get (m := 5) (o := 1) (fun _ => rfl) hx (by omega))
      have c2 : wr.cell? ⟨g, k * 5 + 2, none⟩ = some (.int .u8 (m.data[k].place.kind : Nat)) := (hcell (k * 5 + 2) (by omega)).trans (flat_get (m := 5) (o := 2) (fun _ => rfl) hx (by omega))
      have c3 : wr.cell? ⟨g, k * 5 + 3, none⟩ = some (.int .i64 m.data[k].place.val) := (hcell (k * 5 + 3) (by omega)).trans (flat_get (m := 5) (o := 3) (fun _ => rfl) hx (by omega))
      have c4 : wr.cell? ⟨g, k * 5 + 4, none⟩ = some (.string m.data[k].bytes) := (hcell (k * 5 + 4) (by omega)).trans (flat_get (m := 5) (o := 4) (fun _ => rfl) hx (by omega))
      clear hcell hrr hr hx
      generalize m.data[k] = x at *
      by_cases hz : m.mems.length = 0
      · have tz : ((m.mems.length : Int) == 0) = true := by rw [hz]; rfl
        have hd : dataFit m x = .error (3, x.at_) := by simp [dataFit, hz]
        have HD := hide (HE.out.trans (HB.out _ hd))
        clear HE HO HB hd hz
        go_wp2_with fail
        refine (giveUp_any _ _ _).mono ?_
        rintro e w3 ⟨rfl, rfl⟩
        exact ⟨rfl, Says.err_mk HD.out (hkp.alloc _)⟩
      · have tz : ((m.mems.length : Int) == 0) = false := beq_eq_false_iff_ne.2 (by omega)
        have hd : dataFit m x = cstFit 127 x.place := by simp [dataFit, hz]
        have HD := hide hd
        clear hd hz
        go_wp2_with fail
        refine (checkConstant_any _ _ 127 _ _ rfl).mono ?_
        rintro e w2 ⟨hk2, hok, herr⟩
        have hk3 := (hkp.alloc _).trans hk2
        cases ho : cstFit 127 x.place with
        | ok u =>
          obtain ⟨v, rfl, rfl⟩ := hok u ho
          have HN := hide (HE.out.trans (HO.out (HD.out.trans ho)))
          clear HE HO HB ho hok herr
          go_wp2
          go_roundw
          case rel => exact ⟨k + 1, by omega, by go_num, hk3, HN.out⟩
          case measure => simp [intOf]; omega
        | error qp =>
          obtain ⟨q, pp⟩ := qp
          have he := herr _ _ ho
          subst he
          exact ⟨rfl, Says.err_mk (HE.out.trans (HB.out _ (HD.out.trans ho))) hk3⟩
    · have HN := hide (HE.out.trans (eachM_done hlt))
      clear HE
      go_wp2
      go_end0
      exact Says.ok_mk HN.out hkp rfl

end Go.Proofs.YtgkpkngchploiaaGreat
/-
  checkLimits.
-/
namespace Go.Proofs.YtgkpkngchploiaaGreat
open Go.RowKit

set_option maxHeartbeats 1600000 in
theorem checkLimits_any {w : World} {ok : Nat → Prop} {ls : List Lim} {v : Value} (most : Int) (hr : isRow 73 4 Lim.cells ok ls w v) (hl : ls.length ≤ 50) :
    Calls Tryz.prog 20 #[v, .int .u32 most] w (Looks w (eachM (limFit most) ls)) := by
  obtain ⟨p, c, rfl⟩ := Row.shape hr
  have H0 : Hid (eachM (limFit most) ls = eachM (limFit most) (ls.drop 0)) := by show _ = _; simp
  go_enter Tryz.func20, Tryz.ntmps20
  go_wp2
  go_loopw [8] (fun q wr => ∃ k : Nat, k ≤ ls.length ∧ q = .int .i64 k ∧ Kept (fun _ => False) w wr ∧ eachM (limFit most) ls = eachM (limFit most) (ls.drop k)) (fun q _ => ls.length - (intOf q).toNat)
  case atStart => exact ⟨0, Nat.zero_le _, rfl, Kept.refl _ _, H0.out⟩
  case round =>
    obtain ⟨k, hk, rfl, hkp, hme⟩ := hrel
    have HE := hide hme
    clear hme H0
    by_cases hlt : k < ls.length
    · have hlt' : (k : Int) < (ls.length : Int) := by omega
      have hrr : isRow 73 4 Lim.cells ok ls wr (.slice p ls.length c) := Row.kept hr hkp (fun _ _ _ hc => hc)
      obtain ⟨g, cap, hv, -, hgl, hcap, hcell⟩ := Row.cells hrr (by omega)
      cases hv
      have hx : ls[k]? = some ls[k] := List.getElem?_eq_getElem hlt
      have HB := hide (fun e => eachM_bad (f := limFit most) (e := e) hlt)
      have HO := hide (eachM_ok (f := limFit most) hlt)
      have c0 : wr.cell? ⟨g, k * 4, none⟩ = some (.int .i64 (ls[k].at_ : Nat)) := (hcell (k * 4) (by omega)).trans (flat_get (m := 4) (o := 0) (fun _ => rfl) hx (by omega))
      have c1 : wr.cell? ⟨g, k * 4 + 1, none⟩ = some (.int .u32 ls[k].least) := (hcell (k * 4 + 1) (by omega)).trans (flat_get (m := 4) (o := 1) (fun _ => rfl) hx (by omega))
      have c2 : wr.cell? ⟨g, k * 4 + 2, none⟩ = some (.int .u32 ls[k].most) := (hcell (k * 4 + 2) (by omega)).trans (flat_get (m := 4) (o := 2) (fun _ => rfl) hx (by omega))
      have c3 : wr.cell? ⟨g, k * 4 + 3, none⟩ = some (.bool ls[k].has) := (hcell (k * 4 + 3) (by omega)).trans (flat_get (m := 4) (o := 3) (fun _ => rfl) hx (by omega))
      clear hcell hrr hr hx
      generalize ls[k] = x at *
      obtain ⟨xa, xl, xm, xh⟩ := x
      simp only at c0 c1 c2 c3
      cases xh <;> cases t1 : decide (most < xl) <;> cases t2 : decide (xm < xl) <;> cases t3 : decide (most < xm)
      all_goals
        first
        | (have HN := hide (HE.out.trans (HB.out (5, xa) (by unfold limFit; rw [if_pos]; simp at t1 t2 t3 ⊢; omega)))
           go_wp2_with fail
           refine (giveUp_any _ _ _).mono ?_
           rintro e w3 ⟨rfl, rfl⟩
           exact ⟨rfl, Says.err_mk HN.out (hkp.alloc _)⟩)
        | (have HN := hide (HE.out.trans (HO.out (by unfold limFit; rw [if_neg]; simp at t1 t2 t3 ⊢; omega)))
           go_wp2_with fail
           go_roundw
           case rel => exact ⟨k + 1, by omega, by go_num, hkp.alloc _, HN.out⟩
           case measure => simp [intOf]; omega)
    · have HN := hide (HE.out.trans (eachM_done hlt))
      clear HE
      go_wp2
      go_end0
      exact Says.ok_mk HN.out hkp rfl

end Go.Proofs.YtgkpkngchploiaaGreat
/-
  The innermost block; the top of the stack.
-/
namespace Go.Proofs.YtgkpkngchploiaaGreat
open Go.RowKit

set_option maxHeartbeats 800000 in
theorem inner_any {w : World} {bb g cap n : Nat} {mp lv sv z : Value} (h : Blk w bb [mp, lv, sv, .slice (some ⟨g, 0, none⟩) n cap, z]) (hn : 0 < n) (hl : n ≤ 60) :
    Calls Tryz.prog 108 #[.pointer (some ⟨bb, 0, none⟩)] w fun e w' => e = .returned (.pointer (some ⟨g, (n - 1) * 5, none⟩)) ∧ ∃ k, w' = w.drewN k := by
  obtain ⟨-, -, -, ⟨I3, J3⟩, -⟩ := h.five
  have b1 : (0 : Int) ≤ (n : Int) - 1 := by omega
  have b2 : (n : Int) - 1 < (n : Int) := by omega
  go_enter Tryz.func108, Tryz.ntmps108
  go_wp2
  go_quiet (fail)
  go_wp2
  go_ret
  exact ⟨by simp, _, rfl⟩

set_option maxHeartbeats 400000 in
theorem refuseKinds_any {w : World} {bb a : Nat} {mp lv sv bv : Value} (h : Blk w bb [mp, lv, sv, bv, .int .i64 (a : Nat)]) :
    Calls Tryz.prog 81 #[.pointer (some ⟨bb, 0, none⟩)] w fun e w' => e = gaveUp 4 a ∧ w' = w := by
  obtain ⟨-, -, -, -, ⟨I4, J4⟩⟩ := h.five
  go_enter Tryz.func81, Tryz.ntmps81
  go_wp2_with fail
  refine (giveUp_any _ _ _).mono ?_
  rintro e w3 ⟨rfl, rfl⟩
  exact ⟨rfl, rfl, rfl⟩

/-- The cells of the innermost block. -/
theorem BodyV.inner_cells {K O : Nat → Prop} {w : World} {bb : Nat} {mp lv sv bv : Value} {st : Bd} (h : BodyV K O w bb mp lv sv bv st) (hb : st.blocks ≠ []) :
    ∃ g cap tv gv, bv = .slice (some ⟨g, 0, none⟩) st.blocks.length cap ∧ (O g ∧ g ≠ bb) ∧ g < w.heap.size ∧ st.blocks.length ≤ cap ∧ 0 < st.blocks.length ∧ isKinds K st.inner.takes w tv ∧ isKinds K st.inner.gives w gv ∧
      w.cell? ⟨g, (st.blocks.length - 1) * 5, none⟩ = some (.int .u8 (st.inner.word : Nat)) ∧ w.cell? ⟨g, (st.blocks.length - 1) * 5 + 1, none⟩ = some tv ∧ w.cell? ⟨g, (st.blocks.length - 1) * 5 + 2, none⟩ = some gv ∧
      w.cell? ⟨g, (st.blocks.length - 1) * 5 + 3, none⟩ = some (.int .i64 (st.inner.floor : Nat)) ∧ w.cell? ⟨g, (st.blocks.length - 1) * 5 + 4, none⟩ = some (.bool st.inner.cut) := by
  have hl : 0 < st.blocks.length := by
    have : st.blocks.length ≠ 0 := by simpa using hb
    omega
  have hi : st.inner = st.blocks[0] := by
    obtain ⟨stk, bs, a⟩ := st
    cases bs with
    | nil => exact absurd rfl hb
    | cons b bs => rfl
  obtain ⟨g, cap, tv, gv, h1, h2, h3, h4, h5, h6, h7, h8, h9, h10, h11⟩ := blocks_cell h.bls hl
  rw [hi]
  exact ⟨g, cap, tv, gv, h1, h2, h3, h4, hl, h5, h6, h7, h8, h9, h10, h11⟩

/-- What a take leaves: the stack is cut; nothing but the body's own cells has turned. -/
def isTop (K O : Nat → Prop) (bb : Nat) (mp lv : Value) (p : Option Addr) (c : Nat) (bv : Value) (x : Nat × Bd) (w : World) (v : Value) : Prop :=
  v = .int .u8 (x.1 : Nat) ∧ BodyV K O w bb mp lv (.slice p x.2.stack.length c) bv x.2

set_option maxHeartbeats 1600000 in
theorem takeAny_any {K O : Nat → Prop} {w : World} {bb c : Nat} {mp lv bv : Value} {p : Option Addr} {st : Bd} (h : BodyV K O w bb mp lv (.slice p st.stack.length c) bv st) (hb : st.blocks ≠ []) (hl : st.blocks.length ≤ 60) (hf : st.inner.floor ≤ st.stack.length) (hs : st.stack.length ≤ 1000000) :
    Calls Tryz.prog 80 #[.pointer (some ⟨bb, 0, none⟩)] w (Says (only bb) w (takeTop st) (isTop K O bb mp lv p c bv)) := by
  obtain ⟨g, cap, tv, gv, rfl, hg, hgw, hcap, hbl, -, -, B0, B1, B2, B3, B4⟩ := h.inner_cells hb
  obtain ⟨-, -, ⟨I2, J2⟩, ⟨I3, J3⟩, ⟨I4, J4⟩⟩ := h.blk.five
  have hB := h.blk
  have HV := hide h
  have hstk := h.stk
  clear h
  have hne := hg.2
  generalize hn : st.blocks.length = n at *
  generalize hfl : st.inner.floor = fl at *
  generalize hcu : st.inner.cut = cu at *
  by_cases he : st.stack.length = fl
  · have te : ((st.stack.length : Int) == (fl : Int)) = true := by simp; omega
    cases cu with
    | true =>
      have HR : Hid (takeTop st = .ok (0, st)) := by show _ = _; simp [takeTop, takeAnyM, he, hfl, hcu]
      clear he hn hfl hcu
      go_enter Tryz.func80, Tryz.ntmps80
      go_wp2
      go_quiet (exact Calls.quiet_of (inner_any (hB.drewN _) hbl hl))
      go_wp2_with fail
      refine (inner_any (hB.drewN _) hbl hl).mono ?_
      rintro e w2 ⟨rfl, k2, rfl⟩
      go_wp2
      go_ret
      exact Says.ok_mk HR.out ((Kept.refl _ _).drewN _) ⟨rfl, HV.out.drewN _⟩
    | false =>
      have HR : Hid (takeTop st = .error (4, st.at_)) := by show _ = _; simp [takeTop, takeAnyM, he, hfl, hcu]
      clear he hn hfl hcu
      go_enter Tryz.func80, Tryz.ntmps80
      go_wp2
      go_quiet (exact Calls.quiet_of (inner_any (hB.drewN _) hbl hl))
      go_wp2_with fail
      refine (inner_any (hB.drewN _) hbl hl).mono ?_
      rintro e w2 ⟨rfl, k2, rfl⟩
      go_wp2_with fail
      refine (refuseKinds_any (hB.drewN _)).mono ?_
      rintro e w3 ⟨rfl, rfl⟩
      exact ⟨rfl, Says.err_mk HR.out ((Kept.refl _ _).drewN _)⟩
  · have te : ((st.stack.length : Int) == (fl : Int)) = false := by simp; omega
    obtain ⟨gs, cs, hv, hok, hgs, hcs, hcell⟩ := isKinds.cell hstk (i := st.stack.length - 1) (by omega)
    cases hv
    have HC := hide (isKinds.cut (st.stack.length - 1) hstk (by omega))
    have HR : Hid (takeTop st = .ok (st.stack.getD (st.stack.length - 1) 0, { st with stack := st.stack.take (st.stack.length - 1) })) := by show _ = _; simp [takeTop, takeAnyM, he, hfl]
    have hlen : (st.stack.take (st.stack.length - 1)).length = st.stack.length - 1 := by simp
    have HL := hide hlen
    have b1 : (0 : Int) ≤ (st.stack.length : Int) - 1 := by omega
    have b2 : (st.stack.length : Int) - 1 < (st.stack.length : Int) := by omega
    have b3 : (st.stack.length : Int) - 1 ≤ (c : Int) := by omega
    have b4 : decide ((st.stack.length : Int) - 1 < 0) = false := by simp; omega
    clear he hn hfl hcu hstk hlen
    generalize st.stack.getD (st.stack.length - 1) 0 = kd at *
    go_enter Tryz.func80, Tryz.ntmps80
    go_wp2
    go_quiet (exact Calls.quiet_of (inner_any (hB.drewN _) hbl hl))
    go_wp2
    go_ret
    refine Says.ok_mk HR.out (((Kept.refl _ _).drewN _).own _) ⟨rfl, ?_⟩
    show BodyV K O _ bb mp lv (.slice _ (st.stack.take (st.stack.length - 1)).length c) _ _
    rw [HL.out]
    exact HV.out.cells (((Kept.refl _ _).drewN _).own _) ((hB.drewN _).set 2 _) HC.out HV.out.bls

/-- What take leaves. -/
def isTaken (K O : Nat → Prop) (bb : Nat) (mp lv : Value) (p : Option Addr) (c : Nat) (bv : Value) (x : Bd) (w : World) (v : Value) : Prop :=
  v = .tuple #[] ∧ BodyV K O w bb mp lv (.slice p x.stack.length c) bv x

theorem takeTop_of {st st1 : Bd} (hi : st1.inner = st.inner) (ha : st1.at_ = st.at_) : takeAnyM st.inner st.at_ st1.stack = match takeTop st1 with
    | .error e => .error e
    | .ok (got, st') => .ok (got, st'.stack) := by
  unfold takeTop
  rw [hi, ha]
  cases takeAnyM st.inner st.at_ st1.stack with
  | error e => rfl
  | ok x => rfl

/-- The rest of take: from the i-th kind down. -/
def takeRest (st : Bd) (ks : List Nat) (i : Nat) (stk : List Nat) : Except Err Bd :=
  match takeGo st.inner st.at_ ks i stk with
  | .error e => .error e
  | .ok stk => .ok { st with stack := stk }

theorem takeRest_err {st st1 : Bd} {ks : List Nat} {j : Nat} {e : Err} (hi : st1.inner = st.inner) (ha : st1.at_ = st.at_) (h : takeTop st1 = .error e) : takeRest st ks (j + 1) st1.stack = .error e := by
  have := takeTop_of hi ha
  rw [h] at this
  simp [takeRest, takeGo, this]

theorem takeRest_bad {st st1 st2 : Bd} {ks : List Nat} {j got : Nat} (hi : st1.inner = st.inner) (ha : st1.at_ = st.at_) (h : takeTop st1 = .ok (got, st2)) (h1 : got ≠ ks.getD j 0) (h2 : got ≠ 0) : takeRest st ks (j + 1) st1.stack = .error (4, st.at_) := by
  have := takeTop_of hi ha
  rw [h] at this
  simp only [takeRest, takeGo, this]
  rw [if_pos ⟨h1, h2⟩]

theorem takeRest_ok {st st1 st2 : Bd} {ks : List Nat} {j got : Nat} (hi : st1.inner = st.inner) (ha : st1.at_ = st.at_) (h : takeTop st1 = .ok (got, st2)) (h1 : ¬ (got ≠ ks.getD j 0 ∧ got ≠ 0)) : takeRest st ks (j + 1) st1.stack = takeRest st ks j st2.stack := by
  have := takeTop_of hi ha
  rw [h] at this
  simp only [takeRest, takeGo, this]
  rw [if_neg h1]

theorem takeTop_facts {st st' : Bd} {k : Nat} (hf : st.inner.floor ≤ st.stack.length) (h : takeTop st = .ok (k, st')) : st' = { st with stack := st'.stack } ∧ st.inner.floor ≤ st'.stack.length ∧ st'.stack.length ≤ st.stack.length := by
  unfold takeTop at h
  split at h
  · cases h
  · rename_i ho
    cases h
    have := takeAnyM_facts hf ho
    exact ⟨rfl, this.1, this.2.1⟩

set_option maxHeartbeats 1600000 in
theorem take_any {K O ok : Nat → Prop} {w : World} {bb c : Nat} {mp lv bv kv : Value} {p : Option Addr} {st : Bd} {ks : List Nat} (h : BodyV K O w bb mp lv (.slice p st.stack.length c) bv st) (hk : isKinds ok ks w kv) (hok : ¬ ok bb) (hb : ks ≠ [] → st.blocks ≠ []) (hl : st.blocks.length ≤ 60) (hf : st.inner.floor ≤ st.stack.length) (hs : st.stack.length ≤ 1000000) (hkl : ks.length ≤ 50) :
    Calls Tryz.prog 60 #[.pointer (some ⟨bb, 0, none⟩), kv] w (Says (only bb) w (takeM st ks) (isTaken K O bb mp lv p c bv)) := by
  obtain ⟨pk, ck, rfl⟩ := Row.shape hk
  have H0 : Hid (takeM st ks = takeRest st ks ks.length st.stack) := rfl
  have HV := hide h
  clear h
  go_enter Tryz.func60, Tryz.ntmps60
  go_wp2
  go_loopw [4] (fun q wr => ∃ (i : Nat) (st1 : Bd), i ≤ ks.length ∧ q = .int .i64 ((i : Int) - 1) ∧ (st1 = { st with stack := st1.stack } ∧ st.inner.floor ≤ st1.stack.length ∧ st1.stack.length ≤ st.stack.length) ∧ BodyV K O wr bb mp lv (.slice p st1.stack.length c) bv st1 ∧ Kept (only bb) w wr ∧
      takeM st ks = takeRest st ks i st1.stack) (fun q _ => (intOf q + 1).toNat)
  case atStart => exact ⟨ks.length, st, Nat.le_refl _, by go_num, ⟨rfl, hf, Nat.le_refl _⟩, HV.out, Kept.refl _ _, H0.out⟩
  case round =>
    obtain ⟨i, st1, hi, rfl, ⟨hst, hfs, hls⟩, hB, hkp, hme⟩ := hrel
    have HE := hide hme
    have HB := hide hB
    have HST := hide hst
    have hinn : st1.inner = st.inner := by rw [hst]; rfl
    have hat : st1.at_ = st.at_ := by rw [hst]
    have hbk : st1.blocks = st.blocks := by rw [hst]
    have HI := hide hinn
    have HA := hide hat
    have HBk := hide hbk
    clear hme hB H0 HV hst hinn hat hbk
    by_cases hz : i = 0
    · subst hz
      have HR : Hid (takeM st ks = .ok st1) := by show _ = _; rw [HE.out, HST.out]; rfl
      clear HE
      go_wp2
      go_end0
      exact Says.ok_mk HR.out hkp ⟨rfl, HB.out⟩
    · obtain ⟨j, rfl⟩ : ∃ j, i = j + 1 := ⟨i - 1, by omega⟩
      have hks : ks ≠ [] := by intro e; subst e; simp at hi
      have hk2 : isKinds ok ks wr (.slice pk ks.length ck) := Row.kept hk hkp (fun g _ hg (e : g = bb) => hok (e ▸ hg))
      have HK := hide (fun (W : World) (hW : Kept (only bb) wr W) => isKinds.cell (Row.kept hk2 hW (fun g _ hg (e : g = bb) => hok (e ▸ hg))) (show j < ks.length by omega))
      have e1 : ((j + 1 : Nat) : Int) - 1 = (j : Int) := by omega
      have t1 : decide ((0 : Int) ≤ ((j + 1 : Nat) : Int) - 1) = true := by simp
      rw [e1] at t1 ⊢
      clear hk2 e1
      have hbs : st1.blocks ≠ [] := by rw [HBk.out]; exact hb hks
      have hbl : st1.blocks.length ≤ 60 := by rw [HBk.out]; exact hl
      have hfl : st1.inner.floor ≤ st1.stack.length := by rw [HI.out]; exact hfs
      go_wp2_with fail
      refine (takeAny_any HB.out hbs hbl hfl (by omega)).mono ?_
      rintro e w2 ⟨hk3, hok3, herr3⟩
      have hk4 := hkp.trans hk3
      cases ho : takeTop st1 with
      | error qp =>
        obtain ⟨q, pp⟩ := qp
        have he := herr3 _ _ ho
        subst he
        exact ⟨rfl, Says.err_mk (HE.out.trans (takeRest_err HI.out HA.out ho)) hk4⟩
      | ok x =>
        obtain ⟨got, st2⟩ := x
        obtain ⟨v, rfl, hv, hB2⟩ := hok3 _ ho
        have hv : v = .int .u8 (got : Nat) := hv
        subst hv
        obtain ⟨gk, capk, hvk, -, hgk, hck, hcell⟩ := HK.out w2 hk3
        cases hvk
        have hf2 := takeTop_facts hfl ho
        rw [HI.out] at hf2
        have hst2 : st2 = { st with stack := st2.stack } := by rw [hf2.1, HST.out]
        have hb0 : (0 : Int) ≤ (j : Int) := by omega
        have hb1 : (j : Int) < (ks.length : Int) := by omega
        have HB2 := hide hB2
        have HO := hide ho
        have HS2 := hide hst2
        have hl2 : st2.stack.length ≤ st.stack.length := by omega
        have hfl2 := hf2.2.1
        clear hok3 herr3 ho HK hB2 hst2 hf2
        by_cases h1 : got = ks.getD j 0
        · have tb : (((got : Nat) : Int) != ((ks.getD j 0 : Nat) : Int)) = false := by simp [h1]
          have HN : Hid (takeM st ks = takeRest st ks j st2.stack) := HE.out.trans (takeRest_ok HI.out HA.out HO.out (fun hh => hh.1 h1))
          clear HE h1
          generalize ks.getD j 0 = kj at *
          go_wp2
          go_roundw
          case rel => exact ⟨j, st2, by omega, by go_num, ⟨HS2.out, hfl2, hl2⟩, HB2.out, hk4, HN.out⟩
          case measure => simp [intOf]
        · have tb : (((got : Nat) : Int) != ((ks.getD j 0 : Nat) : Int)) = true := by rw [bne_iff_ne]; omega
          by_cases h2 : got = 0
          · have tc : (((got : Nat) : Int) != 0) = false := by simp [h2]
            have HN : Hid (takeM st ks = takeRest st ks j st2.stack) := HE.out.trans (takeRest_ok HI.out HA.out HO.out (fun hh => hh.2 h2))
            clear HE h1 h2
            generalize ks.getD j 0 = kj at *
            go_wp2
            go_roundw
            case rel => exact ⟨j, st2, by omega, by go_num, ⟨HS2.out, hfl2, hl2⟩, HB2.out, hk4, HN.out⟩
            case measure => simp [intOf]
          · have tc : (((got : Nat) : Int) != 0) = true := by rw [bne_iff_ne]; omega
            have HN : Hid (takeM st ks = .error (4, st.at_)) := HE.out.trans (takeRest_bad HI.out HA.out HO.out h1 h2)
            have hat2 : st2.at_ = st.at_ := by rw [HS2.out]
            clear HE h1 h2
            generalize ks.getD j 0 = kj at *
            go_wp2_with fail
            refine (refuseKinds_any HB2.out.blk).mono ?_
            rintro e w3 ⟨rfl, rfl⟩
            rw [hat2]
            exact ⟨rfl, Says.err_mk HN.out hk4⟩

end Go.Proofs.YtgkpkngchploiaaGreat
/-
  put, lookFor.
-/
namespace Go.Proofs.YtgkpkngchploiaaGreat
open Go.RowKit

/-- Nothing is appended. -/
theorem run_append_empty {P : Program} {w : World} {base : Nat} {t ty e : TypeId} {i : TypeInfo} {size : Nat} (ht : P.underlying t = some (.slice e)) (hi : P.info? e = some i) {v : Value} {n : Nat} {xs : List Value} (hown : w.ownsRow base e size v n xs) (q : Option Addr) (c : Nat) :
    (Builtin.append_ #[t, t] ty #[v, .slice q 0 c]).run P w = .ok v w := by
  have hf : (Builtin.firstCells i.size 0 (.slice q 0 c)).run P w = .ok #[] w := by
    cases q with
    | none => exact run_firstCells_none w _ _ _ _
    | some a => exact run_firstCells_some w _ 0 a 0 c [] (by simp) (by simp)
  rcases hown.2 with ⟨rfl, rfl⟩ | ⟨g, cap, cur, rfl, _, _, hcap, _⟩
  · simp [Builtin.append_, run_underlying ht, sizeOf, typeInfo, hi, Builtin.lenOf, hf]
  · simp [Builtin.append_, run_underlying ht, sizeOf, typeInfo, hi, Builtin.lenOf, hf, hcap, storeCells]

theorem wpList_append_empty {P : Program} {w : World} {ops : Array Oper} {rest : List Oper} {o : Oper} {a : Act} {Q : Exit → Act → World → Prop} (hgd : o.guard = none) (s x : Operand) (t : TypeId)
    (ho : o.op = .call { callee := .builtin .append, args := #[s, x], argTypes := #[t, t] })
    (base : Nat) (e : TypeId) (i : TypeInfo) (size : Nat) (ht : P.underlying t = some (.slice e)) (hi : P.info? e = some i)
    (v : Value) (n : Nat) (xs : List Value) (hs : a.eval s = v) (hown : w.ownsRow base e size v n xs) (q : Option Addr) (c : Nat) (hx : a.eval x = .slice q 0 c)
    (h : wpList P ops Q rest (a.put o.dst v) w) : wpList P ops Q (o :: rest) a w := by
  refine wpList_plain hgd fun _ hK => ?_
  have hr := run_append_empty (ty := o.type) ht hi hown q c
  unfold Oper.wp execOp
  simp only [ho, resolve, invoke, builtin, Sem.run_bind, Sem.run_pure, Result.andThen_ok, List.map_toArray, List.map_cons, List.map_nil, hs, hx, hr]
  exact hK _ _ h

/-- The blocks of O, and all that are new. -/
def More (O : Nat → Prop) (w : World) : Nat → Prop := fun k => O k ∨ w.heap.size ≤ k

/-- The body, so; nothing is answered. -/
def isBody (K O : Nat → Prop) (w0 : World) (bb : Nat) (mp lv : Value) (x : Bd) (w : World) (v : Value) : Prop := v = .tuple #[] ∧ BodyAt K (More O w0) w bb mp lv x

theorem kindCells_append (a b : List Nat) : kindCells (a ++ b) = kindCells a ++ kindCells b := by simp [kindCells]

set_option maxRecDepth 100000 in
set_option maxHeartbeats 1600000 in
theorem put_any {K O ok : Nat → Prop} {w : World} {bb : Nat} {mp lv sv bv kv : Value} {st : Bd} {ks : List Nat} (h : BodyV K O w bb mp lv sv bv st) (hk : isKinds ok ks w kv) (hs : st.stack.length ≤ 1000000) (hkl : ks.length ≤ 50) :
    Calls Tryz.prog 61 #[.pointer (some ⟨bb, 0, none⟩), kv] w (Says O w (.ok (putM st ks)) (isBody K O w bb mp lv)) := by
  obtain ⟨i0, hi0, hz0, hz1, hz2⟩ := info_parts Tryz.info74
  obtain ⟨-, -, ⟨I2, J2⟩, -, -⟩ := h.blk.five
  have hbw := h.lt
  have HV := hide h
  have hnew : ∀ k, w.heap.size ≤ k → ¬ K k := fun k hk0 c => by have := h.kb k c; omega
  obtain ⟨ps, cs, rfl⟩ := Row.shape h.stk
  obtain ⟨pk, ck, rfl⟩ := Row.shape hk
  have hstk := h.stk
  clear h
  by_cases hz : ks = []
  · subst hz
    go_enter Tryz.func61, Tryz.ntmps61
    go_wp2_with (at_builtin; refine wpList_append_empty rfl _ _ 83 rfl 0 74 i0 1 Tryz.underlying83 hi0 _ _ _ rfl hstk.own _ _ rfl ?_)
    go_wp2
    go_end0
    refine Says.ok_mk rfl ((Kept.refl _ _).setCell (fun _ => HV.out.own) _) ⟨rfl, .slice ps st.stack.length cs, bv, ?_⟩
    have hv : BodyV K O (w.setCell ⟨bb, 2, none⟩ (.slice ps st.stack.length cs)) bb mp lv (.slice ps st.stack.length cs) bv (putM st []) := by
      refine HV.out.cells ((Kept.refl _ _).own _) (HV.out.blk.set 2 _) ?_ HV.out.bls
      simpa [putM] using HV.out.stk
    exact hv.more (fun k hk => .inl hk) (fun k hk => hk.elim (HV.out.dis k) (hnew k))
  · have hkp : 0 < ks.length := by
      have : ks.length ≠ 0 := by simpa using hz
      omega
    obtain ⟨gk, ck', hvk, -, hgk, hck, hcells⟩ := Row.cells hk hkp
    cases hvk
    have hnews : ∀ j u, (kindCells ks)[j]? = some u → w.cell? ((⟨gk, 0, none⟩ : Addr).add j) = some u := by
      intro j u hj
      have hjl : j < ks.length := by
        have := (List.getElem?_eq_some_iff.1 hj).1
        simpa [kindCells] using this
      have hadd : (⟨gk, 0, none⟩ : Addr).add j = ⟨gk, j, none⟩ := by unfold Addr.add; split <;> simp_all
      rw [hadd, hcells j (by omega)]
      exact hj
    have hone : ∀ u ∈ kindCells ks, u.oneCell' = true := by
      intro u hu
      simp [kindCells] at hu
      obtain ⟨x, -, rfl⟩ := hu
      rfl
    have HN := hide hnews
    have HO := hide hone
    clear hnews hone hcells hz
    go_enter Tryz.func61, Tryz.ntmps61
    go_wp2_with (at_builtin; refine wpList_append_lies _ rfl _ _ 83 rfl 0 74 i0 (.int .u8 0) 1 1 Tryz.underlying83 hi0 hz0 hz1 hz2 rfl (by decide) _ _ _ rfl hstk.own ⟨gk, 0, none⟩ ks.length ck (kindCells ks) rfl (by simp [kindCells]) HN.out HO.out hkp ?c3 ?c4 (Nat.zero_le _) w.heap.size rfl ?_)
    case c3 => unfold maxLen; omega
    case c4 => omega
    intro gg cap w3 hown3 hgrow hat hlt3
    have hfar : some bb ≠ (Value.slice ps st.stack.length cs).ownBlock := fun e => (hstk.at_ bb e.symm).2 rfl
    have q2 : w3.cell? ⟨bb, 2, none⟩ = some (.slice ps st.stack.length cs) := (hgrow.cell_far ⟨bb, 2, none⟩ hbw hfar).trans I2
    have f2 : w3.frozen? ⟨bb, 2, none⟩ = false := (hgrow.frozen_far ⟨bb, 2, none⟩ hbw hfar).trans J2
    have HO3 := hide hown3
    have HA := hide hat
    have HG := hide hgrow
    clear hown3 hat hgrow
    go_wp2
    go_end0
    have hkg : Kept O w w3 := (Kept.of_grown HG.out).mono (fun k _ e => (hstk.at_ k e).1)
    refine Says.ok_mk rfl (hkg.setCell (fun _ => HV.out.own) _) ⟨rfl, .slice (some ⟨gg, 0, none⟩) (st.stack.length + ks.length) cap, bv, ?_⟩
    have hgg : More O w gg ∧ gg ≠ bb := by
      rcases HA.out with hh | hh
      · exact ⟨.inl (hstk.at_ gg hh).1, (hstk.at_ gg hh).2⟩
      · exact ⟨.inr (by omega), by omega⟩
    have hrow3 : isKinds (fun g => More O w g ∧ g ≠ bb) (st.stack ++ ks) w3 (.slice (some ⟨gg, 0, none⟩) (st.stack.length + ks.length) cap) := by
      refine ⟨?_, fun g hg => ?_⟩
      · rw [kindCells_append, List.length_append]; exact HO3.out
      · simp [Value.ownBlock] at hg; subst hg; exact hgg
    have hb3 : Blk w3 bb [mp, lv, .slice ps st.stack.length cs, bv, .int .i64 (st.at_ : Nat)] := HV.out.blk.kept (Kept.of_grown HG.out) hbw (fun e => hfar e.symm)
    have hl3 : isLst 125 5 (fun _ => elBlo K) (fun g => More O w g ∧ g ≠ bb) st.blocks.reverse w3 bv := by
      obtain ⟨css, h1, h2⟩ := HV.out.bls.grown hstk.own (by decide) HG.out (fun x cs e => e.kept (Kept.of_grown HG.out) (fun g _ hK hS => HV.out.dis g (hstk.at_ g hS).1 hK))
      exact ⟨css, Row.mono h1 (fun g _ hg => ⟨.inl hg.1, hg.2⟩), h2⟩
    have hkb : Kept (only bb) w3 (w3.setCell ⟨bb, 2, none⟩ (.slice (some ⟨gg, 0, none⟩) (st.stack.length + ks.length) cap)) := (Kept.refl _ _).own _
    refine ⟨hb3.set 2 _, .inl HV.out.own, ?_, ?_, fun k hk => hk.elim (HV.out.dis k) (hnew k), fun k hk => ?_⟩
    · exact Row.kept hrow3 hkb (fun g _ hg (c : g = bb) => hg.2 c)
    · exact hl3.kept hkb (fun g _ hg (c : g = bb) => hg.2 c) (fun _ _ e => e.kept hkb (fun g _ hg (c : g = bb) => HV.out.dis bb HV.out.own (c ▸ hg)))
    · have := HV.out.kb k hk
      have h2 := HG.out.size
      simp
      omega

end Go.Proofs.YtgkpkngchploiaaGreat
/-
  lookFor, cutOff.
-/
namespace Go.Proofs.YtgkpkngchploiaaGreat
open Go.RowKit

/-- Only looked at: the body as it was. -/
def isSame (K O : Nat → Prop) (bb : Nat) (mp lv sv bv : Value) (st : Bd) (_ : Unit) (w : World) (v : Value) : Prop := v = .tuple #[] ∧ BodyV K O w bb mp lv sv bv st

def lookForM (st : Bd) (ks : List Nat) : Except Err Unit := match takeM st ks with
  | .error e => .error e
  | .ok _ => .ok ()

set_option maxHeartbeats 800000 in
theorem lookFor_any {K O ok : Nat → Prop} {w : World} {bb c : Nat} {mp lv bv kv : Value} {p : Option Addr} {st : Bd} {ks : List Nat} (h : BodyV K O w bb mp lv (.slice p st.stack.length c) bv st) (hk : isKinds ok ks w kv) (hok : ¬ ok bb) (hb : ks ≠ [] → st.blocks ≠ []) (hl : st.blocks.length ≤ 60) (hf : st.inner.floor ≤ st.stack.length) (hs : st.stack.length ≤ 1000000) (hkl : ks.length ≤ 50) :
    Calls Tryz.prog 110 #[.pointer (some ⟨bb, 0, none⟩), kv] w (Says (only bb) w (lookForM st ks) (isSame K O bb mp lv (.slice p st.stack.length c) bv st)) := by
  obtain ⟨-, -, ⟨I2, J2⟩, -, -⟩ := h.blk.five
  obtain ⟨pk, ck, rfl⟩ := Row.shape hk
  go_enter Tryz.func110, Tryz.ntmps110
  go_wp2_with fail
  refine (take_any h hk hok hb hl hf hs hkl).mono ?_
  rintro e w2 ⟨hk2, hok2, herr2⟩
  have HV := hide h
  clear h
  cases ho : takeM st ks with
  | error qp =>
    obtain ⟨q, pp⟩ := qp
    have he := herr2 _ _ ho
    subst he
    exact ⟨rfl, Says.err_mk (by simp [lookForM, ho]) hk2⟩
  | ok st1 =>
    obtain ⟨v, rfl, rfl, hB⟩ := hok2 _ ho
    have HR : Hid (lookForM st ks = .ok ()) := by show _ = _; simp [lookForM, ho]
    have hat : st1.at_ = st.at_ := (takeM_facts hf ho).2.1
    obtain ⟨-, -, ⟨A2, C2⟩, -, -⟩ := hB.blk.five
    have hB2 := hB.blk
    rw [hat] at hB2
    have HB2 := hide hB2
    clear hok2 herr2 ho hB hat hB2 I2 J2
    go_wp2
    go_end0
    exact Says.ok_mk HR.out (hk2.own _) ⟨rfl, HV.out.cells (hk2.own _) (HB2.out.set 2 _) HV.out.stk HV.out.bls⟩

theorem Each.unsnoc {α β : Type} {P : α → β → Prop} : ∀ {xs : List α} {x : α} {ys : List β}, Each P (xs ++ [x]) ys → ∃ ys0 y, ys = ys0 ++ [y] ∧ Each P xs ys0 ∧ P x y
  | [], x, [], h => h.elim
  | [], x, [y], h => ⟨[], y, rfl, trivial, h.1⟩
  | [], x, y :: z :: ys, h => h.2.elim
  | a :: xs, x, [], h => h.elim
  | a :: xs, x, y :: ys, h => by
    obtain ⟨ys0, y', e, h1, h2⟩ := Each.unsnoc (xs := xs) h.2
    exact ⟨y :: ys0, y', by rw [e]; rfl, ⟨h.1, h1⟩, h2⟩

theorem Each.flat_len {α : Type} {P : α → List Value → Prop} {m : Nat} : ∀ {xs : List α} {css : List (List Value)}, Each (fun x c => P x c ∧ c.length = m) xs css → css.flatten.length = xs.length * m
  | [], [], _ => by simp
  | _ :: xs, c :: css, h => by
    have h1 := h.1.2
    have h2 := Each.flat_len (xs := xs) (css := css) h.2
    simp only [List.flatten_cons, List.length_append, List.length_cons, h1, h2, Nat.add_mul]
    omega
  | [], _ :: _, h => h.elim
  | _ :: _, [], h => h.elim

/-- A cell of a list is changed. -/
theorem Row.set {ok : Nat → Prop} {w : World} {E : TypeId} {size n i g c : Nat} {xs : List Value} (h : Row ok w E size (.slice (some ⟨g, 0, none⟩) n c) n xs) (u : Value) : Row ok (w.setCell ⟨g, i, none⟩ u) E size (.slice (some ⟨g, 0, none⟩) n c) n (xs.set i u) := by
  refine ⟨⟨by simp [h.own.1], ?_⟩, h.at_⟩
  rcases h.own.2 with ⟨hv, _⟩ | ⟨g', cap, cur, hv, hb, hgg, hcap, hmax, hsz, htake⟩
  · cases hv
  · cases hv
    refine .inr ⟨g, c, cur.setIfInBounds i u, rfl, hb, ?_, hcap, hmax, by simpa using hsz, ?_⟩
    · simp [World.setCell, Array.getElem?_modify, hgg]
    · rw [← htake]
      simp [List.take_set]

theorem Row.free {ok : Nat → Prop} {w : World} {E : TypeId} {size n g c : Nat} {xs : List Value} (h : Row ok w E size (.slice (some ⟨g, 0, none⟩) n c) n xs) (i : Nat) : w.frozen? ⟨g, i, none⟩ = false := by
  rcases h.own.2 with ⟨hv, _⟩ | ⟨g', cap, cur, hv, hb, hgg, _⟩
  · cases hv
  · cases hv
    simp [World.frozen?, hgg]

/-- The innermost block changed. -/
theorem blocks_set {K ok : Nat → Prop} {w : World} {g cap n : Nat} {bs : List Blo} {b : Blo} (h : isLst 125 5 (fun _ => elBlo K) ok (b :: bs).reverse w (.slice (some ⟨g, 0, none⟩) n cap)) (hK : ¬ K g) (c : Bool) :
    isLst 125 5 (fun _ => elBlo K) ok ({ b with cut := c } :: bs).reverse (w.setCell ⟨g, bs.length * 5 + 4, none⟩ (.bool c)) (.slice (some ⟨g, 0, none⟩) n cap) := by
  have hk : Kept (only g) w (w.setCell ⟨g, bs.length * 5 + 4, none⟩ (.bool c)) := (Kept.refl _ _).own _
  obtain ⟨css, hrow, hea⟩ := h
  simp only [List.reverse_cons] at hea ⊢
  obtain ⟨css0, cs, rfl, h1, ⟨⟨tv, gv, rfl, ht, hg⟩, -⟩⟩ := hea.unsnoc
  have hlen := h1.flat_len
  obtain ⟨p', c', hv⟩ := Row.shape hrow
  cases hv
  refine ⟨css0 ++ [[.int .u8 (b.word : Nat), tv, gv, .int .i64 (b.floor : Nat), .bool c]], ?_, ?_⟩
  · have hr := Row.set (i := bs.length * 5 + 4) hrow (.bool c)
    simp only [List.flatten_append, List.flatten_cons, List.flatten_nil, List.append_nil] at hr ⊢
    have e1 : (bs.reverse ++ [{ b with cut := c }]).length = (bs.reverse ++ [b]).length := by simp
    have e2 : (css0.flatten ++ [Value.int .u8 (b.word : Nat), tv, gv, .int .i64 (b.floor : Nat), .bool b.cut]).set (bs.length * 5 + 4) (.bool c) = css0.flatten ++ [Value.int .u8 (b.word : Nat), tv, gv, .int .i64 (b.floor : Nat), .bool c] := by
      simp only [List.length_reverse] at hlen
      rw [List.set_append_right _ _ (by omega), hlen]
      simp
    rw [e2] at hr
    rw [e1]
    simpa using hr
  · refine Each.snoc (h1.to (fun x cs hh => ⟨hh.1.kept hk (fun k _ hk0 (e : k = g) => hK (e ▸ hk0)), hh.2⟩)) ⟨⟨tv, gv, rfl, Row.kept ht hk (fun k _ hk0 (e : k = g) => hK (e ▸ hk0)), Row.kept hg hk (fun k _ hk0 (e : k = g) => hK (e ▸ hk0))⟩, rfl⟩

/-- Lists of different element types lie apart. -/
theorem Row.apart {ok ok' : Nat → Prop} {w : World} {E E' : TypeId} {size size' n n' : Nat} {v v' : Value} {xs xs' : List Value} (h : Row ok w E size v n xs) (h' : Row ok' w E' size' v' n' xs') (hne : E ≠ E') {g : Nat} (hg : v.ownBlock = some g) : v'.ownBlock ≠ some g := by
  intro hg'
  rcases h.own.2 with ⟨rfl, _⟩ | ⟨g1, cap1, cur1, rfl, _, hh1, _⟩
  · simp [Value.ownBlock] at hg
  rcases h'.own.2 with ⟨rfl, _⟩ | ⟨g2, cap2, cur2, rfl, _, hh2, _⟩
  · simp [Value.ownBlock] at hg'
  simp [Value.ownBlock] at hg hg'
  subst hg hg'
  rw [hh1] at hh2
  simp at hh2
  exact hne hh2.2

theorem Row.only {ok ok' : Nat → Prop} {w : World} {E : TypeId} {size n : Nat} {v : Value} {xs : List Value} (h : Row ok w E size v n xs) (hg : ∀ g, v.ownBlock = some g → ok' g) : Row ok' w E size v n xs := ⟨h.own, hg⟩

theorem cutOff_world {K O : Nat → Prop} {w : World} {bb c g cap : Nat} {mp lv : Value} {p : Option Addr} {st : Bd} (h : BodyV K O w bb mp lv (.slice p st.stack.length c) (.slice (some ⟨g, 0, none⟩) st.blocks.length cap) st) (hb : st.blocks ≠ [])
    (hc : isKinds (fun g => O g ∧ g ≠ bb) (st.stack.take st.inner.floor) w (.slice p st.inner.floor c)) (k k' : Nat) :
    Says O w (.ok (cutOffM st)) (isBody K O w bb mp lv) (.returned (.tuple #[])) ((((w.drewN k).setCell ⟨bb, 2, none⟩ (.slice p st.inner.floor c)).drewN k').setCell ⟨g, (st.blocks.length - 1) * 5 + 4, none⟩ (.bool true)) := by
  obtain ⟨stk, bs, a⟩ := st
  cases bs with
  | nil => exact absurd rfl hb
  | cons b bs =>
    simp only [Bd.inner, List.headD_cons] at hc ⊢
    have hrow : ∃ css, Row (fun g => O g ∧ g ≠ bb) w 125 5 (.slice (some ⟨g, 0, none⟩) (b :: bs).length cap) (b :: bs).reverse.length css := by
      obtain ⟨css, h1, -⟩ := h.bls
      exact ⟨_, h1⟩
    obtain ⟨css, hrow⟩ := hrow
    have hg := hrow.at_ g rfl
    have h1 : BodyV K O (((w.drewN k).setCell ⟨bb, 2, none⟩ (.slice p b.floor c)).drewN k') bb mp lv (.slice p b.floor c) (.slice (some ⟨g, 0, none⟩) (b :: bs).length cap) ⟨stk.take b.floor, b :: bs, a⟩ :=
      (h.cells (st' := ⟨stk.take b.floor, b :: bs, a⟩) (((Kept.refl _ _).drewN _).own _) ((h.blk.drewN _).set 2 _) hc h.bls).drewN _
    generalize hW : ((w.drewN k).setCell ⟨bb, 2, none⟩ (.slice p b.floor c)).drewN k' = W at h1 ⊢
    have hkW : Kept O w W := by rw [← hW]; exact (((Kept.refl _ _).drewN _).setCell (fun _ => h.own) _).drewN _
    have hnew : ∀ j, w.heap.size ≤ j → ¬ K j := fun j hj c => by have := h.kb j c; omega
    have e1 : ((b :: bs).length - 1) * 5 + 4 = bs.length * 5 + 4 := by simp
    have hkg : Kept (only g) W (W.setCell ⟨g, ((b :: bs).length - 1) * 5 + 4, none⟩ (.bool true)) := (Kept.refl _ _).own _
    refine Says.ok_mk rfl (hkW.setCell (fun _ => hg.1) _) ⟨rfl, .slice p b.floor c, .slice (some ⟨g, 0, none⟩) (b :: bs).length cap, ?_⟩
    have hB : BodyV K O (W.setCell ⟨g, ((b :: bs).length - 1) * 5 + 4, none⟩ (.bool true)) bb mp lv (.slice p b.floor c) (.slice (some ⟨g, 0, none⟩) (b :: bs).length cap) ⟨stk.take b.floor, { b with cut := true } :: bs, a⟩ := by
      have hW1 : ∃ css, Row (fun g => O g ∧ g ≠ bb) W 125 5 (.slice (some ⟨g, 0, none⟩) (b :: bs).length cap) (b :: bs).reverse.length css := by
        obtain ⟨css, h2, -⟩ := h1.bls
        exact ⟨_, h2⟩
      obtain ⟨css1, hr1⟩ := hW1
      refine ⟨h1.blk.kept hkg h1.lt (fun (e : bb = g) => hg.2 e.symm), h1.own, ?_, ?_, h1.dis, fun j hj => by have := h1.kb j hj; simpa using this⟩
      · have h2 : isKinds (fun j => (O j ∧ j ≠ bb) ∧ j ≠ g) (stk.take b.floor) W (.slice p b.floor c) := Row.only h1.stk (fun j hj => ⟨h1.stk.at_ j hj, fun e => Row.apart h1.stk hr1 (by decide) hj (by rw [e]; rfl)⟩)
        exact Row.mono (Row.kept h2 hkg (fun j _ hj (e : j = g) => hj.2 e)) (fun j _ hj => hj.1)
      · rw [e1]
        exact blocks_set h1.bls (h1.dis g hg.1) true
    exact hB.more (fun j hj => .inl hj) (fun j hj => hj.elim (h.dis j) (hnew j))

set_option maxRecDepth 100000 in
set_option maxHeartbeats 1600000 in
theorem cutOff_any {K O : Nat → Prop} {w : World} {bb c : Nat} {mp lv bv : Value} {p : Option Addr} {st : Bd} (h : BodyV K O w bb mp lv (.slice p st.stack.length c) bv st) (hb : st.blocks ≠ []) (hl : st.blocks.length ≤ 60) (hf : st.inner.floor ≤ st.stack.length) :
    Calls Tryz.prog 82 #[.pointer (some ⟨bb, 0, none⟩)] w (Says O w (.ok (cutOffM st)) (isBody K O w bb mp lv)) := by
  obtain ⟨g, cap, tv, gv, rfl, hg, hgw, hcap, hbl, -, -, B0, B1, B2, B3, B4⟩ := h.inner_cells hb
  obtain ⟨-, -, ⟨I2, J2⟩, ⟨I3, J3⟩, ⟨I4, J4⟩⟩ := h.blk.five
  have hB := h.blk
  have HV := hide h
  have hstk := h.stk
  have HC := hide (isKinds.cut st.inner.floor hstk hf)
  have hcs : st.stack.length ≤ c := by
    rcases hstk.own.2 with ⟨hv, hn⟩ | ⟨g, cap, cur, hv, _, _, h3, _⟩
    · omega
    · cases hv; exact h3
  have D4 : w.frozen? ⟨g, (st.blocks.length - 1) * 5 + 4, none⟩ = false := by
    obtain ⟨css, hrow, -⟩ := h.bls
    rw [show st.blocks.reverse.length = st.blocks.length by simp] at hrow
    exact Row.free hrow _
  clear h hstk
  have hne := hg.2
  have hne' : bb ≠ g := fun e => hg.2 e.symm
  have hbw := hB.lt
  generalize hn : st.blocks.length = n at *
  generalize hfl : st.inner.floor = fl at *
  have b1 : (0 : Int) ≤ (fl : Int) := by omega
  have b2 : (fl : Int) ≤ (c : Int) := by omega
  go_enter Tryz.func82, Tryz.ntmps82
  go_wp2_with fail
  go_region_law (first
    | (refine step_call (f := 108) (args := #[.pointer (some ⟨bb, 0, none⟩)]) (by rfl) (by go_simp) (inner_any (hB.drewN 1) hbl hl) ?_; rintro e w2 ⟨rfl, k2, rfl⟩; refine ⟨_, rfl, ?_⟩))
  all_goals
    go_wp2_with fail
    refine (inner_any ((hB.drewN _).set 2 _) hbl hl).mono ?_
    rintro e w2 ⟨rfl, k3, rfl⟩
    go_wp2
    go_end0
    subst hn hfl
    exact cutOff_world HV.out hb HC.out _ _

end Go.Proofs.YtgkpkngchploiaaGreat
/-
  leave, labelTakes.
-/
namespace Go.Proofs.YtgkpkngchploiaaGreat
open Go.RowKit

/-- The innermost block taken away. -/
theorem blocks_pop {K ok : Nat → Prop} {w : World} {p : Option Addr} {cap : Nat} {bs : List Blo} {b : Blo} (h : isLst 125 5 (fun _ => elBlo K) ok (b :: bs).reverse w (.slice p (b :: bs).length cap)) :
    isLst 125 5 (fun _ => elBlo K) ok bs.reverse w (.slice p bs.length cap) := by
  obtain ⟨css, hrow, hea⟩ := h
  simp only [List.reverse_cons] at hea
  obtain ⟨css0, cs, rfl, h1, -⟩ := hea.unsnoc
  have hlen := h1.flat_len
  have e1 : (b :: bs).reverse.length = (b :: bs).length := by simp
  rw [e1] at hrow
  have hc := Row.cut hrow (k := bs.length) (by simp)
  refine ⟨css0, ?_, h1⟩
  have e2 : bs.reverse.length = bs.length := by simp
  rw [e2] at hlen ⊢
  have e3 : (css0 ++ [cs]).flatten.take (bs.length * 5) = css0.flatten := by
    rw [List.flatten_append, List.take_append_of_le_length (by omega), List.take_of_length_le (by omega)]
  rw [e3] at hc
  exact hc

/-- What is owned lies there already. -/
theorem BodyV.narrow {K O : Nat → Prop} {w : World} {bb : Nat} {mp lv sv bv : Value} {st : Bd} (h : BodyV K O w bb mp lv sv bv st) : BodyV K (fun k => O k ∧ k < w.heap.size) w bb mp lv sv bv st :=
  ⟨h.blk, ⟨h.own, h.lt⟩, Row.mono h.stk (fun g hg ho => ⟨⟨ho.1, hg⟩, ho.2⟩), by
    obtain ⟨css, h1, h2⟩ := h.bls
    exact ⟨css, Row.mono h1 (fun g hg ho => ⟨⟨ho.1, hg⟩, ho.2⟩), h2⟩, fun k hk => h.dis k hk.1, h.kb⟩

/-- A block that was left, and the body without it. -/
def isLeft (K O : Nat → Prop) (bb : Nat) (mp lv : Value) (x : Blo × Bd) (w : World) (v : Value) : Prop :=
  ∃ tv gv, v = .agg #[.int .u8 (x.1.word : Nat), tv, gv, .int .i64 (x.1.floor : Nat), .bool x.1.cut] ∧ isKinds K x.1.takes w tv ∧ isKinds K x.1.gives w gv ∧ BodyAt K O w bb mp lv x.2

section
variable {K O : Nat → Prop} {w w2 : World} {bb R : Nat}

theorem Kept.five {S : Nat → Prop} {W : World} (h : Kept S w W) (hR : S R) (a b c d e : Value) : Kept S w (((((W.setCell ⟨R, 0, none⟩ a).setCell ⟨R, 1, none⟩ b).setCell ⟨R, 2, none⟩ c).setCell ⟨R, 3, none⟩ d).setCell ⟨R, 4, none⟩ e) :=
  ((((h.setCell (p := ⟨R, 0, none⟩) (fun _ => hR) _).setCell (p := ⟨R, 1, none⟩) (fun _ => hR) _).setCell (p := ⟨R, 2, none⟩) (fun _ => hR) _).setCell (p := ⟨R, 3, none⟩) (fun _ => hR) _).setCell (p := ⟨R, 4, none⟩) (fun _ => hR) _

theorem leave_kinds {ks : List Nat} {v : Value} (h : isKinds K ks w v) (hk : Kept (only bb) w w2) (hb : ¬ K bb) (hR : ¬ K R) (k : Nat) (u a b c d e : Value) :
    isKinds K ks ((((((w2.drewN k).setCell ⟨bb, 3, none⟩ u).setCell ⟨R, 0, none⟩ a).setCell ⟨R, 1, none⟩ b).setCell ⟨R, 2, none⟩ c).setCell ⟨R, 3, none⟩ d |>.setCell ⟨R, 4, none⟩ e) v := by
  have hkk : Kept (fun j => j = bb ∨ j = R) w (((((((w2.drewN k).setCell ⟨bb, 3, none⟩ u).setCell ⟨R, 0, none⟩ a).setCell ⟨R, 1, none⟩ b).setCell ⟨R, 2, none⟩ c).setCell ⟨R, 3, none⟩ d).setCell ⟨R, 4, none⟩ e) :=
    (((hk.mono (fun _ _ c => .inl c)).drewN k).setCell (p := ⟨bb, 3, none⟩) (fun _ => .inl rfl) u).five (.inr rfl) _ _ _ _ _
  exact Row.kept h hkk (fun g _ hg c => c.elim (fun e => hb (e ▸ hg)) (fun e => hR (e ▸ hg)))

theorem leave_body {mp lv sv bv : Value} {st : Bd} (h : BodyV K O w bb mp lv sv bv st) (hK : ¬ K R) (hO : ¬ O R) (a b c d e : Value) :
    BodyV K O (((((w.setCell ⟨R, 0, none⟩ a).setCell ⟨R, 1, none⟩ b).setCell ⟨R, 2, none⟩ c).setCell ⟨R, 3, none⟩ d).setCell ⟨R, 4, none⟩ e) bb mp lv sv bv st :=
  h.kept (S := only R) ((Kept.refl (only R) _).five (show R = R from rfl) _ _ _ _ _) (fun k _ (hk : k = R) => ⟨fun c => hO (hk ▸ c), fun c => hK (hk ▸ c)⟩)
end

set_option maxRecDepth 100000 in
set_option maxHeartbeats 3200000 in
theorem leave_any {K O : Nat → Prop} {w : World} {bb : Nat} {mp lv sv bv : Value} {st : Bd} (h : BodyV K O w bb mp lv sv bv st) (hb : st.blocks ≠ []) (hl : st.blocks.length ≤ 60) (hf : st.inner.floor ≤ st.stack.length) (hs : st.stack.length ≤ 1000000) (hkl : st.inner.gives.length ≤ 50) :
    Calls Tryz.prog 84 #[.pointer (some ⟨bb, 0, none⟩)] w (Says (only bb) w (leaveM st) (isLeft K O bb mp lv)) := by
  have HD := hide h.dis
  replace h := h.narrow
  obtain ⟨ps, cs, rfl⟩ := Row.shape h.stk
  obtain ⟨g, cap, tv, gv, rfl, hg, hgw, hcap, hbl, hkt, hkg, B0, B1, B2, B3, B4⟩ := h.inner_cells hb
  obtain ⟨pt, ct, rfl⟩ := Row.shape hkt
  obtain ⟨pg, cg, rfl⟩ := Row.shape hkg
  have hKb : ¬ K bb := h.dis bb h.own
  have HKB := hide h.kb
  have hbw := h.lt
  have HV := hide h
  have HT := hide hkt
  have HG := hide hkg
  have hB := h.blk
  have hne := hg.2
  clear h hkt hkg
  go_enter Tryz.func84, Tryz.ntmps84
  go_wp2_with fail
  refine (inner_any (hB.alloc hbw _) hbl hl).mono ?_
  rintro e w1 ⟨rfl, k1, rfl⟩
  go_wp2_with fail
  refine (take_any (((HV.out.alloc _).drewN _).alloc _) (ok := K) (ks := st.inner.gives) ?_ hKb (fun _ => hb) hl hf hs hkl).mono ?_
  · exact Row.alloc (Row.kept (S := fun _ => False) (Row.alloc HG.out _) ((Kept.refl _ _).drewN _) (fun _ _ _ c => c)) _
  rintro e w2 ⟨hk2, hok2, herr2⟩
  have hkb : Kept (only bb) w w2 := ((((Kept.refl _ _).alloc _).drewN _).alloc _).trans hk2
  have hsz2 := hk2.size
  have hL : Blk w2 (w.heap.size + 1) [.int .u8 (st.inner.word : Nat), .slice pt st.inner.takes.length ct, .slice pg st.inner.gives.length cg, .int .i64 (st.inner.floor : Nat), .bool st.inner.cut] :=
    (Blk.new' (w := (w.alloc _).drewN k1) (c := #[.int .u8 (st.inner.word : Nat), .slice pt st.inner.takes.length ct, .slice pg st.inner.gives.length cg, .int .i64 (st.inner.floor : Nat), .bool st.inner.cut]) (t := 125) (by simp)).kept hk2 (by simp) (fun (e : w.heap.size + 1 = bb) => by omega)
  have hR : Blk w2 w.heap.size [.int .u8 0, .slice none 0 0, .slice none 0 0, .int .i64 0, .bool false] :=
    ((((Blk.new w #[.int .u8 0, .slice none 0 0, .slice none 0 0, .int .i64 0, .bool false] 125).drewN k1).alloc (by simp) _)).kept hk2 (by simp; omega) (fun (e : w.heap.size = bb) => by omega)
  cases hm : takeM st st.inner.gives with
  | error qp =>
    obtain ⟨q, pp⟩ := qp
    have he := herr2 _ _ hm
    subst he
    exact ⟨rfl, Says.err_mk (by simp [leaveM, hm]) hkb⟩
  | ok st1 =>
    obtain ⟨v, rfl, rfl, hB1⟩ := hok2 _ hm
    have hf1 := takeM_facts hf hm
    have hB1b := hB1.blk
    obtain ⟨⟨L0, -⟩, ⟨L1, -⟩, ⟨L2, -⟩, ⟨L3, -⟩, ⟨L4, -⟩⟩ := hL.five
    obtain ⟨⟨R0, S0⟩, ⟨R1, S1⟩, ⟨R2, S2⟩, ⟨R3, S3⟩, ⟨R4, S4⟩⟩ := hR.five
    obtain ⟨-, -, ⟨I2, J2⟩, ⟨I3, J3⟩, ⟨I4, J4⟩⟩ := hB1b.five
    have HV1 := hide hB1
    have HM := hide hm
    have HF := hide hf1
    have hw2 : w.heap.size + 2 ≤ w2.heap.size := by simp at hsz2; omega
    have hbb2 : bb < w2.heap.size := hB1.lt
    clear hok2 herr2 hm hL hf1 hB1 B0 B1 B2 B3 B4 HV hB
    by_cases hq : st1.stack.length = st.inner.floor
    · have tq : ((st1.stack.length : Int) != (st.inner.floor : Int)) = false := by simp [hq]
      have HR : Hid (leaveM st = .ok (st.inner, { st1 with blocks := st1.blocks.tail })) := by show _ = _; simp [leaveM, HM.out, hq]
      clear hq
      have b1 : (0 : Int) ≤ (st.blocks.length : Int) - 1 := by omega
      have b2 : (st.blocks.length : Int) - 1 ≤ (cap : Int) := by omega
      go_wp2
      go_quiet (fail)
      go_wp2_with fail
      go_region
      all_goals
        have hbR : bb ≠ w.heap.size := by omega
        have hRb : w.heap.size ≠ bb := by omega
        have hLb : w.heap.size + 1 ≠ bb := by omega
        go_wp2
        refine bodyPost_ret (v := .agg #[.int .u8 (st.inner.word : Nat), .slice pt st.inner.takes.length ct, .slice pg st.inner.gives.length cg, .int .i64 (st.inner.floor : Nat), .bool st.inner.cut]) ?_ rfl ?_
        · simp [results, Tryz.results84, go_sem, R0, R1, R2, R3, R4]
        · have hRK : ¬ K w.heap.size := fun c => by have := HKB.out _ c; omega
          refine Says.ok_mk HR.out ((((((((hkb.drewN _).own _).new (Nat.le_refl _) _).new (Nat.le_refl _) _).new (Nat.le_refl _) _).new (Nat.le_refl _) _).new (Nat.le_refl _) _)) ⟨_, _, rfl, ?_, ?_, ?_⟩
          · exact leave_kinds HT.out hkb hKb hRK _ _ _ _ _ _ _
          · exact leave_kinds HG.out hkb hKb hRK _ _ _ _ _ _ _
          · have hb3 := HV1.out.cells (st' := { st1 with blocks := st1.blocks.tail }) (((Kept.refl _ _).drewN (nq + 1)).own _) ((hB1b.drewN (nq + 1)).set 3 (.slice (some ⟨g, 0, none⟩) (st.blocks.length - 1) cap)) HV1.out.stk ?_
            · refine ⟨_, _, BodyV.more (leave_body hb3 hRK (fun c => by omega) _ _ _ _ _) (fun k hk => hk.1) HD.out⟩
            · have hbs := HV1.out.bls
              rw [HF.out.1] at hbs ⊢
              obtain ⟨b, bs, hbe⟩ : ∃ b bs, st.blocks = b :: bs := by
                cases hc : st.blocks with
                | nil => exact absurd hc hb
                | cons b bs => exact ⟨b, bs, rfl⟩
              rw [hbe] at hbs ⊢
              exact blocks_pop hbs
    · have tq : ((st1.stack.length : Int) != (st.inner.floor : Int)) = true := by rw [bne_iff_ne]; omega
      have HR : Hid (leaveM st = .error (4, st.at_)) := by show _ = _; simp [leaveM, HM.out, hq]
      clear hq
      go_wp2
      go_quiet (fail)
      go_wp2_with fail
      refine (refuseKinds_any (hB1b.drewN _)).mono ?_
      rintro e w3 ⟨rfl, rfl⟩
      rw [HF.out.2.1]
      exact ⟨rfl, Says.err_mk HR.out (hkb.drewN _)⟩

set_option maxHeartbeats 800000 in
theorem labelTakes_any (b : Blo) (pt pg : Option Addr) (nt ng ct cg : Nat) (w : World) :
    Calls Tryz.prog 109 #[.agg #[.int .u8 (b.word : Nat), .slice pt nt ct, .slice pg ng cg, .int .i64 (b.floor : Nat), .bool b.cut]] w fun e w' => e = .returned (if b.word = 3 then .slice pt nt ct else .slice pg ng cg) ∧ w' = w.alloc (.cells #[.int .u8 (b.word : Nat), .slice pt nt ct, .slice pg ng cg, .int .i64 (b.floor : Nat), .bool b.cut] 125) := by
  by_cases h3 : b.word = 3
  · have t3 : ((b.word : Int) == 3) = true := by simp [h3]
    rw [if_pos h3]
    clear h3
    go_enter Tryz.func109, Tryz.ntmps109
    go_wp2
    go_ret
    exact ⟨rfl, rfl⟩
  · have t3 : ((b.word : Int) == 3) = false := by simp; omega
    rw [if_neg h3]
    clear h3
    go_enter Tryz.func109, Tryz.ntmps109
    go_wp2
    go_ret
    exact ⟨rfl, rfl⟩

end Go.Proofs.YtgkpkngchploiaaGreat
