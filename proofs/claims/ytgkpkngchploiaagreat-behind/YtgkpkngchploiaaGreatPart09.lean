/-
  Part 9 of the proof: Names5.
-/
import Derived.Test.YtgkpkngchploiaaGreatPart08
import Derived.Deep.CutRange
/-
  takeLocalNames.
-/
namespace Go.Proofs.YtgkpkngchploiaaGreat
open Go.RowKit

/-- What a module that is being read keeps to. -/
structure Fair (m : Mdl) : Prop where
  types : m.types.length ≤ 20
  ins : ∀ t ∈ m.types, t.ins.length ≤ 8
  funcs : m.funcs.length ≤ 20
  nums : ∀ x ∈ m.funcs, 0 ≤ x.1 ∧ x.1 ≤ 4294967295
  locs : ∀ x ∈ m.codes, x.1.length ≤ 50

theorem Fair.params {m : Mdl} (h : Fair m) (f : Nat) : (m.params f).length ≤ 8 := by
  unfold Mdl.params
  split
  · simp
  · split
    · simp
    · rename_i t ht; exact h.ins t (List.mem_of_getElem? ht)

theorem elNames.mono {ok ok' : Nat → Prop} {w : World} {x : Nat × List Nam} {cs : List Value} (h : elNames ok x w cs) (hm : ∀ g, g < w.heap.size → ok g → ok' g) : elNames ok' x w cs := by
  obtain ⟨lv, e, a⟩ := h
  exact ⟨lv, e, Row.mono a hm⟩

theorem Fields.ob11 {w : World} {b mb : Nat} {f : Fields} {v u : Value} (h : OB w b mb ({ f with v11 := v } : Fields).cells) : OB (w.setCell ⟨mb, 11, none⟩ u) b mb ({ f with v11 := u } : Fields).cells := h.set 11 u

set_option maxRecDepth 100000 in
set_option maxHeartbeats 6400000 in
theorem takeLocalNames_any {w : World} {b mb B : Nat} {s : ByteArray} {i n : Nat} {m : Mdl} (h : Rd w b s i n) (hm : ModAt s (fun g => B ≤ g) w b mb m) (hb : b < B) (hmb : mb < B) (hB : B ≤ w.heap.size) (hf : Fair m) (hcl : m.nlocals = []) (hcf : m.codes.length = m.funcs.length) :
    Calls Tryz.prog 79 #[.pointer (some ⟨mb, 0, none⟩), .pointer (some ⟨b, 0, none⟩)] w (OutS (both b mb) w b s n (isMod s B b mb) (localNamesM m s n i)) := by
  obtain ⟨i0, hi0, hz0, hz1, hz2⟩ := info_parts Tryz.info159
  obtain ⟨f, oM0, hH⟩ := hm
  obtain ⟨⟨F0, G0⟩, ⟨F1, G1⟩, -⟩ := oM0.blk.twelve.1
  obtain ⟨p1, c1, hf1⟩ := Row.shape hH.h1
  rw [hf1] at F1
  have HH := hide hH
  have hnil : f.v11 = .slice none 0 0 := hH.nil11 hcl
  have hfn := hf.funcs
  have HF := hide hf
  clear F0 G0 hH hf
  go_enter Tryz.func79, Tryz.ntmps79
  go_wp2_with fail
  refine (count_any _ h (by omega)).mono ?_
  rintro e w1 ⟨hx1, hok, herr⟩
  have hk1 : Kept (both b mb) w w1 := hx1.both_of
  have HM1 := hide (oM0.call hx1)
  clear hx1 F1 G1 oM0
  cases ho : countM m.funcs.length s n i with
  | error qp =>
    obtain ⟨q, p⟩ := qp
    have he := herr _ _ ho
    subst he
    exact ⟨rfl, OutS.err_mk (by simp [localNamesM, ho]) hk1⟩
  | ok xj =>
    obtain ⟨cnt, j0⟩ := xj
    obtain ⟨u, rfl, hv, hrd⟩ := hok _ _ ho
    have hv : u = .int .i64 (cnt : Nat) := hv
    subst hv
    have hcnt := (countM_facts ho).1
    have HO := hide ho
    clear hok herr ho
    go_wp2
    go_loopw [4, 14] (fun z q wr => ∃ (k j least : Nat) (xs : List (Nat × List Nam)) (lv : Value), k ≤ cnt ∧ xs.length = k ∧ least ≤ m.funcs.length ∧ z = .int .i64 (least : Nat) ∧ q = .int .i64 k ∧ Rd wr b s j n ∧ Kept (both b mb) w wr ∧ OB wr b mb ({ f with v11 := lv } : Fields).cells ∧
        isLst 159 2 elNames (fun g => w.heap.size ≤ g) xs wr lv ∧ (xs = [] → lv = .slice none 0 0) ∧ locGo m s n cnt 0 [] j0 = locGo m s n (cnt - k) least xs j) (fun _ q _ => cnt - (intOf q).toNat)
    case atStart =>
      refine ⟨0, j0, 0, [], .slice none 0 0, Nat.zero_le _, rfl, Nat.zero_le _, rfl, rfl, hrd, hk1, ?_, ⟨[], Row.nil _ _ _ _, trivial⟩, fun _ => rfl, rfl⟩
      rw [← hnil]
      exact HM1.out
    case round =>
      obtain ⟨k, j, least, ks, lv, hk, hl, hle, rfl, rfl, hrd, hkp, hIr, hlst, hnl, hme⟩ := hrel
      subst hl
      have HE := hide hme
      have HNL := hide hnl
      clear hme hnl hk1 HM1
      obtain ⟨css, hrow, heach⟩ := hlst
      obtain ⟨pl, cl, rfl⟩ := Row.shape hrow
      have HEA := hide heach
      clear heach
      have hkw := HH.out.kept hkp (fun g _ hg hh => hh.elim (fun e => by omega) (fun e => by omega))
      have hMr : ModAt s (fun g => B ≤ g) wr b mb { m with nlocals := ks } := by
        refine ⟨{ f with v11 := .slice pl ks.length cl }, hIr, ?_⟩
        exact ⟨hkw.h0, hkw.h1, hkw.h2, hkw.h3, hkw.h4, hkw.h5, hkw.h6, hkw.h7, hkw.h8, hkw.h9, hkw.h10, ⟨css, Row.mono hrow (fun g _ hg => by omega), HEA.out.to (fun y cs hh => ⟨hh.1.mono (fun g _ hg => by omega), hh.2⟩)⟩, hkw.nil6, hkw.nil8, HNL.out⟩
      clear hkw
      by_cases hlt : ks.length < cnt
      · have hlt' : (ks.length : Int) < (cnt : Int) := by omega
        obtain ⟨p1, c1, hf1⟩ := Row.shape HH.out.h1
        obtain ⟨I1, J1⟩ := hIr.blk.twelve.1.2.1
        rw [hf1] at I1
        go_wp2_with fail
        refine (takeIndex_any least m.funcs.length rfl hrd (by omega) (by omega)).mono ?_
        rintro e w2 ⟨hx2, hok, herr⟩
        have hk2 := hkp.trans hx2.both_of
        have hI2 := hIr.call hx2
        have hM2 := hMr.call hx2 (by omega)
        have hrow2 := Row.call hrow hx2 (fun k hk => by have := h.lt; omega)
        have HEA2 : Hid (Each (fun x cs => elNames (fun g => w.heap.size ≤ g) x w2 cs ∧ cs.length = 2) ks css) := HEA.out.to (fun y cs hh => ⟨hh.1.kept hx2 (fun g _ hg (e : g = b) => by have := h.lt; omega), hh.2⟩)
        clear hx2 hkp hIr hMr hrow HEA I1 J1
        cases ho : indexM least m.funcs.length s n j with
        | error qp =>
          obtain ⟨q, p⟩ := qp
          have he := herr _ _ ho
          subst he
          exact ⟨rfl, OutS.err_mk (by simp [localNamesM, HO.out, HE.out, locGo_err (m := m) (show 0 < cnt - ks.length by omega) (show locM m least s n j = .error (q, p) by simp [locM, ho])]) hk2⟩
        | ok xj =>
          obtain ⟨ix, j2⟩ := xj
          obtain ⟨u, rfl, hv, hrd2⟩ := hok _ _ ho
          have hv : u = .int .i64 (ix : Nat) := hv
          subst hv
          obtain ⟨hi1, hi2, -, -⟩ := indexM_facts ho
          have HO2 := hide ho
          clear hok herr ho hrd
          have hpl := HF.out.params ix
          have hcx : m.codes[ix]? = some m.codes[ix] := List.getElem?_eq_getElem (by omega)
          have hcll : m.codes[ix].1.length ≤ 50 := HF.out.locs _ (List.mem_of_getElem? hcx)
          have hmany : manyOf m ix = (m.params ix).length + m.codes[ix].1.length := by simp [manyOf, hcx]
          have HMY := hide hmany
          clear hmany
          obtain ⟨css8, hrow8, heach8⟩ := (HH.out.kept hk2 (fun g _ hg hh => hh.elim (fun e => by omega) (fun e => by omega))).h8
          obtain ⟨g8, c8, hv8, -, hg8, hc8, hcell8⟩ := Row.cells hrow8 (by omega)
          obtain ⟨cs8, hcs8, ⟨⟨lv8, fv8, hvv8, hki8, -⟩, -⟩⟩ := heach8.get hcx
          obtain ⟨p8, cc8, rfl⟩ := Row.shape hki8
          subst hvv8
          have e8 : w2.cell? ⟨g8, ix * 2, none⟩ = some (.slice p8 m.codes[ix].1.length cc8) := (hcell8 (ix * 2) (by omega)).trans (Each.flat (o := 0) heach8 hcs8 (by omega))
          obtain ⟨Iq, J8⟩ := hI2.blk.twelve.2.2.2.1
          have I8 : w2.cell? ⟨mb, 8, none⟩ = some (.slice (some ⟨g8, 0, none⟩) m.codes.length c8) := Iq.trans (congrArg some hv8)
          clear Iq
          have hixc : (ix : Int) < (m.codes.length : Int) := by omega
          clear hcell8 heach8 hrow8 hki8 hcs8 hcx hv8
          go_wp2_with fail
          go_cut [6] from 15 to 56 (fun v W => v = .int .i64 ((manyOf m ix : Nat) : Int) ∧ W = w2.drew)
          case first =>
            go_region_law (first
                | (refine step_call (f := 107) (args := #[.pointer (some ⟨mb, 0, none⟩), .int .i64 (ix : Nat)]) (by rfl) (by go_simp) (params_any ix (hM2.call (w' := w2.drew) ((Kept.refl _ _).drew) (by omega)) hi2 HF.out.nums HF.out.types HF.out.funcs) ?_; rintro e w3 ⟨pv, rfl, hpk, rfl⟩; refine ⟨_, rfl, ?_⟩; have hpk' : isKinds (fun g => B ≤ g) (m.params ix) w2.drew pv := hpk; clear hpk; obtain ⟨pp, pc, rfl⟩ := Row.shape hpk'))
            all_goals
              go_wp2
              go_meet
              case rel => exact ⟨by rw [HMY.out, Int.natCast_add]; exact congrArg (Value.int .i64) (IntWalk.i64_in _ (by omega)), rfl⟩
          case rest =>
            obtain ⟨rfl, rfl⟩ := hcut
            have hkd : Kept (fun _ => False) w2 w2.drew := (Kept.refl _ _).drew
            have hkd' : Kept (only b) w2 w2.drew := (Kept.refl _ _).drew
            have hk2 := hk2.drew
            have hI2 := hI2.call hkd'
            have hrow2 := Row.call hrow2 hkd' (fun k hk => by have := h.lt; omega)
            have HEA2 : Hid (Each (fun x cs => elNames (fun g => w.heap.size ≤ g) x w2.drew cs ∧ cs.length = 2) ks css) := HEA2.out.to (fun y cs hh => ⟨hh.1.kept hkd (fun _ _ _ c => c), hh.2⟩)
            have hrd2 := hrd2.drew
            clear hM2 I8 J8 e8 hkd hkd'
            have hmy : manyOf m ix ≤ 1000 := by rw [HMY.out]; omega
            generalize w2.drew = wd at *
            clear HMY hpl hcll
            obtain ⟨I11, J11⟩ := hI2.blk.twelve.2.2.2.2.2.2
            have hne : mb ≠ b := hI2.ne
            cases hu : namesOfM (manyOf m ix) s n j2 with
            | error qp =>
              obtain ⟨q, p⟩ := qp
              have HU := hide hu
              clear hu
              go_wp2_with fail
              go_region_dies
              all_goals
                refine (namesOf_err (manyOf m ix) rfl ?_ hmy HU.out).mono ?_
                · exact hrd2.drew
                rintro e w3 ⟨rfl, hx3⟩
                exact ⟨rfl, OutS.err_mk (by simp [localNamesM, HO.out, HE.out, locGo_err (m := m) (show 0 < cnt - ks.length by omega) (show locM m least s n j = .error (q, p) by simp [locM, HO2.out, HU.out])]) (hk2.drew.trans hx3.both_of)⟩
            | ok xj =>
              obtain ⟨x, j3⟩ := xj
              have HU := hide hu
              clear hu
              go_wp2_with fail
              have hmr : mb < wd.drew.heap.size := hI2.lt
              have hmbw : mb < w.heap.size := by omega
              have hown : Hid (∀ w2, Kept (only b) wd.drew w2 → w2.ownsRow w.heap.size 159 2 (.slice pl ks.length cl) ks.length css.flatten) := fun w2 hx => ((Row.kept hrow2 (S := fun _ => False) (w' := wd.drew) ((Kept.refl _ _).drew) (fun _ _ _ c => c)).call hx (fun k hk => by have := h.lt; omega)).toBase (fun g hg => hg)
              go_region_law (first
                  | (refine step_call (f := 77) (args := #[.pointer (some ⟨b, 0, none⟩), .int .i64 ((manyOf m ix : Nat) : Int)]) (by rfl) (by go_simp) (namesOf_ok (manyOf m ix) rfl hrd2.drew hmy HU.out) ?_; rintro e w3 ⟨⟨px, cx, rfl, hnew⟩, hrd3, hx3⟩; refine ⟨_, rfl, ?_⟩; have q11 : w3.cell? ⟨mb, 11, none⟩ = some (.slice pl ks.length cl) := (hx3.other hmr hne).trans I11; have f11 : w3.frozen? ⟨mb, 11, none⟩ = false := (hx3.other_frozen hmr hne).trans J11; have hcw3 : mb < w3.heap.size := Nat.lt_of_lt_of_le hmr hx3.size)
                  | ((refine step_append_lies _ (by rfl) _ _ _ (by rfl) w.heap.size 159 i0 _ 2 32 Tryz.underlying51 hi0 hz0 hz1 hz2 rfl (by omega) (.slice pl ks.length cl) ks.length css.flatten (by rfl) ((hown.out _ hx3).alloc _) ⟨w3.heap.size, 0, none⟩ 1 1 [.int .i64 (ix : Nat), .slice px x.length cx] (by rfl) (by rfl) (World.news_of_block (cs := #[.int .i64 (ix : Nat), .slice px x.length cx]) (t := 159) (fr := (0, 0)) (heap_alloc_new w3 _)) (by simp [Value.oneCell']) (by omega) (by unfold maxLen; omega) (by omega) (by have := hk2.size; have := hx3.size; simp at *; omega) (w3.heap.size + 1) (by simp) ?_; intro gg cap w4 hown4 hgrow hat hlt4; have hfar : some mb ≠ (Value.slice pl ks.length cl).ownBlock := fun e => absurd ((hown.out _ hx3).lt mb e.symm).1 (by omega); have q114 : w4.cell? ⟨mb, 11, none⟩ = some (.slice pl ks.length cl) := (hgrow.cell_far ⟨mb, 11, none⟩ (by simp; omega) hfar).trans ((World.cell?_alloc_lt _ _ _ hcw3).trans q11); have f114 : w4.frozen? ⟨mb, 11, none⟩ = false := (hgrow.frozen_far ⟨mb, 11, none⟩ (by simp; omega) hfar).trans ((World.frozen?_alloc_old _ _ _ (by simp; omega)).trans f11))))
              all_goals
                have ho3 := (hown.out _ hx3).alloc (.cells #[.int .i64 (ix : Nat), .slice px x.length cx] 159)
                have hrd4 := (grown_rd (hrd3.alloc _) ho3 h.lt hgrow).set_other (o := 11) hne (.slice (some ⟨gg, 0, none⟩) (ks.length + 1) cap)
                have hk4 := (grown_kept ((hk2.drew.trans hx3.both_of).alloc _) ho3 (Nat.le_refl _) hgrow).own2 (o := 11) (.slice (some ⟨gg, 0, none⟩) (ks.length + 1) cap)
                have hI4 := (((hI2.drew.call hx3).alloc (.cells #[.int .i64 (ix : Nat), .slice px x.length cx] 159)).kept (Kept.of_grown hgrow) (fun e => hfar e.symm)).set 11 (.slice (some ⟨gg, 0, none⟩) (ks.length + 1) cap)
                have hlst4 : isLst 159 2 elNames (fun g => w.heap.size ≤ g) (ks ++ [(ix, x)]) (w4.setCell ⟨mb, 11, none⟩ (.slice (some ⟨gg, 0, none⟩) (ks.length + 1) cap)) (.slice (some ⟨gg, 0, none⟩) (ks.length + 1) cap) := by
                  have hkd : Kept (fun _ => False) wd wd.drew := (Kept.refl _ _).drew
                  have hel : ∀ y cs, elNames (fun g => w.heap.size ≤ g) y w3 cs → elNames (fun g => w.heap.size ≤ g) y (w4.setCell ⟨mb, 11, none⟩ (.slice (some ⟨gg, 0, none⟩) (ks.length + 1) cap)) cs := fun y cs hy =>
                    ((hy.kept ((Kept.refl (fun _ => False) w3).alloc _) (fun _ _ _ c => c)).grownT ho3 (by decide) hgrow).kept (S := only mb) ((Kept.refl _ _).own _) (fun g _ hg (e : g = mb) => by omega)
                  refine ⟨css ++ [[.int .i64 (ix : Nat), .slice px x.length cx]], ?_, ?_⟩
                  · have q := Row.other (Row.ofBase (ok := fun g => w.heap.size ≤ g) hown4 (fun g hg _ => hg)) (g := mb) (o := 11) (fun k hk => by omega) (.slice (some ⟨gg, 0, none⟩) (ks.length + 1) cap)
                    simpa using q
                  · refine Each.snoc (HEA2.out.to (fun y cs hh => ⟨hel y cs ((hh.1.kept hkd (fun _ _ _ c => c)).kept hx3 (fun g _ hg (e : g = b) => by have := h.lt; omega)), hh.2⟩)) ⟨hel _ _ ⟨_, rfl, Row.mono hnew (fun g _ hg => Nat.le_trans hk2.size hg)⟩, rfl⟩
                have HH2 : Hid (locGo m s n cnt 0 [] j0 = locGo m s n (cnt - (ks.length + 1)) (ix + 1) (ks ++ [(ix, x)]) j3) := HE.out.trans (locGo_ok (by omega) (show locM m least s n j = .ok ((ix, x), j3) by simp [locM, HO2.out, HU.out]))
                have HR := hide hlst4
                have HI4 := hide hI4
                clear hlst4 hown4 hgrow hat hlt4 q114 f114 q11 f11 hx3 ho3 hI4 hrd3 hown hrow2
                go_wp2
                go_roundw
                case rel => exact ⟨ks.length + 1, j3, ix + 1, ks ++ [(ix, x)], .slice (some ⟨gg, 0, none⟩) (ks.length + 1) cap, by omega, by simp, by omega, by go_num, by go_num, hrd4, hk4, HI4.out, HR.out, fun e => by simp at e, HH2.out⟩
                case measure => simp [intOf]; omega
      · have HHH : Hid (locGo m s n cnt 0 [] j0 = .ok (ks, j)) := by show _ = _; rw [HE.out, show cnt - ks.length = 0 by omega]; rfl
        go_wp2
        go_end0
        exact OutS.ok_mk (x := { m with nlocals := ks }) (j := j) (by simp [localNamesM, HO.out, HHH.out]) hkp ⟨rfl, hMr⟩ hrd

end Go.Proofs.YtgkpkngchploiaaGreat
