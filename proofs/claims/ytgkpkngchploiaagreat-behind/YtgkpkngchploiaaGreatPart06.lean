/-
  Part 6 of the proof: Iter1.
-/
import Derived.Test.YtgkpkngchploiaaGreatPart05
import Derived.TacticsIn
import Derived.LoopIn
import Derived.RegionIn
/-
  The iterator: it tells a code's instructions one by one, up to the code's own end.
-/
namespace Go.Proofs.YtgkpkngchploiaaGreat
open Go.RowKit

set_option maxRecDepth 100000 in
set_option maxHeartbeats 6400000 in
theorem iter_any {m l fb : Nat} {W0 : World} {s : ByteArray} {i n : Nat} {Bad : Nat → Nat → World → Prop} {J : Option (List Nat) → Nat → (Nat → Prop) → World → Prop} {F0 : Nat → Prop} (hG : Goes Tryz.prog m l s n Bad J)
    (hf : Rd W0 fb s i n) (hJ : J (some []) i F0 W0) :
    CallsIn Fence.wide (m + 1) Tryz.prog 114 #[.func (.yield l) #[] #[], .pointer (some ⟨fb, 0, none⟩)] W0 (IterPost s n i Bad J F0 W0) := by
  have hf' := hf
  obtain ⟨r0, r1, r2, f0, f1, f2, hle, hbig, hsz⟩ := hf
  have hfw := World.block_lt_of_cell? _ _ r0
  refine callsIn_of_wp Tryz.func114 rfl trivial ?_ rfl
  simp only [Tryz.ntmps114, List.size_toArray, List.length_cons, List.length_nil, Nat.reduceAdd, Nat.reduceSub, Array.replicate_succ, Array.replicate_zero, List.push_toArray, List.append_toArray, List.nil_append, List.cons_append]
  gi_wp2
  gi_loopw [4, 5, 6] (fun ov _ _ wr => ∃ (fuel j : Nat) (os : List Nat) (F : Nat → Prop), Rd wr W0.heap.size s j n ∧ J (some os) j F wr ∧ isOpen (fun g => g ≠ W0.heap.size ∧ ¬ F g ∧ W0.heap.size ≤ g) os wr ov ∧ os.length ≤ 50 ∧ n - j ≤ fuel ∧
      insM s n i = insGo s n fuel os j ∧ Kept F0 W0 wr ∧ (∀ k, F k → k < W0.heap.size → F0 k) ∧ ¬ F W0.heap.size) (fun _ _ _ wr => n - rdPos wr W0.heap.size)
  case atStart =>
    refine ⟨n - i, i, [], F0, ⟨by simp, by simp, by simp, by simp, by simp, by simp, hle, hbig, hsz⟩, hG.still _ _ _ _ _ (fun _ => False) hJ ((Kept.refl _ _).alloc _) (fun _ _ c => c.elim), Row.nil _ _ _ _, by simp, Nat.le_refl _, rfl, (Kept.refl _ _).alloc _, fun k hk _ => hk, fun h => ?_⟩
    have := hG.lt _ _ _ _ _ hJ h
    omega
  case round =>
    obtain ⟨fuel, j, os, F, hrd, hJr, hop, hos, hfu, hme, hkp, hF0, hFr⟩ := hrel
    obtain ⟨pv, cv, rfl⟩ := Row.shape hop
    have HE := hide hme
    have HJ := hide hJr
    have HOp := hide hop
    clear hme hJr hop hJ
    have hbw := hrd.lt
    gi_wp2_with fail
    refine ⟨trivial, (callsIn_wide.2 (at_any hrd)).mono ?_⟩
    rintro e w1 ⟨rfl, rfl⟩
    gi_wp2_with fail
    refine ⟨trivial, (callsIn_wide.2 (byte_any (hrd.alloc _))).mono ?_⟩
    rintro e w2 ⟨hx2, hok, herr⟩
    have hcR : w1.heap.size ≠ W0.heap.size := by omega
    have hrowW : ∀ k, (Value.slice pv os.length cv).ownBlock = some k → k ≠ W0.heap.size ∧ ¬ F k ∧ W0.heap.size ≤ k ∧ k < w1.heap.size := fun k hk => ⟨(HOp.out.at_ k hk).1, (HOp.out.at_ k hk).2.1, (HOp.out.at_ k hk).2.2, (HOp.out.own.lt k hk).2⟩
    have hT0 : ∀ k, k < W0.heap.size → (k = W0.heap.size ∨ (Value.slice pv os.length cv).ownBlock = some k) → F0 k := fun k hk hh => hh.elim (fun e => absurd e (by omega)) (fun e => absurd (hrowW k e).2.2.1 (by omega))
    have hTF : ∀ k, k < w1.heap.size → (k = W0.heap.size ∨ (Value.slice pv os.length cv).ownBlock = some k) → ¬ F k := fun k _ hh => hh.elim (fun e => e ▸ hFr) (fun e => (hrowW k e).2.1)
    have hT2 : Kept (fun k => k = W0.heap.size ∨ (Value.slice pv os.length cv).ownBlock = some k) w1 w2 := ((Kept.refl _ _).alloc _).trans (hx2.mono (fun _ _ e => .inl e))
    by_cases hjn : j < n
    · obtain ⟨v, rfl, hv, hrd2⟩ := hok _ _ (byteM_more hjn)
      have hv : v = .int .u8 (bt s j : Nat) := hv
      subst hv
      have oI2 : OB w2 W0.heap.size w1.heap.size (insNew j 0 0) := (OB.new (b := W0.heap.size) (g := w1.heap.size) (c := (insNew j 0 0).toArray) hbw rfl).call hx2
      have hop2 : isOpen (fun g => g ≠ W0.heap.size ∧ ¬ F g ∧ W0.heap.size ≤ g ∧ g ≠ w1.heap.size) os (w2.setCell ⟨w1.heap.size, 2, none⟩ (.int .u8 (bt s j : Nat))) (.slice pv os.length cv) :=
        Row.other (Row.call (isOpen.alloc (HOp.out.mono (fun g hg h => ⟨h.1, h.2.1, h.2.2, by omega⟩)) _) hx2 (fun k hk => hk.1)) (fun k hk => hk.2.2.2) _
      have oI2' : OB (w2.setCell ⟨w1.heap.size, 2, none⟩ (.int .u8 (bt s j : Nat))) W0.heap.size w1.heap.size (insNew j 0 (bt s j)) := oI2.set 2 (.int .u8 (bt s j : Nat))
      have hrd2' := hrd2.set_other (o := 2) hcR (.int .u8 (bt s j : Nat))
      have hT2' : Kept (fun k => k = W0.heap.size ∨ (Value.slice pv os.length cv).ownBlock = some k) w1 (w2.setCell ⟨w1.heap.size, 2, none⟩ (.int .u8 (bt s j : Nat))) := hT2.new (Nat.le_refl _) _
      have hz2 : w1.heap.size + 1 ≤ w2.heap.size := by have := hx2.size; simpa using this
      obtain ⟨⟨I0, J0⟩, ⟨I1, J1⟩, ⟨I2, J2⟩, ⟨I3, J3⟩, ⟨I4, J4⟩, ⟨I5, J5⟩, ⟨I6, J6⟩, ⟨I7, J7⟩, ⟨I8, J8⟩, ⟨I9, J9⟩⟩ := oI2.blk.ten
      have HOp2 := hide hop2
      have HO2 := hide oI2'
      clear hop2 oI2 oI2' hok herr hx2 hT2 hrd2
      by_cases hlast : bt s j = 11 ∧ os = []
      · have t11 : (((bt s j : Nat) : Int) == 11) = true := by simp [hlast.1]
        have tl : ((os.length : Int) == 0) = true := by simp [hlast.2]
        have HL : Hid (bt s j = 11 ∧ os = [] ∧ os = [] ∨ ¬ (bt s j = 11 ∧ os = []) ∧ nestM os j (bt s j) = .ok os) := .inl ⟨hlast.1, hlast.2, hlast.2⟩
        have HL1 := hide hlast
        clear hlast
        gi_wp2_with fail
        have hlast := HL1.out
        have hrd3 := hrd2'
        have oI3 := HO2.out
        have hop3 := HOp2.out
        have hT3 := hT2'
        have hT3' := hide hT3
        refine ⟨trivial, (callsIn_wide.2 (takeBehind_any hrd3 oI3)).mono ?_⟩
        rintro e w4 ⟨hk4, hokb, herrb⟩
        have hT4 : Kept (fun k => k = W0.heap.size ∨ (Value.slice pv os.length cv).ownBlock = some k) w1 w4 := hT3.fresh hk4 (fun k hk hh => hh.elim .inl (fun e => absurd (show k = w1.heap.size from e) (by omega)))
        have hk04 : Kept F0 W0 w4 := hkp.fresh hT4 hT0
        have hz3 : w1.heap.size + 1 ≤ w2.heap.size := hz2
        have hz4 : w2.heap.size ≤ w4.heap.size := by have := hk4.size; simpa using this
        clear hT3 I0 J0 I1 J1 I2 J2 I3 J3 I4 J4 I5 J5 I6 J6 I7 J7 I8 J8 I9 J9
        cases hb : behM j (bt s j) s n (j + 1) with
        | error qp =>
          obtain ⟨q, p⟩ := qp
          have he := herrb _ _ hb
          subst he
          exact ⟨rfl, ⟨hk04, .inr (.inl ⟨q, p, HE.out.trans (insGo_beh hfu hjn HL.out hb), rfl, some os, j, F, hG.still _ _ _ _ _ _ HJ.out hT4 hTF⟩)⟩⟩
        | ok ye =>
          obtain ⟨y, e4⟩ := ye
          obtain ⟨u, rfl, ⟨rfl, gv, lv, oI4, hgv, hlv⟩, hrd4⟩ := hokb _ _ hb
          have hje : j + 1 ≤ e4 := behM_le hb
          have HB := hide hb
          have hop4 : isOpen (fun g => g ≠ W0.heap.size ∧ ¬ F g ∧ W0.heap.size ≤ g ∧ g ≠ w1.heap.size ∧ g < w2.heap.size) os w4 (.slice pv os.length cv) := (hop3.mono (fun g hg h => ⟨h.1, h.2.1, h.2.2.1, h.2.2.2, by simpa using hg⟩)).kept hk4 (fun g _ hg hh => hh.elim (fun e => hg.1 e) (fun e => hg.2.2.2.1 e))
          clear hokb herrb hb hrd3 oI3 hop3 hk4
          obtain ⟨pg, cg, rfl⟩ := Row.shape hgv
          obtain ⟨pl, cl, rfl⟩ := Row.shape hlv
          obtain ⟨⟨I0, J0⟩, ⟨I1, J1⟩, ⟨I2, J2⟩, ⟨I3, J3⟩, ⟨I4, J4⟩, ⟨I5, J5⟩, ⟨I6, J6⟩, ⟨I7, J7⟩, ⟨I8, J8⟩, ⟨I9, J9⟩⟩ := oI4.blk.ten
          have HOp4 := hide hop4
          clear hop4
          gi_wp2_with fail
          refine ⟨trivial, (callsIn_wide.2 (at_any hrd4)).mono ?_⟩
          rintro e w5 ⟨rfl, rfl⟩
          have hT5 : Kept (fun k => k = W0.heap.size ∨ (Value.slice pv os.length cv).ownBlock = some k) w1 (w5.setCell ⟨w1.heap.size, 1, none⟩ (.int .i64 (e4 : Nat))) := hT4.new (Nat.le_refl _) _
          have hJ5 := hG.still _ _ _ _ _ _ HJ.out hT5 hTF
          have hk05 : Kept F0 W0 (w5.setCell ⟨w1.heap.size, 1, none⟩ (.int .i64 (e4 : Nat))) := hkp.fresh hT5 hT0
          have hrd5 : Rd (w5.setCell ⟨w1.heap.size, 1, none⟩ (.int .i64 (e4 : Nat))) W0.heap.size s e4 n := hrd4.set_other hcR _
          have hop5 : isOpen (fun g => g ≠ W0.heap.size ∧ ¬ F g ∧ W0.heap.size ≤ g ∧ g ≠ w1.heap.size ∧ g < w2.heap.size) os (w5.setCell ⟨w1.heap.size, 1, none⟩ (.int .i64 (e4 : Nat))) (.slice pv os.length cv) := Row.other HOp4.out (fun k hk => hk.2.2.2.1) _
          have hgv5 : isKinds (fun g => w2.heap.size ≤ g ∧ g < w5.heap.size) y.gives (w5.setCell ⟨w1.heap.size, 1, none⟩ (.int .i64 (e4 : Nat))) (.slice pg y.gives.length cg) := Row.other (Row.mono hgv (fun g hg h => ⟨by simpa using h, hg⟩)) (fun k hk => by omega) _
          have hlv5 : isRow 62 2 numCells (fun g => w2.heap.size ≤ g ∧ g < w5.heap.size) y.labels (w5.setCell ⟨w1.heap.size, 1, none⟩ (.int .i64 (e4 : Nat))) (.slice pl y.labels.length cl) := Row.other (Row.mono hlv (fun g hg h => ⟨by simpa using h, hg⟩)) (fun k hk => by omega) _
          obtain ⟨f, tmps, assign, body, hy, hR⟩ := hG.round os none j F _ e4 (bt s j) y _ _ (fun g => w2.heap.size ≤ g ∧ g < w5.heap.size) hJ5 hrd4.le (by omega) hos (.inl ⟨hlast.1, hlast.2, rfl⟩) rfl hjn HB.out hgv5 hlv5 (fun k hk => ⟨by simpa using hk.2, fun hF => by have := hG.lt _ _ _ _ _ HJ.out hF; omega⟩)
          rw [hlast.1] at hy
          have hyr : (Instr.yield l #[.agg #[.int .i64 (j : Nat), .int .i64 (e4 : Nat), .int .u8 11, .bool y.typed, .slice pg y.gives.length cg, .int .u32 y.align, .int .u32 y.num.1, .int .i64 (y.num.2 : Nat), .slice pl y.labels.length cl, .int .i64 y.val]]).run Tryz.prog (w5.setCell ⟨w1.heap.size, 1, none⟩ (.int .i64 (e4 : Nat))) = .ok (.round l f tmps assign body) (w5.setCell ⟨w1.heap.size, 1, none⟩ (.int .i64 (e4 : Nat))) := hy
          have HR := hide hR
          have HOp5 := hide hop5
          clear hy hR hop5 hgv5 hlv5 hgv hlv hJ5 hT4 hk04 HOp4
          gi_wp2
          refine HR.out.mono ?_
          rintro ε w6 (⟨rfl, F', hJ6, hk6, hF6⟩ | ⟨q, p, rfl, hbad, hk6⟩)
          · have hk06 : Kept F0 W0 w6 := hk05.fresh hk6 (fun k hk hF => hF0 k hF hk)
            have HJ6 := hide hJ6
            have HK6 := hide hk6
            have HF6 := hide hF6
            clear hJ6 hk6 hF6 HR hyr I0 J0 I1 J1 I2 J2 I3 J3 I4 J4 I5 J5 I6 J6 I7 J7 I8 J8 I9 J9

            gi_wp2
            refine bodyPost_ret (results_none rfl _ _ _) rfl ?_
            refine ⟨hk06, .inl ⟨e4, F', HE.out.trans (insGo_last hfu hjn hlast HB.out), rfl, HJ6.out, fun k hk hk0 => ?_⟩⟩
            rcases HF6.out k hk with h | h | h
            · exact hF0 k h hk0
            · omega
            · simp at h; omega

          · exact ⟨rfl, ⟨hk05.fresh hk6 (fun k hk hF => hF0 k hF hk), .inr (.inr ⟨q, p, hbad, rfl⟩)⟩⟩
      · have HNL := hide hlast
        have hnl := hlast
        have hne : bt s j = 11 → os ≠ [] := fun h1 h2 => hlast ⟨h1, h2⟩
        have HNE := hide hne
        clear hlast hnl hne
        have hcases : ((((bt s j : Nat) : Int) == 11) = false) ∨ ((((bt s j : Nat) : Int) == 11) = true ∧ ((os.length : Int) == 0) = false) := by
          by_cases h1 : bt s j = 11
          · refine .inr ⟨by simp [h1], ?_⟩
            have h0 : os.length ≠ 0 := fun h2 => HNE.out h1 (by simpa using h2)
            exact beq_eq_false_iff_ne.2 (by omega)
          · exact .inl (by simp; omega)
        rcases hcases with t11 | ⟨t11, tl⟩
        all_goals
          gi_wp2_with fail
          refine ⟨trivial, (callsIn_wide.2 (nest_any HOp2.out hos HNE.out)).mono ?_⟩
          rintro e w3 ⟨hkn, hokn, herrn⟩
          have hT3 : Kept (fun k => k = W0.heap.size ∨ (Value.slice pv os.length cv).ownBlock = some k) w1 w3 := hT2'.trans (hkn.mono (fun _ _ e => .inr e))
          have hk03 : Kept F0 W0 w3 := hkp.fresh hT3 hT0
          cases hn : nestM os j (bt s j) with
          | error qp =>
            obtain ⟨q, p⟩ := qp
            have he := herrn _ _ hn
            subst he
            exact ⟨rfl, ⟨hk03, .inr (.inl ⟨q, p, HE.out.trans (insGo_nest hfu hjn HNL.out hn), rfl, some os, j, F, hG.still _ _ _ _ _ _ HJ.out hT3 hTF⟩)⟩⟩
          | ok os' =>
            obtain ⟨v', rfl, hop3'⟩ := hokn _ hn
            have hop3 : isOpen (fun g => g ≠ W0.heap.size ∧ ¬ F g ∧ W0.heap.size ≤ g ∧ g ≠ w1.heap.size) os' w3 v' := hop3'.mono (fun g _ hg => hg.elim (fun h => h) (fun h0 => have h : w2.heap.size ≤ g := (by simpa using h0); ⟨by omega, fun hF => by have := hG.lt _ _ _ _ _ HJ.out hF; omega, by omega, by omega⟩))
            have hos3 := nestM_len hn hos
            have hz3w : w1.heap.size + 1 ≤ w3.heap.size := by have := hkn.size; simp at this; omega
            have hrd3 := hrd2'.kept hkn (fun e => (hrowW _ e).1 rfl)
            have oI3 := HO2.out.kept hkn (fun e => absurd (hrowW _ e).2.2.2 (by omega))
            have HL : Hid (bt s j = 11 ∧ os = [] ∧ os' = [] ∨ ¬ (bt s j = 11 ∧ os = []) ∧ nestM os j (bt s j) = .ok os') := .inr ⟨HNL.out, hn⟩
            have hnest := hide hn
            obtain ⟨pv3, cv3, rfl⟩ := Row.shape hop3
            have hnl := HNL.out
            clear hokn herrn hn hop3' hkn hk03 I0 J0 I1 J1 I2 J2 I3 J3 I4 J4 I5 J5 I6 J6 I7 J7 I8 J8 I9 J9
            have Hrd3 := hide hrd3
            gi_wp2_with fail
            have hT3' := hide hT3
            refine ⟨trivial, (callsIn_wide.2 (takeBehind_any hrd3 oI3)).mono ?_⟩
            rintro e w4 ⟨hk4, hokb, herrb⟩
            have hT4 : Kept (fun k => k = W0.heap.size ∨ (Value.slice pv os.length cv).ownBlock = some k) w1 w4 := hT3.fresh hk4 (fun k hk hh => hh.elim .inl (fun e => absurd (show k = w1.heap.size from e) (by omega)))
            have hk04 : Kept F0 W0 w4 := hkp.fresh hT4 hT0
            have hz3 : w1.heap.size + 1 ≤ w3.heap.size := hz3w
            have hz4 : w3.heap.size ≤ w4.heap.size := by have := hk4.size; simpa using this
            clear hT3
            cases hb : behM j (bt s j) s n (j + 1) with
            | error qp =>
              obtain ⟨q, p⟩ := qp
              have he := herrb _ _ hb
              subst he
              exact ⟨rfl, ⟨hk04, .inr (.inl ⟨q, p, HE.out.trans (insGo_beh hfu hjn HL.out hb), rfl, some os, j, F, hG.still _ _ _ _ _ _ HJ.out hT4 hTF⟩)⟩⟩
            | ok ye =>
              obtain ⟨y, e4⟩ := ye
              obtain ⟨u, rfl, ⟨rfl, gv, lv, oI4, hgv, hlv⟩, hrd4⟩ := hokb _ _ hb
              have hje : j + 1 ≤ e4 := behM_le hb
              have HB := hide hb
              have hop4 : isOpen (fun g => g ≠ W0.heap.size ∧ ¬ F g ∧ W0.heap.size ≤ g ∧ g ≠ w1.heap.size ∧ g < w3.heap.size) os' w4 (.slice pv3 os'.length cv3) := (hop3.mono (fun g hg h => ⟨h.1, h.2.1, h.2.2.1, h.2.2.2, by simpa using hg⟩)).kept hk4 (fun g _ hg hh => hh.elim (fun e => hg.1 e) (fun e => hg.2.2.2.1 e))
              clear hokb herrb hb hrd3 oI3 hop3 hk4
              obtain ⟨pg, cg, rfl⟩ := Row.shape hgv
              obtain ⟨pl, cl, rfl⟩ := Row.shape hlv
              obtain ⟨⟨I0, J0⟩, ⟨I1, J1⟩, ⟨I2, J2⟩, ⟨I3, J3⟩, ⟨I4, J4⟩, ⟨I5, J5⟩, ⟨I6, J6⟩, ⟨I7, J7⟩, ⟨I8, J8⟩, ⟨I9, J9⟩⟩ := oI4.blk.ten
              have HOp4 := hide hop4
              clear hop4
              gi_wp2_with fail
              refine ⟨trivial, (callsIn_wide.2 (at_any hrd4)).mono ?_⟩
              rintro e w5 ⟨rfl, rfl⟩
              have hT5 : Kept (fun k => k = W0.heap.size ∨ (Value.slice pv os.length cv).ownBlock = some k) w1 (w5.setCell ⟨w1.heap.size, 1, none⟩ (.int .i64 (e4 : Nat))) := hT4.new (Nat.le_refl _) _
              have hJ5 := hG.still _ _ _ _ _ _ HJ.out hT5 hTF
              have hk05 : Kept F0 W0 (w5.setCell ⟨w1.heap.size, 1, none⟩ (.int .i64 (e4 : Nat))) := hkp.fresh hT5 hT0
              have hrd5 : Rd (w5.setCell ⟨w1.heap.size, 1, none⟩ (.int .i64 (e4 : Nat))) W0.heap.size s e4 n := hrd4.set_other hcR _
              have hop5 : isOpen (fun g => g ≠ W0.heap.size ∧ ¬ F g ∧ W0.heap.size ≤ g ∧ g ≠ w1.heap.size ∧ g < w3.heap.size) os' (w5.setCell ⟨w1.heap.size, 1, none⟩ (.int .i64 (e4 : Nat))) (.slice pv3 os'.length cv3) := Row.other HOp4.out (fun k hk => hk.2.2.2.1) _
              have hgv5 : isKinds (fun g => w3.heap.size ≤ g ∧ g < w5.heap.size) y.gives (w5.setCell ⟨w1.heap.size, 1, none⟩ (.int .i64 (e4 : Nat))) (.slice pg y.gives.length cg) := Row.other (Row.mono hgv (fun g hg h => ⟨by simpa using h, hg⟩)) (fun k hk => by omega) _
              have hlv5 : isRow 62 2 numCells (fun g => w3.heap.size ≤ g ∧ g < w5.heap.size) y.labels (w5.setCell ⟨w1.heap.size, 1, none⟩ (.int .i64 (e4 : Nat))) (.slice pl y.labels.length cl) := Row.other (Row.mono hlv (fun g hg h => ⟨by simpa using h, hg⟩)) (fun k hk => by omega) _
              obtain ⟨f, tmps, assign, body, hy, hR⟩ := hG.round os (some os') j F _ e4 (bt s j) y _ _ (fun g => w3.heap.size ≤ g ∧ g < w5.heap.size) hJ5 hrd4.le (by omega) hos (.inr ⟨hnl, _, hnest.out, rfl⟩) rfl hjn HB.out hgv5 hlv5 (fun k hk => ⟨by simpa using hk.2, fun hF => by have := hG.lt _ _ _ _ _ HJ.out hF; omega⟩)
              skip
              have hyr : (Instr.yield l #[.agg #[.int .i64 (j : Nat), .int .i64 (e4 : Nat), .int .u8 (bt s j : Nat), .bool y.typed, .slice pg y.gives.length cg, .int .u32 y.align, .int .u32 y.num.1, .int .i64 (y.num.2 : Nat), .slice pl y.labels.length cl, .int .i64 y.val]]).run Tryz.prog (w5.setCell ⟨w1.heap.size, 1, none⟩ (.int .i64 (e4 : Nat))) = .ok (.round l f tmps assign body) (w5.setCell ⟨w1.heap.size, 1, none⟩ (.int .i64 (e4 : Nat))) := hy
              have HR := hide hR
              have HOp5 := hide hop5
              clear hy hR hop5 hgv5 hlv5 hgv hlv hJ5 hT4 hk04 HOp4
              gi_wp2
              refine HR.out.mono ?_
              rintro ε w6 (⟨rfl, F', hJ6, hk6, hF6⟩ | ⟨q, p, rfl, hbad, hk6⟩)
              · have hk06 : Kept F0 W0 w6 := hk05.fresh hk6 (fun k hk hF => hF0 k hF hk)
                have HJ6 := hide hJ6
                have HK6 := hide hk6
                have HF6 := hide hF6
                clear hJ6 hk6 hF6 HR hyr I0 J0 I1 J1 I2 J2 I3 J3 I4 J4 I5 J5 I6 J6 I7 J7 I8 J8 I9 J9

                gi_wp2
                go_roundw
                case rel =>
                  refine ⟨fuel - 1, e4, os', F', hrd5.kept HK6.out hFr, HJ6.out, ?_, hos3, by omega, HE.out.trans (insGo_more hfu hjn hnl hnest.out HB.out), hk06, fun k hk hk0 => ?_, fun hk => ?_⟩
                  · refine (HOp5.out.kept HK6.out (fun g _ hg => hg.2.1)).mono (fun g _ hg => ⟨hg.1, fun hF => ?_, hg.2.2.1⟩)
                    rcases HF6.out g hF with h | h | h
                    · exact hg.2.1 h
                    · omega
                    · simp at h; omega
                  · rcases HF6.out k hk with h | h | h
                    · exact hF0 k h hk0
                    · omega
                    · simp at h; omega
                  · rcases HF6.out _ hk with h | h | h
                    · exact hFr h
                    · omega
                    · simp at h; omega
                case measure =>
                  rw [rdPos_of (hrd5.kept HK6.out hFr), rdPos_of hrd]
                  omega

              · exact ⟨rfl, ⟨hk05.fresh hk6 (fun k hk hF => hF0 k hF hk), .inr (.inr ⟨q, p, hbad, rfl⟩)⟩⟩
    · have he := herr _ _ (byteM_end hjn)
      subst he
      exact ⟨rfl, ⟨hkp.fresh hT2 hT0, .inr (.inl ⟨2, n, HE.out.trans (insGo_byte hfu hjn), rfl, some os, j, F, hG.still _ _ _ _ _ _ HJ.out hT2 hTF⟩)⟩⟩

end Go.Proofs.YtgkpkngchploiaaGreat
