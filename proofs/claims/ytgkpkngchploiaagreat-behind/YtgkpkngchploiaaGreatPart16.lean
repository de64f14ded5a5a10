/-
  Part 16 of the proof: Body4.
-/
import Derived.Test.YtgkpkngchploiaaGreatPart15
import Derived.Deep.DrawnRows
import Derived.Deep.CutRange
/-
  enter.
-/
namespace Go.Proofs.YtgkpkngchploiaaGreat
open Go.RowKit

attribute [local go_sem ↓] Go.wp_at_zero Go.wp_at_succ

theorem Tryz.info125 : (Tryz.prog.info? 125).map (fun i => (i.zero, i.size, i.bytes)) = some (some (.agg #[.int .u8 0, .slice none 0 0, .slice none 0 0, .int .i64 0, .bool false]), 5, 72) := by kernel_rfl

set_option maxRecDepth 100000 in
set_option maxHeartbeats 3200000 in
theorem enter_any {K O : Nat → Prop} {w : World} {bb : Nat} {mp lv sv bv vi vo : Value} {st : Bd} {t : Ty} (word : Nat) (h : BodyV K O w bb mp lv sv bv st) (hi : isKinds K t.ins w vi) (ho : isKinds K t.outs w vo) (hb : t.ins ≠ [] → st.blocks ≠ []) (hl : st.blocks.length ≤ 59) (hf : st.inner.floor ≤ st.stack.length) (hs : st.stack.length ≤ 900000) (hkl : t.ins.length ≤ 50) :
    Calls Tryz.prog 39 #[.pointer (some ⟨bb, 0, none⟩), .int .u8 (word : Nat), .agg #[vi, vo]] w (Says O w (enterM word t st) (isBody K O w bb mp lv)) := by
  obtain ⟨i0, hi0, hz0, hz1, hz2⟩ := info_parts Tryz.info125
  obtain ⟨ps, cs, rfl⟩ := Row.shape h.stk
  obtain ⟨pi, ci, rfl⟩ := Row.shape hi
  obtain ⟨po, co, rfl⟩ := Row.shape ho
  have hKb : ¬ K bb := h.dis bb h.own
  have HBV : Hid (∀ k, bv.ownBlock = some k → k < w.heap.size) := by
    obtain ⟨css, hr, -⟩ := h.bls
    exact fun k hk => (hr.own.lt k hk).2
  have hbw := h.lt
  go_enter Tryz.func39, Tryz.ntmps39
  go_wp2_with fail
  refine (take_any (h.alloc _) (Row.alloc hi _) hKb hb (by omega) hf (by omega) hkl).mono ?_
  rintro e w2 ⟨hk2, hok2, herr2⟩
  have hkO : Kept O w w2 := ((Kept.refl _ _).alloc _).trans (hk2.mono (fun k _ (e : k = bb) => e ▸ h.own))
  cases hm : takeM st t.ins with
  | error qp =>
    obtain ⟨q, pp⟩ := qp
    have he := herr2 _ _ hm
    subst he
    exact ⟨rfl, Says.err_mk (by simp [enterM, hm]) hkO⟩
  | ok st1 =>
    obtain ⟨v, rfl, rfl, hB⟩ := hok2 _ hm
    have hf1 := takeM_facts hf hm
    have HM : Hid (enterM word t st = .ok { st1 with blocks := ⟨word, t.ins, t.outs, st1.stack.length, false⟩ :: st1.blocks, stack := st1.stack ++ t.ins }) := by show _ = _; simp [enterM, hm]
    have hT : Blk w2 w.heap.size [.slice pi t.ins.length ci, .slice po t.outs.length co] := (Blk.new w #[.slice pi t.ins.length ci, .slice po t.outs.length co] 85).kept hk2 (by simp) (fun (e : w.heap.size = bb) => by omega)
    obtain ⟨⟨T0, -⟩, ⟨T1, -⟩⟩ := hT.two
    obtain ⟨-, -, ⟨I2, J2⟩, ⟨I3, J3⟩, ⟨I4, J4⟩⟩ := hB.blk.five
    obtain ⟨css, hrow, hea⟩ := hB.bls
    rw [List.length_reverse] at hrow
    obtain ⟨pb, cb, rfl⟩ := Row.shape hrow
    have hown : Hid (∀ k o, ((w2.drewN k).alloc o).ownsRow 0 125 5 (.slice pb st1.blocks.length cb) st1.blocks.length css.flatten) := fun k o => (Row.alloc (Row.kept hrow (S := fun _ => False) (w' := w2.drewN k) ((Kept.refl _ _).drewN k) (fun _ _ _ c => c)) o).own
    have hbl : st1.blocks.length ≤ 59 := by rw [hf1.1]; exact hl
    have hsl : st1.stack.length ≤ 900000 := by omega
    have HV := hide hB
    have HF := hide hf1
    have HEA := hide hea
    have HRow := hide hrow
    have hsz2 := hk2.size
    have hbw2 : bb < w2.heap.size := hB.lt
    have hTw : w.heap.size < w2.heap.size := by simp at hsz2; omega
    have hbT : bb ≠ w.heap.size := by omega
    have HFT : Hid (some w.heap.size ≠ (Value.slice pb st1.blocks.length cb).ownBlock) := by
      intro e
      have := HBV.out _ e.symm
      omega
    clear hok2 herr2 hm hT hea hf1 hB hrow
    go_wp2_with fail
    go_cut [27] from 10 to 29 (fun v W => ∃ (gg cap : Nat) (w3 : World), v = .slice (some ⟨gg, 0, none⟩) (st1.blocks.length + 1) cap ∧ W = w3.setCell ⟨bb, 3, none⟩ (.slice (some ⟨gg, 0, none⟩) (st1.blocks.length + 1) cap) ∧ w3.ownsRow 0 125 5 (.slice (some ⟨gg, 0, none⟩) (st1.blocks.length + 1) cap) (st1.blocks.length + 1) (css.flatten ++ [.int .u8 (word : Nat), .slice pi t.ins.length ci, .slice po t.outs.length co, .int .i64 (st1.stack.length : Nat), .bool false]) ∧
        ((w2.drewN 1).alloc (.cells #[.int .u8 (word : Nat), .slice pi t.ins.length ci, .slice po t.outs.length co, .int .i64 (st1.stack.length : Nat), .bool false] 125)).grownBy w3 (Value.slice pb st1.blocks.length cb).ownBlock ∧ ((Value.slice pb st1.blocks.length cb).ownBlock = some gg ∨ gg = w2.heap.size + 1))
    case first =>
      clear HBV HFT hkO hk2 hi ho h HM HV HF HEA hKb I4 J4 J2 hb hl hf hs hkl
      go_region_law (refine step_append_lies _ (by rfl) _ _ _ (by rfl) 0 125 i0 _ 5 72 Tryz.underlying95 hi0 hz0 hz1 hz2 rfl (by omega) (.slice pb st1.blocks.length cb) st1.blocks.length css.flatten (by rfl) (hown.out 1 _) ⟨w2.heap.size, 0, none⟩ 1 1 [.int .u8 (word : Nat), .slice pi t.ins.length ci, .slice po t.outs.length co, .int .i64 (st1.stack.length : Nat), .bool false] (by rfl) (by rfl) (World.news_of_block (cs := #[.int .u8 (word : Nat), .slice pi t.ins.length ci, .slice po t.outs.length co, .int .i64 (st1.stack.length : Nat), .bool false]) (t := 125) (fr := (0, 0)) (heap_alloc_new (w2.drewN 1) _)) (by simp [Value.oneCell']) (by omega) (by unfold maxLen; omega) (by omega) (Nat.zero_le _) (w2.heap.size + 1) (by simp) ?_; intro gg cap w3 hown3 hgrow hat hlt3; have hfar : some bb ≠ (Value.slice pb st1.blocks.length cb).ownBlock := (fun e => (HRow.out.at_ bb e.symm).2 rfl); have q3 : w3.cell? ⟨bb, 3, none⟩ = some (.slice pb st1.blocks.length cb) := (hgrow.cell_far ⟨bb, 3, none⟩ (by simp; omega) hfar).trans ((World.cell?_alloc_lt _ _ _ hbw2).trans I3); have f3 : w3.frozen? ⟨bb, 3, none⟩ = false := (hgrow.frozen_far ⟨bb, 3, none⟩ (by simp; omega) hfar).trans ((World.frozen?_alloc_old _ _ _ (by simp; omega)).trans J3))
      all_goals
        have HO3 := hide hown3
        have HG3 := hide hgrow
        have HA3 := hide hat
        clear hown3 hgrow hat
        go_wp2
        go_meet
        case rel => exact ⟨gg, cap, w3, rfl, rfl, HO3.out, HG3.out, HA3.out⟩
    case rest =>
      obtain ⟨gg, cap, w3, rfl, rfl, hown3, hgrow, hat⟩ := hcut
      have HO3 := hide hown3
      have HG3 := hide hgrow
      have HA3 := hide hat
      have hnew : ∀ k, w.heap.size ≤ k → ¬ K k := fun k hk0 c => by have := h.kb k c; omega
      have hfar : some bb ≠ (Value.slice pb st1.blocks.length cb).ownBlock := fun e => (HRow.out.at_ bb e.symm).2 rfl
      have hgk : Kept (fun k => (Value.slice pb st1.blocks.length cb).ownBlock = some k) w2 w3 := (((Kept.refl _ _).drewN _).alloc _).trans (Kept.of_grown hgrow)
      have hgg : More O w gg ∧ gg ≠ bb := by
        rcases hat with hh | hh
        · exact ⟨.inl (HRow.out.at_ gg hh).1, (HRow.out.at_ gg hh).2⟩
        · exact ⟨.inr (by omega), by omega⟩
      have hrowE : ∀ k, (Value.slice pb st1.blocks.length cb).ownBlock = some k → O k := fun k hk => (HRow.out.at_ k hk).1
      have hK3 : Kept O w w3 := hkO.trans (hgk.mono (fun k _ e => hrowE k e))
      have hb3 : Blk w3 bb [mp, lv, .slice ps st1.stack.length cs, .slice pb st1.blocks.length cb, .int .i64 (st1.at_ : Nat)] := HV.out.blk.kept hgk hbw2 (fun e => hfar e.symm)
      have hkb : Kept (only bb) w3 (w3.setCell ⟨bb, 3, none⟩ (.slice (some ⟨gg, 0, none⟩) (st1.blocks.length + 1) cap)) := (Kept.refl _ _).own _
      have hKK : ∀ g, K g → ¬ (Value.slice pb st1.blocks.length cb).ownBlock = some g := fun g hg e => h.dis g (hrowE g e) hg
      have hKb' : ∀ g, K g → ¬ only bb g := fun g hg (e : g = bb) => hKb (e ▸ hg)
      have hk23 : Kept (fun k => k = bb ∨ (Value.slice pb st1.blocks.length cb).ownBlock = some k) w2 (w3.setCell ⟨bb, 3, none⟩ (.slice (some ⟨gg, 0, none⟩) (st1.blocks.length + 1) cap)) := (hgk.mono (fun _ _ e => .inr e)).setCell (fun _ => .inl rfl) _
      have hkindsW : ∀ {ks : List Nat} {v : Value}, isKinds K ks w v → isKinds K ks (w3.setCell ⟨bb, 3, none⟩ (.slice (some ⟨gg, 0, none⟩) (st1.blocks.length + 1) cap)) v := fun hh =>
        Row.kept (Row.kept (Row.alloc hh _) hk2 (fun g _ hg => hKb' g hg)) hk23 (fun g _ hg c => c.elim (fun e => hKb' g hg e) (fun e => hKK g hg e))
      have hB3 : BodyV K (More O w) (w3.setCell ⟨bb, 3, none⟩ (.slice (some ⟨gg, 0, none⟩) (st1.blocks.length + 1) cap)) bb mp lv (.slice ps st1.stack.length cs) (.slice (some ⟨gg, 0, none⟩) (st1.blocks.length + 1) cap) { st1 with blocks := ⟨word, t.ins, t.outs, st1.stack.length, false⟩ :: st1.blocks } := by
        refine ⟨hb3.set 3 _, .inl h.own, ?_, ?_, fun k hk => hk.elim (h.dis k) (hnew k), fun k hk => ?_⟩
        · have hst : isKinds (fun g => O g ∧ g ≠ bb) st1.stack w3 (.slice ps st1.stack.length cs) := Row.kept (Row.only HV.out.stk (ok' := fun g => (O g ∧ g ≠ bb) ∧ (Value.slice pb st1.blocks.length cb).ownBlock ≠ some g) (fun g hg => ⟨HV.out.stk.at_ g hg, fun c => Row.apart HV.out.stk HRow.out (by decide) hg c⟩)) hgk (fun g _ hg => hg.2) |>.mono (fun g _ hg => hg.1)
          exact Row.mono (Row.kept hst hkb (fun g _ hg (c : g = bb) => hg.2 c)) (fun g _ hg => ⟨.inl hg.1, hg.2⟩)
        · simp only [List.reverse_cons]
          refine ⟨css ++ [[.int .u8 (word : Nat), .slice pi t.ins.length ci, .slice po t.outs.length co, .int .i64 (st1.stack.length : Nat), .bool false]], ?_, ?_⟩
          · have hr : Row (fun g => More O w g ∧ g ≠ bb) w3 125 5 (.slice (some ⟨gg, 0, none⟩) (st1.blocks.length + 1) cap) (st1.blocks.length + 1) (css.flatten ++ [.int .u8 (word : Nat), .slice pi t.ins.length ci, .slice po t.outs.length co, .int .i64 (st1.stack.length : Nat), .bool false]) := ⟨HO3.out, fun g hg => by simp [Value.ownBlock] at hg; subst hg; exact hgg⟩
            have hr2 := Row.kept hr hkb (fun g _ hg (c : g = bb) => hg.2 c)
            simpa using hr2
          · refine Each.snoc (HEA.out.to (fun x cs hh => ⟨hh.1.kept hk23 (fun g _ hg c => c.elim (fun e => hKb' g hg e) (fun e => hKK g hg e)), hh.2⟩)) ⟨⟨_, _, rfl, hkindsW hi, hkindsW ho⟩, rfl⟩
        · have h1 := h.kb k hk
          have h2 := hK3.size
          simp
          omega
      have hTw3 : w3.cell? ⟨w.heap.size, 0, none⟩ = some (.slice pi t.ins.length ci) := (hgk.cell (p := ⟨w.heap.size, 0, none⟩) hTw (fun e => HFT.out e.symm)).trans T0
      have HB3 := hide hB3
      have HKI := hide (hkindsW hi)
      have HK3 := hide hK3
      have hsl3 : st1.stack.length ≤ 1000000 := by omega
      have hszW : w.heap.size ≤ w3.heap.size := hK3.size
      clear hB3 hown3 hgrow hat hkindsW hk23 hkb hb3 hgk hK3 I2 J2 I3 J3 I4 J4 T0 T1
      have hTb : w.heap.size ≠ bb := by omega
      go_wp2_with fail
      refine (put_any HB3.out HKI.out hsl3 hkl).mono ?_
      rintro e w5 ⟨hk5, hok5, -⟩
      obtain ⟨v, rfl, rfl, sv5, bv5, hB5⟩ := hok5 _ rfl
      have HB5 := hide hB5
      clear hok5 hB5
      go_wp2
      go_end0
      refine Says.ok_mk HM.out (((HK3.out.setCell (p := ⟨bb, 3, none⟩) (fun _ => h.own) _).fresh hk5 (fun k hk hh => hh.elim id (fun c => by omega)))) ⟨rfl, sv5, bv5, ?_⟩
      exact HB5.out.more (fun k hk => hk.elim id (fun c => .inr (by simp at c; omega))) (fun k hk => hk.elim (h.dis k) (hnew k))

end Go.Proofs.YtgkpkngchploiaaGreat
