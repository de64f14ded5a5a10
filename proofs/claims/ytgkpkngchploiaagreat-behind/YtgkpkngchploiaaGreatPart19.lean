/-
  Part 19 of the proof: Body17, Body18, Body19.
-/
import Derived.Test.YtgkpkngchploiaaGreatPart18
import Derived.Test.YtgkpkngchploiaaGreatPart17
/-
  Blocks: block and loop.
-/
namespace Go.Proofs.YtgkpkngchploiaaGreat
open Go.RowKit

/-- A call in a region that draws its order, whichever way it ends. -/
theorem wpOp_calls {P : Program} {ops : Array Oper} {Q : Exit → Act → World → Prop} {i : Nat} {K : Act → World → Prop} {a : Act} {w : World} {o : Oper} {f : FuncId} {args : Array Value} {R : Ending → World → Prop} (ho : ops[i]? = some o) (hgd : o.guard = none)
    (hex : (execOp a.eval o).run P w = .ok (.enter f args) w) (hc : Calls P f args w R) (h : ∀ e w', R e w' → (∃ v, e = .returned v ∧ K (a.put o.dst v) w') ∨ ∃ chain, e = .panicked chain ∧ Q (.panic chain) a w') : wpOp P ops Q i K a w := by
  have hw : Region.wanted o (yielded ops a.tmps) = true := by simp [Region.wanted, hgd]
  unfold wpOp
  rw [ho]
  simp only [hw, if_true]
  unfold Oper.wp
  rw [hex]
  refine .inl (hc.mono ?_)
  intro e w' hr
  rcases h e w' hr with ⟨v, rfl, hk⟩ | ⟨chain, rfl, hq⟩
  · exact hk
  · exact hq

section
variable {K O N : Nat → Prop} {w W : World} {bb mb : Nat} {lv : Value} {st : Bd} {s : ByteArray} {m : Mdl}

set_option maxRecDepth 100000 in
set_option maxHeartbeats 6400000 in
theorem checkBlock_open {pg pl : Option Addr} {cg nl cl : Nat} (h : At K O w W N bb (.pointer (some ⟨mb, 0, none⟩)) lv st) (hb : st.blocks ≠ []) (hm : MV s K W mb m) (a e x : Nat) (y : Beh) (hx : 0 ≤ y.num.1 ∧ y.num.1 ≤ 4294967295) (hg : isKinds K y.gives W (.slice pg y.gives.length cg)) (hs : st.stack.length ≤ 798000) (hbl : st.blocks.length ≤ 54) (hty : ∀ t, blockTypeM m y = .ok t → t.ins.length ≤ 8 ∧ t.outs.length ≤ 8) (h23 : x = 2 ∨ x = 3) :
    Calls Tryz.prog 62 #[.pointer (some ⟨bb, 0, none⟩), .agg (yC a e x y (.slice pg y.gives.length cg) (.slice pl nl cl)).toArray] W (Ends K O w W (fun k => k < W.heap.size) bb (.pointer (some ⟨mb, 0, none⟩)) lv (checkBlockM m x y st)) := by
  have HA := hide h.up
  have HMV := hide hm
  have HG := hide hg
  have HBT : Hid (∀ W1, At K O w W1 (fun k => k < W.heap.size) bb (.pointer (some ⟨mb, 0, none⟩)) lv st → Kept (fun _ => False) W W1 → Calls Tryz.prog 83 #[.pointer (some ⟨bb, 0, none⟩), .agg (yC a e x y (.slice pg y.gives.length cg) (.slice pl nl cl)).toArray] W1 (Says (fun _ => False) W1 (blockTypeM m y) (isTypeOf K))) := fun W1 hA1 hk1 => blockType_at hA1 (hm.kept hk1 (fun _ _ _ c => c)) a e x y pg pl cg nl cl hx (Row.kept hg hk1 (fun _ _ _ c => c))
  have HM : Hid (checkBlockM m x y st = match blockTypeM m y with | .error e => .error e | .ok t => enterM x t st) := by
    show _ = _
    unfold checkBlockM
    rw [if_neg (by omega), if_pos h23] <;> rfl
  have HTY : Hid (∀ t, blockTypeM m y = .ok t → t.ins.length ≤ 8 ∧ t.outs.length ≤ 8) := hty
  have t0 : ((x : Int) == 0) = false := beq_eq_false_iff_ne.2 (by omega)
  have hsel : (((x : Int) == 2) = true) ∨ (((x : Int) == 2) = false ∧ ((x : Int) == 3) = true) := by
    rcases h23 with rfl | rfl
    · exact .inl rfl
    · exact .inr ⟨rfl, rfl⟩
  have hHeld : (fun w' : World => w'.cell? ⟨W.heap.size, 0, none⟩ = some (.int .i64 (a : Nat)) ∧ w'.cell? ⟨W.heap.size, 1, none⟩ = some (.int .i64 (e : Nat)) ∧ w'.cell? ⟨W.heap.size, 2, none⟩ = some (.int .u8 (x : Nat)) ∧ w'.cell? ⟨W.heap.size, 3, none⟩ = some (.bool y.typed) ∧ w'.cell? ⟨W.heap.size, 4, none⟩ = some (.slice pg y.gives.length cg) ∧ w'.cell? ⟨W.heap.size, 5, none⟩ = some (.int .u32 y.align) ∧ w'.cell? ⟨W.heap.size, 6, none⟩ = some (.int .u32 y.num.1) ∧ w'.cell? ⟨W.heap.size, 7, none⟩ = some (.int .i64 (y.num.2 : Nat)) ∧ w'.cell? ⟨W.heap.size, 8, none⟩ = some (.slice pl nl cl) ∧ w'.cell? ⟨W.heap.size, 9, none⟩ = some (.int .i64 y.val)) ((W.alloc (.cells (yC a e x y (.slice pg y.gives.length cg) (.slice pl nl cl)).toArray 100)).drew) := by
    dsimp only
    exact ⟨by simp, by simp, by simp, by simp, by simp, by simp, by simp, by simp, by simp, by simp⟩
  have HHeld := hide hHeld
  clear h hm hg hty h23 hHeld
  rcases hsel with t2 | ⟨t2, t3⟩
  · go_enter Tryz.func62, Tryz.ntmps62
    go_wp2_with fail
    refine wp_region_held_drew (S := fun w' : World => w'.cell? ⟨W.heap.size, 0, none⟩ = some (.int .i64 (a : Nat)) ∧ w'.cell? ⟨W.heap.size, 1, none⟩ = some (.int .i64 (e : Nat)) ∧ w'.cell? ⟨W.heap.size, 2, none⟩ = some (.int .u8 (x : Nat)) ∧ w'.cell? ⟨W.heap.size, 3, none⟩ = some (.bool y.typed) ∧ w'.cell? ⟨W.heap.size, 4, none⟩ = some (.slice pg y.gives.length cg) ∧ w'.cell? ⟨W.heap.size, 5, none⟩ = some (.int .u32 y.align) ∧ w'.cell? ⟨W.heap.size, 6, none⟩ = some (.int .u32 y.num.1) ∧ w'.cell? ⟨W.heap.size, 7, none⟩ = some (.int .i64 (y.num.2 : Nat)) ∧ w'.cell? ⟨W.heap.size, 8, none⟩ = some (.slice pl nl cl) ∧ w'.cell? ⟨W.heap.size, 9, none⟩ = some (.int .i64 y.val)) (by kernel_rfl) HHeld.out (fun _ => ?_)
    refine tkh 0 HHeld.out (h := ?_)
    refine tkh 1 HHeld.out (h := ?_)
    refine tkh 2 HHeld.out (h := ?_)
    refine tkh 3 HHeld.out (h := ?_)
    refine tkh 4 HHeld.out (h := ?_)
    refine wpAnyH_all (rs := [5]) (by kernel_rfl) (by simp) ?_
    intro i hi
    rw [List.mem_singleton] at hi
    subst hi
    refine wpOp_calls (f := 83) (args := #[.pointer (some ⟨bb, 0, none⟩), .agg (yC a e x y (.slice pg y.gives.length cg) (.slice pl nl cl)).toArray]) rfl rfl (by kernel_rfl) (HBT.out _ ((HA.out.alloc _).drewN 1) (((Kept.refl _ _).alloc _).drewN 1)) ?_
    rintro ee w2 ⟨hk2, hok2, herr2⟩
    have hA2 := ((HA.out.alloc (.cells (yC a e x y (.slice pg y.gives.length cg) (.slice pl nl cl)).toArray 100)).drewN 1).quiet hk2
    have hk02 : Kept (fun _ => False) W w2 := (((Kept.refl _ _).alloc _).drewN 1).trans hk2
    have hl2 : Kept (fun k => k < W.heap.size ∧ ¬ K k) W w2 := hk02.mono (fun _ _ c => c.elim)
    cases hm2 : blockTypeM m y with
    | error qp =>
      obtain ⟨q, p⟩ := qp
      have he := herr2 _ _ hm2
      subst he
      exact .inr ⟨_, rfl, rfl, Ends.err_mk (by rw [HM.out, hm2]) hA2.kept hl2⟩
    | ok t =>
      obtain ⟨v, rfl, vi, vo, rfl, k1, k2⟩ := hok2 _ hm2
      obtain ⟨l1, l2⟩ := HTY.out _ hm2
      have HS2 : Hid ((fun w' : World => w'.cell? ⟨W.heap.size, 0, none⟩ = some (.int .i64 (a : Nat)) ∧ w'.cell? ⟨W.heap.size, 1, none⟩ = some (.int .i64 (e : Nat)) ∧ w'.cell? ⟨W.heap.size, 2, none⟩ = some (.int .u8 (x : Nat)) ∧ w'.cell? ⟨W.heap.size, 3, none⟩ = some (.bool y.typed) ∧ w'.cell? ⟨W.heap.size, 4, none⟩ = some (.slice pg y.gives.length cg) ∧ w'.cell? ⟨W.heap.size, 5, none⟩ = some (.int .u32 y.align) ∧ w'.cell? ⟨W.heap.size, 6, none⟩ = some (.int .u32 y.num.1) ∧ w'.cell? ⟨W.heap.size, 7, none⟩ = some (.int .i64 (y.num.2 : Nat)) ∧ w'.cell? ⟨W.heap.size, 8, none⟩ = some (.slice pl nl cl) ∧ w'.cell? ⟨W.heap.size, 9, none⟩ = some (.int .i64 y.val)) w2) := by
        show (fun w' : World => w'.cell? ⟨W.heap.size, 0, none⟩ = some (.int .i64 (a : Nat)) ∧ w'.cell? ⟨W.heap.size, 1, none⟩ = some (.int .i64 (e : Nat)) ∧ w'.cell? ⟨W.heap.size, 2, none⟩ = some (.int .u8 (x : Nat)) ∧ w'.cell? ⟨W.heap.size, 3, none⟩ = some (.bool y.typed) ∧ w'.cell? ⟨W.heap.size, 4, none⟩ = some (.slice pg y.gives.length cg) ∧ w'.cell? ⟨W.heap.size, 5, none⟩ = some (.int .u32 y.align) ∧ w'.cell? ⟨W.heap.size, 6, none⟩ = some (.int .u32 y.num.1) ∧ w'.cell? ⟨W.heap.size, 7, none⟩ = some (.int .i64 (y.num.2 : Nat)) ∧ w'.cell? ⟨W.heap.size, 8, none⟩ = some (.slice pl nl cl) ∧ w'.cell? ⟨W.heap.size, 9, none⟩ = some (.int .i64 y.val)) w2
        dsimp only
        have hc := fun (i : Nat) (v : Value) (hv : ((W.alloc (.cells (yC a e x y (.slice pg y.gives.length cg) (.slice pl nl cl)).toArray 100)).drew).cell? ⟨W.heap.size, i, none⟩ = some v) => (hk2.cell (p := ⟨W.heap.size, i, none⟩) (by simp) (fun c => c)).trans hv
        obtain ⟨q0, q1, q2, q3, q4, q5, q6, q7, q8, q9⟩ := HHeld.out
        exact ⟨hc _ _ q0, hc _ _ q1, hc _ _ q2, hc _ _ q3, hc _ _ q4, hc _ _ q5, hc _ _ q6, hc _ _ q7, hc _ _ q8, hc _ _ q9⟩
      refine .inl ⟨_, rfl, HS2.out, ?_⟩
      refine wpAnyH_all (rs := [6]) (by kernel_rfl) (by simp) ?_
      intro i hi
      rw [List.mem_singleton] at hi
      subst hi
      refine wpOp_calls (f := 39) (args := #[.pointer (some ⟨bb, 0, none⟩), .int .u8 (x : Nat), .agg #[vi, vo]]) rfl rfl (by kernel_rfl) (enter_at x hA2 (fun _ => hb) k1 k2 l1 l2 hbl (by omega)) ?_
      rintro ee w3 ⟨hok3, herr3, hk3, hlow3⟩
      have hl3 := hl2.lowTrans hlow3 rfl
      cases hm3 : enterM x t st with
      | error qp =>
        obtain ⟨q, p⟩ := qp
        have he := herr3 _ _ hm3
        subst he
        exact .inr ⟨_, rfl, rfl, Ends.err_mk (by rw [HM.out, hm2]; exact hm3) hk3 hl3⟩
      | ok st3 =>
        obtain ⟨rfl, hA3⟩ := hok3 _ hm3
        have HE : Hid (checkBlockM m x y st = .ok st3) := by show _ = _; rw [HM.out, hm2]; exact hm3
        have HA3 := hide hA3
        refine .inl ⟨_, rfl, ?_, ?_⟩
        · have hc := fun (i : Nat) (v : Value) (hv : w2.cell? ⟨W.heap.size, i, none⟩ = some v) => (hlow3.cell (p := ⟨W.heap.size, i, none⟩) (show W.heap.size < w2.heap.size by have h9 := hk2.size; simp at h9; omega) (fun c => Nat.lt_irrefl _ c.1)).trans hv
          obtain ⟨q0, q1, q2, q3, q4, q5, q6, q7, q8, q9⟩ := HS2.out
          exact ⟨hc _ _ q0, hc _ _ q1, hc _ _ q2, hc _ _ q3, hc _ _ q4, hc _ _ q5, hc _ _ q6, hc _ _ q7, hc _ _ q8, hc _ _ q9⟩
        refine wpAnyH_done (by kernel_rfl) ?_ _
        go_end0
        exact Ends.ok_mk HE.out HA3.out hl3
  · go_enter Tryz.func62, Tryz.ntmps62
    go_wp2_with fail
    refine wp_region_held_drew (S := fun w' : World => w'.cell? ⟨W.heap.size, 0, none⟩ = some (.int .i64 (a : Nat)) ∧ w'.cell? ⟨W.heap.size, 1, none⟩ = some (.int .i64 (e : Nat)) ∧ w'.cell? ⟨W.heap.size, 2, none⟩ = some (.int .u8 (x : Nat)) ∧ w'.cell? ⟨W.heap.size, 3, none⟩ = some (.bool y.typed) ∧ w'.cell? ⟨W.heap.size, 4, none⟩ = some (.slice pg y.gives.length cg) ∧ w'.cell? ⟨W.heap.size, 5, none⟩ = some (.int .u32 y.align) ∧ w'.cell? ⟨W.heap.size, 6, none⟩ = some (.int .u32 y.num.1) ∧ w'.cell? ⟨W.heap.size, 7, none⟩ = some (.int .i64 (y.num.2 : Nat)) ∧ w'.cell? ⟨W.heap.size, 8, none⟩ = some (.slice pl nl cl) ∧ w'.cell? ⟨W.heap.size, 9, none⟩ = some (.int .i64 y.val)) (by kernel_rfl) HHeld.out (fun _ => ?_)
    refine tkh 0 HHeld.out (h := ?_)
    refine tkh 1 HHeld.out (h := ?_)
    refine tkh 2 HHeld.out (h := ?_)
    refine tkh 3 HHeld.out (h := ?_)
    refine tkh 4 HHeld.out (h := ?_)
    refine wpAnyH_all (rs := [5]) (by kernel_rfl) (by simp) ?_
    intro i hi
    rw [List.mem_singleton] at hi
    subst hi
    refine wpOp_calls (f := 83) (args := #[.pointer (some ⟨bb, 0, none⟩), .agg (yC a e x y (.slice pg y.gives.length cg) (.slice pl nl cl)).toArray]) rfl rfl (by kernel_rfl) (HBT.out _ ((HA.out.alloc _).drewN 1) (((Kept.refl _ _).alloc _).drewN 1)) ?_
    rintro ee w2 ⟨hk2, hok2, herr2⟩
    have hA2 := ((HA.out.alloc (.cells (yC a e x y (.slice pg y.gives.length cg) (.slice pl nl cl)).toArray 100)).drewN 1).quiet hk2
    have hk02 : Kept (fun _ => False) W w2 := (((Kept.refl _ _).alloc _).drewN 1).trans hk2
    have hl2 : Kept (fun k => k < W.heap.size ∧ ¬ K k) W w2 := hk02.mono (fun _ _ c => c.elim)
    cases hm2 : blockTypeM m y with
    | error qp =>
      obtain ⟨q, p⟩ := qp
      have he := herr2 _ _ hm2
      subst he
      exact .inr ⟨_, rfl, rfl, Ends.err_mk (by rw [HM.out, hm2]) hA2.kept hl2⟩
    | ok t =>
      obtain ⟨v, rfl, vi, vo, rfl, k1, k2⟩ := hok2 _ hm2
      obtain ⟨l1, l2⟩ := HTY.out _ hm2
      have HS2 : Hid ((fun w' : World => w'.cell? ⟨W.heap.size, 0, none⟩ = some (.int .i64 (a : Nat)) ∧ w'.cell? ⟨W.heap.size, 1, none⟩ = some (.int .i64 (e : Nat)) ∧ w'.cell? ⟨W.heap.size, 2, none⟩ = some (.int .u8 (x : Nat)) ∧ w'.cell? ⟨W.heap.size, 3, none⟩ = some (.bool y.typed) ∧ w'.cell? ⟨W.heap.size, 4, none⟩ = some (.slice pg y.gives.length cg) ∧ w'.cell? ⟨W.heap.size, 5, none⟩ = some (.int .u32 y.align) ∧ w'.cell? ⟨W.heap.size, 6, none⟩ = some (.int .u32 y.num.1) ∧ w'.cell? ⟨W.heap.size, 7, none⟩ = some (.int .i64 (y.num.2 : Nat)) ∧ w'.cell? ⟨W.heap.size, 8, none⟩ = some (.slice pl nl cl) ∧ w'.cell? ⟨W.heap.size, 9, none⟩ = some (.int .i64 y.val)) w2) := by
        show (fun w' : World => w'.cell? ⟨W.heap.size, 0, none⟩ = some (.int .i64 (a : Nat)) ∧ w'.cell? ⟨W.heap.size, 1, none⟩ = some (.int .i64 (e : Nat)) ∧ w'.cell? ⟨W.heap.size, 2, none⟩ = some (.int .u8 (x : Nat)) ∧ w'.cell? ⟨W.heap.size, 3, none⟩ = some (.bool y.typed) ∧ w'.cell? ⟨W.heap.size, 4, none⟩ = some (.slice pg y.gives.length cg) ∧ w'.cell? ⟨W.heap.size, 5, none⟩ = some (.int .u32 y.align) ∧ w'.cell? ⟨W.heap.size, 6, none⟩ = some (.int .u32 y.num.1) ∧ w'.cell? ⟨W.heap.size, 7, none⟩ = some (.int .i64 (y.num.2 : Nat)) ∧ w'.cell? ⟨W.heap.size, 8, none⟩ = some (.slice pl nl cl) ∧ w'.cell? ⟨W.heap.size, 9, none⟩ = some (.int .i64 y.val)) w2
        dsimp only
        have hc := fun (i : Nat) (v : Value) (hv : ((W.alloc (.cells (yC a e x y (.slice pg y.gives.length cg) (.slice pl nl cl)).toArray 100)).drew).cell? ⟨W.heap.size, i, none⟩ = some v) => (hk2.cell (p := ⟨W.heap.size, i, none⟩) (by simp) (fun c => c)).trans hv
        obtain ⟨q0, q1, q2, q3, q4, q5, q6, q7, q8, q9⟩ := HHeld.out
        exact ⟨hc _ _ q0, hc _ _ q1, hc _ _ q2, hc _ _ q3, hc _ _ q4, hc _ _ q5, hc _ _ q6, hc _ _ q7, hc _ _ q8, hc _ _ q9⟩
      refine .inl ⟨_, rfl, HS2.out, ?_⟩
      refine wpAnyH_all (rs := [6]) (by kernel_rfl) (by simp) ?_
      intro i hi
      rw [List.mem_singleton] at hi
      subst hi
      refine wpOp_calls (f := 39) (args := #[.pointer (some ⟨bb, 0, none⟩), .int .u8 (x : Nat), .agg #[vi, vo]]) rfl rfl (by kernel_rfl) (enter_at x hA2 (fun _ => hb) k1 k2 l1 l2 hbl (by omega)) ?_
      rintro ee w3 ⟨hok3, herr3, hk3, hlow3⟩
      have hl3 := hl2.lowTrans hlow3 rfl
      cases hm3 : enterM x t st with
      | error qp =>
        obtain ⟨q, p⟩ := qp
        have he := herr3 _ _ hm3
        subst he
        exact .inr ⟨_, rfl, rfl, Ends.err_mk (by rw [HM.out, hm2]; exact hm3) hk3 hl3⟩
      | ok st3 =>
        obtain ⟨rfl, hA3⟩ := hok3 _ hm3
        have HE : Hid (checkBlockM m x y st = .ok st3) := by show _ = _; rw [HM.out, hm2]; exact hm3
        have HA3 := hide hA3
        refine .inl ⟨_, rfl, ?_, ?_⟩
        · have hc := fun (i : Nat) (v : Value) (hv : w2.cell? ⟨W.heap.size, i, none⟩ = some v) => (hlow3.cell (p := ⟨W.heap.size, i, none⟩) (show W.heap.size < w2.heap.size by have h9 := hk2.size; simp at h9; omega) (fun c => Nat.lt_irrefl _ c.1)).trans hv
          obtain ⟨q0, q1, q2, q3, q4, q5, q6, q7, q8, q9⟩ := HS2.out
          exact ⟨hc _ _ q0, hc _ _ q1, hc _ _ q2, hc _ _ q3, hc _ _ q4, hc _ _ q5, hc _ _ q6, hc _ _ q7, hc _ _ q8, hc _ _ q9⟩
        refine wpAnyH_done (by kernel_rfl) ?_ _
        go_end0
        exact Ends.ok_mk HE.out HA3.out hl3
end

end Go.Proofs.YtgkpkngchploiaaGreat
/-
  Blocks: if, else, end, and what is no block.
-/
namespace Go.Proofs.YtgkpkngchploiaaGreat
open Go.RowKit

section
variable {K O N : Nat → Prop} {w W : World} {bb mb : Nat} {lv : Value} {st : Bd} {s : ByteArray} {m : Mdl}

set_option maxRecDepth 100000 in
set_option maxHeartbeats 1600000 in
theorem checkBlock_unreachable {pg pl : Option Addr} {cg nl cl : Nat} (h : At K O w W N bb (.pointer (some ⟨mb, 0, none⟩)) lv st) (hb : st.blocks ≠ []) (a e : Nat) (y : Beh) :
    Calls Tryz.prog 62 #[.pointer (some ⟨bb, 0, none⟩), .agg #[.int .i64 (a : Nat), .int .i64 (e : Nat), .int .u8 0, .bool y.typed, .slice pg y.gives.length cg, .int .u32 y.align, .int .u32 y.num.1, .int .i64 (y.num.2 : Nat), .slice pl nl cl, .int .i64 y.val]] W (Ends K O w W (fun k => k < W.heap.size) bb (.pointer (some ⟨mb, 0, none⟩)) lv (checkBlockM m 0 y st)) := by
  have HA := hide h.up
  clear h
  go_enter Tryz.func62, Tryz.ntmps62
  go_wp2_with fail
  refine (cutOff_at (HA.out.alloc _) hb).mono ?_
  rintro ee w2 ⟨hok2, -, -, hlow2⟩
  obtain ⟨rfl, hA2⟩ := hok2 _ rfl
  have HA2 := hide hA2
  clear hok2 hA2
  go_wp2
  go_end0
  exact Ends.ok_mk rfl HA2.out (((Kept.refl _ _).alloc _).trans hlow2)

set_option maxRecDepth 100000 in
set_option maxHeartbeats 1600000 in
theorem checkBlock_none {pg pl : Option Addr} {cg nl cl : Nat} (h : At K O w W N bb (.pointer (some ⟨mb, 0, none⟩)) lv st) (a e x : Nat) (y : Beh) (h0 : x ≠ 0) (h2 : x ≠ 2) (h3 : x ≠ 3) (h4 : x ≠ 4) (h5 : x ≠ 5) (h11 : x ≠ 11) :
    Calls Tryz.prog 62 #[.pointer (some ⟨bb, 0, none⟩), .agg (yC a e x y (.slice pg y.gives.length cg) (.slice pl nl cl)).toArray] W (Ends K O w W (fun k => k < W.heap.size) bb (.pointer (some ⟨mb, 0, none⟩)) lv (checkBlockM m x y st)) := by
  have HA := hide h.up
  have HM : Hid (checkBlockM m x y st = .ok st) := by show _ = _; unfold checkBlockM; rw [if_neg h0, if_neg (by omega), if_neg h4, if_neg h5, if_neg h11]
  have t0 : ((x : Int) == 0) = false := beq_eq_false_iff_ne.2 (by omega)
  have t2 : ((x : Int) == 2) = false := beq_eq_false_iff_ne.2 (by omega)
  have t3 : ((x : Int) == 3) = false := beq_eq_false_iff_ne.2 (by omega)
  have t4 : ((x : Int) == 4) = false := beq_eq_false_iff_ne.2 (by omega)
  have t5 : ((x : Int) == 5) = false := beq_eq_false_iff_ne.2 (by omega)
  have t11 : ((x : Int) == 11) = false := beq_eq_false_iff_ne.2 (by omega)
  clear h h0 h2 h3 h4 h5 h11
  go_enter Tryz.func62, Tryz.ntmps62
  go_wp2
  go_end0
  exact Ends.ok_mk HM.out (HA.out.alloc _) ((Kept.refl _ _).alloc _)

set_option maxRecDepth 100000 in
set_option maxHeartbeats 3200000 in
theorem checkBlock_if {pg pl : Option Addr} {cg nl cl : Nat} (h : At K O w W N bb (.pointer (some ⟨mb, 0, none⟩)) lv st) (hb : st.blocks ≠ []) (hm : MV s K W mb m) (a e : Nat) (y : Beh) (hx : 0 ≤ y.num.1 ∧ y.num.1 ≤ 4294967295) (hg : isKinds K y.gives W (.slice pg y.gives.length cg)) (hs : st.stack.length ≤ 798000) (hbl : st.blocks.length ≤ 54) (hty : ∀ t, blockTypeM m y = .ok t → t.ins.length ≤ 8 ∧ t.outs.length ≤ 8) :
    Calls Tryz.prog 62 #[.pointer (some ⟨bb, 0, none⟩), .agg #[.int .i64 (a : Nat), .int .i64 (e : Nat), .int .u8 4, .bool y.typed, .slice pg y.gives.length cg, .int .u32 y.align, .int .u32 y.num.1, .int .i64 (y.num.2 : Nat), .slice pl nl cl, .int .i64 y.val]] W (Ends K O w W (fun k => k < W.heap.size) bb (.pointer (some ⟨mb, 0, none⟩)) lv (checkBlockM m 4 y st)) := by
  have HA := hide h.up
  have HBT : Hid (∀ W1, At K O w W1 (fun k => k < W.heap.size) bb (.pointer (some ⟨mb, 0, none⟩)) lv st → Kept (fun _ => False) W W1 → Calls Tryz.prog 83 #[.pointer (some ⟨bb, 0, none⟩), .agg #[.int .i64 (a : Nat), .int .i64 (e : Nat), .int .u8 4, .bool y.typed, .slice pg y.gives.length cg, .int .u32 y.align, .int .u32 y.num.1, .int .i64 (y.num.2 : Nat), .slice pl nl cl, .int .i64 y.val]] W1 (Says (fun _ => False) W1 (blockTypeM m y) (isTypeOf K))) := fun W1 hA1 hk1 => blockType_at hA1 (hm.kept hk1 (fun _ _ _ c => c)) a e 4 y pg pl cg nl cl hx (Row.kept hg hk1 (fun _ _ _ c => c))
  have HM : Hid (checkBlockM m 4 y st = match blockTypeM m y with | .error e => .error e | .ok t => match takeM st [127] with | .error e => .error e | .ok st1 => enterM 4 t st1) := rfl
  have HTY := hide hty
  clear h hm hg hty
  go_enter Tryz.func62, Tryz.ntmps62
  go_wp2_with fail
  refine (HBT.out _ (HA.out.alloc _) ((Kept.refl _ _).alloc _)).mono ?_
  rintro ee w2 ⟨hk2, hok2, herr2⟩
  have hA2 := (HA.out.alloc (.cells #[.int .i64 (a : Nat), .int .i64 (e : Nat), .int .u8 4, .bool y.typed, .slice pg y.gives.length cg, .int .u32 y.align, .int .u32 y.num.1, .int .i64 (y.num.2 : Nat), .slice pl nl cl, .int .i64 y.val] 100)).quiet hk2
  have hl2 : Kept (fun k => k < W.heap.size ∧ ¬ K k) W w2 := ((Kept.refl _ _).alloc _).trans (hk2.mono (fun _ _ c => c.elim))
  have hX2 : w2.cell? ⟨W.heap.size, 2, none⟩ = some (.int .u8 4) := (hk2.cell (p := ⟨W.heap.size, 2, none⟩) (by simp) (fun c => c)).trans (by simp)
  have hWw2 : W.heap.size < w2.heap.size := by have h9 := hk2.size; simp at h9; omega
  cases hm2 : blockTypeM m y with
  | error qp =>
    obtain ⟨q, p⟩ := qp
    have he := herr2 _ _ hm2
    subst he
    exact ⟨rfl, Ends.err_mk (by rw [HM.out, hm2]) hA2.kept hl2⟩
  | ok t =>
    obtain ⟨v, rfl, vi, vo, rfl, k1, k2⟩ := hok2 _ hm2
    obtain ⟨l1, l2⟩ := HTY.out _ hm2
    obtain ⟨pi, ci, rfl⟩ := Row.shape k1
    obtain ⟨po, co, rfl⟩ := Row.shape k2
    have HM2 : Hid (checkBlockM m 4 y st = match takeM st [127] with | .error e => .error e | .ok st1 => enterM 4 t st1) := by show _ = _; rw [HM.out, hm2]
    have HA2 := hide hA2
    have H1 := hide k1
    have H2 := hide k2
    clear hok2 herr2 hm2 hA2 k1 k2 HBT HTY HM
    go_wp2_with fail
    refine (take_at ((HA2.out.alloc _).alloc _) hb (kinds_made _ [127] (by simp) rfl (by simp)) (HA2.out.alloc _).ne (by simp)).mono ?_
    rintro ee w3 ⟨hok3, herr3, hk3, hlow3⟩
    have hl3 := ((hl2.alloc _).alloc _).trans hlow3
    have hsz3 := hlow3.size
    cases hm3 : takeM st [127] with
    | error qp =>
      obtain ⟨q, p⟩ := qp
      have he := herr3 _ _ hm3
      subst he
      exact ⟨rfl, Ends.err_mk (by rw [HM2.out, hm3]) hk3 hl3⟩
    | ok st3 =>
      obtain ⟨rfl, hA3⟩ := hok3 _ hm3
      have hf := takeM_facts HA.out.tidy.floor hm3
      have hb3 : st3.blocks ≠ [] := by rw [hf.1]; exact hb
      have hbl3 : st3.blocks.length ≤ 54 := by rw [hf.1]; exact hbl
      have hs3 : st3.stack.length ≤ 799000 := by omega
      have HM3 : Hid (checkBlockM m 4 y st = enterM 4 t st3) := by show _ = _; rw [HM2.out, hm3]
      have hX3 : w3.cell? ⟨W.heap.size, 2, none⟩ = some (.int .u8 4) := (hlow3.cell (p := ⟨W.heap.size, 2, none⟩) (by simp; omega) (fun c => Nat.lt_irrefl _ c.1)).trans ((World.cell?_alloc_lt _ _ _ (by simp; omega)).trans ((World.cell?_alloc_lt _ _ _ hWw2).trans hX2))
      have hT := ((Blk.new w2 #[.slice pi t.ins.length ci, .slice po t.outs.length co] 85).alloc (by simp) (.cells #[.int .u8 127] 74)).kept hlow3 (by simp; omega) (fun c => by have := c.1; omega)
      obtain ⟨⟨T0, -⟩, ⟨T1, -⟩⟩ := hT.two
      have k13 := hide (hlow3.kinds (Row.alloc (Row.alloc H1.out _) _))
      have k23 := hide (hlow3.kinds (Row.alloc (Row.alloc H2.out _) _))
      have HA3 := hide hA3
      clear hok3 herr3 hm3 hA3 hf hT H1 H2 HM2 hX2
      go_wp2_with fail
      refine (enter_at 4 HA3.out (fun _ => hb3) k13.out k23.out l1 l2 hbl3 hs3).mono ?_
      rintro ee w4 ⟨hok4, herr4, hk4, hlow4⟩
      have hl4 := hl3.lowTrans hlow4 rfl
      cases hm4 : enterM 4 t st3 with
      | error qp =>
        obtain ⟨q, p⟩ := qp
        have he := herr4 _ _ hm4
        subst he
        exact ⟨rfl, Ends.err_mk (HM3.out.trans hm4) hk4 hl4⟩
      | ok st4 =>
        obtain ⟨rfl, hA4⟩ := hok4 _ hm4
        have HA4 := hide hA4
        have HE := hide (HM3.out.trans hm4)
        clear hok4 herr4 hm4 hA4 HM3
        go_wp2
        go_end0
        exact Ends.ok_mk HE.out HA4.out hl4

set_option maxRecDepth 100000 in
set_option maxHeartbeats 3200000 in
theorem checkBlock_else {pg pl : Option Addr} {cg nl cl : Nat} (h : At K O w W N bb (.pointer (some ⟨mb, 0, none⟩)) lv st) (hb : st.blocks ≠ []) (a e : Nat) (y : Beh) (hs : st.stack.length ≤ 798000) (hbl : st.blocks.length ≤ 54) (h2 : 2 ≤ st.blocks.length) :
    Calls Tryz.prog 62 #[.pointer (some ⟨bb, 0, none⟩), .agg #[.int .i64 (a : Nat), .int .i64 (e : Nat), .int .u8 5, .bool y.typed, .slice pg y.gives.length cg, .int .u32 y.align, .int .u32 y.num.1, .int .i64 (y.num.2 : Nat), .slice pl nl cl, .int .i64 y.val]] W (Ends K O w W (fun k => k < W.heap.size) bb (.pointer (some ⟨mb, 0, none⟩)) lv (checkBlockM m 5 y st)) := by
  have HA := hide h.up
  have HM : Hid (checkBlockM m 5 y st = match leaveM st with | .error e => .error e | .ok (left, st1) => enterM 5 ⟨left.takes, left.gives⟩ (putM st1 left.takes)) := rfl
  clear h
  go_enter Tryz.func62, Tryz.ntmps62
  go_wp2_with fail
  refine (leave_at (HA.out.alloc _) hb).mono ?_
  rintro ee w2 ⟨hok2, herr2, hk2, hlow2⟩
  have hl2 : Kept (fun k => k < W.heap.size ∧ ¬ K k) W w2 := ((Kept.refl _ _).alloc _).trans hlow2
  have hWw2 : W.heap.size < w2.heap.size := by have h9 := hlow2.size; simp at h9; omega
  have hX2 : w2.cell? ⟨W.heap.size, 2, none⟩ = some (.int .u8 5) := (hlow2.cell (p := ⟨W.heap.size, 2, none⟩) (by simp) (fun c => Nat.lt_irrefl _ c.1)).trans (by simp)
  cases hm2 : leaveM st with
  | error qp =>
    obtain ⟨q, p⟩ := qp
    have he := herr2 _ _ hm2
    subst he
    exact ⟨rfl, Ends.err_mk (by rw [HM.out, hm2]) hk2 hl2⟩
  | ok x2 =>
    obtain ⟨left, st2⟩ := x2
    obtain ⟨⟨tv, gv, rfl, k1, k2⟩, hA2⟩ := hok2 _ _ hm2
    obtain ⟨-, -, -, s2, e2, l1, l2⟩ := (leaveM_facts HA.out.tidy hb).2 _ _ hm2
    have hb2 : st2.blocks ≠ [] := by
      intro c
      have h9 : st2.blocks.length = 0 := by rw [c]; rfl
      rw [e2] at h9
      simp at h9
      omega
    have hbl2 : st2.blocks.length ≤ 54 := by rw [e2]; simp; omega
    obtain ⟨pt, ct, rfl⟩ := Row.shape k1
    obtain ⟨pq, cq, rfl⟩ := Row.shape k2
    have HM2 : Hid (checkBlockM m 5 y st = enterM 5 ⟨left.takes, left.gives⟩ (putM st2 left.takes)) := by show _ = _; rw [HM.out, hm2]
    have HA2 := hide hA2
    have H1 := hide k1
    have H2 := hide k2
    have hs2 : st2.stack.length ≤ 798000 := by omega
    clear hok2 herr2 hm2 hA2 k1 k2 HM s2 e2
    go_wp2_with fail
    refine (put_at (HA2.out.alloc _) (Row.alloc H1.out _) (by omega) (by omega)).mono ?_
    rintro ee w3 ⟨hok3, -, -, hlow3⟩
    obtain ⟨rfl, hA3⟩ := hok3 _ rfl
    have hl3 := hl2.lowTrans (((Kept.refl _ _).alloc _).trans hlow3) rfl
    have hsz3 := hlow3.size
    have hX3 : w3.cell? ⟨W.heap.size, 2, none⟩ = some (.int .u8 5) := (hlow3.cell (p := ⟨W.heap.size, 2, none⟩) (by simp; omega) (fun c => c.1.elim (fun d => Nat.lt_irrefl _ d) (fun d => by have h9 := d.1; simp at h9; omega))).trans ((World.cell?_alloc_lt _ _ _ hWw2).trans hX2)
    have hL := (Blk.new w2 #[.int .u8 (left.word : Nat), .slice pt left.takes.length ct, .slice pq left.gives.length cq, .int .i64 (left.floor : Nat), .bool left.cut] 125).kept hlow3 (by simp) (fun c => c.1.elim (fun d => by omega) (fun d => by have h9 := d.2; omega))
    obtain ⟨⟨L0, -⟩, ⟨L1, -⟩, ⟨L2, -⟩, ⟨L3, -⟩, ⟨L4, -⟩⟩ := hL.five
    have k13 := hide (hlow3.kinds (Row.alloc H1.out _))
    have k23 := hide (hlow3.kinds (Row.alloc H2.out _))
    have hb3 : (putM st2 left.takes).blocks ≠ [] := hb2
    have hbl3 : (putM st2 left.takes).blocks.length ≤ 54 := hbl2
    have hs3 : (putM st2 left.takes).stack.length ≤ 799000 := by simp [putM]; omega
    have HA3 := hide hA3
    clear hok3 hA3 hL H1 H2 hX2
    generalize putM st2 left.takes = st3 at *
    go_wp2_with fail
    refine (enter_at (t := ⟨left.takes, left.gives⟩) 5 HA3.out (fun _ => hb3) k13.out k23.out l1 l2 hbl3 hs3).mono ?_
    rintro ee w4 ⟨hok4, herr4, hk4, hlow4⟩
    have hl4 := hl3.lowTrans hlow4 rfl
    cases hm4 : enterM 5 ⟨left.takes, left.gives⟩ st3 with
    | error qp =>
      obtain ⟨q, p⟩ := qp
      have he := herr4 _ _ hm4
      subst he
      exact ⟨rfl, Ends.err_mk (HM2.out.trans hm4) hk4 hl4⟩
    | ok st4 =>
      obtain ⟨rfl, hA4⟩ := hok4 _ hm4
      have HA4 := hide hA4
      have HE := hide (HM2.out.trans hm4)
      clear hok4 herr4 hm4 hA4 HM2
      go_wp2
      go_end0
      exact Ends.ok_mk HE.out HA4.out hl4

set_option maxRecDepth 100000 in
set_option maxHeartbeats 3200000 in
theorem checkBlock_end {pg pl : Option Addr} {cg nl cl : Nat} (h : At K O w W N bb (.pointer (some ⟨mb, 0, none⟩)) lv st) (hb : st.blocks ≠ []) (a e : Nat) (y : Beh) (hs : st.stack.length ≤ 798000) :
    Calls Tryz.prog 62 #[.pointer (some ⟨bb, 0, none⟩), .agg #[.int .i64 (a : Nat), .int .i64 (e : Nat), .int .u8 11, .bool y.typed, .slice pg y.gives.length cg, .int .u32 y.align, .int .u32 y.num.1, .int .i64 (y.num.2 : Nat), .slice pl nl cl, .int .i64 y.val]] W (Ends K O w W (fun k => k < W.heap.size) bb (.pointer (some ⟨mb, 0, none⟩)) lv (checkBlockM m 11 y st)) := by
  have HA := hide h.up
  have HM : Hid (checkBlockM m 11 y st = match leaveM st with | .error e => .error e | .ok (left, st1) => if left.word = 4 ∧ left.takes ≠ left.gives then .error (4, st.at_) else .ok (putM st1 left.gives)) := rfl
  clear h
  go_enter Tryz.func62, Tryz.ntmps62
  go_wp2_with fail
  refine (leave_at (HA.out.alloc _) hb).mono ?_
  rintro ee w2 ⟨hok2, herr2, hk2, hlow2⟩
  have hl2 : Kept (fun k => k < W.heap.size ∧ ¬ K k) W w2 := ((Kept.refl _ _).alloc _).trans hlow2
  cases hm2 : leaveM st with
  | error qp =>
    obtain ⟨q, p⟩ := qp
    have he := herr2 _ _ hm2
    subst he
    exact ⟨rfl, Ends.err_mk (by rw [HM.out, hm2]) hk2 hl2⟩
  | ok x2 =>
    obtain ⟨left, st2⟩ := x2
    obtain ⟨⟨tv, gv, rfl, k1, k2⟩, hA2⟩ := hok2 _ _ hm2
    obtain ⟨-, -, a2, s2, -, l1, l2⟩ := (leaveM_facts HA.out.tidy hb).2 _ _ hm2
    obtain ⟨pt, ct, rfl⟩ := Row.shape k1
    obtain ⟨pq, cq, rfl⟩ := Row.shape k2
    have HM2 : Hid (checkBlockM m 11 y st = if left.word = 4 ∧ left.takes ≠ left.gives then .error (4, st.at_) else .ok (putM st2 left.gives)) := by show _ = _; rw [HM.out, hm2]
    have HA2 := hide hA2
    have H1 := hide k1
    have H2 := hide k2
    have hs2 : st2.stack.length ≤ 798000 := by omega
    clear hok2 herr2 hm2 hA2 k1 k2 HM s2
    by_cases h4 : left.word = 4
    · have t4 : ((left.word : Int) == 4) = true := by simp [h4]
      by_cases heq : left.takes = left.gives
      · have HE : Hid (checkBlockM m 11 y st = .ok (putM st2 left.gives)) := by show _ = _; rw [HM2.out, if_neg (fun c => c.2 heq)]
        have HD : Hid (decide (left.takes = left.gives) = true) := decide_eq_true heq
        clear h4 heq HM2
        go_wp2_with fail
        refine (equalKinds_any (Row.alloc H1.out _) (Row.alloc H2.out _) (by omega)).mono ?_
        rintro ee w3 ⟨rfl, k3, rfl⟩
        rw [HD.out]
        go_wp2_with fail
        refine (put_at ((HA2.out.alloc _).drewN _) (Row.kept (S := fun _ => False) (Row.alloc H2.out _) ((Kept.refl _ _).drewN _) (fun _ _ _ c => c)) (by omega) (by omega)).mono ?_
        rintro ee w4 ⟨hok4, -, -, hlow4⟩
        obtain ⟨rfl, hA4⟩ := hok4 _ rfl
        have HA4 := hide hA4
        clear hok4 hA4
        go_wp2
        go_end0
        exact Ends.ok_mk HE.out HA4.out (hl2.lowTrans ((((Kept.refl _ _).alloc _).drewN _).trans hlow4) rfl)
      · have HE : Hid (checkBlockM m 11 y st = .error (4, st.at_)) := by show _ = _; rw [HM2.out, if_pos ⟨h4, heq⟩]
        have HD : Hid (decide (left.takes = left.gives) = false) := decide_eq_false heq
        clear h4 heq HM2
        go_wp2_with fail
        refine (equalKinds_any (Row.alloc H1.out _) (Row.alloc H2.out _) (by omega)).mono ?_
        rintro ee w3 ⟨rfl, k3, rfl⟩
        rw [HD.out]
        go_wp2_with fail
        refine (refuse_at ((HA2.out.alloc _).drewN _)).mono ?_
        rintro ee w4 ⟨rfl, rfl⟩
        rw [a2]
        exact ⟨rfl, Ends.err_mk HE.out ((HA2.out.alloc _).drewN _).kept ((hl2.alloc _).drewN _)⟩
    · have t4 : ((left.word : Int) == 4) = false := beq_eq_false_iff_ne.2 (by omega)
      have HE : Hid (checkBlockM m 11 y st = .ok (putM st2 left.gives)) := by show _ = _; rw [HM2.out, if_neg (fun c => h4 c.1)]
      clear h4 HM2
      go_wp2_with fail
      refine (put_at (HA2.out.alloc _) (Row.alloc H2.out _) (by omega) (by omega)).mono ?_
      rintro ee w4 ⟨hok4, -, -, hlow4⟩
      obtain ⟨rfl, hA4⟩ := hok4 _ rfl
      have HA4 := hide hA4
      clear hok4 hA4
      go_wp2
      go_end0
      exact Ends.ok_mk HE.out HA4.out (hl2.lowTrans (((Kept.refl _ _).alloc _).trans hlow4) rfl)
end

end Go.Proofs.YtgkpkngchploiaaGreat
/-
  Jumps.
-/
namespace Go.Proofs.YtgkpkngchploiaaGreat
open Go.RowKit

section
variable {K O N : Nat → Prop} {w W : World} {bb mb : Nat} {lv : Value} {st : Bd} {s : ByteArray} {m : Mdl}

theorem label_at (h : At K O w W N bb (.pointer (some ⟨mb, 0, none⟩)) lv st) (x : Int × Nat) (hx : 0 ≤ x.1 ∧ x.1 ≤ 4294967295) :
    Calls Tryz.prog 86 #[.pointer (some ⟨bb, 0, none⟩), .agg #[.int .u32 x.1, .int .i64 (x.2 : Nat)]] W (Says (fun _ => False) W (labelM st x) (fun ks w' v => isKinds K ks w' v)) := by
  have hl := h.bls
  obtain ⟨sv, bv, hB⟩ := h.body
  exact label_any hB hx (by omega)

theorem At.short (h : At K O w W N bb (.pointer (some ⟨mb, 0, none⟩)) lv st) {x : Int × Nat} {ks : List Nat} (hx : 0 ≤ x.1 ∧ x.1 ≤ 4294967295) (hl : labelM st x = .ok ks) : ks.length ≤ 8 :=
  (labelM_facts (N := x.2) h.tidy ⟨hx.1, hx.2, Nat.le_refl _⟩).2 ks hl

set_option maxRecDepth 100000 in
set_option maxHeartbeats 1600000 in
theorem checkJump_br {pg pl : Option Addr} {ng cg nl cl : Nat} (h : At K O w W N bb (.pointer (some ⟨mb, 0, none⟩)) lv st) (hb : st.blocks ≠ []) (a e : Nat) (y : Beh) (hx : 0 ≤ y.num.1 ∧ y.num.1 ≤ 4294967295) :
    Calls Tryz.prog 63 #[.pointer (some ⟨bb, 0, none⟩), .agg #[.int .i64 (a : Nat), .int .i64 (e : Nat), .int .u8 12, .bool y.typed, .slice pg ng cg, .int .u32 y.align, .int .u32 y.num.1, .int .i64 (y.num.2 : Nat), .slice pl nl cl, .int .i64 y.val]] W (Ends K O w W (fun k => k < W.heap.size) bb (.pointer (some ⟨mb, 0, none⟩)) lv (checkJumpM m 12 y st)) := by
  have HA := hide h.up
  have HM : Hid (checkJumpM m 12 y st = match labelM st y.num with | .error e => .error e | .ok ks => match takeM st ks with | .error e => .error e | .ok st1 => .ok (cutOffM st1)) := rfl
  have hKb : ¬ K bb := fun c => h.body.dis bb h.body.own c
  clear h
  go_enter Tryz.func63, Tryz.ntmps63
  go_wp2_with fail
  refine (label_at (HA.out.alloc _) y.num hx).mono ?_
  rintro ee w2 ⟨hk2, hok2, herr2⟩
  have hA2 := (HA.out.alloc (.cells #[.int .i64 (a : Nat), .int .i64 (e : Nat), .int .u8 12, .bool y.typed, .slice pg ng cg, .int .u32 y.align, .int .u32 y.num.1, .int .i64 (y.num.2 : Nat), .slice pl nl cl, .int .i64 y.val] 100)).quiet hk2
  have hl2 : Kept (fun k => k < W.heap.size ∧ ¬ K k) W w2 := ((Kept.refl _ _).alloc _).trans (hk2.mono (fun _ _ c => c.elim))
  cases hm2 : labelM st y.num with
  | error qp =>
    obtain ⟨q, p⟩ := qp
    have he := herr2 _ _ hm2
    subst he
    exact ⟨rfl, Ends.err_mk (by rw [HM.out, hm2]) hA2.kept hl2⟩
  | ok ks =>
    obtain ⟨v, rfl, k1⟩ := hok2 _ hm2
    have l1 := HA.out.short hx hm2
    obtain ⟨pk, ck, rfl⟩ := Row.shape k1
    have HM2 : Hid (checkJumpM m 12 y st = match takeM st ks with | .error e => .error e | .ok st1 => .ok (cutOffM st1)) := by show _ = _; rw [HM.out, hm2]
    have HA2 := hide hA2
    have H1 := hide k1
    clear hok2 herr2 hm2 hA2 k1 HM
    go_wp2_with fail
    refine (take_at HA2.out hb H1.out hKb (by omega)).mono ?_
    rintro ee w3 ⟨hok3, herr3, hk3, hlow3⟩
    have hl3 := hl2.lowTrans hlow3 rfl
    cases hm3 : takeM st ks with
    | error qp =>
      obtain ⟨q, p⟩ := qp
      have he := herr3 _ _ hm3
      subst he
      exact ⟨rfl, Ends.err_mk (by rw [HM2.out, hm3]) hk3 hl3⟩
    | ok st3 =>
      obtain ⟨rfl, hA3⟩ := hok3 _ hm3
      have hf := takeM_facts HA.out.tidy.floor hm3
      have hb3 : st3.blocks ≠ [] := by rw [hf.1]; exact hb
      have HM3 : Hid (checkJumpM m 12 y st = .ok (cutOffM st3)) := by show _ = _; rw [HM2.out, hm3]
      have HA3 := hide hA3
      clear hok3 herr3 hm3 hA3 hf HM2
      go_wp2_with fail
      refine (cutOff_at HA3.out hb3).mono ?_
      rintro ee w4 ⟨hok4, -, -, hlow4⟩
      obtain ⟨rfl, hA4⟩ := hok4 _ rfl
      have HA4 := hide hA4
      clear hok4 hA4
      go_wp2
      go_end0
      exact Ends.ok_mk HM3.out HA4.out (hl3.lowTrans hlow4 rfl)

set_option maxRecDepth 100000 in
set_option maxHeartbeats 1600000 in
theorem checkJump_brIf {pg pl : Option Addr} {ng cg nl cl : Nat} (h : At K O w W N bb (.pointer (some ⟨mb, 0, none⟩)) lv st) (hb : st.blocks ≠ []) (a e : Nat) (y : Beh) (hx : 0 ≤ y.num.1 ∧ y.num.1 ≤ 4294967295) (hs : st.stack.length ≤ 798000) :
    Calls Tryz.prog 63 #[.pointer (some ⟨bb, 0, none⟩), .agg #[.int .i64 (a : Nat), .int .i64 (e : Nat), .int .u8 13, .bool y.typed, .slice pg ng cg, .int .u32 y.align, .int .u32 y.num.1, .int .i64 (y.num.2 : Nat), .slice pl nl cl, .int .i64 y.val]] W (Ends K O w W (fun k => k < W.heap.size) bb (.pointer (some ⟨mb, 0, none⟩)) lv (checkJumpM m 13 y st)) := by
  have HA := hide h.up
  have HM : Hid (checkJumpM m 13 y st = match labelM st y.num with | .error e => .error e | .ok ks => match takeM st [127] with | .error e => .error e | .ok st1 => match takeM st1 ks with | .error e => .error e | .ok st2 => .ok (putM st2 ks)) := rfl
  have hKb : ¬ K bb := fun c => h.body.dis bb h.body.own c
  clear h
  go_enter Tryz.func63, Tryz.ntmps63
  go_wp2_with fail
  refine (label_at (HA.out.alloc _) y.num hx).mono ?_
  rintro ee w2 ⟨hk2, hok2, herr2⟩
  have hA2 := (HA.out.alloc (.cells #[.int .i64 (a : Nat), .int .i64 (e : Nat), .int .u8 13, .bool y.typed, .slice pg ng cg, .int .u32 y.align, .int .u32 y.num.1, .int .i64 (y.num.2 : Nat), .slice pl nl cl, .int .i64 y.val] 100)).quiet hk2
  have hl2 : Kept (fun k => k < W.heap.size ∧ ¬ K k) W w2 := ((Kept.refl _ _).alloc _).trans (hk2.mono (fun _ _ c => c.elim))
  cases hm2 : labelM st y.num with
  | error qp =>
    obtain ⟨q, p⟩ := qp
    have he := herr2 _ _ hm2
    subst he
    exact ⟨rfl, Ends.err_mk (by rw [HM.out, hm2]) hA2.kept hl2⟩
  | ok ks =>
    obtain ⟨v, rfl, k1⟩ := hok2 _ hm2
    have l1 := HA.out.short hx hm2
    obtain ⟨pk, ck, rfl⟩ := Row.shape k1
    have HM2 : Hid (checkJumpM m 13 y st = match takeM st [127] with | .error e => .error e | .ok st1 => match takeM st1 ks with | .error e => .error e | .ok st2 => .ok (putM st2 ks)) := by show _ = _; rw [HM.out, hm2]
    have HA2 := hide hA2
    have H1 := hide k1
    clear hok2 herr2 hm2 hA2 k1 HM
    go_wp2_with fail
    refine (take_at (HA2.out.alloc _) hb (kinds_made w2 [127] rfl rfl (by simp)) HA2.out.ne (by simp)).mono ?_
    rintro ee w3 ⟨hok3, herr3, hk3, hlow3⟩
    have hl3 := hl2.lowTrans (((Kept.refl _ _).alloc _).trans hlow3) rfl
    have k3 := hide (hlow3.kinds (Row.alloc H1.out _))
    cases hm3 : takeM st [127] with
    | error qp =>
      obtain ⟨q, p⟩ := qp
      have he := herr3 _ _ hm3
      subst he
      exact ⟨rfl, Ends.err_mk (by rw [HM2.out, hm3]) hk3 hl3⟩
    | ok st3 =>
      obtain ⟨rfl, hA3⟩ := hok3 _ hm3
      have hf := takeM_facts HA.out.tidy.floor hm3
      have hb3 : st3.blocks ≠ [] := by rw [hf.1]; exact hb
      have hs3 : st3.stack.length ≤ 798000 := by omega
      have HM3 : Hid (checkJumpM m 13 y st = match takeM st3 ks with | .error e => .error e | .ok st2 => .ok (putM st2 ks)) := by show _ = _; rw [HM2.out, hm3]
      have HA3 := hide hA3
      clear hok3 herr3 hm3 hA3 hf HM2 H1
      go_wp2_with fail
      refine (take_at HA3.out hb3 k3.out hKb (by omega)).mono ?_
      rintro ee w4 ⟨hok4, herr4, hk4, hlow4⟩
      have hl4 := hl3.lowTrans hlow4 rfl
      have k4 := hide (hlow4.kinds k3.out)
      cases hm4 : takeM st3 ks with
      | error qp =>
        obtain ⟨q, p⟩ := qp
        have he := herr4 _ _ hm4
        subst he
        exact ⟨rfl, Ends.err_mk (by rw [HM3.out, hm4]) hk4 hl4⟩
      | ok st4 =>
        obtain ⟨rfl, hA4⟩ := hok4 _ hm4
        have hf := takeM_facts HA3.out.tidy.floor hm4
        have hs4 : st4.stack.length ≤ 798000 := by omega
        have HM4 : Hid (checkJumpM m 13 y st = .ok (putM st4 ks)) := by show _ = _; rw [HM3.out, hm4]
        have HA4 := hide hA4
        clear hok4 herr4 hm4 hA4 hf HM3
        go_wp2_with fail
        refine (put_at HA4.out k4.out (by omega) (by omega)).mono ?_
        rintro ee w5 ⟨hok5, -, -, hlow5⟩
        obtain ⟨rfl, hA5⟩ := hok5 _ rfl
        have HA5 := hide hA5
        clear hok5 hA5
        go_wp2
        go_end0
        exact Ends.ok_mk HM4.out HA5.out (hl4.lowTrans hlow5 rfl)

set_option maxRecDepth 100000 in
set_option maxHeartbeats 1600000 in
theorem checkJump_return {pg pl : Option Addr} {ng cg nl cl : Nat} (h : At K O w W N bb (.pointer (some ⟨mb, 0, none⟩)) lv st) (hb : st.blocks ≠ []) (a e : Nat) (y : Beh) :
    Calls Tryz.prog 63 #[.pointer (some ⟨bb, 0, none⟩), .agg #[.int .i64 (a : Nat), .int .i64 (e : Nat), .int .u8 15, .bool y.typed, .slice pg ng cg, .int .u32 y.align, .int .u32 y.num.1, .int .i64 (y.num.2 : Nat), .slice pl nl cl, .int .i64 y.val]] W (Ends K O w W (fun k => k < W.heap.size) bb (.pointer (some ⟨mb, 0, none⟩)) lv (checkJumpM m 15 y st)) := by
  have HA := hide h.up
  have hKb : ¬ K bb := fun c => h.body.dis bb h.body.own c
  have hbw := h.body.lt
  have hlen : 0 < st.blocks.length := by
    have : st.blocks.length ≠ 0 := by simpa using hb
    omega
  obtain ⟨sv, bv, hB⟩ := h.body
  have I3 := hB.blk.five.2.2.2.1.1
  obtain ⟨g, cap, tv, gv, rfl, hok, hg, hcap, kt, kg, C0, C1, C2, C3, C4⟩ := blocks_cell hB.bls (k := st.blocks.length - 1) (by omega)
  obtain ⟨pq, cq, rfl⟩ := Row.shape kg
  have e0 : (st.blocks.length - 1 - (st.blocks.length - 1)) * 5 + 2 = 2 := by omega
  rw [e0] at C2
  have HG0 : Hid ((st.blocks.getD (st.blocks.length - 1) Blo.none).gives = st.blocks[st.blocks.length - 1].gives) := by show _ = _; rw [List.getD_eq_getElem?_getD, List.getElem?_eq_getElem (by omega)]; rfl
  have HM : Hid (checkJumpM m 15 y st = match takeM st st.blocks[st.blocks.length - 1].gives with | .error e => .error e | .ok st1 => .ok (cutOffM st1)) := by
    show _ = _
    rw [← HG0.out]
    rfl
  have l1 : st.blocks[st.blocks.length - 1].gives.length ≤ 8 := (h.tidy.short _ (List.getElem_mem _)).2
  have H1 := hide kg
  have hli : (0 : Int) < (st.blocks.length : Int) := by omega
  clear h hB kt kg C0 C1 C3 C4 HG0 e0
  generalize st.blocks[st.blocks.length - 1].gives = ks at *
  go_enter Tryz.func63, Tryz.ntmps63
  go_wp2_with fail
  refine (take_at (HA.out.alloc _) hb (Row.alloc H1.out _) hKb (by omega)).mono ?_
  rintro ee w3 ⟨hok3, herr3, hk3, hlow3⟩
  have hl3 : Kept (fun k => k < W.heap.size ∧ ¬ K k) W w3 := ((Kept.refl _ _).alloc _).trans hlow3
  cases hm3 : takeM st ks with
  | error qp =>
    obtain ⟨q, p⟩ := qp
    have he := herr3 _ _ hm3
    subst he
    exact ⟨rfl, Ends.err_mk (by rw [HM.out, hm3]) hk3 hl3⟩
  | ok st3 =>
    obtain ⟨rfl, hA3⟩ := hok3 _ hm3
    have hf := takeM_facts HA.out.tidy.floor hm3
    have hb3 : st3.blocks ≠ [] := by rw [hf.1]; exact hb
    have HM3 : Hid (checkJumpM m 15 y st = .ok (cutOffM st3)) := by show _ = _; rw [HM.out, hm3]
    have HA3 := hide hA3
    clear hok3 herr3 hm3 hA3 hf HM
    go_wp2_with fail
    refine (cutOff_at HA3.out hb3).mono ?_
    rintro ee w4 ⟨hok4, -, -, hlow4⟩
    obtain ⟨rfl, hA4⟩ := hok4 _ rfl
    have HA4 := hide hA4
    clear hok4 hA4
    go_wp2
    go_end0
    exact Ends.ok_mk HM3.out HA4.out (hl3.lowTrans hlow4 rfl)

theorem At.tabs (h : At K O w W N bb (.pointer (some ⟨mb, 0, none⟩)) lv st) (hm : MV s K W mb m) : W.cell? ⟨bb, 0, none⟩ = some (.pointer (some ⟨mb, 0, none⟩)) ∧ ∃ p c, W.cell? ⟨mb, 2, none⟩ = some (.slice p m.tables.length c) := by
  obtain ⟨sv, bv, hB⟩ := h.body
  obtain ⟨-, f, hM, hH⟩ := hm
  obtain ⟨p, c, hv⟩ := Row.shape hH.h2
  exact ⟨hB.blk.five.1.1, p, c, by rw [← hv]; exact hM.twelve.1.2.2.1.1⟩

set_option maxRecDepth 100000 in
set_option maxHeartbeats 1600000 in
theorem checkJump_indirect {pg pl : Option Addr} {ng cg nl cl : Nat} (h : At K O w W N bb (.pointer (some ⟨mb, 0, none⟩)) lv st) (hb : st.blocks ≠ []) (a e : Nat) (y : Beh) (hx : 0 ≤ y.num.1 ∧ y.num.1 ≤ 4294967295) (hs : st.stack.length ≤ 798000) (hm : MV s K W mb m) (hty : ∀ t, typeAtM m y.num = .ok t → t.ins.length ≤ 8 ∧ t.outs.length ≤ 8) :
    Calls Tryz.prog 63 #[.pointer (some ⟨bb, 0, none⟩), .agg #[.int .i64 (a : Nat), .int .i64 (e : Nat), .int .u8 17, .bool y.typed, .slice pg ng cg, .int .u32 y.align, .int .u32 y.num.1, .int .i64 (y.num.2 : Nat), .slice pl nl cl, .int .i64 y.val]] W (Ends K O w W (fun k => k < W.heap.size) bb (.pointer (some ⟨mb, 0, none⟩)) lv (checkJumpM m 17 y st)) := by
  have HA := hide h.up
  have HMV := hide hm
  have HTY := hide hty
  have hbw := h.body.lt
  have hmw := hm.lt
  obtain ⟨I0, p2, c2, F2⟩ := h.tabs hm
  clear h hm hty
  by_cases hz : m.tables.length = 0
  · have HM : Hid (checkJumpM m 17 y st = .error (3, st.at_)) := by show _ = _; simp [checkJumpM, hz]
    go_enter Tryz.func63, Tryz.ntmps63
    go_wp2_with fail
    refine (need_at (HA.out.alloc _) _).mono ?_
    rintro ee w1 ⟨rfl, he⟩
    rw [if_pos (by first | rfl | exact hz)] at he
    subst he
    exact ⟨rfl, Ends.err_mk HM.out (HA.out.alloc _).kept ((Kept.refl _ _).alloc _)⟩
  have HM : Hid (checkJumpM m 17 y st = match typeAtM m y.num with | .error e => .error e | .ok t => match takeM st [127] with | .error e => .error e | .ok st1 => callM t st1) := by
    show _ = _
    show (if m.tables.length = 0 then _ else _) = _
    rw [if_neg hz] <;> rfl
  go_enter Tryz.func63, Tryz.ntmps63
  go_wp2_with fail
  refine (need_at (HA.out.alloc _) _).mono ?_
  rintro ee w1 ⟨rfl, he⟩
  rw [if_neg hz] at he
  subst he
  go_wp2_with fail
  refine (typeAt_at (HA.out.alloc _) (HMV.out.kept ((Kept.refl (fun _ => False) _).alloc _) (fun _ _ _ c => c)) y.num hx).mono ?_
  rintro ee w2 ⟨hk2, hok2, herr2⟩
  have hA2 := (HA.out.alloc (.cells #[.int .i64 (a : Nat), .int .i64 (e : Nat), .int .u8 17, .bool y.typed, .slice pg ng cg, .int .u32 y.align, .int .u32 y.num.1, .int .i64 (y.num.2 : Nat), .slice pl nl cl, .int .i64 y.val] 100)).quiet hk2
  have hl2 : Kept (fun k => k < W.heap.size ∧ ¬ K k) W w2 := ((Kept.refl _ _).alloc _).trans (hk2.mono (fun _ _ c => c.elim))
  have hWw2 : W.heap.size < w2.heap.size := by have h9 := hk2.size; simp at h9; omega
  cases hm2 : typeAtM m y.num with
  | error qp =>
    obtain ⟨q, p⟩ := qp
    have he := herr2 _ _ hm2
    subst he
    exact ⟨rfl, Ends.err_mk (by rw [HM.out, hm2]) hA2.kept hl2⟩
  | ok t =>
    obtain ⟨v, rfl, vi, vo, rfl, k1, k2⟩ := hok2 _ hm2
    obtain ⟨l1, l2⟩ := HTY.out _ hm2
    obtain ⟨pi, ci, rfl⟩ := Row.shape k1
    obtain ⟨po, co, rfl⟩ := Row.shape k2
    have HM2 : Hid (checkJumpM m 17 y st = match takeM st [127] with | .error e => .error e | .ok st1 => callM t st1) := by show _ = _; rw [HM.out, hm2]
    have HA2 := hide hA2
    have H1 := hide k1
    have H2 := hide k2
    clear hok2 herr2 hm2 hA2 k1 k2 HTY HM I0 F2
    go_wp2_with fail
    refine (take_at ((HA2.out.alloc _).alloc _) hb (kinds_made _ [127] (by simp) rfl (by simp)) (HA2.out.alloc _).ne (by simp)).mono ?_
    rintro ee w3 ⟨hok3, herr3, hk3, hlow3⟩
    have hl3 := ((hl2.alloc _).alloc _).trans hlow3
    have hsz3 := hlow3.size
    cases hm3 : takeM st [127] with
    | error qp =>
      obtain ⟨q, p⟩ := qp
      have he := herr3 _ _ hm3
      subst he
      exact ⟨rfl, Ends.err_mk (by rw [HM2.out, hm3]) hk3 hl3⟩
    | ok st3 =>
      obtain ⟨rfl, hA3⟩ := hok3 _ hm3
      have hf := takeM_facts HA.out.tidy.floor hm3
      have hb3 : st3.blocks ≠ [] := by rw [hf.1]; exact hb
      have hs3 : st3.stack.length ≤ 799000 := by omega
      have HM3 : Hid (checkJumpM m 17 y st = callM t st3) := by show _ = _; rw [HM2.out, hm3]
      have hT := ((Blk.new w2 #[.slice pi t.ins.length ci, .slice po t.outs.length co] 85).alloc (by simp) (.cells #[.int .u8 127] 74)).kept hlow3 (by simp; omega) (fun c => by have := c.1; omega)
      obtain ⟨⟨T0, -⟩, ⟨T1, -⟩⟩ := hT.two
      have k13 := hide (hlow3.kinds (Row.alloc (Row.alloc H1.out _) _))
      have k23 := hide (hlow3.kinds (Row.alloc (Row.alloc H2.out _) _))
      have HA3 := hide hA3
      clear hok3 herr3 hm3 hA3 hf hT H1 H2 HM2
      go_wp2_with fail
      refine (call_at HA3.out hb3 k13.out k23.out l1 l2 hs3).mono ?_
      rintro ee w4 ⟨hok4, herr4, hk4, hlow4⟩
      have hl4 := hl3.lowTrans hlow4 rfl
      cases hm4 : callM t st3 with
      | error qp =>
        obtain ⟨q, p⟩ := qp
        have he := herr4 _ _ hm4
        subst he
        exact ⟨rfl, Ends.err_mk (HM3.out.trans hm4) hk4 hl4⟩
      | ok st4 =>
        obtain ⟨rfl, hA4⟩ := hok4 _ hm4
        have HA4 := hide hA4
        have HE := hide (HM3.out.trans hm4)
        clear hok4 herr4 hm4 hA4 HM3
        go_wp2
        go_end0
        exact Ends.ok_mk HE.out HA4.out hl4

theorem At.fns (h : At K O w W N bb (.pointer (some ⟨mb, 0, none⟩)) lv st) (hm : MV s K W mb m) : W.cell? ⟨bb, 0, none⟩ = some (.pointer (some ⟨mb, 0, none⟩)) ∧ ∃ p c, W.cell? ⟨mb, 1, none⟩ = some (.slice p m.funcs.length c) := by
  obtain ⟨sv, bv, hB⟩ := h.body
  obtain ⟨-, f, hM, hH⟩ := hm
  obtain ⟨p, c, hv⟩ := Row.shape hH.h1
  exact ⟨hB.blk.five.1.1, p, c, by rw [← hv]; exact hM.twelve.1.2.1.1⟩

theorem At.mp (h : At K O w W N bb (.pointer (some ⟨mb, 0, none⟩)) lv st) : W.cell? ⟨bb, 0, none⟩ = some (.pointer (some ⟨mb, 0, none⟩)) := by
  obtain ⟨sv, bv, hB⟩ := h.body
  exact hB.blk.five.1.1

end

end Go.Proofs.YtgkpkngchploiaaGreat
