/-
  Part 19 of the proof: Body15, Body16, Body17, Body18.
-/
import Derived.Test.YtdfmillbaabpiaaGreatPart18
import Derived.Test.YtdfmillbaabpiaaGreatPart17
/-
  Variables.
-/
namespace Go.Proofs.YtdfmillbaabpiaaGreat
open Go.RowKit

section
variable {K O N : Nat → Prop} {w W : World} {bb mb : Nat} {lv : Value} {st : Bd} {s : ByteArray} {m : Mdl}

theorem global_at (h : At K O w W N bb (.pointer (some ⟨mb, 0, none⟩)) lv st) (hm : MV s K W mb m) (x : Int × Nat) (hx : 0 ≤ x.1 ∧ x.1 ≤ 4294967295) :
    Calls Tryz.prog 92 #[.pointer (some ⟨bb, 0, none⟩), .agg #[.int .u32 x.1, .int .i64 (x.2 : Nat)]] W (Says (fun _ => False) W (globalAtM m x) isGlobal) := by
  obtain ⟨sv, bv, hB⟩ := h.body
  by_cases hlt : x.1 < (m.globals.length : Int)
  · exact global_ok hB.blk hm hx hlt
  · exact global_bad hB.blk hm hx hlt

theorem typeAt_at (h : At K O w W N bb (.pointer (some ⟨mb, 0, none⟩)) lv st) (hm : MV s K W mb m) (x : Int × Nat) (hx : 0 ≤ x.1 ∧ x.1 ≤ 4294967295) :
    Calls Tryz.prog 90 #[.pointer (some ⟨bb, 0, none⟩), .agg #[.int .u32 x.1, .int .i64 (x.2 : Nat)]] W (Says (fun _ => False) W (typeAtM m x) (isTypeOf K)) := by
  obtain ⟨sv, bv, hB⟩ := h.body
  by_cases hlt : x.1 < (m.types.length : Int)
  · exact typeAt_ok hB.blk hm hx hlt
  · exact typeAt_bad hB.blk hm hx hlt

theorem field_glb0 (a b c d f : Value) (w : World) : (Instr.field 78 (.agg #[a, b, c, d, f]) 0).run Tryz.prog w = .ok a w := by kernel_rfl

/-- Behind a call that changes nothing that was there. -/
theorem At.quiet {W' : World} (h : At K O w W N bb (.pointer (some ⟨mb, 0, none⟩)) lv st) (hk : Kept (fun _ => False) W W') : At K O w W' N bb (.pointer (some ⟨mb, 0, none⟩)) lv st := by
  obtain ⟨sv, bv, hB⟩ := h.body
  exact ⟨h.kept.fresh hk (fun _ _ c => c.elim), ⟨sv, bv, hB.kept hk (fun _ _ c => c.elim)⟩, h.kb, h.dis, h.tidy, h.bls, h.stk⟩

set_option maxRecDepth 100000 in
set_option maxHeartbeats 6400000 in
theorem checkVariable_at {p0 : Option Addr} {c0 : Nat} {ls : List Nat} (h : At K O w W N bb (.pointer (some ⟨mb, 0, none⟩)) (.slice p0 ls.length c0) st) (hb : st.blocks ≠ []) (hm : MV s K W mb m) (hls : isKinds K ls W (.slice p0 ls.length c0)) (a e x : Nat) (y : Beh) (pg pl : Option Addr) (ng cg nl cl : Nat) (hx : 0 ≤ y.num.1 ∧ y.num.1 ≤ 4294967295) (hs : st.stack.length ≤ 799000) :
    Calls Tryz.prog 64 #[.pointer (some ⟨bb, 0, none⟩), .agg #[.int .i64 (a : Nat), .int .i64 (e : Nat), .int .u8 (x : Nat), .bool y.typed, .slice pg ng cg, .int .u32 y.align, .int .u32 y.num.1, .int .i64 (y.num.2 : Nat), .slice pl nl cl, .int .i64 y.val]] W (Ends K O w W (fun k => k < W.heap.size) bb (.pointer (some ⟨mb, 0, none⟩)) (.slice p0 ls.length c0) (checkVariableM m ls x y st)) := by
  have HA := hide h.up
  have hfld := field_glb0
  have HMV := hide hm
  have HLS := hide hls
  have hW0 : Kept (fun k => k < W.heap.size ∧ ¬ K k) W (W.alloc (.cells #[.int .i64 (a : Nat), .int .i64 (e : Nat), .int .u8 (x : Nat), .bool y.typed, .slice pg ng cg, .int .u32 y.align, .int .u32 y.num.1, .int .i64 (y.num.2 : Nat), .slice pl nl cl, .int .i64 y.val] 100)) := (Kept.refl _ _).alloc _
  clear h hm hls
  by_cases h26 : x = 26
  · subst h26
    have HN : Hid (checkVariableM m ls 26 y st = match takeTop st with | .error e => .error e | .ok (_, st1) => .ok st1) := rfl
    go_enter Tryz.func64, Tryz.ntmps64
    go_wp2_with fail
    refine (takeAny_at (HA.out.alloc _) hb).mono ?_
    rintro ee w2 ⟨hok2, herr2, hk2, hlow2⟩
    have hl2 : Kept (fun k => k < W.heap.size ∧ ¬ K k) W w2 := ((Kept.refl _ _).alloc _).trans hlow2
    cases hm2 : takeTop st with
    | error qp =>
      obtain ⟨q, p⟩ := qp
      have he := herr2 _ _ hm2
      subst he
      exact ⟨rfl, Ends.err_mk (by rw [HN.out, hm2]) hk2 hl2⟩
    | ok x2 =>
      obtain ⟨k2, st2⟩ := x2
      obtain ⟨rfl, hA2, -, -, -⟩ := hok2 _ _ hm2
      have HM : Hid (checkVariableM m ls 26 y st = .ok st2) := by show _ = _; rw [HN.out, hm2]
      have HA2 := hide hA2
      clear hok2 herr2 hm2 hA2 HN hW0
      go_wp2
      go_end0
      exact Ends.ok_mk HM.out HA2.out hl2
  by_cases h27 : x = 27
  · subst h27
    have HN : Hid (checkVariableM m ls 27 y st = checkSelectM st) := rfl
    go_enter Tryz.func64, Tryz.ntmps64
    go_wp2_with fail
    refine (checkSelect_at (HA.out.alloc _) hb hs).mono ?_
    rintro ee w2 ⟨hok2, herr2, hk2, hlow2⟩
    have hlow : Kept (fun k => k < W.heap.size ∧ ¬ K k) W w2 := (((Kept.refl _ _).alloc _).trans hlow2).mono (fun k hk c => ⟨hk, c.2⟩)
    cases hm2 : checkSelectM st with
    | error qp =>
      obtain ⟨q, p⟩ := qp
      have he := herr2 _ _ hm2
      subst he
      exact ⟨rfl, Ends.err_mk (HN.out.trans hm2) hk2 hlow⟩
    | ok st2 =>
      obtain ⟨rfl, hA2⟩ := hok2 _ hm2
      have HA2 := hide hA2
      have HE2 := hide (HN.out.trans hm2)
      clear hok2 herr2 hA2 hm2 HN
      go_wp2
      go_end0
      exact Ends.ok_mk HE2.out HA2.out hlow
  by_cases h35 : x = 35
  · subst h35
    have HN : Hid (checkVariableM m ls 35 y st = match globalAtM m y.num with | .error e => .error e | .ok g => .ok (putM st [g.kind])) := rfl
    go_enter Tryz.func64, Tryz.ntmps64
    go_wp2_with fail
    refine (global_at (HA.out.alloc _) (HMV.out.kept ((Kept.refl (fun _ => False) _).alloc _) (fun _ _ _ c => c)) y.num hx).mono ?_
    rintro ee w2 ⟨hk2, hok2, herr2⟩
    have hA2 := (HA.out.alloc (.cells #[.int .i64 (a : Nat), .int .i64 (e : Nat), .int .u8 35, .bool y.typed, .slice pg ng cg, .int .u32 y.align, .int .u32 y.num.1, .int .i64 (y.num.2 : Nat), .slice pl nl cl, .int .i64 y.val] 100)).quiet hk2
    have hl2 : Kept (fun k => k < W.heap.size ∧ ¬ K k) W w2 := ((Kept.refl _ _).alloc _).trans (hk2.mono (fun _ _ c => c.elim))
    cases hm2 : globalAtM m y.num with
    | error qp =>
      obtain ⟨q, p⟩ := qp
      have he := herr2 _ _ hm2
      subst he
      exact ⟨rfl, Ends.err_mk (by rw [HN.out, hm2]) hA2.kept hl2⟩
    | ok g =>
      obtain ⟨v, rfl, hv⟩ := hok2 _ hm2
      have hv : v = .agg #[.int .u8 (g.kind : Nat), .bool g.set_, .int .i64 (g.first.at_ : Nat), .int .u8 (g.first.kind : Nat), .int .i64 g.first.val] := hv
      subst hv
      have HM : Hid (checkVariableM m ls 35 y st = .ok (putM st [g.kind])) := by show _ = _; rw [HN.out, hm2]
      have HA2 := hide hA2
      clear hok2 herr2 hm2 hA2 HN hW0
      go_wp2_with fail
      refine (put_at (HA2.out.alloc _) (kinds_made w2 [g.kind] rfl rfl (by simp)) (by simp) (by simp; omega)).mono ?_
      rintro ee w3 ⟨hok3, -, -, hlow3⟩
      obtain ⟨rfl, hA3⟩ := hok3 _ rfl
      have HA3 := hide hA3
      clear hok3 hA3
      go_wp2
      go_end0
      exact Ends.ok_mk HM.out HA3.out ((hl2.alloc _).trans hlow3)
  by_cases h36 : x = 36
  · subst h36
    have HN : Hid (checkVariableM m ls 36 y st = match globalAtM m y.num with | .error e => .error e | .ok g => if g.set_ then takeM st [g.kind] else .error (4, st.at_)) := rfl
    go_enter Tryz.func64, Tryz.ntmps64
    go_wp2_with fail
    refine (global_at (HA.out.alloc _) (HMV.out.kept ((Kept.refl (fun _ => False) _).alloc _) (fun _ _ _ c => c)) y.num hx).mono ?_
    rintro ee w2 ⟨hk2, hok2, herr2⟩
    have hA2 := (HA.out.alloc (.cells #[.int .i64 (a : Nat), .int .i64 (e : Nat), .int .u8 36, .bool y.typed, .slice pg ng cg, .int .u32 y.align, .int .u32 y.num.1, .int .i64 (y.num.2 : Nat), .slice pl nl cl, .int .i64 y.val] 100)).quiet hk2
    have hl2 : Kept (fun k => k < W.heap.size ∧ ¬ K k) W w2 := ((Kept.refl _ _).alloc _).trans (hk2.mono (fun _ _ c => c.elim))
    cases hm2 : globalAtM m y.num with
    | error qp =>
      obtain ⟨q, p⟩ := qp
      have he := herr2 _ _ hm2
      subst he
      exact ⟨rfl, Ends.err_mk (by rw [HN.out, hm2]) hA2.kept hl2⟩
    | ok g =>
      obtain ⟨v, rfl, hv⟩ := hok2 _ hm2
      have hv : v = .agg #[.int .u8 (g.kind : Nat), .bool g.set_, .int .i64 (g.first.at_ : Nat), .int .u8 (g.first.kind : Nat), .int .i64 g.first.val] := hv
      subst hv
      have HM : Hid (checkVariableM m ls 36 y st = if g.set_ then takeM st [g.kind] else .error (4, st.at_)) := by show _ = _; rw [HN.out, hm2]
      have HA2 := hide hA2
      clear hok2 herr2 hm2 hA2 HN hW0
      cases hset : g.set_ with
      | false =>
        have HM2 : Hid (checkVariableM m ls 36 y st = .error (4, st.at_)) := by show _ = _; rw [HM.out, hset]; rfl
        clear HM
        go_wp2_with fail
        refine (refuse_at (HA2.out.alloc _)).mono ?_
        rintro ee w3 ⟨rfl, rfl⟩
        exact ⟨rfl, Ends.err_mk HM2.out (HA2.out.kept.alloc _) (hl2.alloc _)⟩
      | true =>
        have HM2 : Hid (checkVariableM m ls 36 y st = takeM st [g.kind]) := by show _ = _; rw [HM.out, hset]; rfl
        clear HM
        go_wp2_with fail
        refine (take_at ((HA2.out.alloc _).alloc _) hb (kinds_made _ [g.kind] (by simp) rfl (by simp)) (HA2.out.alloc _).ne (by simp)).mono ?_
        rintro ee w3 ⟨hok3, herr3, hk3, hlow3⟩
        have hl3 := ((hl2.alloc _).alloc _).trans hlow3
        cases hm3 : takeM st [g.kind] with
        | error qp =>
          obtain ⟨q, p⟩ := qp
          have he := herr3 _ _ hm3
          subst he
          exact ⟨rfl, Ends.err_mk (HM2.out.trans hm3) hk3 hl3⟩
        | ok st3 =>
          obtain ⟨rfl, hA3⟩ := hok3 _ hm3
          have HA3 := hide hA3
          have HE := hide (HM2.out.trans hm3)
          clear hok3 herr3 hm3 hA3 HM2
          go_wp2
          go_end0
          exact Ends.ok_mk HE.out HA3.out hl3
  have HN : Hid (checkVariableM m ls x y st = checkLocalM ls x y st) := by show _ = _; unfold checkVariableM; rw [if_neg h26, if_neg h27, if_neg h35, if_neg h36]
  have t26 : ((x : Int) == 26) = false := beq_eq_false_iff_ne.2 (by omega)
  have t27 : ((x : Int) == 27) = false := beq_eq_false_iff_ne.2 (by omega)
  have t35 : ((x : Int) == 35) = false := beq_eq_false_iff_ne.2 (by omega)
  have t36 : ((x : Int) == 36) = false := beq_eq_false_iff_ne.2 (by omega)
  clear h26 h27 h35 h36 hW0
  have HLoc : Hid (∀ W1, At K O w W1 (fun k => k < W.heap.size) bb (.pointer (some ⟨mb, 0, none⟩)) (.slice p0 ls.length c0) st → isKinds K ls W1 (.slice p0 ls.length c0) → Calls Tryz.prog 93 #[.pointer (some ⟨bb, 0, none⟩), .agg #[.int .i64 (a : Nat), .int .i64 (e : Nat), .int .u8 (x : Nat), .bool y.typed, .slice pg ng cg, .int .u32 y.align, .int .u32 y.num.1, .int .i64 (y.num.2 : Nat), .slice pl nl cl, .int .i64 y.val]] W1 (Ends K O w W1 (fun k => k < W1.heap.size) bb (.pointer (some ⟨mb, 0, none⟩)) (.slice p0 ls.length c0) (checkLocalM ls x y st))) := by
    intro W1 hA1 hl1
    by_cases hlt : y.num.1 < (ls.length : Int)
    · exact checkLocal_ok hA1 hb hl1 a e x y pg pl ng cg nl cl hx hlt hs
    · exact checkLocal_bad hA1 a e x y pg pl ng cg nl cl hx hlt
  go_enter Tryz.func64, Tryz.ntmps64
  go_wp2_with fail
  refine (HLoc.out _ (HA.out.alloc _) (Row.alloc HLS.out _)).mono ?_
  rintro ee w2 ⟨hok2, herr2, hk2, hlow2⟩
  have hlow : Kept (fun k => k < W.heap.size ∧ ¬ K k) W w2 := (((Kept.refl _ _).alloc _).trans hlow2).mono (fun k hk c => ⟨hk, c.2⟩)
  cases hm2 : checkLocalM ls x y st with
  | error qp =>
    obtain ⟨q, p⟩ := qp
    have he := herr2 _ _ hm2
    subst he
    exact ⟨rfl, Ends.err_mk (HN.out.trans hm2) hk2 hlow⟩
  | ok st2 =>
    obtain ⟨rfl, hA2⟩ := hok2 _ hm2
    have HA2 := hide hA2
    have HE2 := hide (HN.out.trans hm2)
    clear hok2 herr2 hA2 hm2 HN
    go_wp2
    go_end0
    exact Ends.ok_mk HE2.out HA2.out hlow
end

end Go.Proofs.YtdfmillbaabpiaaGreat
/-
  Lists of kinds that are alike; what a block takes and gives.
-/
namespace Go.Proofs.YtdfmillbaabpiaaGreat
open Go.RowKit

theorem drewN_twice (w : World) (a b : Nat) : (w.drewN a).drewN b = w.drewN (a + b) := by simp

set_option maxHeartbeats 1600000 in
theorem equalKinds_any {ok ok' : Nat → Prop} {w : World} {us vs : List Nat} {pa pb : Option Addr} {ca cb : Nat} (ha : isKinds ok us w (.slice pa us.length ca)) (hb : isKinds ok' vs w (.slice pb vs.length cb)) (hl : us.length ≤ 50) :
    Calls Tryz.prog 85 #[.slice pa us.length ca, .slice pb vs.length cb] w fun e w' => e = .returned (.bool (decide (us = vs))) ∧ ∃ k, w' = w.drewN k := by
  by_cases hn : us.length = vs.length
  · have tn : ((us.length : Int) != (vs.length : Int)) = false := by simp [hn]
    have HN := hide hn
    clear hn
    go_enter Tryz.func85, Tryz.ntmps85
    go_wp2
    go_loopw [13] (fun q wr => ∃ k : Nat, k ≤ us.length ∧ q = .int .i64 k ∧ (∃ j, wr = w.drewN j) ∧ ∀ i, i < k → us.getD i 0 = vs.getD i 0) (fun q _ => us.length - (intOf q).toNat)
    case atStart => exact ⟨0, Nat.zero_le _, rfl, ⟨0, rfl⟩, fun i hi => absurd hi (Nat.not_lt_zero _)⟩
    case round =>
      obtain ⟨k, hk, rfl, ⟨j, rfl⟩, hall⟩ := hrel
      have HALL := hide hall
      clear hall
      by_cases hlt : k < us.length
      · have hlt' : (k : Int) < (us.length : Int) := by omega
        have hlt2 : (k : Int) < (vs.length : Int) := by have := HN.out; omega
        obtain ⟨ga, c1, hv1, -, hg1, -, A0⟩ := isKinds.cell ha hlt
        obtain ⟨gb, c2, hv2, -, hg2, -, B0⟩ := isKinds.cell hb (i := k) (by omega)
        cases hv1
        cases hv2
        by_cases heq : us.getD k 0 = vs.getD k 0
        · have te : (((us.getD k 0 : Nat) : Int) != ((vs.getD k 0 : Nat) : Int)) = false := by rw [heq, bne_self_eq_false]
          have HE := hide heq
          have HA2 : Hid (∀ i, i < k + 1 → us.getD i 0 = vs.getD i 0) := fun i hi => by
            by_cases h : i = k
            · subst h; exact HE.out
            · exact HALL.out i (by omega)
          clear heq HALL HE
          generalize us.getD k 0 = x at te A0
          generalize vs.getD k 0 = y at te B0
          go_wp2
          go_quiet (fail)
          go_wp2
          go_roundw
          case rel => exact ⟨k + 1, by omega, by go_num, ⟨_, rfl⟩, HA2.out⟩
          case measure => simp [intOf]; omega
        · have te : (((us.getD k 0 : Nat) : Int) != ((vs.getD k 0 : Nat) : Int)) = true := by rw [bne_iff_ne]; omega
          have HD : Hid (decide (us = vs) = false) := decide_eq_false (fun e => heq (by rw [e]))
          clear heq
          generalize us.getD k 0 = x at *
          generalize vs.getD k 0 = y at *
          go_wp2
          go_quiet (fail)
          go_wp2
          go_ret
          exact ⟨by rw [HD.out]; rfl, _, drewN_twice _ _ _⟩
      · have HD : Hid (decide (us = vs) = true) := by
          refine decide_eq_true (List.ext_getElem (by exact HN.out) (fun i h1 h2 => ?_))
          have := HALL.out i (by omega)
          simpa [h1, h2] using this
        go_wp2
        go_ret
        exact ⟨by rw [HD.out]; rfl, _, rfl⟩
  · have tn : ((us.length : Int) != (vs.length : Int)) = true := by rw [bne_iff_ne]; omega
    have HD : Hid (decide (us = vs) = false) := decide_eq_false (fun e => hn (by rw [e]))
    clear hn
    go_enter Tryz.func85, Tryz.ntmps85
    go_wp2
    go_ret
    exact ⟨by rw [HD.out]; rfl, 0, rfl⟩

section
variable {K O N : Nat → Prop} {w W : World} {bb mb : Nat} {lv : Value} {st : Bd} {s : ByteArray} {m : Mdl}

set_option maxRecDepth 100000 in
set_option maxHeartbeats 1600000 in
theorem blockType_at (h : At K O w W N bb (.pointer (some ⟨mb, 0, none⟩)) lv st) (hm : MV s K W mb m) (a e x : Nat) (y : Beh) (pg pl : Option Addr) (cg nl cl : Nat) (hx : 0 ≤ y.num.1 ∧ y.num.1 ≤ 4294967295) (hg : isKinds K y.gives W (.slice pg y.gives.length cg)) :
    Calls Tryz.prog 83 #[.pointer (some ⟨bb, 0, none⟩), .agg #[.int .i64 (a : Nat), .int .i64 (e : Nat), .int .u8 (x : Nat), .bool y.typed, .slice pg y.gives.length cg, .int .u32 y.align, .int .u32 y.num.1, .int .i64 (y.num.2 : Nat), .slice pl nl cl, .int .i64 y.val]] W (Says (fun _ => False) W (blockTypeM m y) (isTypeOf K)) := by
  have HA := hide h.up
  have HMV := hide hm
  have HG := hide hg
  clear h hm hg
  cases hty : y.typed with
  | false =>
    have HM : Hid (blockTypeM m y = .ok ⟨[], y.gives⟩) := by show _ = _; simp [blockTypeM, hty]
    go_enter Tryz.func83, Tryz.ntmps83
    go_wp2
    refine bodyPost_ret (v := .agg #[.slice none 0 0, .slice pg y.gives.length cg]) ?_ rfl ?_
    · simp [results, Tryz.results83, go_sem]
    · have hk := ((Kept.refl (fun _ => False) W).alloc (.cells #[.int .i64 (a : Nat), .int .i64 (e : Nat), .int .u8 (x : Nat), .bool false, .slice pg y.gives.length cg, .int .u32 y.align, .int .u32 y.num.1, .int .i64 (y.num.2 : Nat), .slice pl nl cl, .int .i64 y.val] 100)).alloc (.cells #[.slice none 0 0, .slice pg y.gives.length cg] 85)
      exact Says.ok_mk HM.out hk ⟨_, _, rfl, Row.nil _ _ _ _, Row.kept HG.out hk (fun _ _ _ c => c)⟩
  | true =>
    have HM : Hid (blockTypeM m y = typeAtM m y.num) := by show _ = _; simp [blockTypeM, hty]
    have hkW : ∀ o1 o2, Kept (fun _ => False) W ((W.alloc o1).alloc o2) := fun o1 o2 => ((Kept.refl _ _).alloc _).alloc _
    go_enter Tryz.func83, Tryz.ntmps83
    go_wp2_with fail
    refine (typeAt_at ((HA.out.alloc _).alloc _) (HMV.out.kept (hkW _ _) (fun _ _ _ c => c)) y.num hx).mono ?_
    rintro ee w2 ⟨hk2, hok2, herr2⟩
    have hk02 := (hkW _ _).trans hk2
    have hR := ((Blk.new' (w := W.alloc (.cells #[.int .i64 (a : Nat), .int .i64 (e : Nat), .int .u8 (x : Nat), .bool true, .slice pg y.gives.length cg, .int .u32 y.align, .int .u32 y.num.1, .int .i64 (y.num.2 : Nat), .slice pl nl cl, .int .i64 y.val] 100)) (g := W.heap.size + 1) (c := #[.slice none 0 0, .slice none 0 0]) (t := 85) (by simp))).kept hk2 (by simp) (fun c => c)
    have hsz2 := hk2.size
    cases hm2 : typeAtM m y.num with
    | error qp =>
      obtain ⟨q, p⟩ := qp
      have he := herr2 _ _ hm2
      subst he
      exact ⟨rfl, Says.err_mk (HM.out.trans hm2) hk02⟩
    | ok t =>
      obtain ⟨v, rfl, vi, vo, rfl, k1, k2⟩ := hok2 _ hm2
      obtain ⟨pi, ci, rfl⟩ := Row.shape k1
      obtain ⟨po, co, rfl⟩ := Row.shape k2
      obtain ⟨⟨R0, S0⟩, ⟨R1, S1⟩⟩ := hR.two
      have HE := hide (HM.out.trans hm2)
      have H1 := hide k1
      have H2 := hide k2
      have hKR : ∀ g, K g → g ≠ W.heap.size + 1 := fun g hg e => by
        have h1 := HA.out.kb g hg
        have h2 := HA.out.kept.size
        omega
      clear hok2 herr2 hm2 k1 k2 hR HM
      go_wp2
      refine bodyPost_ret (v := .agg #[.slice pi t.ins.length ci, .slice po t.outs.length co]) ?_ rfl ?_
      · simp [results, Tryz.results83, go_sem, R0, R1]
      · exact Says.ok_mk HE.out ((hk02.new (by omega) _).new (by omega) _) ⟨_, _, rfl, Row.other (Row.other H1.out (fun g hg => hKR g hg) _) (fun g hg => hKR g hg) _, Row.other (Row.other H2.out (fun g hg => hKR g hg) _) (fun g hg => hKR g hg) _⟩
end

end Go.Proofs.YtdfmillbaabpiaaGreat
/-
  Blocks: block and loop.
-/
namespace Go.Proofs.YtdfmillbaabpiaaGreat
open Go.RowKit

/-- A call in a region that draws its order, whichever way it ends. -/
theorem wpOp_calls {P : Program} {ops : Array Oper} {Q : Exit → Act → World → Prop} {i : Nat} {K : Act → World → Prop} {a : Act} {w : World} {o : Oper} {f : FuncId} {args : Array Value} {R : Ending → World → Prop} (ho : ops[i]? = some o) (hgd : o.guard = none)
    (hex : (execOp a.eval o).run P w = .ok (.enter f args) w) (hc : Calls P f args w R) (h : ∀ e w', R e w' → (∃ v, e = .returned v ∧ K (a.put o.dst v) w') ∨ ∃ chain, e = .panicked chain ∧ Q (.panic chain) a w') : wpOp P ops Q i K a w := by
  have hw : Region.wanted o (yielded ops a.tmps) = true := by simp [Region.wanted, hgd]
  unfold wpOp
  rw [ho]
  simp only [hw, if_true]
  unfold Oper.wp
  rw [hex]
  refine .inl (hc.mono ?_)
  intro e w' hr
  rcases h e w' hr with ⟨v, rfl, hk⟩ | ⟨chain, rfl, hq⟩
  · exact hk
  · exact hq

section
variable {K O N : Nat → Prop} {w W : World} {bb mb : Nat} {lv : Value} {st : Bd} {s : ByteArray} {m : Mdl}

set_option maxRecDepth 100000 in
set_option maxHeartbeats 6400000 in
theorem checkBlock_open {pg pl : Option Addr} {cg nl cl : Nat} (h : At K O w W N bb (.pointer (some ⟨mb, 0, none⟩)) lv st) (hb : st.blocks ≠ []) (hm : MV s K W mb m) (a e x : Nat) (y : Beh) (hx : 0 ≤ y.num.1 ∧ y.num.1 ≤ 4294967295) (hg : isKinds K y.gives W (.slice pg y.gives.length cg)) (hs : st.stack.length ≤ 798000) (hbl : st.blocks.length ≤ 54) (hty : ∀ t, blockTypeM m y = .ok t → t.ins.length ≤ 8 ∧ t.outs.length ≤ 8) (h23 : x = 2 ∨ x = 3) :
    Calls Tryz.prog 62 #[.pointer (some ⟨bb, 0, none⟩), .agg #[.int .i64 (a : Nat), .int .i64 (e : Nat), .int .u8 (x : Nat), .bool y.typed, .slice pg y.gives.length cg, .int .u32 y.align, .int .u32 y.num.1, .int .i64 (y.num.2 : Nat), .slice pl nl cl, .int .i64 y.val]] W (Ends K O w W (fun k => k < W.heap.size) bb (.pointer (some ⟨mb, 0, none⟩)) lv (checkBlockM m x y st)) := by
  have HA := hide h.up
  have HMV := hide hm
  have HG := hide hg
  have HBT : Hid (∀ W1, At K O w W1 (fun k => k < W.heap.size) bb (.pointer (some ⟨mb, 0, none⟩)) lv st → Kept (fun _ => False) W W1 → Calls Tryz.prog 83 #[.pointer (some ⟨bb, 0, none⟩), .agg #[.int .i64 (a : Nat), .int .i64 (e : Nat), .int .u8 (x : Nat), .bool y.typed, .slice pg y.gives.length cg, .int .u32 y.align, .int .u32 y.num.1, .int .i64 (y.num.2 : Nat), .slice pl nl cl, .int .i64 y.val]] W1 (Says (fun _ => False) W1 (blockTypeM m y) (isTypeOf K))) := fun W1 hA1 hk1 => blockType_at hA1 (hm.kept hk1 (fun _ _ _ c => c)) a e x y pg pl cg nl cl hx (Row.kept hg hk1 (fun _ _ _ c => c))
  have HM : Hid (checkBlockM m x y st = match blockTypeM m y with | .error e => .error e | .ok t => enterM x t st) := by
    show _ = _
    unfold checkBlockM
    rw [if_neg (by omega), if_pos h23] <;> rfl
  have HTY : Hid (∀ t, blockTypeM m y = .ok t → t.ins.length ≤ 8 ∧ t.outs.length ≤ 8) := hty
  have t0 : ((x : Int) == 0) = false := beq_eq_false_iff_ne.2 (by omega)
  have hsel : (((x : Int) == 2) = true) ∨ (((x : Int) == 2) = false ∧ ((x : Int) == 3) = true) := by
    rcases h23 with rfl | rfl
    · exact .inl rfl
    · exact .inr ⟨rfl, rfl⟩
  have hHeld : (fun w' : World => w'.cell? ⟨W.heap.size, 0, none⟩ = some (.int .i64 (a : Nat)) ∧ w'.cell? ⟨W.heap.size, 1, none⟩ = some (.int .i64 (e : Nat)) ∧ w'.cell? ⟨W.heap.size, 2, none⟩ = some (.int .u8 (x : Nat)) ∧ w'.cell? ⟨W.heap.size, 3, none⟩ = some (.bool y.typed) ∧ w'.cell? ⟨W.heap.size, 4, none⟩ = some (.slice pg y.gives.length cg) ∧ w'.cell? ⟨W.heap.size, 5, none⟩ = some (.int .u32 y.align) ∧ w'.cell? ⟨W.heap.size, 6, none⟩ = some (.int .u32 y.num.1) ∧ w'.cell? ⟨W.heap.size, 7, none⟩ = some (.int .i64 (y.num.2 : Nat)) ∧ w'.cell? ⟨W.heap.size, 8, none⟩ = some (.slice pl nl cl) ∧ w'.cell? ⟨W.heap.size, 9, none⟩ = some (.int .i64 y.val)) ((W.alloc (.cells #[.int .i64 (a : Nat), .int .i64 (e : Nat), .int .u8 (x : Nat), .bool y.typed, .slice pg y.gives.length cg, .int .u32 y.align, .int .u32 y.num.1, .int .i64 (y.num.2 : Nat), .slice pl nl cl, .int .i64 y.val] 100)).drew) := by
    dsimp only
    exact ⟨by simp, by simp, by simp, by simp, by simp, by simp, by simp, by simp, by simp, by simp⟩
  have HHeld := hide hHeld
  clear h hm hg hty h23 hHeld
  rcases hsel with t2 | ⟨t2, t3⟩
  · go_enter Tryz.func62, Tryz.ntmps62
    go_wp2_with fail
    refine wp_region_held_drew (S := fun w' : World => w'.cell? ⟨W.heap.size, 0, none⟩ = some (.int .i64 (a : Nat)) ∧ w'.cell? ⟨W.heap.size, 1, none⟩ = some (.int .i64 (e : Nat)) ∧ w'.cell? ⟨W.heap.size, 2, none⟩ = some (.int .u8 (x : Nat)) ∧ w'.cell? ⟨W.heap.size, 3, none⟩ = some (.bool y.typed) ∧ w'.cell? ⟨W.heap.size, 4, none⟩ = some (.slice pg y.gives.length cg) ∧ w'.cell? ⟨W.heap.size, 5, none⟩ = some (.int .u32 y.align) ∧ w'.cell? ⟨W.heap.size, 6, none⟩ = some (.int .u32 y.num.1) ∧ w'.cell? ⟨W.heap.size, 7, none⟩ = some (.int .i64 (y.num.2 : Nat)) ∧ w'.cell? ⟨W.heap.size, 8, none⟩ = some (.slice pl nl cl) ∧ w'.cell? ⟨W.heap.size, 9, none⟩ = some (.int .i64 y.val)) (by kernel_rfl) HHeld.out (fun _ => ?_)
    refine wpAnyH_take (i := 0) (v := ?v0) rfl (by kernel_rfl) (by kernel_rfl) (by kernel_rfl) (fun _ _ _ h => h) (Or.inl ⟨by rfl, ?hy0⟩) HHeld.out ?rest0
    case hy0 => (intro w hSw; (try dsimp only at hSw); go_simp; try with_reducible rfl)
    dsimp only [Act.put, List.setIfInBounds_toArray, List.set_cons_zero, List.set_cons_succ]
    refine wpAnyH_take (i := 1) (v := ?v1) rfl (by kernel_rfl) (by kernel_rfl) (by kernel_rfl) (fun _ _ _ h => h) (Or.inl ⟨by rfl, ?hy1⟩) HHeld.out ?rest1
    case hy1 => (intro w hSw; (try dsimp only at hSw); go_simp; try with_reducible rfl)
    dsimp only [Act.put, List.setIfInBounds_toArray, List.set_cons_zero, List.set_cons_succ]
    refine wpAnyH_take (i := 2) (v := ?v2) rfl (by kernel_rfl) (by kernel_rfl) (by kernel_rfl) (fun _ _ _ h => h) (Or.inl ⟨by rfl, ?hy2⟩) HHeld.out ?rest2
    case hy2 => (intro w hSw; (try dsimp only at hSw); go_simp; try with_reducible rfl)
    dsimp only [Act.put, List.setIfInBounds_toArray, List.set_cons_zero, List.set_cons_succ]
    refine wpAnyH_take (i := 3) (v := ?v3) rfl (by kernel_rfl) (by kernel_rfl) (by kernel_rfl) (fun _ _ _ h => h) (Or.inl ⟨by rfl, ?hy3⟩) HHeld.out ?rest3
    case hy3 => (intro w hSw; (try dsimp only at hSw); go_simp; try with_reducible rfl)
    dsimp only [Act.put, List.setIfInBounds_toArray, List.set_cons_zero, List.set_cons_succ]
    refine wpAnyH_take (i := 4) (v := ?v4) rfl (by kernel_rfl) (by kernel_rfl) (by kernel_rfl) (fun _ _ _ h => h) (Or.inl ⟨by rfl, ?hy4⟩) HHeld.out ?rest4
    case hy4 => (intro w hSw; (try dsimp only at hSw); go_simp; try with_reducible rfl)
    dsimp only [Act.put, List.setIfInBounds_toArray, List.set_cons_zero, List.set_cons_succ]
    refine wpAnyH_all (rs := [5]) (by kernel_rfl) (by simp) ?_
    intro i hi
    rw [List.mem_singleton] at hi
    subst hi
    refine wpOp_calls (f := 83) (args := #[.pointer (some ⟨bb, 0, none⟩), .agg #[.int .i64 (a : Nat), .int .i64 (e : Nat), .int .u8 (x : Nat), .bool y.typed, .slice pg y.gives.length cg, .int .u32 y.align, .int .u32 y.num.1, .int .i64 (y.num.2 : Nat), .slice pl nl cl, .int .i64 y.val]]) rfl rfl (by kernel_rfl) (HBT.out _ ((HA.out.alloc _).drewN 1) (((Kept.refl _ _).alloc _).drewN 1)) ?_
    rintro ee w2 ⟨hk2, hok2, herr2⟩
    have hA2 := ((HA.out.alloc (.cells #[.int .i64 (a : Nat), .int .i64 (e : Nat), .int .u8 (x : Nat), .bool y.typed, .slice pg y.gives.length cg, .int .u32 y.align, .int .u32 y.num.1, .int .i64 (y.num.2 : Nat), .slice pl nl cl, .int .i64 y.val] 100)).drewN 1).quiet hk2
    have hk02 : Kept (fun _ => False) W w2 := (((Kept.refl _ _).alloc _).drewN 1).trans hk2
    have hl2 : Kept (fun k => k < W.heap.size ∧ ¬ K k) W w2 := hk02.mono (fun _ _ c => c.elim)
    cases hm2 : blockTypeM m y with
    | error qp =>
      obtain ⟨q, p⟩ := qp
      have he := herr2 _ _ hm2
      subst he
      exact .inr ⟨_, rfl, rfl, Ends.err_mk (by rw [HM.out, hm2]) hA2.kept hl2⟩
    | ok t =>
      obtain ⟨v, rfl, vi, vo, rfl, k1, k2⟩ := hok2 _ hm2
      obtain ⟨l1, l2⟩ := HTY.out _ hm2
      have HS2 : Hid ((fun w' : World => w'.cell? ⟨W.heap.size, 0, none⟩ = some (.int .i64 (a : Nat)) ∧ w'.cell? ⟨W.heap.size, 1, none⟩ = some (.int .i64 (e : Nat)) ∧ w'.cell? ⟨W.heap.size, 2, none⟩ = some (.int .u8 (x : Nat)) ∧ w'.cell? ⟨W.heap.size, 3, none⟩ = some (.bool y.typed) ∧ w'.cell? ⟨W.heap.size, 4, none⟩ = some (.slice pg y.gives.length cg) ∧ w'.cell? ⟨W.heap.size, 5, none⟩ = some (.int .u32 y.align) ∧ w'.cell? ⟨W.heap.size, 6, none⟩ = some (.int .u32 y.num.1) ∧ w'.cell? ⟨W.heap.size, 7, none⟩ = some (.int .i64 (y.num.2 : Nat)) ∧ w'.cell? ⟨W.heap.size, 8, none⟩ = some (.slice pl nl cl) ∧ w'.cell? ⟨W.heap.size, 9, none⟩ = some (.int .i64 y.val)) w2) := by
        show (fun w' : World => w'.cell? ⟨W.heap.size, 0, none⟩ = some (.int .i64 (a : Nat)) ∧ w'.cell? ⟨W.heap.size, 1, none⟩ = some (.int .i64 (e : Nat)) ∧ w'.cell? ⟨W.heap.size, 2, none⟩ = some (.int .u8 (x : Nat)) ∧ w'.cell? ⟨W.heap.size, 3, none⟩ = some (.bool y.typed) ∧ w'.cell? ⟨W.heap.size, 4, none⟩ = some (.slice pg y.gives.length cg) ∧ w'.cell? ⟨W.heap.size, 5, none⟩ = some (.int .u32 y.align) ∧ w'.cell? ⟨W.heap.size, 6, none⟩ = some (.int .u32 y.num.1) ∧ w'.cell? ⟨W.heap.size, 7, none⟩ = some (.int .i64 (y.num.2 : Nat)) ∧ w'.cell? ⟨W.heap.size, 8, none⟩ = some (.slice pl nl cl) ∧ w'.cell? ⟨W.heap.size, 9, none⟩ = some (.int .i64 y.val)) w2
        dsimp only
        have hc := fun (i : Nat) (v : Value) (hv : ((W.alloc (.cells #[.int .i64 (a : Nat), .int .i64 (e : Nat), .int .u8 (x : Nat), .bool y.typed, .slice pg y.gives.length cg, .int .u32 y.align, .int .u32 y.num.1, .int .i64 (y.num.2 : Nat), .slice pl nl cl, .int .i64 y.val] 100)).drew).cell? ⟨W.heap.size, i, none⟩ = some v) => (hk2.cell (p := ⟨W.heap.size, i, none⟩) (by simp) (fun c => c)).trans hv
        obtain ⟨q0, q1, q2, q3, q4, q5, q6, q7, q8, q9⟩ := HHeld.out
        exact ⟨hc _ _ q0, hc _ _ q1, hc _ _ q2, hc _ _ q3, hc _ _ q4, hc _ _ q5, hc _ _ q6, hc _ _ q7, hc _ _ q8, hc _ _ q9⟩
      refine .inl ⟨_, rfl, HS2.out, ?_⟩
      refine wpAnyH_all (rs := [6]) (by kernel_rfl) (by simp) ?_
      intro i hi
      rw [List.mem_singleton] at hi
      subst hi
      refine wpOp_calls (f := 39) (args := #[.pointer (some ⟨bb, 0, none⟩), .int .u8 (x : Nat), .agg #[vi, vo]]) rfl rfl (by kernel_rfl) (enter_at x hA2 (fun _ => hb) k1 k2 l1 l2 hbl (by omega)) ?_
      rintro ee w3 ⟨hok3, herr3, hk3, hlow3⟩
      have hl3 := hl2.lowTrans hlow3 rfl
      cases hm3 : enterM x t st with
      | error qp =>
        obtain ⟨q, p⟩ := qp
        have he := herr3 _ _ hm3
        subst he
        exact .inr ⟨_, rfl, rfl, Ends.err_mk (by rw [HM.out, hm2]; exact hm3) hk3 hl3⟩
      | ok st3 =>
        obtain ⟨rfl, hA3⟩ := hok3 _ hm3
        have HE : Hid (checkBlockM m x y st = .ok st3) := by show _ = _; rw [HM.out, hm2]; exact hm3
        have HA3 := hide hA3
        refine .inl ⟨_, rfl, ?_, ?_⟩
        · have hc := fun (i : Nat) (v : Value) (hv : w2.cell? ⟨W.heap.size, i, none⟩ = some v) => (hlow3.cell (p := ⟨W.heap.size, i, none⟩) (show W.heap.size < w2.heap.size by have h9 := hk2.size; simp at h9; omega) (fun c => Nat.lt_irrefl _ c.1)).trans hv
          obtain ⟨q0, q1, q2, q3, q4, q5, q6, q7, q8, q9⟩ := HS2.out
          exact ⟨hc _ _ q0, hc _ _ q1, hc _ _ q2, hc _ _ q3, hc _ _ q4, hc _ _ q5, hc _ _ q6, hc _ _ q7, hc _ _ q8, hc _ _ q9⟩
        refine wpAnyH_done (by kernel_rfl) ?_ _
        go_end0
        exact Ends.ok_mk HE.out HA3.out hl3
  · go_enter Tryz.func62, Tryz.ntmps62
    go_wp2_with fail
    refine wp_region_held_drew (S := fun w' : World => w'.cell? ⟨W.heap.size, 0, none⟩ = some (.int .i64 (a : Nat)) ∧ w'.cell? ⟨W.heap.size, 1, none⟩ = some (.int .i64 (e : Nat)) ∧ w'.cell? ⟨W.heap.size, 2, none⟩ = some (.int .u8 (x : Nat)) ∧ w'.cell? ⟨W.heap.size, 3, none⟩ = some (.bool y.typed) ∧ w'.cell? ⟨W.heap.size, 4, none⟩ = some (.slice pg y.gives.length cg) ∧ w'.cell? ⟨W.heap.size, 5, none⟩ = some (.int .u32 y.align) ∧ w'.cell? ⟨W.heap.size, 6, none⟩ = some (.int .u32 y.num.1) ∧ w'.cell? ⟨W.heap.size, 7, none⟩ = some (.int .i64 (y.num.2 : Nat)) ∧ w'.cell? ⟨W.heap.size, 8, none⟩ = some (.slice pl nl cl) ∧ w'.cell? ⟨W.heap.size, 9, none⟩ = some (.int .i64 y.val)) (by kernel_rfl) HHeld.out (fun _ => ?_)
    refine wpAnyH_take (i := 0) (v := ?vB0) rfl (by kernel_rfl) (by kernel_rfl) (by kernel_rfl) (fun _ _ _ h => h) (Or.inl ⟨by rfl, ?hyB0⟩) HHeld.out ?restB0
    case hyB0 => (intro w hSw; (try dsimp only at hSw); go_simp; try with_reducible rfl)
    dsimp only [Act.put, List.setIfInBounds_toArray, List.set_cons_zero, List.set_cons_succ]
    refine wpAnyH_take (i := 1) (v := ?vB1) rfl (by kernel_rfl) (by kernel_rfl) (by kernel_rfl) (fun _ _ _ h => h) (Or.inl ⟨by rfl, ?hyB1⟩) HHeld.out ?restB1
    case hyB1 => (intro w hSw; (try dsimp only at hSw); go_simp; try with_reducible rfl)
    dsimp only [Act.put, List.setIfInBounds_toArray, List.set_cons_zero, List.set_cons_succ]
    refine wpAnyH_take (i := 2) (v := ?vB2) rfl (by kernel_rfl) (by kernel_rfl) (by kernel_rfl) (fun _ _ _ h => h) (Or.inl ⟨by rfl, ?hyB2⟩) HHeld.out ?restB2
    case hyB2 => (intro w hSw; (try dsimp only at hSw); go_simp; try with_reducible rfl)
    dsimp only [Act.put, List.setIfInBounds_toArray, List.set_cons_zero, List.set_cons_succ]
    refine wpAnyH_take (i := 3) (v := ?vB3) rfl (by kernel_rfl) (by kernel_rfl) (by kernel_rfl) (fun _ _ _ h => h) (Or.inl ⟨by rfl, ?hyB3⟩) HHeld.out ?restB3
    case hyB3 => (intro w hSw; (try dsimp only at hSw); go_simp; try with_reducible rfl)
    dsimp only [Act.put, List.setIfInBounds_toArray, List.set_cons_zero, List.set_cons_succ]
    refine wpAnyH_take (i := 4) (v := ?vB4) rfl (by kernel_rfl) (by kernel_rfl) (by kernel_rfl) (fun _ _ _ h => h) (Or.inl ⟨by rfl, ?hyB4⟩) HHeld.out ?restB4
    case hyB4 => (intro w hSw; (try dsimp only at hSw); go_simp; try with_reducible rfl)
    dsimp only [Act.put, List.setIfInBounds_toArray, List.set_cons_zero, List.set_cons_succ]
    refine wpAnyH_all (rs := [5]) (by kernel_rfl) (by simp) ?_
    intro i hi
    rw [List.mem_singleton] at hi
    subst hi
    refine wpOp_calls (f := 83) (args := #[.pointer (some ⟨bb, 0, none⟩), .agg #[.int .i64 (a : Nat), .int .i64 (e : Nat), .int .u8 (x : Nat), .bool y.typed, .slice pg y.gives.length cg, .int .u32 y.align, .int .u32 y.num.1, .int .i64 (y.num.2 : Nat), .slice pl nl cl, .int .i64 y.val]]) rfl rfl (by kernel_rfl) (HBT.out _ ((HA.out.alloc _).drewN 1) (((Kept.refl _ _).alloc _).drewN 1)) ?_
    rintro ee w2 ⟨hk2, hok2, herr2⟩
    have hA2 := ((HA.out.alloc (.cells #[.int .i64 (a : Nat), .int .i64 (e : Nat), .int .u8 (x : Nat), .bool y.typed, .slice pg y.gives.length cg, .int .u32 y.align, .int .u32 y.num.1, .int .i64 (y.num.2 : Nat), .slice pl nl cl, .int .i64 y.val] 100)).drewN 1).quiet hk2
    have hk02 : Kept (fun _ => False) W w2 := (((Kept.refl _ _).alloc _).drewN 1).trans hk2
    have hl2 : Kept (fun k => k < W.heap.size ∧ ¬ K k) W w2 := hk02.mono (fun _ _ c => c.elim)
    cases hm2 : blockTypeM m y with
    | error qp =>
      obtain ⟨q, p⟩ := qp
      have he := herr2 _ _ hm2
      subst he
      exact .inr ⟨_, rfl, rfl, Ends.err_mk (by rw [HM.out, hm2]) hA2.kept hl2⟩
    | ok t =>
      obtain ⟨v, rfl, vi, vo, rfl, k1, k2⟩ := hok2 _ hm2
      obtain ⟨l1, l2⟩ := HTY.out _ hm2
      have HS2 : Hid ((fun w' : World => w'.cell? ⟨W.heap.size, 0, none⟩ = some (.int .i64 (a : Nat)) ∧ w'.cell? ⟨W.heap.size, 1, none⟩ = some (.int .i64 (e : Nat)) ∧ w'.cell? ⟨W.heap.size, 2, none⟩ = some (.int .u8 (x : Nat)) ∧ w'.cell? ⟨W.heap.size, 3, none⟩ = some (.bool y.typed) ∧ w'.cell? ⟨W.heap.size, 4, none⟩ = some (.slice pg y.gives.length cg) ∧ w'.cell? ⟨W.heap.size, 5, none⟩ = some (.int .u32 y.align) ∧ w'.cell? ⟨W.heap.size, 6, none⟩ = some (.int .u32 y.num.1) ∧ w'.cell? ⟨W.heap.size, 7, none⟩ = some (.int .i64 (y.num.2 : Nat)) ∧ w'.cell? ⟨W.heap.size, 8, none⟩ = some (.slice pl nl cl) ∧ w'.cell? ⟨W.heap.size, 9, none⟩ = some (.int .i64 y.val)) w2) := by
        show (fun w' : World => w'.cell? ⟨W.heap.size, 0, none⟩ = some (.int .i64 (a : Nat)) ∧ w'.cell? ⟨W.heap.size, 1, none⟩ = some (.int .i64 (e : Nat)) ∧ w'.cell? ⟨W.heap.size, 2, none⟩ = some (.int .u8 (x : Nat)) ∧ w'.cell? ⟨W.heap.size, 3, none⟩ = some (.bool y.typed) ∧ w'.cell? ⟨W.heap.size, 4, none⟩ = some (.slice pg y.gives.length cg) ∧ w'.cell? ⟨W.heap.size, 5, none⟩ = some (.int .u32 y.align) ∧ w'.cell? ⟨W.heap.size, 6, none⟩ = some (.int .u32 y.num.1) ∧ w'.cell? ⟨W.heap.size, 7, none⟩ = some (.int .i64 (y.num.2 : Nat)) ∧ w'.cell? ⟨W.heap.size, 8, none⟩ = some (.slice pl nl cl) ∧ w'.cell? ⟨W.heap.size, 9, none⟩ = some (.int .i64 y.val)) w2
        dsimp only
        have hc := fun (i : Nat) (v : Value) (hv : ((W.alloc (.cells #[.int .i64 (a : Nat), .int .i64 (e : Nat), .int .u8 (x : Nat), .bool y.typed, .slice pg y.gives.length cg, .int .u32 y.align, .int .u32 y.num.1, .int .i64 (y.num.2 : Nat), .slice pl nl cl, .int .i64 y.val] 100)).drew).cell? ⟨W.heap.size, i, none⟩ = some v) => (hk2.cell (p := ⟨W.heap.size, i, none⟩) (by simp) (fun c => c)).trans hv
        obtain ⟨q0, q1, q2, q3, q4, q5, q6, q7, q8, q9⟩ := HHeld.out
        exact ⟨hc _ _ q0, hc _ _ q1, hc _ _ q2, hc _ _ q3, hc _ _ q4, hc _ _ q5, hc _ _ q6, hc _ _ q7, hc _ _ q8, hc _ _ q9⟩
      refine .inl ⟨_, rfl, HS2.out, ?_⟩
      refine wpAnyH_all (rs := [6]) (by kernel_rfl) (by simp) ?_
      intro i hi
      rw [List.mem_singleton] at hi
      subst hi
      refine wpOp_calls (f := 39) (args := #[.pointer (some ⟨bb, 0, none⟩), .int .u8 (x : Nat), .agg #[vi, vo]]) rfl rfl (by kernel_rfl) (enter_at x hA2 (fun _ => hb) k1 k2 l1 l2 hbl (by omega)) ?_
      rintro ee w3 ⟨hok3, herr3, hk3, hlow3⟩
      have hl3 := hl2.lowTrans hlow3 rfl
      cases hm3 : enterM x t st with
      | error qp =>
        obtain ⟨q, p⟩ := qp
        have he := herr3 _ _ hm3
        subst he
        exact .inr ⟨_, rfl, rfl, Ends.err_mk (by rw [HM.out, hm2]; exact hm3) hk3 hl3⟩
      | ok st3 =>
        obtain ⟨rfl, hA3⟩ := hok3 _ hm3
        have HE : Hid (checkBlockM m x y st = .ok st3) := by show _ = _; rw [HM.out, hm2]; exact hm3
        have HA3 := hide hA3
        refine .inl ⟨_, rfl, ?_, ?_⟩
        · have hc := fun (i : Nat) (v : Value) (hv : w2.cell? ⟨W.heap.size, i, none⟩ = some v) => (hlow3.cell (p := ⟨W.heap.size, i, none⟩) (show W.heap.size < w2.heap.size by have h9 := hk2.size; simp at h9; omega) (fun c => Nat.lt_irrefl _ c.1)).trans hv
          obtain ⟨q0, q1, q2, q3, q4, q5, q6, q7, q8, q9⟩ := HS2.out
          exact ⟨hc _ _ q0, hc _ _ q1, hc _ _ q2, hc _ _ q3, hc _ _ q4, hc _ _ q5, hc _ _ q6, hc _ _ q7, hc _ _ q8, hc _ _ q9⟩
        refine wpAnyH_done (by kernel_rfl) ?_ _
        go_end0
        exact Ends.ok_mk HE.out HA3.out hl3
end

end Go.Proofs.YtdfmillbaabpiaaGreat
/-
  Blocks: if, else, end, and what is no block.
-/
namespace Go.Proofs.YtdfmillbaabpiaaGreat
open Go.RowKit

section
variable {K O N : Nat → Prop} {w W : World} {bb mb : Nat} {lv : Value} {st : Bd} {s : ByteArray} {m : Mdl}

set_option maxRecDepth 100000 in
set_option maxHeartbeats 1600000 in
theorem checkBlock_unreachable {pg pl : Option Addr} {cg nl cl : Nat} (h : At K O w W N bb (.pointer (some ⟨mb, 0, none⟩)) lv st) (hb : st.blocks ≠ []) (a e : Nat) (y : Beh) :
    Calls Tryz.prog 62 #[.pointer (some ⟨bb, 0, none⟩), .agg #[.int .i64 (a : Nat), .int .i64 (e : Nat), .int .u8 0, .bool y.typed, .slice pg y.gives.length cg, .int .u32 y.align, .int .u32 y.num.1, .int .i64 (y.num.2 : Nat), .slice pl nl cl, .int .i64 y.val]] W (Ends K O w W (fun k => k < W.heap.size) bb (.pointer (some ⟨mb, 0, none⟩)) lv (checkBlockM m 0 y st)) := by
  have HA := hide h.up
  clear h
  go_enter Tryz.func62, Tryz.ntmps62
  go_wp2_with fail
  refine (cutOff_at (HA.out.alloc _) hb).mono ?_
  rintro ee w2 ⟨hok2, -, -, hlow2⟩
  obtain ⟨rfl, hA2⟩ := hok2 _ rfl
  have HA2 := hide hA2
  clear hok2 hA2
  go_wp2
  go_end0
  exact Ends.ok_mk rfl HA2.out (((Kept.refl _ _).alloc _).trans hlow2)

set_option maxRecDepth 100000 in
set_option maxHeartbeats 1600000 in
theorem checkBlock_none {pg pl : Option Addr} {cg nl cl : Nat} (h : At K O w W N bb (.pointer (some ⟨mb, 0, none⟩)) lv st) (a e x : Nat) (y : Beh) (h0 : x ≠ 0) (h2 : x ≠ 2) (h3 : x ≠ 3) (h4 : x ≠ 4) (h5 : x ≠ 5) (h11 : x ≠ 11) :
    Calls Tryz.prog 62 #[.pointer (some ⟨bb, 0, none⟩), .agg #[.int .i64 (a : Nat), .int .i64 (e : Nat), .int .u8 (x : Nat), .bool y.typed, .slice pg y.gives.length cg, .int .u32 y.align, .int .u32 y.num.1, .int .i64 (y.num.2 : Nat), .slice pl nl cl, .int .i64 y.val]] W (Ends K O w W (fun k => k < W.heap.size) bb (.pointer (some ⟨mb, 0, none⟩)) lv (checkBlockM m x y st)) := by
  have HA := hide h.up
  have HM : Hid (checkBlockM m x y st = .ok st) := by show _ = _; unfold checkBlockM; rw [if_neg h0, if_neg (by omega), if_neg h4, if_neg h5, if_neg h11]
  have t0 : ((x : Int) == 0) = false := beq_eq_false_iff_ne.2 (by omega)
  have t2 : ((x : Int) == 2) = false := beq_eq_false_iff_ne.2 (by omega)
  have t3 : ((x : Int) == 3) = false := beq_eq_false_iff_ne.2 (by omega)
  have t4 : ((x : Int) == 4) = false := beq_eq_false_iff_ne.2 (by omega)
  have t5 : ((x : Int) == 5) = false := beq_eq_false_iff_ne.2 (by omega)
  have t11 : ((x : Int) == 11) = false := beq_eq_false_iff_ne.2 (by omega)
  clear h h0 h2 h3 h4 h5 h11
  go_enter Tryz.func62, Tryz.ntmps62
  go_wp2
  go_end0
  exact Ends.ok_mk HM.out (HA.out.alloc _) ((Kept.refl _ _).alloc _)

set_option maxRecDepth 100000 in
set_option maxHeartbeats 3200000 in
theorem checkBlock_if {pg pl : Option Addr} {cg nl cl : Nat} (h : At K O w W N bb (.pointer (some ⟨mb, 0, none⟩)) lv st) (hb : st.blocks ≠ []) (hm : MV s K W mb m) (a e : Nat) (y : Beh) (hx : 0 ≤ y.num.1 ∧ y.num.1 ≤ 4294967295) (hg : isKinds K y.gives W (.slice pg y.gives.length cg)) (hs : st.stack.length ≤ 798000) (hbl : st.blocks.length ≤ 54) (hty : ∀ t, blockTypeM m y = .ok t → t.ins.length ≤ 8 ∧ t.outs.length ≤ 8) :
    Calls Tryz.prog 62 #[.pointer (some ⟨bb, 0, none⟩), .agg #[.int .i64 (a : Nat), .int .i64 (e : Nat), .int .u8 4, .bool y.typed, .slice pg y.gives.length cg, .int .u32 y.align, .int .u32 y.num.1, .int .i64 (y.num.2 : Nat), .slice pl nl cl, .int .i64 y.val]] W (Ends K O w W (fun k => k < W.heap.size) bb (.pointer (some ⟨mb, 0, none⟩)) lv (checkBlockM m 4 y st)) := by
  have HA := hide h.up
  have HBT : Hid (∀ W1, At K O w W1 (fun k => k < W.heap.size) bb (.pointer (some ⟨mb, 0, none⟩)) lv st → Kept (fun _ => False) W W1 → Calls Tryz.prog 83 #[.pointer (some ⟨bb, 0, none⟩), .agg #[.int .i64 (a : Nat), .int .i64 (e : Nat), .int .u8 4, .bool y.typed, .slice pg y.gives.length cg, .int .u32 y.align, .int .u32 y.num.1, .int .i64 (y.num.2 : Nat), .slice pl nl cl, .int .i64 y.val]] W1 (Says (fun _ => False) W1 (blockTypeM m y) (isTypeOf K))) := fun W1 hA1 hk1 => blockType_at hA1 (hm.kept hk1 (fun _ _ _ c => c)) a e 4 y pg pl cg nl cl hx (Row.kept hg hk1 (fun _ _ _ c => c))
  have HM : Hid (checkBlockM m 4 y st = match blockTypeM m y with | .error e => .error e | .ok t => match takeM st [127] with | .error e => .error e | .ok st1 => enterM 4 t st1) := rfl
  have HTY := hide hty
  clear h hm hg hty
  go_enter Tryz.func62, Tryz.ntmps62
  go_wp2_with fail
  refine (HBT.out _ (HA.out.alloc _) ((Kept.refl _ _).alloc _)).mono ?_
  rintro ee w2 ⟨hk2, hok2, herr2⟩
  have hA2 := (HA.out.alloc (.cells #[.int .i64 (a : Nat), .int .i64 (e : Nat), .int .u8 4, .bool y.typed, .slice pg y.gives.length cg, .int .u32 y.align, .int .u32 y.num.1, .int .i64 (y.num.2 : Nat), .slice pl nl cl, .int .i64 y.val] 100)).quiet hk2
  have hl2 : Kept (fun k => k < W.heap.size ∧ ¬ K k) W w2 := ((Kept.refl _ _).alloc _).trans (hk2.mono (fun _ _ c => c.elim))
  have hX2 : w2.cell? ⟨W.heap.size, 2, none⟩ = some (.int .u8 4) := (hk2.cell (p := ⟨W.heap.size, 2, none⟩) (by simp) (fun c => c)).trans (by simp)
  have hWw2 : W.heap.size < w2.heap.size := by have h9 := hk2.size; simp at h9; omega
  cases hm2 : blockTypeM m y with
  | error qp =>
    obtain ⟨q, p⟩ := qp
    have he := herr2 _ _ hm2
    subst he
    exact ⟨rfl, Ends.err_mk (by rw [HM.out, hm2]) hA2.kept hl2⟩
  | ok t =>
    obtain ⟨v, rfl, vi, vo, rfl, k1, k2⟩ := hok2 _ hm2
    obtain ⟨l1, l2⟩ := HTY.out _ hm2
    obtain ⟨pi, ci, rfl⟩ := Row.shape k1
    obtain ⟨po, co, rfl⟩ := Row.shape k2
    have HM2 : Hid (checkBlockM m 4 y st = match takeM st [127] with | .error e => .error e | .ok st1 => enterM 4 t st1) := by show _ = _; rw [HM.out, hm2]
    have HA2 := hide hA2
    have H1 := hide k1
    have H2 := hide k2
    clear hok2 herr2 hm2 hA2 k1 k2 HBT HTY HM
    go_wp2_with fail
    refine (take_at ((HA2.out.alloc _).alloc _) hb (kinds_made _ [127] (by simp) rfl (by simp)) (HA2.out.alloc _).ne (by simp)).mono ?_
    rintro ee w3 ⟨hok3, herr3, hk3, hlow3⟩
    have hl3 := ((hl2.alloc _).alloc _).trans hlow3
    have hsz3 := hlow3.size
    cases hm3 : takeM st [127] with
    | error qp =>
      obtain ⟨q, p⟩ := qp
      have he := herr3 _ _ hm3
      subst he
      exact ⟨rfl, Ends.err_mk (by rw [HM2.out, hm3]) hk3 hl3⟩
    | ok st3 =>
      obtain ⟨rfl, hA3⟩ := hok3 _ hm3
      have hf := takeM_facts HA.out.tidy.floor hm3
      have hb3 : st3.blocks ≠ [] := by rw [hf.1]; exact hb
      have hbl3 : st3.blocks.length ≤ 54 := by rw [hf.1]; exact hbl
      have hs3 : st3.stack.length ≤ 799000 := by omega
      have HM3 : Hid (checkBlockM m 4 y st = enterM 4 t st3) := by show _ = _; rw [HM2.out, hm3]
      have hX3 : w3.cell? ⟨W.heap.size, 2, none⟩ = some (.int .u8 4) := (hlow3.cell (p := ⟨W.heap.size, 2, none⟩) (by simp; omega) (fun c => Nat.lt_irrefl _ c.1)).trans ((World.cell?_alloc_lt _ _ _ (by simp; omega)).trans ((World.cell?_alloc_lt _ _ _ hWw2).trans hX2))
      have hT := ((Blk.new w2 #[.slice pi t.ins.length ci, .slice po t.outs.length co] 85).alloc (by simp) (.cells #[.int .u8 127] 74)).kept hlow3 (by simp; omega) (fun c => by have := c.1; omega)
      obtain ⟨⟨T0, -⟩, ⟨T1, -⟩⟩ := hT.two
      have k13 := hide (hlow3.kinds (Row.alloc (Row.alloc H1.out _) _))
      have k23 := hide (hlow3.kinds (Row.alloc (Row.alloc H2.out _) _))
      have HA3 := hide hA3
      clear hok3 herr3 hm3 hA3 hf hT H1 H2 HM2 hX2
      go_wp2_with fail
      refine (enter_at 4 HA3.out (fun _ => hb3) k13.out k23.out l1 l2 hbl3 hs3).mono ?_
      rintro ee w4 ⟨hok4, herr4, hk4, hlow4⟩
      have hl4 := hl3.lowTrans hlow4 rfl
      cases hm4 : enterM 4 t st3 with
      | error qp =>
        obtain ⟨q, p⟩ := qp
        have he := herr4 _ _ hm4
        subst he
        exact ⟨rfl, Ends.err_mk (HM3.out.trans hm4) hk4 hl4⟩
      | ok st4 =>
        obtain ⟨rfl, hA4⟩ := hok4 _ hm4
        have HA4 := hide hA4
        have HE := hide (HM3.out.trans hm4)
        clear hok4 herr4 hm4 hA4 HM3
        go_wp2
        go_end0
        exact Ends.ok_mk HE.out HA4.out hl4

set_option maxRecDepth 100000 in
set_option maxHeartbeats 3200000 in
theorem checkBlock_else {pg pl : Option Addr} {cg nl cl : Nat} (h : At K O w W N bb (.pointer (some ⟨mb, 0, none⟩)) lv st) (hb : st.blocks ≠ []) (a e : Nat) (y : Beh) (hs : st.stack.length ≤ 798000) (hbl : st.blocks.length ≤ 54) (h2 : 2 ≤ st.blocks.length) :
    Calls Tryz.prog 62 #[.pointer (some ⟨bb, 0, none⟩), .agg #[.int .i64 (a : Nat), .int .i64 (e : Nat), .int .u8 5, .bool y.typed, .slice pg y.gives.length cg, .int .u32 y.align, .int .u32 y.num.1, .int .i64 (y.num.2 : Nat), .slice pl nl cl, .int .i64 y.val]] W (Ends K O w W (fun k => k < W.heap.size) bb (.pointer (some ⟨mb, 0, none⟩)) lv (checkBlockM m 5 y st)) := by
  have HA := hide h.up
  have HM : Hid (checkBlockM m 5 y st = match leaveM st with | .error e => .error e | .ok (left, st1) => enterM 5 ⟨left.takes, left.gives⟩ (putM st1 left.takes)) := rfl
  clear h
  go_enter Tryz.func62, Tryz.ntmps62
  go_wp2_with fail
  refine (leave_at (HA.out.alloc _) hb).mono ?_
  rintro ee w2 ⟨hok2, herr2, hk2, hlow2⟩
  have hl2 : Kept (fun k => k < W.heap.size ∧ ¬ K k) W w2 := ((Kept.refl _ _).alloc _).trans hlow2
  have hWw2 : W.heap.size < w2.heap.size := by have h9 := hlow2.size; simp at h9; omega
  have hX2 : w2.cell? ⟨W.heap.size, 2, none⟩ = some (.int .u8 5) := (hlow2.cell (p := ⟨W.heap.size, 2, none⟩) (by simp) (fun c => Nat.lt_irrefl _ c.1)).trans (by simp)
  cases hm2 : leaveM st with
  | error qp =>
    obtain ⟨q, p⟩ := qp
    have he := herr2 _ _ hm2
    subst he
    exact ⟨rfl, Ends.err_mk (by rw [HM.out, hm2]) hk2 hl2⟩
  | ok x2 =>
    obtain ⟨left, st2⟩ := x2
    obtain ⟨⟨tv, gv, rfl, k1, k2⟩, hA2⟩ := hok2 _ _ hm2
    obtain ⟨-, -, -, s2, e2, l1, l2⟩ := (leaveM_facts HA.out.tidy hb).2 _ _ hm2
    have hb2 : st2.blocks ≠ [] := by
      intro c
      have h9 : st2.blocks.length = 0 := by rw [c]; rfl
      rw [e2] at h9
      simp at h9
      omega
    have hbl2 : st2.blocks.length ≤ 54 := by rw [e2]; simp; omega
    obtain ⟨pt, ct, rfl⟩ := Row.shape k1
    obtain ⟨pq, cq, rfl⟩ := Row.shape k2
    have HM2 : Hid (checkBlockM m 5 y st = enterM 5 ⟨left.takes, left.gives⟩ (putM st2 left.takes)) := by show _ = _; rw [HM.out, hm2]
    have HA2 := hide hA2
    have H1 := hide k1
    have H2 := hide k2
    have hs2 : st2.stack.length ≤ 798000 := by omega
    clear hok2 herr2 hm2 hA2 k1 k2 HM s2 e2
    go_wp2_with fail
    refine (put_at (HA2.out.alloc _) (Row.alloc H1.out _) (by omega) (by omega)).mono ?_
    rintro ee w3 ⟨hok3, -, -, hlow3⟩
    obtain ⟨rfl, hA3⟩ := hok3 _ rfl
    have hl3 := hl2.lowTrans (((Kept.refl _ _).alloc _).trans hlow3) rfl
    have hsz3 := hlow3.size
    have hX3 : w3.cell? ⟨W.heap.size, 2, none⟩ = some (.int .u8 5) := (hlow3.cell (p := ⟨W.heap.size, 2, none⟩) (by simp; omega) (fun c => c.1.elim (fun d => Nat.lt_irrefl _ d) (fun d => by have h9 := d.1; simp at h9; omega))).trans ((World.cell?_alloc_lt _ _ _ hWw2).trans hX2)
    have hL := (Blk.new w2 #[.int .u8 (left.word : Nat), .slice pt left.takes.length ct, .slice pq left.gives.length cq, .int .i64 (left.floor : Nat), .bool left.cut] 125).kept hlow3 (by simp) (fun c => c.1.elim (fun d => by omega) (fun d => by have h9 := d.2; omega))
    obtain ⟨⟨L0, -⟩, ⟨L1, -⟩, ⟨L2, -⟩, ⟨L3, -⟩, ⟨L4, -⟩⟩ := hL.five
    have k13 := hide (hlow3.kinds (Row.alloc H1.out _))
    have k23 := hide (hlow3.kinds (Row.alloc H2.out _))
    have hb3 : (putM st2 left.takes).blocks ≠ [] := hb2
    have hbl3 : (putM st2 left.takes).blocks.length ≤ 54 := hbl2
    have hs3 : (putM st2 left.takes).stack.length ≤ 799000 := by simp [putM]; omega
    have HA3 := hide hA3
    clear hok3 hA3 hL H1 H2 hX2
    generalize putM st2 left.takes = st3 at *
    go_wp2_with fail
    refine (enter_at (t := ⟨left.takes, left.gives⟩) 5 HA3.out (fun _ => hb3) k13.out k23.out l1 l2 hbl3 hs3).mono ?_
    rintro ee w4 ⟨hok4, herr4, hk4, hlow4⟩
    have hl4 := hl3.lowTrans hlow4 rfl
    cases hm4 : enterM 5 ⟨left.takes, left.gives⟩ st3 with
    | error qp =>
      obtain ⟨q, p⟩ := qp
      have he := herr4 _ _ hm4
      subst he
      exact ⟨rfl, Ends.err_mk (HM2.out.trans hm4) hk4 hl4⟩
    | ok st4 =>
      obtain ⟨rfl, hA4⟩ := hok4 _ hm4
      have HA4 := hide hA4
      have HE := hide (HM2.out.trans hm4)
      clear hok4 herr4 hm4 hA4 HM2
      go_wp2
      go_end0
      exact Ends.ok_mk HE.out HA4.out hl4

set_option maxRecDepth 100000 in
set_option maxHeartbeats 3200000 in
theorem checkBlock_end {pg pl : Option Addr} {cg nl cl : Nat} (h : At K O w W N bb (.pointer (some ⟨mb, 0, none⟩)) lv st) (hb : st.blocks ≠ []) (a e : Nat) (y : Beh) (hs : st.stack.length ≤ 798000) :
    Calls Tryz.prog 62 #[.pointer (some ⟨bb, 0, none⟩), .agg #[.int .i64 (a : Nat), .int .i64 (e : Nat), .int .u8 11, .bool y.typed, .slice pg y.gives.length cg, .int .u32 y.align, .int .u32 y.num.1, .int .i64 (y.num.2 : Nat), .slice pl nl cl, .int .i64 y.val]] W (Ends K O w W (fun k => k < W.heap.size) bb (.pointer (some ⟨mb, 0, none⟩)) lv (checkBlockM m 11 y st)) := by
  have HA := hide h.up
  have HM : Hid (checkBlockM m 11 y st = match leaveM st with | .error e => .error e | .ok (left, st1) => if left.word = 4 ∧ left.takes ≠ left.gives then .error (4, st.at_) else .ok (putM st1 left.gives)) := rfl
  clear h
  go_enter Tryz.func62, Tryz.ntmps62
  go_wp2_with fail
  refine (leave_at (HA.out.alloc _) hb).mono ?_
  rintro ee w2 ⟨hok2, herr2, hk2, hlow2⟩
  have hl2 : Kept (fun k => k < W.heap.size ∧ ¬ K k) W w2 := ((Kept.refl _ _).alloc _).trans hlow2
  cases hm2 : leaveM st with
  | error qp =>
    obtain ⟨q, p⟩ := qp
    have he := herr2 _ _ hm2
    subst he
    exact ⟨rfl, Ends.err_mk (by rw [HM.out, hm2]) hk2 hl2⟩
  | ok x2 =>
    obtain ⟨left, st2⟩ := x2
    obtain ⟨⟨tv, gv, rfl, k1, k2⟩, hA2⟩ := hok2 _ _ hm2
    obtain ⟨-, -, a2, s2, -, l1, l2⟩ := (leaveM_facts HA.out.tidy hb).2 _ _ hm2
    obtain ⟨pt, ct, rfl⟩ := Row.shape k1
    obtain ⟨pq, cq, rfl⟩ := Row.shape k2
    have HM2 : Hid (checkBlockM m 11 y st = if left.word = 4 ∧ left.takes ≠ left.gives then .error (4, st.at_) else .ok (putM st2 left.gives)) := by show _ = _; rw [HM.out, hm2]
    have HA2 := hide hA2
    have H1 := hide k1
    have H2 := hide k2
    have hs2 : st2.stack.length ≤ 798000 := by omega
    clear hok2 herr2 hm2 hA2 k1 k2 HM s2
    by_cases h4 : left.word = 4
    · have t4 : ((left.word : Int) == 4) = true := by simp [h4]
      by_cases heq : left.takes = left.gives
      · have HE : Hid (checkBlockM m 11 y st = .ok (putM st2 left.gives)) := by show _ = _; rw [HM2.out, if_neg (fun c => c.2 heq)]
        have HD : Hid (decide (left.takes = left.gives) = true) := decide_eq_true heq
        clear h4 heq HM2
        go_wp2_with fail
        refine (equalKinds_any (Row.alloc H1.out _) (Row.alloc H2.out _) (by omega)).mono ?_
        rintro ee w3 ⟨rfl, k3, rfl⟩
        rw [HD.out]
        go_wp2_with fail
        refine (put_at ((HA2.out.alloc _).drewN _) (Row.kept (S := fun _ => False) (Row.alloc H2.out _) ((Kept.refl _ _).drewN _) (fun _ _ _ c => c)) (by omega) (by omega)).mono ?_
        rintro ee w4 ⟨hok4, -, -, hlow4⟩
        obtain ⟨rfl, hA4⟩ := hok4 _ rfl
        have HA4 := hide hA4
        clear hok4 hA4
        go_wp2
        go_end0
        exact Ends.ok_mk HE.out HA4.out (hl2.lowTrans ((((Kept.refl _ _).alloc _).drewN _).trans hlow4) rfl)
      · have HE : Hid (checkBlockM m 11 y st = .error (4, st.at_)) := by show _ = _; rw [HM2.out, if_pos ⟨h4, heq⟩]
        have HD : Hid (decide (left.takes = left.gives) = false) := decide_eq_false heq
        clear h4 heq HM2
        go_wp2_with fail
        refine (equalKinds_any (Row.alloc H1.out _) (Row.alloc H2.out _) (by omega)).mono ?_
        rintro ee w3 ⟨rfl, k3, rfl⟩
        rw [HD.out]
        go_wp2_with fail
        refine (refuse_at ((HA2.out.alloc _).drewN _)).mono ?_
        rintro ee w4 ⟨rfl, rfl⟩
        rw [a2]
        exact ⟨rfl, Ends.err_mk HE.out ((HA2.out.alloc _).drewN _).kept ((hl2.alloc _).drewN _)⟩
    · have t4 : ((left.word : Int) == 4) = false := beq_eq_false_iff_ne.2 (by omega)
      have HE : Hid (checkBlockM m 11 y st = .ok (putM st2 left.gives)) := by show _ = _; rw [HM2.out, if_neg (fun c => h4 c.1)]
      clear h4 HM2
      go_wp2_with fail
      refine (put_at (HA2.out.alloc _) (Row.alloc H2.out _) (by omega) (by omega)).mono ?_
      rintro ee w4 ⟨hok4, -, -, hlow4⟩
      obtain ⟨rfl, hA4⟩ := hok4 _ rfl
      have HA4 := hide hA4
      clear hok4 hA4
      go_wp2
      go_end0
      exact Ends.ok_mk HE.out HA4.out (hl2.lowTrans (((Kept.refl _ _).alloc _).trans hlow4) rfl)
end

end Go.Proofs.YtdfmillbaabpiaaGreat
