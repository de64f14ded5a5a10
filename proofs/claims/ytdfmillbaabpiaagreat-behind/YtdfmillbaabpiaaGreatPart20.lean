/-
  Part 20 of the proof: Body19, Body20, Body21, Body22.
-/
import Derived.Test.YtdfmillbaabpiaaGreatPart19
/-
  Jumps.
-/
namespace Go.Proofs.YtdfmillbaabpiaaGreat
open Go.RowKit

section
variable {K O N : Nat → Prop} {w W : World} {bb mb : Nat} {lv : Value} {st : Bd} {s : ByteArray} {m : Mdl}

theorem label_at (h : At K O w W N bb (.pointer (some ⟨mb, 0, none⟩)) lv st) (x : Int × Nat) (hx : 0 ≤ x.1 ∧ x.1 ≤ 4294967295) :
    Calls Tryz.prog 86 #[.pointer (some ⟨bb, 0, none⟩), .agg #[.int .u32 x.1, .int .i64 (x.2 : Nat)]] W (Says (fun _ => False) W (labelM st x) (fun ks w' v => isKinds K ks w' v)) := by
  have hl := h.bls
  obtain ⟨sv, bv, hB⟩ := h.body
  exact label_any hB hx (by omega)

theorem At.short (h : At K O w W N bb (.pointer (some ⟨mb, 0, none⟩)) lv st) {x : Int × Nat} {ks : List Nat} (hx : 0 ≤ x.1 ∧ x.1 ≤ 4294967295) (hl : labelM st x = .ok ks) : ks.length ≤ 8 :=
  (labelM_facts (N := x.2) h.tidy ⟨hx.1, hx.2, Nat.le_refl _⟩).2 ks hl

set_option maxRecDepth 100000 in
set_option maxHeartbeats 1600000 in
theorem checkJump_br {pg pl : Option Addr} {ng cg nl cl : Nat} (h : At K O w W N bb (.pointer (some ⟨mb, 0, none⟩)) lv st) (hb : st.blocks ≠ []) (a e : Nat) (y : Beh) (hx : 0 ≤ y.num.1 ∧ y.num.1 ≤ 4294967295) :
    Calls Tryz.prog 63 #[.pointer (some ⟨bb, 0, none⟩), .agg #[.int .i64 (a : Nat), .int .i64 (e : Nat), .int .u8 12, .bool y.typed, .slice pg ng cg, .int .u32 y.align, .int .u32 y.num.1, .int .i64 (y.num.2 : Nat), .slice pl nl cl, .int .i64 y.val]] W (Ends K O w W (fun k => k < W.heap.size) bb (.pointer (some ⟨mb, 0, none⟩)) lv (checkJumpM m 12 y st)) := by
  have HA := hide h.up
  have HM : Hid (checkJumpM m 12 y st = match labelM st y.num with | .error e => .error e | .ok ks => match takeM st ks with | .error e => .error e | .ok st1 => .ok (cutOffM st1)) := rfl
  have hKb : ¬ K bb := fun c => h.body.dis bb h.body.own c
  clear h
  go_enter Tryz.func63, Tryz.ntmps63
  go_wp2_with fail
  refine (label_at (HA.out.alloc _) y.num hx).mono ?_
  rintro ee w2 ⟨hk2, hok2, herr2⟩
  have hA2 := (HA.out.alloc (.cells #[.int .i64 (a : Nat), .int .i64 (e : Nat), .int .u8 12, .bool y.typed, .slice pg ng cg, .int .u32 y.align, .int .u32 y.num.1, .int .i64 (y.num.2 : Nat), .slice pl nl cl, .int .i64 y.val] 100)).quiet hk2
  have hl2 : Kept (fun k => k < W.heap.size ∧ ¬ K k) W w2 := ((Kept.refl _ _).alloc _).trans (hk2.mono (fun _ _ c => c.elim))
  cases hm2 : labelM st y.num with
  | error qp =>
    obtain ⟨q, p⟩ := qp
    have he := herr2 _ _ hm2
    subst he
    exact ⟨rfl, Ends.err_mk (by rw [HM.out, hm2]) hA2.kept hl2⟩
  | ok ks =>
    obtain ⟨v, rfl, k1⟩ := hok2 _ hm2
    have l1 := HA.out.short hx hm2
    obtain ⟨pk, ck, rfl⟩ := Row.shape k1
    have HM2 : Hid (checkJumpM m 12 y st = match takeM st ks with | .error e => .error e | .ok st1 => .ok (cutOffM st1)) := by show _ = _; rw [HM.out, hm2]
    have HA2 := hide hA2
    have H1 := hide k1
    clear hok2 herr2 hm2 hA2 k1 HM
    go_wp2_with fail
    refine (take_at HA2.out hb H1.out hKb (by omega)).mono ?_
    rintro ee w3 ⟨hok3, herr3, hk3, hlow3⟩
    have hl3 := hl2.lowTrans hlow3 rfl
    cases hm3 : takeM st ks with
    | error qp =>
      obtain ⟨q, p⟩ := qp
      have he := herr3 _ _ hm3
      subst he
      exact ⟨rfl, Ends.err_mk (by rw [HM2.out, hm3]) hk3 hl3⟩
    | ok st3 =>
      obtain ⟨rfl, hA3⟩ := hok3 _ hm3
      have hf := takeM_facts HA.out.tidy.floor hm3
      have hb3 : st3.blocks ≠ [] := by rw [hf.1]; exact hb
      have HM3 : Hid (checkJumpM m 12 y st = .ok (cutOffM st3)) := by show _ = _; rw [HM2.out, hm3]
      have HA3 := hide hA3
      clear hok3 herr3 hm3 hA3 hf HM2
      go_wp2_with fail
      refine (cutOff_at HA3.out hb3).mono ?_
      rintro ee w4 ⟨hok4, -, -, hlow4⟩
      obtain ⟨rfl, hA4⟩ := hok4 _ rfl
      have HA4 := hide hA4
      clear hok4 hA4
      go_wp2
      go_end0
      exact Ends.ok_mk HM3.out HA4.out (hl3.lowTrans hlow4 rfl)

set_option maxRecDepth 100000 in
set_option maxHeartbeats 1600000 in
theorem checkJump_brIf {pg pl : Option Addr} {ng cg nl cl : Nat} (h : At K O w W N bb (.pointer (some ⟨mb, 0, none⟩)) lv st) (hb : st.blocks ≠ []) (a e : Nat) (y : Beh) (hx : 0 ≤ y.num.1 ∧ y.num.1 ≤ 4294967295) (hs : st.stack.length ≤ 798000) :
    Calls Tryz.prog 63 #[.pointer (some ⟨bb, 0, none⟩), .agg #[.int .i64 (a : Nat), .int .i64 (e : Nat), .int .u8 13, .bool y.typed, .slice pg ng cg, .int .u32 y.align, .int .u32 y.num.1, .int .i64 (y.num.2 : Nat), .slice pl nl cl, .int .i64 y.val]] W (Ends K O w W (fun k => k < W.heap.size) bb (.pointer (some ⟨mb, 0, none⟩)) lv (checkJumpM m 13 y st)) := by
  have HA := hide h.up
  have HM : Hid (checkJumpM m 13 y st = match labelM st y.num with | .error e => .error e | .ok ks => match takeM st [127] with | .error e => .error e | .ok st1 => match takeM st1 ks with | .error e => .error e | .ok st2 => .ok (putM st2 ks)) := rfl
  have hKb : ¬ K bb := fun c => h.body.dis bb h.body.own c
  clear h
  go_enter Tryz.func63, Tryz.ntmps63
  go_wp2_with fail
  refine (label_at (HA.out.alloc _) y.num hx).mono ?_
  rintro ee w2 ⟨hk2, hok2, herr2⟩
  have hA2 := (HA.out.alloc (.cells #[.int .i64 (a : Nat), .int .i64 (e : Nat), .int .u8 13, .bool y.typed, .slice pg ng cg, .int .u32 y.align, .int .u32 y.num.1, .int .i64 (y.num.2 : Nat), .slice pl nl cl, .int .i64 y.val] 100)).quiet hk2
  have hl2 : Kept (fun k => k < W.heap.size ∧ ¬ K k) W w2 := ((Kept.refl _ _).alloc _).trans (hk2.mono (fun _ _ c => c.elim))
  cases hm2 : labelM st y.num with
  | error qp =>
    obtain ⟨q, p⟩ := qp
    have he := herr2 _ _ hm2
    subst he
    exact ⟨rfl, Ends.err_mk (by rw [HM.out, hm2]) hA2.kept hl2⟩
  | ok ks =>
    obtain ⟨v, rfl, k1⟩ := hok2 _ hm2
    have l1 := HA.out.short hx hm2
    obtain ⟨pk, ck, rfl⟩ := Row.shape k1
    have HM2 : Hid (checkJumpM m 13 y st = match takeM st [127] with | .error e => .error e | .ok st1 => match takeM st1 ks with | .error e => .error e | .ok st2 => .ok (putM st2 ks)) := by show _ = _; rw [HM.out, hm2]
    have HA2 := hide hA2
    have H1 := hide k1
    clear hok2 herr2 hm2 hA2 k1 HM
    go_wp2_with fail
    refine (take_at (HA2.out.alloc _) hb (kinds_made w2 [127] rfl rfl (by simp)) HA2.out.ne (by simp)).mono ?_
    rintro ee w3 ⟨hok3, herr3, hk3, hlow3⟩
    have hl3 := hl2.lowTrans (((Kept.refl _ _).alloc _).trans hlow3) rfl
    have k3 := hide (hlow3.kinds (Row.alloc H1.out _))
    cases hm3 : takeM st [127] with
    | error qp =>
      obtain ⟨q, p⟩ := qp
      have he := herr3 _ _ hm3
      subst he
      exact ⟨rfl, Ends.err_mk (by rw [HM2.out, hm3]) hk3 hl3⟩
    | ok st3 =>
      obtain ⟨rfl, hA3⟩ := hok3 _ hm3
      have hf := takeM_facts HA.out.tidy.floor hm3
      have hb3 : st3.blocks ≠ [] := by rw [hf.1]; exact hb
      have hs3 : st3.stack.length ≤ 798000 := by omega
      have HM3 : Hid (checkJumpM m 13 y st = match takeM st3 ks with | .error e => .error e | .ok st2 => .ok (putM st2 ks)) := by show _ = _; rw [HM2.out, hm3]
      have HA3 := hide hA3
      clear hok3 herr3 hm3 hA3 hf HM2 H1
      go_wp2_with fail
      refine (take_at HA3.out hb3 k3.out hKb (by omega)).mono ?_
      rintro ee w4 ⟨hok4, herr4, hk4, hlow4⟩
      have hl4 := hl3.lowTrans hlow4 rfl
      have k4 := hide (hlow4.kinds k3.out)
      cases hm4 : takeM st3 ks with
      | error qp =>
        obtain ⟨q, p⟩ := qp
        have he := herr4 _ _ hm4
        subst he
        exact ⟨rfl, Ends.err_mk (by rw [HM3.out, hm4]) hk4 hl4⟩
      | ok st4 =>
        obtain ⟨rfl, hA4⟩ := hok4 _ hm4
        have hf := takeM_facts HA3.out.tidy.floor hm4
        have hs4 : st4.stack.length ≤ 798000 := by omega
        have HM4 : Hid (checkJumpM m 13 y st = .ok (putM st4 ks)) := by show _ = _; rw [HM3.out, hm4]
        have HA4 := hide hA4
        clear hok4 herr4 hm4 hA4 hf HM3
        go_wp2_with fail
        refine (put_at HA4.out k4.out (by omega) (by omega)).mono ?_
        rintro ee w5 ⟨hok5, -, -, hlow5⟩
        obtain ⟨rfl, hA5⟩ := hok5 _ rfl
        have HA5 := hide hA5
        clear hok5 hA5
        go_wp2
        go_end0
        exact Ends.ok_mk HM4.out HA5.out (hl4.lowTrans hlow5 rfl)

set_option maxRecDepth 100000 in
set_option maxHeartbeats 1600000 in
theorem checkJump_return {pg pl : Option Addr} {ng cg nl cl : Nat} (h : At K O w W N bb (.pointer (some ⟨mb, 0, none⟩)) lv st) (hb : st.blocks ≠ []) (a e : Nat) (y : Beh) :
    Calls Tryz.prog 63 #[.pointer (some ⟨bb, 0, none⟩), .agg #[.int .i64 (a : Nat), .int .i64 (e : Nat), .int .u8 15, .bool y.typed, .slice pg ng cg, .int .u32 y.align, .int .u32 y.num.1, .int .i64 (y.num.2 : Nat), .slice pl nl cl, .int .i64 y.val]] W (Ends K O w W (fun k => k < W.heap.size) bb (.pointer (some ⟨mb, 0, none⟩)) lv (checkJumpM m 15 y st)) := by
  have HA := hide h.up
  have hKb : ¬ K bb := fun c => h.body.dis bb h.body.own c
  have hbw := h.body.lt
  have hlen : 0 < st.blocks.length := by
    have : st.blocks.length ≠ 0 := by simpa using hb
    omega
  obtain ⟨sv, bv, hB⟩ := h.body
  have I3 := hB.blk.five.2.2.2.1.1
  obtain ⟨g, cap, tv, gv, rfl, hok, hg, hcap, kt, kg, C0, C1, C2, C3, C4⟩ := blocks_cell hB.bls (k := st.blocks.length - 1) (by omega)
  obtain ⟨pq, cq, rfl⟩ := Row.shape kg
  have e0 : (st.blocks.length - 1 - (st.blocks.length - 1)) * 5 + 2 = 2 := by omega
  rw [e0] at C2
  have HG0 : Hid ((st.blocks.getD (st.blocks.length - 1) Blo.none).gives = st.blocks[st.blocks.length - 1].gives) := by show _ = _; rw [List.getD_eq_getElem?_getD, List.getElem?_eq_getElem (by omega)]; rfl
  have HM : Hid (checkJumpM m 15 y st = match takeM st st.blocks[st.blocks.length - 1].gives with | .error e => .error e | .ok st1 => .ok (cutOffM st1)) := by
    show _ = _
    rw [← HG0.out]
    rfl
  have l1 : st.blocks[st.blocks.length - 1].gives.length ≤ 8 := (h.tidy.short _ (List.getElem_mem _)).2
  have H1 := hide kg
  have hli : (0 : Int) < (st.blocks.length : Int) := by omega
  clear h hB kt kg C0 C1 C3 C4 HG0 e0
  generalize st.blocks[st.blocks.length - 1].gives = ks at *
  go_enter Tryz.func63, Tryz.ntmps63
  go_wp2_with fail
  refine (take_at (HA.out.alloc _) hb (Row.alloc H1.out _) hKb (by omega)).mono ?_
  rintro ee w3 ⟨hok3, herr3, hk3, hlow3⟩
  have hl3 : Kept (fun k => k < W.heap.size ∧ ¬ K k) W w3 := ((Kept.refl _ _).alloc _).trans hlow3
  cases hm3 : takeM st ks with
  | error qp =>
    obtain ⟨q, p⟩ := qp
    have he := herr3 _ _ hm3
    subst he
    exact ⟨rfl, Ends.err_mk (by rw [HM.out, hm3]) hk3 hl3⟩
  | ok st3 =>
    obtain ⟨rfl, hA3⟩ := hok3 _ hm3
    have hf := takeM_facts HA.out.tidy.floor hm3
    have hb3 : st3.blocks ≠ [] := by rw [hf.1]; exact hb
    have HM3 : Hid (checkJumpM m 15 y st = .ok (cutOffM st3)) := by show _ = _; rw [HM.out, hm3]
    have HA3 := hide hA3
    clear hok3 herr3 hm3 hA3 hf HM
    go_wp2_with fail
    refine (cutOff_at HA3.out hb3).mono ?_
    rintro ee w4 ⟨hok4, -, -, hlow4⟩
    obtain ⟨rfl, hA4⟩ := hok4 _ rfl
    have HA4 := hide hA4
    clear hok4 hA4
    go_wp2
    go_end0
    exact Ends.ok_mk HM3.out HA4.out (hl3.lowTrans hlow4 rfl)

theorem At.tabs (h : At K O w W N bb (.pointer (some ⟨mb, 0, none⟩)) lv st) (hm : MV s K W mb m) : W.cell? ⟨bb, 0, none⟩ = some (.pointer (some ⟨mb, 0, none⟩)) ∧ ∃ p c, W.cell? ⟨mb, 2, none⟩ = some (.slice p m.tables.length c) := by
  obtain ⟨sv, bv, hB⟩ := h.body
  obtain ⟨-, f, hM, hH⟩ := hm
  obtain ⟨p, c, hv⟩ := Row.shape hH.h2
  exact ⟨hB.blk.five.1.1, p, c, by rw [← hv]; exact hM.twelve.1.2.2.1.1⟩

set_option maxRecDepth 100000 in
set_option maxHeartbeats 1600000 in
theorem checkJump_indirect {pg pl : Option Addr} {ng cg nl cl : Nat} (h : At K O w W N bb (.pointer (some ⟨mb, 0, none⟩)) lv st) (hb : st.blocks ≠ []) (a e : Nat) (y : Beh) (hx : 0 ≤ y.num.1 ∧ y.num.1 ≤ 4294967295) (hs : st.stack.length ≤ 798000) (hm : MV s K W mb m) (hty : ∀ t, typeAtM m y.num = .ok t → t.ins.length ≤ 8 ∧ t.outs.length ≤ 8) :
    Calls Tryz.prog 63 #[.pointer (some ⟨bb, 0, none⟩), .agg #[.int .i64 (a : Nat), .int .i64 (e : Nat), .int .u8 17, .bool y.typed, .slice pg ng cg, .int .u32 y.align, .int .u32 y.num.1, .int .i64 (y.num.2 : Nat), .slice pl nl cl, .int .i64 y.val]] W (Ends K O w W (fun k => k < W.heap.size) bb (.pointer (some ⟨mb, 0, none⟩)) lv (checkJumpM m 17 y st)) := by
  have HA := hide h.up
  have HMV := hide hm
  have HTY := hide hty
  have hbw := h.body.lt
  have hmw := hm.lt
  obtain ⟨I0, p2, c2, F2⟩ := h.tabs hm
  clear h hm hty
  by_cases hz : m.tables.length = 0
  · have HM : Hid (checkJumpM m 17 y st = .error (3, st.at_)) := by show _ = _; simp [checkJumpM, hz]
    go_enter Tryz.func63, Tryz.ntmps63
    go_wp2_with fail
    refine (need_at (HA.out.alloc _) _).mono ?_
    rintro ee w1 ⟨rfl, he⟩
    rw [if_pos (by first | rfl | exact hz)] at he
    subst he
    exact ⟨rfl, Ends.err_mk HM.out (HA.out.alloc _).kept ((Kept.refl _ _).alloc _)⟩
  have HM : Hid (checkJumpM m 17 y st = match typeAtM m y.num with | .error e => .error e | .ok t => match takeM st [127] with | .error e => .error e | .ok st1 => callM t st1) := by
    show _ = _
    show (if m.tables.length = 0 then _ else _) = _
    rw [if_neg hz] <;> rfl
  go_enter Tryz.func63, Tryz.ntmps63
  go_wp2_with fail
  refine (need_at (HA.out.alloc _) _).mono ?_
  rintro ee w1 ⟨rfl, he⟩
  rw [if_neg hz] at he
  subst he
  go_wp2_with fail
  refine (typeAt_at (HA.out.alloc _) (HMV.out.kept ((Kept.refl (fun _ => False) _).alloc _) (fun _ _ _ c => c)) y.num hx).mono ?_
  rintro ee w2 ⟨hk2, hok2, herr2⟩
  have hA2 := (HA.out.alloc (.cells #[.int .i64 (a : Nat), .int .i64 (e : Nat), .int .u8 17, .bool y.typed, .slice pg ng cg, .int .u32 y.align, .int .u32 y.num.1, .int .i64 (y.num.2 : Nat), .slice pl nl cl, .int .i64 y.val] 100)).quiet hk2
  have hl2 : Kept (fun k => k < W.heap.size ∧ ¬ K k) W w2 := ((Kept.refl _ _).alloc _).trans (hk2.mono (fun _ _ c => c.elim))
  have hWw2 : W.heap.size < w2.heap.size := by have h9 := hk2.size; simp at h9; omega
  cases hm2 : typeAtM m y.num with
  | error qp =>
    obtain ⟨q, p⟩ := qp
    have he := herr2 _ _ hm2
    subst he
    exact ⟨rfl, Ends.err_mk (by rw [HM.out, hm2]) hA2.kept hl2⟩
  | ok t =>
    obtain ⟨v, rfl, vi, vo, rfl, k1, k2⟩ := hok2 _ hm2
    obtain ⟨l1, l2⟩ := HTY.out _ hm2
    obtain ⟨pi, ci, rfl⟩ := Row.shape k1
    obtain ⟨po, co, rfl⟩ := Row.shape k2
    have HM2 : Hid (checkJumpM m 17 y st = match takeM st [127] with | .error e => .error e | .ok st1 => callM t st1) := by show _ = _; rw [HM.out, hm2]
    have HA2 := hide hA2
    have H1 := hide k1
    have H2 := hide k2
    clear hok2 herr2 hm2 hA2 k1 k2 HTY HM I0 F2
    go_wp2_with fail
    refine (take_at ((HA2.out.alloc _).alloc _) hb (kinds_made _ [127] (by simp) rfl (by simp)) (HA2.out.alloc _).ne (by simp)).mono ?_
    rintro ee w3 ⟨hok3, herr3, hk3, hlow3⟩
    have hl3 := ((hl2.alloc _).alloc _).trans hlow3
    have hsz3 := hlow3.size
    cases hm3 : takeM st [127] with
    | error qp =>
      obtain ⟨q, p⟩ := qp
      have he := herr3 _ _ hm3
      subst he
      exact ⟨rfl, Ends.err_mk (by rw [HM2.out, hm3]) hk3 hl3⟩
    | ok st3 =>
      obtain ⟨rfl, hA3⟩ := hok3 _ hm3
      have hf := takeM_facts HA.out.tidy.floor hm3
      have hb3 : st3.blocks ≠ [] := by rw [hf.1]; exact hb
      have hs3 : st3.stack.length ≤ 799000 := by omega
      have HM3 : Hid (checkJumpM m 17 y st = callM t st3) := by show _ = _; rw [HM2.out, hm3]
      have hT := ((Blk.new w2 #[.slice pi t.ins.length ci, .slice po t.outs.length co] 85).alloc (by simp) (.cells #[.int .u8 127] 74)).kept hlow3 (by simp; omega) (fun c => by have := c.1; omega)
      obtain ⟨⟨T0, -⟩, ⟨T1, -⟩⟩ := hT.two
      have k13 := hide (hlow3.kinds (Row.alloc (Row.alloc H1.out _) _))
      have k23 := hide (hlow3.kinds (Row.alloc (Row.alloc H2.out _) _))
      have HA3 := hide hA3
      clear hok3 herr3 hm3 hA3 hf hT H1 H2 HM2
      go_wp2_with fail
      refine (call_at HA3.out hb3 k13.out k23.out l1 l2 hs3).mono ?_
      rintro ee w4 ⟨hok4, herr4, hk4, hlow4⟩
      have hl4 := hl3.lowTrans hlow4 rfl
      cases hm4 : callM t st3 with
      | error qp =>
        obtain ⟨q, p⟩ := qp
        have he := herr4 _ _ hm4
        subst he
        exact ⟨rfl, Ends.err_mk (HM3.out.trans hm4) hk4 hl4⟩
      | ok st4 =>
        obtain ⟨rfl, hA4⟩ := hok4 _ hm4
        have HA4 := hide hA4
        have HE := hide (HM3.out.trans hm4)
        clear hok4 herr4 hm4 hA4 HM3
        go_wp2
        go_end0
        exact Ends.ok_mk HE.out HA4.out hl4

theorem At.fns (h : At K O w W N bb (.pointer (some ⟨mb, 0, none⟩)) lv st) (hm : MV s K W mb m) : W.cell? ⟨bb, 0, none⟩ = some (.pointer (some ⟨mb, 0, none⟩)) ∧ ∃ p c, W.cell? ⟨mb, 1, none⟩ = some (.slice p m.funcs.length c) := by
  obtain ⟨sv, bv, hB⟩ := h.body
  obtain ⟨-, f, hM, hH⟩ := hm
  obtain ⟨p, c, hv⟩ := Row.shape hH.h1
  exact ⟨hB.blk.five.1.1, p, c, by rw [← hv]; exact hM.twelve.1.2.1.1⟩

theorem At.mp (h : At K O w W N bb (.pointer (some ⟨mb, 0, none⟩)) lv st) : W.cell? ⟨bb, 0, none⟩ = some (.pointer (some ⟨mb, 0, none⟩)) := by
  obtain ⟨sv, bv, hB⟩ := h.body
  exact hB.blk.five.1.1

end

end Go.Proofs.YtdfmillbaabpiaaGreat
/-
  A call.
-/
namespace Go.Proofs.YtdfmillbaabpiaaGreat
open Go.RowKit

section
variable {K O N : Nat → Prop} {w W : World} {bb mb : Nat} {lv : Value} {st : Bd} {s : ByteArray} {m : Mdl}

theorem jump16 {y : Beh} : checkJumpM m 16 y st = match thereM y.num m.funcs.length with | .error e => .error e | .ok f => callM (typeOfM m f) st := rfl

set_option maxRecDepth 100000 in
set_option maxHeartbeats 6400000 in
theorem checkJump_callBad {pg pl : Option Addr} {ng cg nl cl : Nat} (h : At K O w W N bb (.pointer (some ⟨mb, 0, none⟩)) lv st) (a e : Nat) (y : Beh) (yn : Int) (ya : Nat) (hy : y.num = (yn, ya)) (h0 : 0 ≤ yn) (h1 : yn ≤ 4294967295) (hm : MV s K W mb m) (hlt : ¬ yn < (m.funcs.length : Int)) :
    Calls Tryz.prog 63 #[.pointer (some ⟨bb, 0, none⟩), .agg #[.int .i64 (a : Nat), .int .i64 (e : Nat), .int .u8 16, .bool y.typed, .slice pg ng cg, .int .u32 y.align, .int .u32 yn, .int .i64 (ya : Nat), .slice pl nl cl, .int .i64 y.val]] W (Ends K O w W (fun k => k < W.heap.size) bb (.pointer (some ⟨mb, 0, none⟩)) lv (checkJumpM m 16 y st)) := by
  have HA := hide h.up
  have hbw := h.body.lt
  have hmw := hm.lt
  obtain ⟨I0, p1, c1, F1⟩ := h.fns hm
  have HM : Hid (checkJumpM m 16 y st = .error (3, ya)) := by
    show _ = _
    rw [jump16, hy]
    simp [thereM, hlt]
  have hHeld : (fun w' : World => w'.cell? ⟨bb, 0, none⟩ = some (.pointer (some ⟨mb, 0, none⟩)) ∧ w'.cell? ⟨mb, 1, none⟩ = some (.slice p1 m.funcs.length c1) ∧ w'.cell? ⟨W.heap.size, 6, none⟩ = some (.int .u32 yn) ∧ w'.cell? ⟨W.heap.size, 7, none⟩ = some (.int .i64 (ya : Nat))) ((W.alloc (.cells #[.int .i64 (a : Nat), .int .i64 (e : Nat), .int .u8 16, .bool y.typed, .slice pg ng cg, .int .u32 y.align, .int .u32 yn, .int .i64 (ya : Nat), .slice pl nl cl, .int .i64 y.val] 100)).drew) := by
    dsimp only
    exact ⟨(((Kept.refl (fun _ => False) W).alloc _).drew.cell hbw (fun c => c)).trans I0, (((Kept.refl (fun _ => False) W).alloc _).drew.cell hmw (fun c => c)).trans F1, by simp, by simp⟩
  have HHeld := hide hHeld
  clear h hm hHeld hy
  go_enter Tryz.func63, Tryz.ntmps63
  go_wp2_with fail
  refine wp_region_held_drew (S := fun w' : World => w'.cell? ⟨bb, 0, none⟩ = some (.pointer (some ⟨mb, 0, none⟩)) ∧ w'.cell? ⟨mb, 1, none⟩ = some (.slice p1 m.funcs.length c1) ∧ w'.cell? ⟨W.heap.size, 6, none⟩ = some (.int .u32 yn) ∧ w'.cell? ⟨W.heap.size, 7, none⟩ = some (.int .i64 (ya : Nat))) (by kernel_rfl) HHeld.out (fun _ => ?_)
  refine wpAnyH_take (i := 0) (v := ?v0) rfl (by kernel_rfl) (by kernel_rfl) (by kernel_rfl) (fun _ _ _ h => h) (Or.inl ⟨by rfl, ?hy0⟩) HHeld.out ?rest0
  case hy0 => (intro w hSw; (try dsimp only at hSw); go_simp; try with_reducible rfl)
  refine wpAnyH_take (i := 1) (v := ?v1) rfl (by kernel_rfl) (by kernel_rfl) (by kernel_rfl) (fun _ _ _ h => h) (Or.inl ⟨by rfl, ?hy1⟩) HHeld.out ?rest1
  case hy1 => (intro w hSw; (try dsimp only at hSw); go_simp; try with_reducible rfl)
  refine wpAnyH_take (i := 2) (v := ?v2) rfl (by kernel_rfl) (by kernel_rfl) (by kernel_rfl) (fun _ _ _ h => h) (Or.inl ⟨by rfl, ?hy2⟩) HHeld.out ?rest2
  case hy2 => (intro w hSw; (try dsimp only at hSw); go_simp; try with_reducible rfl)
  refine wpAnyH_take (i := 3) (v := ?v3) rfl (by kernel_rfl) (by kernel_rfl) (by kernel_rfl) (fun _ _ _ h => h) (Or.inl ⟨by rfl, ?hy3⟩) HHeld.out ?rest3
  case hy3 => (intro w hSw; (try dsimp only at hSw); go_simp; try with_reducible rfl)
  refine wpAnyH_take (i := 4) (v := ?v4) rfl (by kernel_rfl) (by kernel_rfl) (by kernel_rfl) (fun _ _ _ h => h) (Or.inl ⟨by rfl, ?hy4⟩) HHeld.out ?rest4
  case hy4 => (intro w hSw; (try dsimp only at hSw); go_simp; try with_reducible rfl)
  refine wpAnyH_take (i := 5) (v := ?v5) rfl (by kernel_rfl) (by kernel_rfl) (by kernel_rfl) (fun _ _ _ h => h) (Or.inl ⟨by rfl, ?hy5⟩) HHeld.out ?rest5
  case hy5 => (intro w hSw; (try dsimp only at hSw); go_simp; try with_reducible rfl)
  refine wpAnyH_take (i := 6) (v := ?v6) rfl (by kernel_rfl) (by kernel_rfl) (by kernel_rfl) (fun _ _ _ h => h) (Or.inl ⟨by rfl, ?hy6⟩) HHeld.out ?rest6
  case hy6 => (intro w hSw; (try dsimp only at hSw); go_simp; try with_reducible rfl)
  refine wpAnyH_take (i := 7) (v := ?v7) rfl (by kernel_rfl) (by kernel_rfl) (by kernel_rfl) (fun _ _ _ h => h) (Or.inl ⟨by rfl, ?hy7⟩) HHeld.out ?rest7
  case hy7 => (intro w hSw; (try dsimp only at hSw); go_simp; try with_reducible rfl)
  refine wpAnyH_take (i := 8) (v := ?v8) rfl (by kernel_rfl) (by kernel_rfl) (by kernel_rfl) (fun _ _ _ h => h) (Or.inl ⟨by rfl, ?hy8⟩) HHeld.out ?rest8
  case hy8 => (intro w hSw; (try dsimp only at hSw); go_simp; try with_reducible rfl)
  refine wpAnyH_take (i := 9) (v := ?v9) rfl (by kernel_rfl) (by kernel_rfl) (by kernel_rfl) (fun _ _ _ h => h) (Or.inl ⟨by rfl, ?hy9⟩) HHeld.out ?rest9
  case hy9 => (intro w hSw; (try dsimp only at hSw); go_simp; try with_reducible rfl)
  refine wpAnyH_take (i := 10) (v := ?v10) rfl (by kernel_rfl) (by kernel_rfl) (by kernel_rfl) (fun _ _ _ h => h) (Or.inl ⟨by rfl, ?hy10⟩) HHeld.out ?rest10
  case hy10 => (intro w hSw; (try dsimp only at hSw); go_simp; try with_reducible rfl)
  refine wpAnyH_take (i := 11) (v := ?v11) rfl (by kernel_rfl) (by kernel_rfl) (by kernel_rfl) (fun _ _ _ h => h) (Or.inl ⟨by rfl, ?hy11⟩) HHeld.out ?rest11
  case hy11 => (intro w hSw; (try dsimp only at hSw); go_simp; try with_reducible rfl)
  refine wpAnyH_take (i := 12) (v := ?v12) rfl (by kernel_rfl) (by kernel_rfl) (by kernel_rfl) (fun _ _ _ h => h) (Or.inl ⟨by rfl, ?hy12⟩) HHeld.out ?rest12
  case hy12 => (intro w hSw; (try dsimp only at hSw); go_simp; try with_reducible rfl)
  refine wpAnyH_take (i := 13) (v := ?v13) rfl (by kernel_rfl) (by kernel_rfl) (by kernel_rfl) (fun _ _ _ h => h) (Or.inl ⟨by rfl, ?hy13⟩) HHeld.out ?rest13
  case hy13 => (intro w hSw; (try dsimp only at hSw); go_simp; try with_reducible rfl)
  refine wpAnyH_take (i := 14) (v := ?v14) rfl (by kernel_rfl) (by kernel_rfl) (by kernel_rfl) (fun _ _ _ h => h) (Or.inl ⟨by rfl, ?hy14⟩) HHeld.out ?rest14
  case hy14 => (intro w hSw; (try dsimp only at hSw); go_simp; try with_reducible rfl)
  refine wpAnyH_all (rs := [15]) (by kernel_rfl) (by simp) ?_
  intro i hi
  rw [List.mem_singleton] at hi
  subst hi
  refine wpOp_dies (f := 19) (args := #[.agg #[.int .u32 yn, .int .i64 (ya : Nat)], .int .i64 (m.funcs.length : Nat)]) rfl rfl (by kernel_rfl) (there_bad _ (by omega) h0 h1) ?_
  rintro ee w2 ⟨rfl, rfl⟩
  refine ⟨_, rfl, ?_⟩
  exact ⟨rfl, Ends.err_mk HM.out ((((HA.out.alloc _).kept.drew).alloc _)) (((Kept.refl _ _).alloc _).drew.alloc _)⟩

set_option maxRecDepth 100000 in
set_option maxHeartbeats 6400000 in
theorem checkJump_callOk {pg pl : Option Addr} {ng cg nl cl : Nat} (h : At K O w W N bb (.pointer (some ⟨mb, 0, none⟩)) lv st) (hb : st.blocks ≠ []) (a e : Nat) (y : Beh) (f ya : Nat) (hy : y.num = ((f : Int), ya)) (h1 : (f : Int) ≤ 4294967295) (hm : MV s K W mb m) (hlt : (f : Int) < (m.funcs.length : Int)) (hfs : ∀ x ∈ m.funcs, 0 ≤ x.1 ∧ x.1 < (m.types.length : Int)) (hty : (typeOfM m f).ins.length ≤ 8 ∧ (typeOfM m f).outs.length ≤ 8) (hs : st.stack.length ≤ 798000) :
    Calls Tryz.prog 63 #[.pointer (some ⟨bb, 0, none⟩), .agg #[.int .i64 (a : Nat), .int .i64 (e : Nat), .int .u8 16, .bool y.typed, .slice pg ng cg, .int .u32 y.align, .int .u32 (f : Int), .int .i64 (ya : Nat), .slice pl nl cl, .int .i64 y.val]] W (Ends K O w W (fun k => k < W.heap.size) bb (.pointer (some ⟨mb, 0, none⟩)) lv (checkJumpM m 16 y st)) := by
  have HA := hide h.up
  have HMV := hide hm
  have hbw := h.body.lt
  have hmw := hm.lt
  have hmK : K mb := hm.1
  have hfl : f < m.funcs.length := by omega
  have HFS := hide (hfs _ (List.getElem_mem hfl))
  have h0 : (0 : Int) ≤ (f : Int) := by omega
  obtain ⟨I0, p1, c1, F1⟩ := h.fns hm
  have HM : Hid (checkJumpM m 16 y st = callM (typeOfM m f) st) := by
    show _ = _
    rw [jump16, hy]
    simp [thereM, hfl]
  have hHeld : (fun w' : World => w'.cell? ⟨bb, 0, none⟩ = some (.pointer (some ⟨mb, 0, none⟩)) ∧ w'.cell? ⟨mb, 1, none⟩ = some (.slice p1 m.funcs.length c1) ∧ w'.cell? ⟨W.heap.size, 6, none⟩ = some (.int .u32 (f : Int)) ∧ w'.cell? ⟨W.heap.size, 7, none⟩ = some (.int .i64 (ya : Nat))) ((W.alloc (.cells #[.int .i64 (a : Nat), .int .i64 (e : Nat), .int .u8 16, .bool y.typed, .slice pg ng cg, .int .u32 y.align, .int .u32 (f : Int), .int .i64 (ya : Nat), .slice pl nl cl, .int .i64 y.val] 100)).drew) := by
    dsimp only
    exact ⟨(((Kept.refl (fun _ => False) W).alloc _).drew.cell hbw (fun c => c)).trans I0, (((Kept.refl (fun _ => False) W).alloc _).drew.cell hmw (fun c => c)).trans F1, by simp, by simp⟩
  have HHeld := hide hHeld
  clear h hm hHeld hy hfs
  go_enter Tryz.func63, Tryz.ntmps63
  go_wp2_with fail
  refine wp_region_held_drew (S := fun w' : World => w'.cell? ⟨bb, 0, none⟩ = some (.pointer (some ⟨mb, 0, none⟩)) ∧ w'.cell? ⟨mb, 1, none⟩ = some (.slice p1 m.funcs.length c1) ∧ w'.cell? ⟨W.heap.size, 6, none⟩ = some (.int .u32 (f : Int)) ∧ w'.cell? ⟨W.heap.size, 7, none⟩ = some (.int .i64 (ya : Nat))) (by kernel_rfl) HHeld.out (fun _ => ?_)
  refine wpAnyH_take (i := 0) (v := ?vB0) rfl (by kernel_rfl) (by kernel_rfl) (by kernel_rfl) (fun _ _ _ h => h) (Or.inl ⟨by rfl, ?hyB0⟩) HHeld.out ?restB0
  case hyB0 => (intro w hSw; (try dsimp only at hSw); go_simp; try with_reducible rfl)
  refine wpAnyH_take (i := 1) (v := ?vB1) rfl (by kernel_rfl) (by kernel_rfl) (by kernel_rfl) (fun _ _ _ h => h) (Or.inl ⟨by rfl, ?hyB1⟩) HHeld.out ?restB1
  case hyB1 => (intro w hSw; (try dsimp only at hSw); go_simp; try with_reducible rfl)
  refine wpAnyH_take (i := 2) (v := ?vB2) rfl (by kernel_rfl) (by kernel_rfl) (by kernel_rfl) (fun _ _ _ h => h) (Or.inl ⟨by rfl, ?hyB2⟩) HHeld.out ?restB2
  case hyB2 => (intro w hSw; (try dsimp only at hSw); go_simp; try with_reducible rfl)
  refine wpAnyH_take (i := 3) (v := ?vB3) rfl (by kernel_rfl) (by kernel_rfl) (by kernel_rfl) (fun _ _ _ h => h) (Or.inl ⟨by rfl, ?hyB3⟩) HHeld.out ?restB3
  case hyB3 => (intro w hSw; (try dsimp only at hSw); go_simp; try with_reducible rfl)
  refine wpAnyH_take (i := 4) (v := ?vB4) rfl (by kernel_rfl) (by kernel_rfl) (by kernel_rfl) (fun _ _ _ h => h) (Or.inl ⟨by rfl, ?hyB4⟩) HHeld.out ?restB4
  case hyB4 => (intro w hSw; (try dsimp only at hSw); go_simp; try with_reducible rfl)
  refine wpAnyH_take (i := 5) (v := ?vB5) rfl (by kernel_rfl) (by kernel_rfl) (by kernel_rfl) (fun _ _ _ h => h) (Or.inl ⟨by rfl, ?hyB5⟩) HHeld.out ?restB5
  case hyB5 => (intro w hSw; (try dsimp only at hSw); go_simp; try with_reducible rfl)
  refine wpAnyH_take (i := 6) (v := ?vB6) rfl (by kernel_rfl) (by kernel_rfl) (by kernel_rfl) (fun _ _ _ h => h) (Or.inl ⟨by rfl, ?hyB6⟩) HHeld.out ?restB6
  case hyB6 => (intro w hSw; (try dsimp only at hSw); go_simp; try with_reducible rfl)
  refine wpAnyH_take (i := 7) (v := ?vB7) rfl (by kernel_rfl) (by kernel_rfl) (by kernel_rfl) (fun _ _ _ h => h) (Or.inl ⟨by rfl, ?hyB7⟩) HHeld.out ?restB7
  case hyB7 => (intro w hSw; (try dsimp only at hSw); go_simp; try with_reducible rfl)
  refine wpAnyH_take (i := 8) (v := ?vB8) rfl (by kernel_rfl) (by kernel_rfl) (by kernel_rfl) (fun _ _ _ h => h) (Or.inl ⟨by rfl, ?hyB8⟩) HHeld.out ?restB8
  case hyB8 => (intro w hSw; (try dsimp only at hSw); go_simp; try with_reducible rfl)
  refine wpAnyH_take (i := 9) (v := ?vB9) rfl (by kernel_rfl) (by kernel_rfl) (by kernel_rfl) (fun _ _ _ h => h) (Or.inl ⟨by rfl, ?hyB9⟩) HHeld.out ?restB9
  case hyB9 => (intro w hSw; (try dsimp only at hSw); go_simp; try with_reducible rfl)
  refine wpAnyH_take (i := 10) (v := ?vB10) rfl (by kernel_rfl) (by kernel_rfl) (by kernel_rfl) (fun _ _ _ h => h) (Or.inl ⟨by rfl, ?hyB10⟩) HHeld.out ?restB10
  case hyB10 => (intro w hSw; (try dsimp only at hSw); go_simp; try with_reducible rfl)
  refine wpAnyH_take (i := 11) (v := ?vB11) rfl (by kernel_rfl) (by kernel_rfl) (by kernel_rfl) (fun _ _ _ h => h) (Or.inl ⟨by rfl, ?hyB11⟩) HHeld.out ?restB11
  case hyB11 => (intro w hSw; (try dsimp only at hSw); go_simp; try with_reducible rfl)
  refine wpAnyH_take (i := 12) (v := ?vB12) rfl (by kernel_rfl) (by kernel_rfl) (by kernel_rfl) (fun _ _ _ h => h) (Or.inl ⟨by rfl, ?hyB12⟩) HHeld.out ?restB12
  case hyB12 => (intro w hSw; (try dsimp only at hSw); go_simp; try with_reducible rfl)
  refine wpAnyH_take (i := 13) (v := ?vB13) rfl (by kernel_rfl) (by kernel_rfl) (by kernel_rfl) (fun _ _ _ h => h) (Or.inl ⟨by rfl, ?hyB13⟩) HHeld.out ?restB13
  case hyB13 => (intro w hSw; (try dsimp only at hSw); go_simp; try with_reducible rfl)
  refine wpAnyH_take (i := 14) (v := ?vB14) rfl (by kernel_rfl) (by kernel_rfl) (by kernel_rfl) (fun _ _ _ h => h) (Or.inl ⟨by rfl, ?hyB14⟩) HHeld.out ?restB14
  case hyB14 => (intro w hSw; (try dsimp only at hSw); go_simp; try with_reducible rfl)
  refine wpAnyH_all (rs := [15]) (by kernel_rfl) (by simp) ?_
  intro i hi
  rw [List.mem_singleton] at hi
  subst hi
  refine wpOp_calls (f := 19) (args := #[.agg #[.int .u32 (f : Int), .int .i64 (ya : Nat)], .int .i64 (m.funcs.length : Nat)]) rfl rfl (by kernel_rfl) (there_ok _ hlt h0 h1) ?_
  rintro ee w2 ⟨rfl, rfl⟩
  have hA1 := ((HA.out.alloc (.cells #[.int .i64 (a : Nat), .int .i64 (e : Nat), .int .u8 16, .bool y.typed, .slice pg ng cg, .int .u32 y.align, .int .u32 (f : Int), .int .i64 (ya : Nat), .slice pl nl cl, .int .i64 y.val] 100)).drewN 1).alloc (.cells #[.int .u32 (f : Int), .int .i64 (ya : Nat)] 62)
  have HA1 := hide hA1
  have hl1 : Kept (fun _ => False) W (((W.alloc (.cells #[.int .i64 (a : Nat), .int .i64 (e : Nat), .int .u8 16, .bool y.typed, .slice pg ng cg, .int .u32 y.align, .int .u32 (f : Int), .int .i64 (ya : Nat), .slice pl nl cl, .int .i64 y.val] 100)).drew).alloc (.cells #[.int .u32 (f : Int), .int .i64 (ya : Nat)] 62)) := (((Kept.refl _ _).alloc _).drew).alloc _
  have HS1 : Hid ((fun w' : World => w'.cell? ⟨bb, 0, none⟩ = some (.pointer (some ⟨mb, 0, none⟩)) ∧ w'.cell? ⟨mb, 1, none⟩ = some (.slice p1 m.funcs.length c1) ∧ w'.cell? ⟨W.heap.size, 6, none⟩ = some (.int .u32 (f : Int)) ∧ w'.cell? ⟨W.heap.size, 7, none⟩ = some (.int .i64 (ya : Nat))) (((W.alloc (.cells #[.int .i64 (a : Nat), .int .i64 (e : Nat), .int .u8 16, .bool y.typed, .slice pg ng cg, .int .u32 y.align, .int .u32 (f : Int), .int .i64 (ya : Nat), .slice pl nl cl, .int .i64 y.val] 100)).drew).alloc (.cells #[.int .u32 (f : Int), .int .i64 (ya : Nat)] 62))) := by
    obtain ⟨q0, q1, q2, q3⟩ := HHeld.out
    exact ⟨(World.cell?_alloc_lt _ _ _ (by simp; omega)).trans q0, (World.cell?_alloc_lt _ _ _ (by simp; omega)).trans q1, (World.cell?_alloc_lt _ _ _ (by simp)).trans q2, (World.cell?_alloc_lt _ _ _ (by simp)).trans q3⟩
  clear hA1 HHeld
  refine .inl ⟨_, rfl, HS1.out, ?_⟩
  have hWs : W.heap.size < (((W.alloc (.cells #[.int .i64 (a : Nat), .int .i64 (e : Nat), .int .u8 16, .bool y.typed, .slice pg ng cg, .int .u32 y.align, .int .u32 (f : Int), .int .i64 (ya : Nat), .slice pl nl cl, .int .i64 y.val] 100)).drew).alloc (.cells #[.int .u32 (f : Int), .int .i64 (ya : Nat)] 62)).heap.size := by simp; omega
  refine wpAnyH_all (rs := [16]) (by kernel_rfl) (by simp) ?_
  intro i hi
  rw [List.mem_singleton] at hi
  subst hi
  refine wpOp_calls (f := 37) (args := #[(.pointer (some ⟨mb, 0, none⟩)), .int .i64 (f : Nat)]) rfl rfl (by kernel_rfl) (typeOf_any f (HMV.out.kept hl1 (fun _ _ _ c => c)) hfl HFS.out) ?_
  rintro ee w3 ⟨hk3, v, rfl, vi, vo, rfl, k1, k2⟩
  have hA3 := HA1.out.quiet hk3
  have hl3 : Kept (fun k => k < W.heap.size ∧ ¬ K k) W w3 := (hl1.trans hk3).mono (fun _ _ c => c.elim)
  have HS3 : Hid ((fun w' : World => w'.cell? ⟨bb, 0, none⟩ = some (.pointer (some ⟨mb, 0, none⟩)) ∧ w'.cell? ⟨mb, 1, none⟩ = some (.slice p1 m.funcs.length c1) ∧ w'.cell? ⟨W.heap.size, 6, none⟩ = some (.int .u32 (f : Int)) ∧ w'.cell? ⟨W.heap.size, 7, none⟩ = some (.int .i64 (ya : Nat))) w3) := by
    obtain ⟨q0, q1, q2, q3⟩ := HS1.out
    exact ⟨(hk3.cell (p := ⟨bb, 0, none⟩) (Nat.lt_trans hbw hWs) (fun c => c)).trans q0, (hk3.cell (p := ⟨mb, 1, none⟩) (Nat.lt_trans hmw hWs) (fun c => c)).trans q1, (hk3.cell (p := ⟨W.heap.size, 6, none⟩) hWs (fun c => c)).trans q2, (hk3.cell (p := ⟨W.heap.size, 7, none⟩) hWs (fun c => c)).trans q3⟩
  refine .inl ⟨_, rfl, HS3.out, ?_⟩
  refine wpAnyH_all (rs := [17]) (by kernel_rfl) (by simp) ?_
  intro i hi
  rw [List.mem_singleton] at hi
  subst hi
  refine wpOp_calls (f := 88) (args := #[.pointer (some ⟨bb, 0, none⟩), .agg #[vi, vo]]) rfl rfl (by kernel_rfl) (call_at hA3 hb k1 k2 hty.1 hty.2 (by omega)) ?_
  rintro ee w4 ⟨hok4, herr4, hk4, hlow4⟩
  have hl4 := hl3.lowTrans hlow4 rfl
  cases hm4 : callM (typeOfM m f) st with
  | error qp =>
    obtain ⟨q, p⟩ := qp
    have he := herr4 _ _ hm4
    subst he
    exact .inr ⟨_, rfl, rfl, Ends.err_mk (HM.out.trans hm4) hk4 hl4⟩
  | ok st4 =>
    obtain ⟨rfl, hA4⟩ := hok4 _ hm4
    refine .inl ⟨_, rfl, ?_, ?_⟩
    · obtain ⟨q0, q1, q2, q3⟩ := HS3.out
      have hw3 := hk3.size
      have hbx : W.heap.size < w3.heap.size := Nat.lt_of_lt_of_le hWs hw3
      exact ⟨hA4.mp, (hlow4.cell (p := ⟨mb, 1, none⟩) (Nat.lt_trans hmw hbx) (fun c => c.2 hmK)).trans q1, (hlow4.cell (p := ⟨W.heap.size, 6, none⟩) hbx (fun c => Nat.lt_irrefl _ c.1)).trans q2, (hlow4.cell (p := ⟨W.heap.size, 7, none⟩) hbx (fun c => Nat.lt_irrefl _ c.1)).trans q3⟩
    refine wpAnyH_done (by kernel_rfl) ?_ _
    go_end0
    exact Ends.ok_mk (HM.out.trans hm4) hA4 hl4
end

end Go.Proofs.YtdfmillbaabpiaaGreat
/-
  A table of labels: the labels' kinds, one after the other.
-/
namespace Go.Proofs.YtdfmillbaabpiaaGreat
open Go.RowKit

theorem Tryz.info83 : (Tryz.prog.info? 83).map (fun i => (i.zero, i.size, i.bytes)) = some (some (.slice none 0 0), 1, 24) := by kernel_rfl

section
variable {K O N : Nat → Prop} {w W : World} {bb mb : Nat} {lv : Value} {st : Bd} {s : ByteArray} {m : Mdl}

/-- What the call itself made has changed. -/
theorem At.aside {mp : Value} {S : Nat → Prop} {W' : World} (h : At K O w W N bb mp lv st) (hk : Kept S W W') (hs : ∀ k, S k → ¬ N k ∧ ¬ K k ∧ w.heap.size ≤ k) : At K O w W' N bb mp lv st := by
  obtain ⟨sv, bv, hB⟩ := h.body
  refine ⟨h.kept.fresh hk (fun k hk0 c => absurd (hs k c).2.2 (by omega)), ⟨sv, bv, hB.kept hk (fun k _ c => ⟨fun d => (hs k c).1 d.2, (hs k c).2.1⟩)⟩, h.kb, h.dis, h.tidy, h.bls, h.stk⟩

theorem lookFor_at {mp kv : Value} {ok : Nat → Prop} {ks : List Nat} (h : At K O w W N bb mp lv st) (hb : st.blocks ≠ []) (hk : isKinds ok ks W kv) (hok : ¬ ok bb) (hkl : ks.length ≤ 50) :
    Calls Tryz.prog 110 #[.pointer (some ⟨bb, 0, none⟩), kv] W fun e w' => (∀ u, lookForM st ks = .ok u → e = .returned (.tuple #[]) ∧ At K O w w' N bb mp lv st) ∧ (∀ q p, lookForM st ks = .error (q, p) → e = gaveUp q p) ∧ Kept O w w' ∧ Kept (fun k => N k ∧ ¬ K k) W w' := by
  obtain ⟨sv, bv, hB⟩ := h.body
  obtain ⟨ps, cs, rfl⟩ := Row.shape hB.stk
  have hl := h.bls
  have hs := h.stk
  refine (lookFor_any hB hk hok (fun _ => hb) (by omega) h.tidy.floor (by omega) hkl).mono ?_
  rintro e w' ⟨hk', hok', herr⟩
  have hkM : Kept (fun k => More O w k ∧ N k) W w' := hk'.mono (fun k _ (e : k = bb) => e ▸ hB.own)
  refine ⟨fun u hu => ?_, herr, h.keptStep hkM, hkM.mono (fun k _ hh => ⟨hh.2, h.apart k hh.1⟩)⟩
  obtain ⟨v, rfl, rfl, hB'⟩ := hok' _ hu
  exact ⟨rfl, ⟨h.keptStep hkM, ⟨_, _, hB'⟩, h.kb, h.dis, h.tidy, h.bls, h.stk⟩⟩

/-- The kinds of the labels that were looked up, in memory. -/
def isKindss (K : Nat → Prop) (ok : Nat → Prop) (kss : List (List Nat)) (w : World) (v : Value) : Prop :=
  ∃ vs : List Value, Row ok w 83 1 v kss.length vs ∧ Each (fun ks v => isKinds K ks w v) kss vs

theorem isKindss.kept {S ok : Nat → Prop} {kss : List (List Nat)} {W' : World} {v : Value} (h : isKindss K ok kss W v) (hk : Kept S W W') (h1 : ∀ g, g < W.heap.size → ok g → ¬ S g) (h2 : ∀ g, g < W.heap.size → K g → ¬ S g) : isKindss K ok kss W' v := by
  obtain ⟨vs, a, b⟩ := h
  exact ⟨vs, Row.kept a hk h1, b.to (fun _ _ c => Row.kept c hk h2)⟩

theorem labelsGo_bad {x : Int × Nat} {xs : List (Int × Nat)} {acc : List (List Nat)} {k : Nat} {e : Err} (hk : k < xs.length) (hx : xs[k] = x) (h : labelM st x = .error e) : labelsGo st (xs.drop k) acc = .error e := by
  rw [List.drop_eq_getElem_cons hk, hx]
  simp [labelsGo, h]

theorem labelsGo_ok {x : Int × Nat} {xs : List (Int × Nat)} {acc : List (List Nat)} {k : Nat} {ks : List Nat} (hk : k < xs.length) (hx : xs[k] = x) (h : labelM st x = .ok ks) : labelsGo st (xs.drop k) acc = labelsGo st (xs.drop (k + 1)) (acc ++ [ks]) := by
  rw [List.drop_eq_getElem_cons hk, hx]
  simp [labelsGo, h]

theorem lookGo_bad {last : List Nat} {kss : List (List Nat)} {k : Nat} {e : Err} (hk : k < kss.length) (hl : kss[k].length = last.length) (h : lookForM st kss[k] = .error e) : lookGo st last (kss.drop k) = .error e := by
  rw [List.drop_eq_getElem_cons hk]
  unfold lookGo
  rw [if_neg (by simp [hl])]
  unfold lookForM at h
  cases hm : takeM st kss[k] with
  | error e' => rw [hm] at h; cases h; rfl
  | ok u => rw [hm] at h; cases h

theorem lookGo_ok {last : List Nat} {kss : List (List Nat)} {k : Nat} {u : Unit} (hk : k < kss.length) (hl : kss[k].length = last.length) (h : lookForM st kss[k] = .ok u) : lookGo st last (kss.drop k) = lookGo st last (kss.drop (k + 1)) := by
  rw [List.drop_eq_getElem_cons hk]
  conv => lhs; unfold lookGo
  rw [if_neg (by simp [hl])]
  unfold lookForM at h
  cases hm : takeM st kss[k] with
  | error e' => rw [hm] at h; cases h
  | ok u => rfl

theorem lookGo_len {last : List Nat} {kss : List (List Nat)} {k : Nat} (hk : k < kss.length) (hl : kss[k].length ≠ last.length) : lookGo st last (kss.drop k) = .error (4, st.at_) := by
  rw [List.drop_eq_getElem_cons hk]
  unfold lookGo
  rw [if_pos hl]
end

end Go.Proofs.YtdfmillbaabpiaaGreat
/-
  A table of labels.
-/
namespace Go.Proofs.YtdfmillbaabpiaaGreat
open Go.RowKit

theorem isKindss.shape {K ok : Nat → Prop} {kss : List (List Nat)} {W : World} {v : Value} (h : isKindss K ok kss W v) : ∃ p c, v = .slice p kss.length c := by
  obtain ⟨vs, hr, -⟩ := h
  exact Row.shape hr

section
variable {K O N : Nat → Prop} {w W : World} {bb mb : Nat} {lv : Value} {st : Bd} {s : ByteArray} {m : Mdl}

set_option maxRecDepth 100000 in
set_option maxHeartbeats 6400000 in
theorem checkTable_at {pg pl : Option Addr} {ng cg cl : Nat} (h : At K O w W N bb (.pointer (some ⟨mb, 0, none⟩)) lv st) (hb : st.blocks ≠ []) (a e x : Nat) (y : Beh) (hx : 0 ≤ y.num.1 ∧ y.num.1 ≤ 4294967295) (hxs : ∀ z ∈ y.labels, 0 ≤ z.1 ∧ z.1 ≤ 4294967295) (hll : y.labels.length ≤ 20) (hlr : isRow 62 2 numCells K y.labels W (.slice pl y.labels.length cl)) :
    Calls Tryz.prog 87 #[.pointer (some ⟨bb, 0, none⟩), .agg #[.int .i64 (a : Nat), .int .i64 (e : Nat), .int .u8 (x : Nat), .bool y.typed, .slice pg ng cg, .int .u32 y.align, .int .u32 y.num.1, .int .i64 (y.num.2 : Nat), .slice pl y.labels.length cl, .int .i64 y.val]] W (Ends K O w W (fun k => k < W.heap.size) bb (.pointer (some ⟨mb, 0, none⟩)) lv (checkTableM y st)) := by
  obtain ⟨i0, hi0, hz0, hz1, hz2⟩ := info_parts Tryz.info83
  have HA := hide h.up
  have hKb : ¬ K bb := fun c => h.body.dis bb h.body.own c
  have hwW : w.heap.size ≤ W.heap.size := h.kept.size
  have hKw := h.kb
  have H0 : Hid (labelsGo st y.labels [] = labelsGo st (y.labels.drop 0) []) := by show _ = _; simp
  have HX := hide hxs
  clear h hxs
  go_enter Tryz.func87, Tryz.ntmps87
  go_wp2
  go_loopw [4, 13] (fun ov q wr => ∃ (k : Nat) (kss : List (List Nat)), k ≤ y.labels.length ∧ kss.length = k ∧ q = .int .i64 k ∧ At K O w wr (fun k => k < W.heap.size) bb (.pointer (some ⟨mb, 0, none⟩)) lv st ∧ Kept (fun _ => False) (W.alloc (.cells #[.int .i64 (a : Nat), .int .i64 (e : Nat), .int .u8 (x : Nat), .bool y.typed, .slice pg ng cg, .int .u32 y.align, .int .u32 y.num.1, .int .i64 (y.num.2 : Nat), .slice pl y.labels.length cl, .int .i64 y.val] 100)) wr ∧
      isKindss K (fun g => W.heap.size < g) kss wr ov ∧ (∀ ks ∈ kss, ks.length ≤ 8) ∧ labelsGo st y.labels [] = labelsGo st (y.labels.drop k) kss) (fun _ q _ => y.labels.length - (intOf q).toNat)
  case atStart => exact ⟨0, [], Nat.zero_le _, rfl, rfl, HA.out.alloc _, Kept.refl _ _, ⟨[], Row.nil _ _ _ _, trivial⟩, by simp, H0.out⟩
  case round =>
    obtain ⟨k, kss, hk, hkl, rfl, hA1, hkp, hks, hk8, hme⟩ := hrel
    obtain ⟨po, co, rfl⟩ := hks.shape
    have HE := hide hme
    have HA1 := hide hA1
    have HKS := hide hks
    have H8 := hide hk8
    have hbwr : bb < wr.heap.size := hA1.body.lt
    have hrr : isRow 62 2 numCells K y.labels wr (.slice pl y.labels.length cl) := Row.kept (Row.alloc hlr _) hkp (fun _ _ _ c => c)
    have hsz1 := hkp.size
    subst hkl
    clear hme H0 hA1 hks hk8
    by_cases hlt : kss.length < y.labels.length
    · have hlt' : (kss.length : Int) < (y.labels.length : Int) := by omega
      obtain ⟨g, cap, hv, -, hgl, hcap, hcell⟩ := Row.cells hrr (by omega)
      cases hv
      have hxx : y.labels[kss.length]? = some y.labels[kss.length] := List.getElem?_eq_getElem hlt
      have c0 : wr.cell? ⟨g, kss.length * 2, none⟩ = some (.int .u32 y.labels[kss.length].1) := (hcell (kss.length * 2) (by omega)).trans (flat_get (m := 2) (o := 0) (fun _ => rfl) hxx (by omega))
      have c1 : wr.cell? ⟨g, kss.length * 2 + 1, none⟩ = some (.int .i64 (y.labels[kss.length].2 : Nat)) := (hcell (kss.length * 2 + 1) (by omega)).trans (flat_get (m := 2) (o := 1) (fun _ => rfl) hxx (by omega))
      have hz := HX.out _ (List.getElem_mem hlt)
      have HB := hide (fun e he => labelsGo_bad (st := st) (acc := kss) (e := e) hlt rfl he)
      have HO := hide (fun ks he => labelsGo_ok (st := st) (acc := kss) (ks := ks) hlt rfl he)
      clear hcell hrr hxx hlr
      generalize y.labels[kss.length] = z at *
      go_wp2_with fail
      refine (label_at (HA1.out.alloc _) z hz).mono ?_
      rintro ee w2 ⟨hk2, hok2, herr2⟩
      have hA2 := (HA1.out.alloc (.cells #[.int .u32 z.1, .int .i64 (z.2 : Nat)] 62)).quiet hk2
      have hk02 : Kept (fun _ => False) wr w2 := ((Kept.refl _ _).alloc _).trans hk2
      have hlowE : Kept (fun k => k < W.heap.size ∧ ¬ K k) W w2 := (((Kept.refl _ _).alloc _).trans (hkp.mono (fun _ _ c => c.elim))).trans (hk02.mono (fun _ _ c => c.elim))
      cases hm2 : labelM st z with
      | error qp =>
        obtain ⟨q, p⟩ := qp
        have he := herr2 _ _ hm2
        subst he
        exact ⟨rfl, Ends.err_mk (by unfold checkTableM; rw [HE.out, HB.out _ hm2]) hA2.kept hlowE⟩
      | ok ks =>
        obtain ⟨v, rfl, k1⟩ := hok2 _ hm2
        have l1 := HA.out.short hz hm2
        obtain ⟨pk, ck, rfl⟩ := Row.shape k1
        have HN := hide (HE.out.trans (HO.out _ hm2))
        have HKS2 := hide (HKS.out.kept hk02 (fun _ _ _ c => c) (fun _ _ _ c => c))
        have HA2 := hide hA2
        have H1 := hide k1
        clear hok2 herr2 hm2 hA2 k1 HB HO HE c0 c1 HKS
        obtain ⟨vs, hrow, hea⟩ := HKS2.out
        have hrowA := hide (fun o => (Row.alloc hrow o).own)
        have HRow := hide hrow
        have HEA := hide hea
        have hsz2 := hk02.size
        clear hrow hea
        go_wp2_with (at_builtin; refine wpList_append_lies _ rfl _ _ 121 rfl 0 83 i0 (.slice none 0 0) 1 24 Tryz.underlying121 hi0 hz0 hz1 hz2 rfl (by decide) _ _ _ rfl (hrowA.out _) ⟨w2.heap.size, 0, none⟩ 1 1 [_] rfl rfl (cells_at (by simp) rfl) ?c2 (by omega) ?c3 ?c4 (Nat.zero_le _) (w2.heap.size + 1) (by simp) ?_)
        case c2 => intro u hu; simp at hu; subst hu; rfl
        case c3 => unfold maxLen; omega
        case c4 => omega
        intro gg cap3 w3 hown3 hgrow hat hlt3
        have hrowlt : ∀ g, (Value.slice po kss.length co).ownBlock = some g → W.heap.size < g := fun g hg => HRow.out.at_ g hg
        have hG := Kept.of_grown hgrow
        have hA3 := (HA2.out.alloc (.cells #[.slice pk ks.length ck] 83)).aside hG (fun g hg => ⟨fun c => by have := hrowlt g hg; omega, fun c => by have := hrowlt g hg; have := hKw g c; omega, by have := hrowlt g hg; omega⟩)
        have hkp3 := ((hkp.trans hk02).alloc (.cells #[.slice pk ks.length ck] 83)).fresh hG (fun g hg c => by have := hrowlt g c; simp at hg; omega)
        have hKg : ∀ g, K g → ¬ (Value.slice po kss.length co).ownBlock = some g := fun g hg c => by have := hrowlt g c; have := hKw g hg; omega
        have hks3 : isKindss K (fun g => W.heap.size < g) (kss ++ [ks]) w3 (.slice (some ⟨gg, 0, none⟩) (kss.length + 1) cap3) := by
          refine ⟨vs ++ [.slice pk ks.length ck], ⟨by simpa using hown3, fun g hg => ?_⟩, Each.snoc (HEA.out.to (fun _ _ c => Row.kept (Row.alloc c _) hG (fun g _ hg => hKg g hg))) (Row.kept (Row.alloc H1.out _) hG (fun g _ hg => hKg g hg))⟩
          simp [Value.ownBlock] at hg
          subst hg
          rcases hat with hh | hh
          · exact hrowlt _ hh
          · simp at hsz1; omega
        have h83 : ∀ z ∈ kss ++ [ks], z.length ≤ 8 := fun z hz => by
          rcases List.mem_append.1 hz with hh | hh
          · exact H8.out z hh
          · simp at hh; subst hh; exact l1
        have HA3 := hide hA3
        have HK3 := hide hkp3
        have HKS3 := hide hks3
        have H83 := hide h83
        clear hown3 hgrow hat hA3 hkp3 hks3 h83 hG hKg hrowlt HRow HEA hrowA H1 HA2 HKS2
        go_wp2
        go_roundw
        case rel => exact ⟨kss.length + 1, kss ++ [ks], by omega, by simp, by go_num, HA3.out, HK3.out, HKS3.out, H83.out, HN.out⟩
        case measure => simp [intOf]; omega
    · have HD : Hid (labelsGo st y.labels [] = .ok kss) := by
        show _ = _
        rw [HE.out, List.drop_eq_nil_of_le (by omega)]
        rfl
      have hX6 : wr.cell? ⟨W.heap.size, 6, none⟩ = some (.int .u32 y.num.1) := (hkp.cell (p := ⟨W.heap.size, 6, none⟩) (by simp) (fun c => c)).trans (by simp)
      have hX7 : wr.cell? ⟨W.heap.size, 7, none⟩ = some (.int .i64 (y.num.2 : Nat)) := (hkp.cell (p := ⟨W.heap.size, 7, none⟩) (by simp) (fun c => c)).trans (by simp)
      have hkW : Kept (fun k => k < W.heap.size ∧ ¬ K k) W wr := ((Kept.refl _ _).alloc _).trans (hkp.mono (fun _ _ c => c.elim))
      clear hrr hlr HE
      go_wp2_with fail
      refine (label_at HA1.out y.num hx).mono ?_
      rintro ee w2 ⟨hk2, hok2, herr2⟩
      have hA2 := HA1.out.quiet hk2
      have hl2 : Kept (fun k => k < W.heap.size ∧ ¬ K k) W w2 := hkW.trans (hk2.mono (fun _ _ c => c.elim))
      cases hm2 : labelM st y.num with
      | error qp =>
        obtain ⟨q, p⟩ := qp
        have he := herr2 _ _ hm2
        subst he
        exact ⟨rfl, Ends.err_mk (by unfold checkTableM; rw [HD.out]; simp only [hm2]) hA2.kept hl2⟩
      | ok last =>
        obtain ⟨v, rfl, k1⟩ := hok2 _ hm2
        have l1 := HA.out.short hx hm2
        obtain ⟨pk, ck, rfl⟩ := Row.shape k1
        have HKS2 := hide (HKS.out.kept hk2 (fun _ _ _ c => c) (fun _ _ _ c => c))
        have HA2 := hide hA2
        have H1 := hide k1
        have HL := hide hm2
        clear hok2 herr2 hm2 hA2 k1 HKS hX6 hX7
        go_wp2_with fail
        refine (take_at (HA2.out.alloc _) hb (kinds_made w2 [127] rfl rfl (by simp)) HA2.out.ne (by simp)).mono ?_
        rintro ee w3 ⟨hok3, herr3, hk3, hlow3⟩
        have hl3 := hl2.lowTrans (((Kept.refl _ _).alloc _).trans hlow3) rfl
        cases hm3 : takeM st [127] with
        | error qp =>
          obtain ⟨q, p⟩ := qp
          have he := herr3 _ _ hm3
          subst he
          exact ⟨rfl, Ends.err_mk (by unfold checkTableM; rw [HD.out]; simp only [HL.out, hm3]) hk3 hl3⟩
        | ok st3 =>
          obtain ⟨rfl, hA3⟩ := hok3 _ hm3
          have hf := takeM_facts HA.out.tidy.floor hm3
          have hb3 : st3.blocks ≠ [] := by rw [hf.1]; exact hb
          have HN : Hid (checkTableM y st = match lookGo st3 last kss with | .error e => .error e | .ok _ => match takeM st3 last with | .error e => .error e | .ok st2 => .ok (cutOffM st2)) := by
            show _ = _
            unfold checkTableM
            rw [HD.out]
            simp only [HL.out, hm3]
            rfl
          have HKS3 : Hid (isKindss K (fun g => W.heap.size < g ∧ g < w2.heap.size) kss w3 (.slice po kss.length co)) := by
            obtain ⟨vs, hr, hea⟩ := HKS2.out
            have h1 : isKindss K (fun g => W.heap.size < g ∧ g < w2.heap.size) kss w2 (.slice po kss.length co) := ⟨vs, Row.mono hr (fun g hg ho => ⟨ho, hg⟩), hea⟩
            exact (h1.kept ((Kept.refl (fun _ => False) _).alloc _) (fun _ _ _ c => c) (fun _ _ _ c => c)).kept hlow3 (fun g _ hg c => by have := c.1; omega) (fun g _ hg c => c.2 hg)
          have HL3 := hide (hlow3.kinds (Row.alloc H1.out _))
          have HA3 := hide hA3
          have hs3 := hlow3.size
          have hW3 : w2.heap.size < w3.heap.size := by simp at hs3; omega
          have H02 : Hid (lookGo st3 last kss = lookGo st3 last (kss.drop 0)) := by show _ = _; simp
          clear hok3 herr3 hm3 hA3 hf HKS2 H1 HL HD HA2
          go_wp2
          go_loopw [33] (fun q w4 => ∃ k : Nat, k ≤ kss.length ∧ q = .int .i64 k ∧ At K O w w4 (fun k => k < W.heap.size ∨ (w2.heap.size + 1 ≤ k ∧ k < w3.heap.size)) bb (.pointer (some ⟨mb, 0, none⟩)) lv st3 ∧ Kept (fun k => (k < W.heap.size ∨ (w2.heap.size + 1 ≤ k ∧ k < w3.heap.size)) ∧ ¬ K k) w3 w4 ∧ lookGo st3 last kss = lookGo st3 last (kss.drop k)) (fun q _ => kss.length - (intOf q).toNat)
          case atStart => exact ⟨0, Nat.zero_le _, rfl, by simpa using HA3.out, Kept.refl _ _, H02.out⟩
          case round =>
            obtain ⟨k2, hk2l, rfl, hA4, hk4, hme⟩ := hrel
            have HE := hide hme
            have HA4 := hide hA4
            have hks4 := HKS3.out.kept hk4 (fun g _ hg c => by have := c.1; omega) (fun g _ hg c => c.2 hg)
            have hl4 : Kept (fun k => k < W.heap.size ∧ ¬ K k) W _ := hl3.lowTrans hk4 rfl
            have HLast := hide (Row.kept HL3.out hk4 (fun g _ hg c => c.2 hg))
            clear hme hA4
            by_cases hlt2 : k2 < kss.length
            · have hlt2' : (k2 : Int) < (kss.length : Int) := by omega
              obtain ⟨vs, hr, hea⟩ := hks4
              obtain ⟨g, cap, hv, -, hgl, hcap, hcell⟩ := Row.cells hr (by omega)
              cases hv
              obtain ⟨v, hv, hkv⟩ := hea.get (List.getElem?_eq_getElem hlt2)
              obtain ⟨pv, cv, rfl⟩ := Row.shape hkv
              have c0 := (hcell k2 (by omega)).trans hv
              have l2 := H8.out _ (List.getElem_mem hlt2)
              have HKV := hide hkv
              clear hcell hr hea hv hkv
              by_cases hle : kss[k2].length = last.length
              · have tl : ((kss[k2].length : Int) != (last.length : Int)) = false := by rw [hle, bne_self_eq_false]
                have HB := hide (fun e he => lookGo_bad (st := st3) (last := last) (e := e) hlt2 hle he)
                have HO := hide (fun u he => lookGo_ok (st := st3) (last := last) (u := u) hlt2 hle he)
                clear hle
                generalize kss[k2] = ks at *
                go_wp2_with fail
                refine (lookFor_at HA4.out hb3 HKV.out hKb (by omega)).mono ?_
                rintro ee w5 ⟨hok5, herr5, hk5, hlow5⟩
                have hl5 := hl4.lowTrans hlow5 rfl
                cases hm5 : lookForM st3 ks with
                | error qp =>
                  obtain ⟨q, p⟩ := qp
                  have he := herr5 _ _ hm5
                  subst he
                  exact ⟨rfl, Ends.err_mk (by rw [HN.out, HE.out, HB.out _ hm5]) hk5 hl5⟩
                | ok u =>
                  obtain ⟨rfl, hA5⟩ := hok5 _ hm5
                  have HE2 := hide (HE.out.trans (HO.out _ hm5))
                  have HA5 := hide hA5
                  have hk35 := hk4.trans hlow5
                  clear hok5 herr5 hm5 hA5 HB HO HE c0
                  go_wp2
                  go_roundw
                  case rel => exact ⟨k2 + 1, by omega, by go_num, HA5.out, hk35, HE2.out⟩
                  case measure => simp [intOf]; omega
              · have tl : ((kss[k2].length : Int) != (last.length : Int)) = true := by rw [bne_iff_ne]; omega
                have HB : Hid (checkTableM y st = .error (4, st3.at_)) := by show _ = _; rw [HN.out, HE.out, lookGo_len hlt2 hle]
                clear hle
                generalize kss[k2] = ks at *
                go_wp2_with fail
                refine (refuse_at HA4.out).mono ?_
                rintro ee w5 ⟨rfl, rfl⟩
                exact ⟨rfl, Ends.err_mk HB.out HA4.out.kept hl4⟩
            · have HN2 : Hid (checkTableM y st = match takeM st3 last with | .error e => .error e | .ok st2 => .ok (cutOffM st2)) := by
                show _ = _
                rw [HN.out, HE.out, List.drop_eq_nil_of_le (by omega)]
                rfl
              clear hks4 HE HN
              go_wp2_with fail
              refine (take_at HA4.out hb3 HLast.out hKb (by omega)).mono ?_
              rintro ee w5 ⟨hok5, herr5, hk5, hlow5⟩
              have hl5 := hl4.lowTrans hlow5 rfl
              cases hm5 : takeM st3 last with
              | error qp =>
                obtain ⟨q, p⟩ := qp
                have he := herr5 _ _ hm5
                subst he
                exact ⟨rfl, Ends.err_mk (by rw [HN2.out, hm5]) hk5 hl5⟩
              | ok st5 =>
                obtain ⟨rfl, hA5⟩ := hok5 _ hm5
                have hf := takeM_facts HA4.out.tidy.floor hm5
                have hb5 : st5.blocks ≠ [] := by rw [hf.1]; exact hb3
                have HE : Hid (checkTableM y st = .ok (cutOffM st5)) := by show _ = _; rw [HN2.out, hm5]
                have HA5 := hide hA5
                clear hok5 herr5 hm5 hA5 hf HN2
                go_wp2_with fail
                refine (cutOff_at HA5.out hb5).mono ?_
                rintro ee w6 ⟨hok6, -, -, hlow6⟩
                obtain ⟨rfl, hA6⟩ := hok6 _ rfl
                have HA6 := hide hA6
                clear hok6 hA6
                go_wp2
                go_end0
                exact Ends.ok_mk HE.out HA6.out (hl5.lowTrans hlow6 rfl)
end

end Go.Proofs.YtdfmillbaabpiaaGreat
