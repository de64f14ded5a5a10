/-
  Part 21 of the proof: Body23, Body24, Body25, Body26, Pl6, Body27.
-/
import Derived.Test.YtdfmillbaabpiaaGreatPart20
import Derived.Test.YtdfmillbaabpiaaGreatPart18
import Derived.Test.YtdfmillbaabpiaaGreatPart19
import Derived.Deep.AppendLies
import Derived.Lib.AppendZeros
import Derived.Test.YtdfmillbaabpiaaGreatPart07
import Derived.Test.YtdfmillbaabpiaaGreatPart13
/-
  One instruction.
-/
namespace Go.Proofs.YtdfmillbaabpiaaGreat
open Go.RowKit

section
variable {K O N : Nat → Prop} {w W : World} {bb mb : Nat} {lv : Value} {st : Bd} {s : ByteArray} {m : Mdl}

theorem checkBlock_at {pg pl : Option Addr} {cg nl cl : Nat} (h : At K O w W N bb (.pointer (some ⟨mb, 0, none⟩)) lv st) (hb : st.blocks ≠ []) (hm : MV s K W mb m) (a e x : Nat) (y : Beh) (hx : 0 ≤ y.num.1 ∧ y.num.1 ≤ 4294967295) (hg : isKinds K y.gives W (.slice pg y.gives.length cg)) (hs : st.stack.length ≤ 798000) (hbl : st.blocks.length ≤ 54) (h5 : x = 5 → 2 ≤ st.blocks.length) (hty : ∀ t, blockTypeM m y = .ok t → t.ins.length ≤ 8 ∧ t.outs.length ≤ 8) :
    Calls Tryz.prog 62 #[.pointer (some ⟨bb, 0, none⟩), .agg #[.int .i64 (a : Nat), .int .i64 (e : Nat), .int .u8 (x : Nat), .bool y.typed, .slice pg y.gives.length cg, .int .u32 y.align, .int .u32 y.num.1, .int .i64 (y.num.2 : Nat), .slice pl nl cl, .int .i64 y.val]] W (Ends K O w W (fun k => k < W.heap.size) bb (.pointer (some ⟨mb, 0, none⟩)) lv (checkBlockM m x y st)) := by
  by_cases h0 : x = 0
  · subst h0; exact checkBlock_unreachable h hb a e y
  by_cases h23 : x = 2 ∨ x = 3
  · exact checkBlock_open h hb hm a e x y hx hg hs hbl hty h23
  by_cases h4 : x = 4
  · subst h4; exact checkBlock_if h hb hm a e y hx hg hs hbl hty
  by_cases he5 : x = 5
  · subst he5; exact checkBlock_else h hb a e y hs hbl (h5 rfl)
  by_cases h11 : x = 11
  · subst h11; exact checkBlock_end h hb a e y hs
  exact checkBlock_none h a e x y h0 (fun c => h23 (.inl c)) (fun c => h23 (.inr c)) h4 he5 h11

set_option maxRecDepth 100000 in
set_option maxHeartbeats 6400000 in
theorem checkJump_table {pg pl : Option Addr} {ng cg cl : Nat} (h : At K O w W N bb (.pointer (some ⟨mb, 0, none⟩)) lv st) (hb : st.blocks ≠ []) (a e : Nat) (y : Beh) (hx : 0 ≤ y.num.1 ∧ y.num.1 ≤ 4294967295) (hxs : ∀ z ∈ y.labels, 0 ≤ z.1 ∧ z.1 ≤ 4294967295) (hll : y.labels.length ≤ 20) (hlr : isRow 62 2 numCells K y.labels W (.slice pl y.labels.length cl)) :
    Calls Tryz.prog 63 #[.pointer (some ⟨bb, 0, none⟩), .agg #[.int .i64 (a : Nat), .int .i64 (e : Nat), .int .u8 14, .bool y.typed, .slice pg ng cg, .int .u32 y.align, .int .u32 y.num.1, .int .i64 (y.num.2 : Nat), .slice pl y.labels.length cl, .int .i64 y.val]] W (Ends K O w W (fun k => k < W.heap.size) bb (.pointer (some ⟨mb, 0, none⟩)) lv (checkJumpM m 14 y st)) := by
  have HA := hide h.up
  have HX := hide hxs
  have HR := hide hlr
  have HN : Hid (checkJumpM m 14 y st = checkTableM y st) := rfl
  clear h hxs hlr
  have HQ : Hid True := trivial
  · go_enter Tryz.func63, Tryz.ntmps63
    go_wp2_with fail
    refine (checkTable_at (HA.out.alloc _) hb a e 14 y hx HX.out hll (Row.kept HR.out ((Kept.refl (fun _ => False) _).alloc _) (fun _ _ _ c => c))).mono ?_
    rintro ee w2 ⟨hok2, herr2, hk2, hlow2⟩
    have hlow : Kept (fun k => k < W.heap.size ∧ ¬ K k) W w2 := (((Kept.refl _ _).alloc _).trans hlow2).mono (fun k hk c => ⟨hk, c.2⟩)
    cases hm2 : checkTableM y st with
    | error qp =>
      obtain ⟨q, p⟩ := qp
      have he := herr2 _ _ hm2
      subst he
      exact ⟨rfl, Ends.err_mk (HN.out.trans hm2) hk2 hlow⟩
    | ok st2 =>
      obtain ⟨rfl, hA2⟩ := hok2 _ hm2
      have HA2 := hide hA2
      have HE2 := hide (HN.out.trans hm2)
      clear hok2 herr2 hA2 hm2 HN
      go_wp2
      go_end0
      exact Ends.ok_mk HE2.out HA2.out hlow

set_option maxRecDepth 100000 in
set_option maxHeartbeats 6400000 in
theorem checkJump_none {pg pl : Option Addr} {ng cg nl cl : Nat} (h : At K O w W N bb (.pointer (some ⟨mb, 0, none⟩)) lv st) (a e x : Nat) (y : Beh) (h12 : x ≠ 12) (h13 : x ≠ 13) (h14 : x ≠ 14) (h15 : x ≠ 15) (h16 : x ≠ 16) (h17 : x ≠ 17) :
    Calls Tryz.prog 63 #[.pointer (some ⟨bb, 0, none⟩), .agg #[.int .i64 (a : Nat), .int .i64 (e : Nat), .int .u8 (x : Nat), .bool y.typed, .slice pg ng cg, .int .u32 y.align, .int .u32 y.num.1, .int .i64 (y.num.2 : Nat), .slice pl nl cl, .int .i64 y.val]] W (Ends K O w W (fun k => k < W.heap.size) bb (.pointer (some ⟨mb, 0, none⟩)) lv (checkJumpM m x y st)) := by
  have HA := hide h.up
  have HM : Hid (checkJumpM m x y st = .ok st) := by show _ = _; unfold checkJumpM; rw [if_neg h12, if_neg h13, if_neg h14, if_neg h15, if_neg h16, if_neg h17]
  have t12 : ((x : Int) == 12) = false := beq_eq_false_iff_ne.2 (by omega)
  have t13 : ((x : Int) == 13) = false := beq_eq_false_iff_ne.2 (by omega)
  have t14 : ((x : Int) == 14) = false := beq_eq_false_iff_ne.2 (by omega)
  have t15 : ((x : Int) == 15) = false := beq_eq_false_iff_ne.2 (by omega)
  have t16 : ((x : Int) == 16) = false := beq_eq_false_iff_ne.2 (by omega)
  have t17 : ((x : Int) == 17) = false := beq_eq_false_iff_ne.2 (by omega)
  clear h h12 h13 h14 h15 h16 h17
  go_enter Tryz.func63, Tryz.ntmps63
  go_wp2
  go_end0
  exact Ends.ok_mk HM.out (HA.out.alloc _) ((Kept.refl _ _).alloc _)

theorem checkJump_at {pg pl : Option Addr} {ng cg cl : Nat} (h : At K O w W N bb (.pointer (some ⟨mb, 0, none⟩)) lv st) (hb : st.blocks ≠ []) (hm : MV s K W mb m) (a e x : Nat) (y : Beh) (hx : 0 ≤ y.num.1 ∧ y.num.1 ≤ 4294967295) (hxs : ∀ z ∈ y.labels, 0 ≤ z.1 ∧ z.1 ≤ 4294967295) (hll : y.labels.length ≤ 20) (hlr : isRow 62 2 numCells K y.labels W (.slice pl y.labels.length cl)) (hs : st.stack.length ≤ 798000) (hfs : ∀ x ∈ m.funcs, 0 ≤ x.1 ∧ x.1 < (m.types.length : Int)) (hty : ∀ t, typeAtM m y.num = .ok t → t.ins.length ≤ 8 ∧ t.outs.length ≤ 8) (hto : ∀ f, (typeOfM m f).ins.length ≤ 8 ∧ (typeOfM m f).outs.length ≤ 8) :
    Calls Tryz.prog 63 #[.pointer (some ⟨bb, 0, none⟩), .agg #[.int .i64 (a : Nat), .int .i64 (e : Nat), .int .u8 (x : Nat), .bool y.typed, .slice pg ng cg, .int .u32 y.align, .int .u32 y.num.1, .int .i64 (y.num.2 : Nat), .slice pl y.labels.length cl, .int .i64 y.val]] W (Ends K O w W (fun k => k < W.heap.size) bb (.pointer (some ⟨mb, 0, none⟩)) lv (checkJumpM m x y st)) := by
  by_cases h12 : x = 12
  · subst h12; exact checkJump_br h hb a e y hx
  by_cases h13 : x = 13
  · subst h13; exact checkJump_brIf h hb a e y hx hs
  by_cases h14 : x = 14
  · subst h14; exact checkJump_table h hb a e y hx hxs hll hlr
  by_cases h15 : x = 15
  · subst h15; exact checkJump_return h hb a e y
  by_cases h16 : x = 16
  · subst h16
    by_cases hlt : y.num.1 < (m.funcs.length : Int)
    · obtain ⟨f, hf⟩ : ∃ f : Nat, y.num.1 = (f : Int) := ⟨y.num.1.toNat, by omega⟩
      have := checkJump_callOk (pg := pg) (pl := pl) (ng := ng) (cg := cg) (nl := y.labels.length) (cl := cl) h hb a e y f y.num.2 (by rw [← hf]) (by omega) hm (by omega) hfs (hto f) hs
      rw [hf]
      exact this
    · exact checkJump_callBad h a e y y.num.1 y.num.2 rfl hx.1 hx.2 hm hlt
  by_cases h17 : x = 17
  · subst h17; exact checkJump_indirect h hb a e y hx hs hm hty
  exact checkJump_none h a e x y h12 h13 h14 h15 h16 h17

set_option maxRecDepth 100000 in
set_option maxHeartbeats 6400000 in
theorem check_block {p0 : Option Addr} {c0 : Nat} {ls : List Nat} {pg pl : Option Addr} {cg cl : Nat} (h : At K O w W N bb (.pointer (some ⟨mb, 0, none⟩)) (.slice p0 ls.length c0) st) (hb : st.blocks ≠ []) (hm : MV s K W mb m) (hls : isKinds K ls W (.slice p0 ls.length c0)) (a e x : Nat) (y : Beh) (hx : 0 ≤ y.num.1 ∧ y.num.1 ≤ 4294967295) (hxs : ∀ z ∈ y.labels, 0 ≤ z.1 ∧ z.1 ≤ 4294967295) (hll : y.labels.length ≤ 20) (hlr : isRow 62 2 numCells K y.labels W (.slice pl y.labels.length cl)) (hg : isKinds K y.gives W (.slice pg y.gives.length cg)) (hs : st.stack.length ≤ 798000) (hbl : st.blocks.length ≤ 54) (h5 : x = 5 → 2 ≤ st.blocks.length) (hfs : ∀ x ∈ m.funcs, 0 ≤ x.1 ∧ x.1 < (m.types.length : Int)) (htb : ∀ t, blockTypeM m y = .ok t → t.ins.length ≤ 8 ∧ t.outs.length ≤ 8) (hty : ∀ t, typeAtM m y.num = .ok t → t.ins.length ≤ 8 ∧ t.outs.length ≤ 8) (hto : ∀ f, (typeOfM m f).ins.length ≤ 8 ∧ (typeOfM m f).outs.length ≤ 8) (hc : x ≤ 11) :
    Calls Tryz.prog 40 #[.pointer (some ⟨bb, 0, none⟩), .agg #[.int .i64 (a : Nat), .int .i64 (e : Nat), .int .u8 (x : Nat), .bool y.typed, .slice pg y.gives.length cg, .int .u32 y.align, .int .u32 y.num.1, .int .i64 (y.num.2 : Nat), .slice pl y.labels.length cl, .int .i64 y.val]] W (Ends K O w W (fun k => k < W.heap.size) bb (.pointer (some ⟨mb, 0, none⟩)) (.slice p0 ls.length c0) (checkM m ls x y st)) := by
  have HA := hide h.up
  have hbw := h.body.lt
  have K0 : ∀ o, Kept (fun _ => False) W (W.alloc o) := fun o => (Kept.refl (fun _ => False) _).alloc o
  have HMV : Hid ((MV s K (W.alloc (.cells #[.int .i64 (a : Nat), .int .i64 (e : Nat), .int .u8 (x : Nat), .bool y.typed, .slice pg y.gives.length cg, .int .u32 y.align, .int .u32 y.num.1, .int .i64 (y.num.2 : Nat), .slice pl y.labels.length cl, .int .i64 y.val] 100)) mb m) ∧ True) := ⟨hm.kept (K0 _) (fun _ _ _ c => c), trivial⟩
  have HLS : Hid (isKinds K ls (W.alloc (.cells #[.int .i64 (a : Nat), .int .i64 (e : Nat), .int .u8 (x : Nat), .bool y.typed, .slice pg y.gives.length cg, .int .u32 y.align, .int .u32 y.num.1, .int .i64 (y.num.2 : Nat), .slice pl y.labels.length cl, .int .i64 y.val] 100)) (.slice p0 ls.length c0)) := Row.kept hls (K0 _) (fun _ _ _ c => c)
  have HG : Hid (isKinds K y.gives (W.alloc (.cells #[.int .i64 (a : Nat), .int .i64 (e : Nat), .int .u8 (x : Nat), .bool y.typed, .slice pg y.gives.length cg, .int .u32 y.align, .int .u32 y.num.1, .int .i64 (y.num.2 : Nat), .slice pl y.labels.length cl, .int .i64 y.val] 100)) (.slice pg y.gives.length cg)) := Row.kept hg (K0 _) (fun _ _ _ c => c)
  have HR : Hid (isRow 62 2 numCells K y.labels (W.alloc (.cells #[.int .i64 (a : Nat), .int .i64 (e : Nat), .int .u8 (x : Nat), .bool y.typed, .slice pg y.gives.length cg, .int .u32 y.align, .int .u32 y.num.1, .int .i64 (y.num.2 : Nat), .slice pl y.labels.length cl, .int .i64 y.val] 100)) (.slice pl y.labels.length cl)) := Row.kept hlr (K0 _) (fun _ _ _ c => c)
  have HU := And.intro hx (And.intro hll hbl)
  clear HU
  have HX := hide hxs
  have H5 := hide h5
  have HFS := hide hfs
  have HTB := hide htb
  have HTY := hide hty
  have HTO := hide hto
  have HN : Hid (checkM m ls x y st = checkBlockM m x y st) := by show _ = _; unfold checkM; rw [if_pos hc]
  have t0 : (x : Int) ≤ 11 := by omega
  clear h hm hls hxs hlr hg h5 hfs htb hty hto K0 hc
  · go_enter Tryz.func40, Tryz.ntmps40
    go_wp2_with fail
    refine (checkBlock_at (HA.out.alloc _) hb HMV.out.1 a e x y hx HG.out hs hbl H5.out HTB.out).mono ?_
    rintro ee w2 ⟨hok2, herr2, hk2, hlow2⟩
    have hlow : Kept (fun k => k < W.heap.size ∧ ¬ K k) W w2 := (((Kept.refl _ _).alloc _).trans hlow2).mono (fun k hk c => ⟨hk, c.2⟩)
    cases hm2 : checkBlockM m x y st with
    | error qp =>
      obtain ⟨q, p⟩ := qp
      have he := herr2 _ _ hm2
      subst he
      exact ⟨rfl, Ends.err_mk (HN.out.trans hm2) hk2 hlow⟩
    | ok st2 =>
      obtain ⟨rfl, hA2⟩ := hok2 _ hm2
      have HA2 := hide hA2
      have HE2 := hide (HN.out.trans hm2)
      clear hok2 herr2 hA2 hm2 HN
      go_wp2
      go_end0
      exact Ends.ok_mk HE2.out HA2.out hlow

set_option maxRecDepth 100000 in
set_option maxHeartbeats 6400000 in
theorem check_jump {p0 : Option Addr} {c0 : Nat} {ls : List Nat} {pg pl : Option Addr} {cg cl : Nat} (h : At K O w W N bb (.pointer (some ⟨mb, 0, none⟩)) (.slice p0 ls.length c0) st) (hb : st.blocks ≠ []) (hm : MV s K W mb m) (hls : isKinds K ls W (.slice p0 ls.length c0)) (a e x : Nat) (y : Beh) (hx : 0 ≤ y.num.1 ∧ y.num.1 ≤ 4294967295) (hxs : ∀ z ∈ y.labels, 0 ≤ z.1 ∧ z.1 ≤ 4294967295) (hll : y.labels.length ≤ 20) (hlr : isRow 62 2 numCells K y.labels W (.slice pl y.labels.length cl)) (hg : isKinds K y.gives W (.slice pg y.gives.length cg)) (hs : st.stack.length ≤ 798000) (hbl : st.blocks.length ≤ 54) (h5 : x = 5 → 2 ≤ st.blocks.length) (hfs : ∀ x ∈ m.funcs, 0 ≤ x.1 ∧ x.1 < (m.types.length : Int)) (htb : ∀ t, blockTypeM m y = .ok t → t.ins.length ≤ 8 ∧ t.outs.length ≤ 8) (hty : ∀ t, typeAtM m y.num = .ok t → t.ins.length ≤ 8 ∧ t.outs.length ≤ 8) (hto : ∀ f, (typeOfM m f).ins.length ≤ 8 ∧ (typeOfM m f).outs.length ≤ 8) (h1 : ¬ x ≤ 11) (hc : x ≤ 17) :
    Calls Tryz.prog 40 #[.pointer (some ⟨bb, 0, none⟩), .agg #[.int .i64 (a : Nat), .int .i64 (e : Nat), .int .u8 (x : Nat), .bool y.typed, .slice pg y.gives.length cg, .int .u32 y.align, .int .u32 y.num.1, .int .i64 (y.num.2 : Nat), .slice pl y.labels.length cl, .int .i64 y.val]] W (Ends K O w W (fun k => k < W.heap.size) bb (.pointer (some ⟨mb, 0, none⟩)) (.slice p0 ls.length c0) (checkM m ls x y st)) := by
  have HA := hide h.up
  have hbw := h.body.lt
  have K0 : ∀ o, Kept (fun _ => False) W (W.alloc o) := fun o => (Kept.refl (fun _ => False) _).alloc o
  have HMV : Hid ((MV s K (W.alloc (.cells #[.int .i64 (a : Nat), .int .i64 (e : Nat), .int .u8 (x : Nat), .bool y.typed, .slice pg y.gives.length cg, .int .u32 y.align, .int .u32 y.num.1, .int .i64 (y.num.2 : Nat), .slice pl y.labels.length cl, .int .i64 y.val] 100)) mb m) ∧ True) := ⟨hm.kept (K0 _) (fun _ _ _ c => c), trivial⟩
  have HLS : Hid (isKinds K ls (W.alloc (.cells #[.int .i64 (a : Nat), .int .i64 (e : Nat), .int .u8 (x : Nat), .bool y.typed, .slice pg y.gives.length cg, .int .u32 y.align, .int .u32 y.num.1, .int .i64 (y.num.2 : Nat), .slice pl y.labels.length cl, .int .i64 y.val] 100)) (.slice p0 ls.length c0)) := Row.kept hls (K0 _) (fun _ _ _ c => c)
  have HG : Hid (isKinds K y.gives (W.alloc (.cells #[.int .i64 (a : Nat), .int .i64 (e : Nat), .int .u8 (x : Nat), .bool y.typed, .slice pg y.gives.length cg, .int .u32 y.align, .int .u32 y.num.1, .int .i64 (y.num.2 : Nat), .slice pl y.labels.length cl, .int .i64 y.val] 100)) (.slice pg y.gives.length cg)) := Row.kept hg (K0 _) (fun _ _ _ c => c)
  have HR : Hid (isRow 62 2 numCells K y.labels (W.alloc (.cells #[.int .i64 (a : Nat), .int .i64 (e : Nat), .int .u8 (x : Nat), .bool y.typed, .slice pg y.gives.length cg, .int .u32 y.align, .int .u32 y.num.1, .int .i64 (y.num.2 : Nat), .slice pl y.labels.length cl, .int .i64 y.val] 100)) (.slice pl y.labels.length cl)) := Row.kept hlr (K0 _) (fun _ _ _ c => c)
  have HU := And.intro hx (And.intro hll hbl)
  clear HU
  have HX := hide hxs
  have H5 := hide h5
  have HFS := hide hfs
  have HTB := hide htb
  have HTY := hide hty
  have HTO := hide hto
  have HN : Hid (checkM m ls x y st = checkJumpM m x y st) := by show _ = _; unfold checkM; rw [if_neg h1, if_pos hc]
  have t0 : ¬ (x : Int) ≤ 11 := by omega
  have t1 : (x : Int) ≤ 17 := by omega
  clear h hm hls hxs hlr hg h5 hfs htb hty hto K0 h1 hc
  · go_enter Tryz.func40, Tryz.ntmps40
    go_wp2_with fail
    refine (checkJump_at (HA.out.alloc _) hb HMV.out.1 a e x y hx HX.out hll HR.out hs HFS.out HTY.out HTO.out).mono ?_
    rintro ee w2 ⟨hok2, herr2, hk2, hlow2⟩
    have hlow : Kept (fun k => k < W.heap.size ∧ ¬ K k) W w2 := (((Kept.refl _ _).alloc _).trans hlow2).mono (fun k hk c => ⟨hk, c.2⟩)
    cases hm2 : checkJumpM m x y st with
    | error qp =>
      obtain ⟨q, p⟩ := qp
      have he := herr2 _ _ hm2
      subst he
      exact ⟨rfl, Ends.err_mk (HN.out.trans hm2) hk2 hlow⟩
    | ok st2 =>
      obtain ⟨rfl, hA2⟩ := hok2 _ hm2
      have HA2 := hide hA2
      have HE2 := hide (HN.out.trans hm2)
      clear hok2 herr2 hA2 hm2 HN
      go_wp2
      go_end0
      exact Ends.ok_mk HE2.out HA2.out hlow

set_option maxRecDepth 100000 in
set_option maxHeartbeats 6400000 in
theorem check_variable {p0 : Option Addr} {c0 : Nat} {ls : List Nat} {pg pl : Option Addr} {cg cl : Nat} (h : At K O w W N bb (.pointer (some ⟨mb, 0, none⟩)) (.slice p0 ls.length c0) st) (hb : st.blocks ≠ []) (hm : MV s K W mb m) (hls : isKinds K ls W (.slice p0 ls.length c0)) (a e x : Nat) (y : Beh) (hx : 0 ≤ y.num.1 ∧ y.num.1 ≤ 4294967295) (hxs : ∀ z ∈ y.labels, 0 ≤ z.1 ∧ z.1 ≤ 4294967295) (hll : y.labels.length ≤ 20) (hlr : isRow 62 2 numCells K y.labels W (.slice pl y.labels.length cl)) (hg : isKinds K y.gives W (.slice pg y.gives.length cg)) (hs : st.stack.length ≤ 798000) (hbl : st.blocks.length ≤ 54) (h5 : x = 5 → 2 ≤ st.blocks.length) (hfs : ∀ x ∈ m.funcs, 0 ≤ x.1 ∧ x.1 < (m.types.length : Int)) (htb : ∀ t, blockTypeM m y = .ok t → t.ins.length ≤ 8 ∧ t.outs.length ≤ 8) (hty : ∀ t, typeAtM m y.num = .ok t → t.ins.length ≤ 8 ∧ t.outs.length ≤ 8) (hto : ∀ f, (typeOfM m f).ins.length ≤ 8 ∧ (typeOfM m f).outs.length ≤ 8) (h1 : ¬ x ≤ 11) (h2 : ¬ x ≤ 17) (hc : x ≤ 36) :
    Calls Tryz.prog 40 #[.pointer (some ⟨bb, 0, none⟩), .agg #[.int .i64 (a : Nat), .int .i64 (e : Nat), .int .u8 (x : Nat), .bool y.typed, .slice pg y.gives.length cg, .int .u32 y.align, .int .u32 y.num.1, .int .i64 (y.num.2 : Nat), .slice pl y.labels.length cl, .int .i64 y.val]] W (Ends K O w W (fun k => k < W.heap.size) bb (.pointer (some ⟨mb, 0, none⟩)) (.slice p0 ls.length c0) (checkM m ls x y st)) := by
  have HA := hide h.up
  have hbw := h.body.lt
  have K0 : ∀ o, Kept (fun _ => False) W (W.alloc o) := fun o => (Kept.refl (fun _ => False) _).alloc o
  have HMV : Hid ((MV s K (W.alloc (.cells #[.int .i64 (a : Nat), .int .i64 (e : Nat), .int .u8 (x : Nat), .bool y.typed, .slice pg y.gives.length cg, .int .u32 y.align, .int .u32 y.num.1, .int .i64 (y.num.2 : Nat), .slice pl y.labels.length cl, .int .i64 y.val] 100)) mb m) ∧ True) := ⟨hm.kept (K0 _) (fun _ _ _ c => c), trivial⟩
  have HLS : Hid (isKinds K ls (W.alloc (.cells #[.int .i64 (a : Nat), .int .i64 (e : Nat), .int .u8 (x : Nat), .bool y.typed, .slice pg y.gives.length cg, .int .u32 y.align, .int .u32 y.num.1, .int .i64 (y.num.2 : Nat), .slice pl y.labels.length cl, .int .i64 y.val] 100)) (.slice p0 ls.length c0)) := Row.kept hls (K0 _) (fun _ _ _ c => c)
  have HG : Hid (isKinds K y.gives (W.alloc (.cells #[.int .i64 (a : Nat), .int .i64 (e : Nat), .int .u8 (x : Nat), .bool y.typed, .slice pg y.gives.length cg, .int .u32 y.align, .int .u32 y.num.1, .int .i64 (y.num.2 : Nat), .slice pl y.labels.length cl, .int .i64 y.val] 100)) (.slice pg y.gives.length cg)) := Row.kept hg (K0 _) (fun _ _ _ c => c)
  have HR : Hid (isRow 62 2 numCells K y.labels (W.alloc (.cells #[.int .i64 (a : Nat), .int .i64 (e : Nat), .int .u8 (x : Nat), .bool y.typed, .slice pg y.gives.length cg, .int .u32 y.align, .int .u32 y.num.1, .int .i64 (y.num.2 : Nat), .slice pl y.labels.length cl, .int .i64 y.val] 100)) (.slice pl y.labels.length cl)) := Row.kept hlr (K0 _) (fun _ _ _ c => c)
  have HU := And.intro hx (And.intro hll hbl)
  clear HU
  have HX := hide hxs
  have H5 := hide h5
  have HFS := hide hfs
  have HTB := hide htb
  have HTY := hide hty
  have HTO := hide hto
  have HN : Hid (checkM m ls x y st = checkVariableM m ls x y st) := by show _ = _; unfold checkM; rw [if_neg h1, if_neg h2, if_pos hc]
  have t0 : ¬ (x : Int) ≤ 11 := by omega
  have t1 : ¬ (x : Int) ≤ 17 := by omega
  have t2 : (x : Int) ≤ 36 := by omega
  clear h hm hls hxs hlr hg h5 hfs htb hty hto K0 h1 h2 hc
  · go_enter Tryz.func40, Tryz.ntmps40
    go_wp2_with fail
    refine (checkVariable_at (HA.out.alloc _) hb HMV.out.1 HLS.out a e x y pg pl _ cg _ cl hx (by omega)).mono ?_
    rintro ee w2 ⟨hok2, herr2, hk2, hlow2⟩
    have hlow : Kept (fun k => k < W.heap.size ∧ ¬ K k) W w2 := (((Kept.refl _ _).alloc _).trans hlow2).mono (fun k hk c => ⟨hk, c.2⟩)
    cases hm2 : checkVariableM m ls x y st with
    | error qp =>
      obtain ⟨q, p⟩ := qp
      have he := herr2 _ _ hm2
      subst he
      exact ⟨rfl, Ends.err_mk (HN.out.trans hm2) hk2 hlow⟩
    | ok st2 =>
      obtain ⟨rfl, hA2⟩ := hok2 _ hm2
      have HA2 := hide hA2
      have HE2 := hide (HN.out.trans hm2)
      clear hok2 herr2 hA2 hm2 HN
      go_wp2
      go_end0
      exact Ends.ok_mk HE2.out HA2.out hlow

set_option maxRecDepth 100000 in
set_option maxHeartbeats 6400000 in
theorem check_memory {p0 : Option Addr} {c0 : Nat} {ls : List Nat} {pg pl : Option Addr} {cg cl : Nat} (h : At K O w W N bb (.pointer (some ⟨mb, 0, none⟩)) (.slice p0 ls.length c0) st) (hb : st.blocks ≠ []) (hm : MV s K W mb m) (hls : isKinds K ls W (.slice p0 ls.length c0)) (a e x : Nat) (y : Beh) (hx : 0 ≤ y.num.1 ∧ y.num.1 ≤ 4294967295) (hxs : ∀ z ∈ y.labels, 0 ≤ z.1 ∧ z.1 ≤ 4294967295) (hll : y.labels.length ≤ 20) (hlr : isRow 62 2 numCells K y.labels W (.slice pl y.labels.length cl)) (hg : isKinds K y.gives W (.slice pg y.gives.length cg)) (hs : st.stack.length ≤ 798000) (hbl : st.blocks.length ≤ 54) (h5 : x = 5 → 2 ≤ st.blocks.length) (hfs : ∀ x ∈ m.funcs, 0 ≤ x.1 ∧ x.1 < (m.types.length : Int)) (htb : ∀ t, blockTypeM m y = .ok t → t.ins.length ≤ 8 ∧ t.outs.length ≤ 8) (hty : ∀ t, typeAtM m y.num = .ok t → t.ins.length ≤ 8 ∧ t.outs.length ≤ 8) (hto : ∀ f, (typeOfM m f).ins.length ≤ 8 ∧ (typeOfM m f).outs.length ≤ 8) (h1 : ¬ x ≤ 11) (h2 : ¬ x ≤ 17) (h3 : ¬ x ≤ 36) (hc : x ≤ 64) :
    Calls Tryz.prog 40 #[.pointer (some ⟨bb, 0, none⟩), .agg #[.int .i64 (a : Nat), .int .i64 (e : Nat), .int .u8 (x : Nat), .bool y.typed, .slice pg y.gives.length cg, .int .u32 y.align, .int .u32 y.num.1, .int .i64 (y.num.2 : Nat), .slice pl y.labels.length cl, .int .i64 y.val]] W (Ends K O w W (fun k => k < W.heap.size) bb (.pointer (some ⟨mb, 0, none⟩)) (.slice p0 ls.length c0) (checkM m ls x y st)) := by
  have HA := hide h.up
  have hbw := h.body.lt
  have K0 : ∀ o, Kept (fun _ => False) W (W.alloc o) := fun o => (Kept.refl (fun _ => False) _).alloc o
  have HMV : Hid ((MV s K (W.alloc (.cells #[.int .i64 (a : Nat), .int .i64 (e : Nat), .int .u8 (x : Nat), .bool y.typed, .slice pg y.gives.length cg, .int .u32 y.align, .int .u32 y.num.1, .int .i64 (y.num.2 : Nat), .slice pl y.labels.length cl, .int .i64 y.val] 100)) mb m) ∧ True) := ⟨hm.kept (K0 _) (fun _ _ _ c => c), trivial⟩
  have HLS : Hid (isKinds K ls (W.alloc (.cells #[.int .i64 (a : Nat), .int .i64 (e : Nat), .int .u8 (x : Nat), .bool y.typed, .slice pg y.gives.length cg, .int .u32 y.align, .int .u32 y.num.1, .int .i64 (y.num.2 : Nat), .slice pl y.labels.length cl, .int .i64 y.val] 100)) (.slice p0 ls.length c0)) := Row.kept hls (K0 _) (fun _ _ _ c => c)
  have HG : Hid (isKinds K y.gives (W.alloc (.cells #[.int .i64 (a : Nat), .int .i64 (e : Nat), .int .u8 (x : Nat), .bool y.typed, .slice pg y.gives.length cg, .int .u32 y.align, .int .u32 y.num.1, .int .i64 (y.num.2 : Nat), .slice pl y.labels.length cl, .int .i64 y.val] 100)) (.slice pg y.gives.length cg)) := Row.kept hg (K0 _) (fun _ _ _ c => c)
  have HR : Hid (isRow 62 2 numCells K y.labels (W.alloc (.cells #[.int .i64 (a : Nat), .int .i64 (e : Nat), .int .u8 (x : Nat), .bool y.typed, .slice pg y.gives.length cg, .int .u32 y.align, .int .u32 y.num.1, .int .i64 (y.num.2 : Nat), .slice pl y.labels.length cl, .int .i64 y.val] 100)) (.slice pl y.labels.length cl)) := Row.kept hlr (K0 _) (fun _ _ _ c => c)
  have HU := And.intro hx (And.intro hll hbl)
  clear HU
  have HX := hide hxs
  have H5 := hide h5
  have HFS := hide hfs
  have HTB := hide htb
  have HTY := hide hty
  have HTO := hide hto
  have HN : Hid (checkM m ls x y st = checkMemoryM m x y st) := by show _ = _; unfold checkM; rw [if_neg h1, if_neg h2, if_neg h3, if_pos hc]
  have t0 : ¬ (x : Int) ≤ 11 := by omega
  have t1 : ¬ (x : Int) ≤ 17 := by omega
  have t2 : ¬ (x : Int) ≤ 36 := by omega
  have t3 : (x : Int) ≤ 64 := by omega
  clear h hm hls hxs hlr hg h5 hfs htb hty hto K0 h1 h2 h3 hc
  · go_enter Tryz.func40, Tryz.ntmps40
    go_wp2_with fail
    refine (checkMemory_at (HA.out.alloc _) hb HMV.out.1 a e x y pg pl _ cg _ cl (by omega)).mono ?_
    rintro ee w2 ⟨hok2, herr2, hk2, hlow2⟩
    have hlow : Kept (fun k => k < W.heap.size ∧ ¬ K k) W w2 := (((Kept.refl _ _).alloc _).trans hlow2).mono (fun k hk c => ⟨hk, c.2⟩)
    cases hm2 : checkMemoryM m x y st with
    | error qp =>
      obtain ⟨q, p⟩ := qp
      have he := herr2 _ _ hm2
      subst he
      exact ⟨rfl, Ends.err_mk (HN.out.trans hm2) hk2 hlow⟩
    | ok st2 =>
      obtain ⟨rfl, hA2⟩ := hok2 _ hm2
      have HA2 := hide hA2
      have HE2 := hide (HN.out.trans hm2)
      clear hok2 herr2 hA2 hm2 HN
      go_wp2
      go_end0
      exact Ends.ok_mk HE2.out HA2.out hlow

set_option maxRecDepth 100000 in
set_option maxHeartbeats 6400000 in
theorem check_number {p0 : Option Addr} {c0 : Nat} {ls : List Nat} {pg pl : Option Addr} {cg cl : Nat} (h : At K O w W N bb (.pointer (some ⟨mb, 0, none⟩)) (.slice p0 ls.length c0) st) (hb : st.blocks ≠ []) (hm : MV s K W mb m) (hls : isKinds K ls W (.slice p0 ls.length c0)) (a e x : Nat) (y : Beh) (hx : 0 ≤ y.num.1 ∧ y.num.1 ≤ 4294967295) (hxs : ∀ z ∈ y.labels, 0 ≤ z.1 ∧ z.1 ≤ 4294967295) (hll : y.labels.length ≤ 20) (hlr : isRow 62 2 numCells K y.labels W (.slice pl y.labels.length cl)) (hg : isKinds K y.gives W (.slice pg y.gives.length cg)) (hs : st.stack.length ≤ 798000) (hbl : st.blocks.length ≤ 54) (h5 : x = 5 → 2 ≤ st.blocks.length) (hfs : ∀ x ∈ m.funcs, 0 ≤ x.1 ∧ x.1 < (m.types.length : Int)) (htb : ∀ t, blockTypeM m y = .ok t → t.ins.length ≤ 8 ∧ t.outs.length ≤ 8) (hty : ∀ t, typeAtM m y.num = .ok t → t.ins.length ≤ 8 ∧ t.outs.length ≤ 8) (hto : ∀ f, (typeOfM m f).ins.length ≤ 8 ∧ (typeOfM m f).outs.length ≤ 8) (h1 : ¬ x ≤ 11) (h2 : ¬ x ≤ 17) (h3 : ¬ x ≤ 36) (h4 : ¬ x ≤ 64) :
    Calls Tryz.prog 40 #[.pointer (some ⟨bb, 0, none⟩), .agg #[.int .i64 (a : Nat), .int .i64 (e : Nat), .int .u8 (x : Nat), .bool y.typed, .slice pg y.gives.length cg, .int .u32 y.align, .int .u32 y.num.1, .int .i64 (y.num.2 : Nat), .slice pl y.labels.length cl, .int .i64 y.val]] W (Ends K O w W (fun k => k < W.heap.size) bb (.pointer (some ⟨mb, 0, none⟩)) (.slice p0 ls.length c0) (checkM m ls x y st)) := by
  have HA := hide h.up
  have hbw := h.body.lt
  have K0 : ∀ o, Kept (fun _ => False) W (W.alloc o) := fun o => (Kept.refl (fun _ => False) _).alloc o
  have HMV : Hid ((MV s K (W.alloc (.cells #[.int .i64 (a : Nat), .int .i64 (e : Nat), .int .u8 (x : Nat), .bool y.typed, .slice pg y.gives.length cg, .int .u32 y.align, .int .u32 y.num.1, .int .i64 (y.num.2 : Nat), .slice pl y.labels.length cl, .int .i64 y.val] 100)) mb m) ∧ True) := ⟨hm.kept (K0 _) (fun _ _ _ c => c), trivial⟩
  have HLS : Hid (isKinds K ls (W.alloc (.cells #[.int .i64 (a : Nat), .int .i64 (e : Nat), .int .u8 (x : Nat), .bool y.typed, .slice pg y.gives.length cg, .int .u32 y.align, .int .u32 y.num.1, .int .i64 (y.num.2 : Nat), .slice pl y.labels.length cl, .int .i64 y.val] 100)) (.slice p0 ls.length c0)) := Row.kept hls (K0 _) (fun _ _ _ c => c)
  have HG : Hid (isKinds K y.gives (W.alloc (.cells #[.int .i64 (a : Nat), .int .i64 (e : Nat), .int .u8 (x : Nat), .bool y.typed, .slice pg y.gives.length cg, .int .u32 y.align, .int .u32 y.num.1, .int .i64 (y.num.2 : Nat), .slice pl y.labels.length cl, .int .i64 y.val] 100)) (.slice pg y.gives.length cg)) := Row.kept hg (K0 _) (fun _ _ _ c => c)
  have HR : Hid (isRow 62 2 numCells K y.labels (W.alloc (.cells #[.int .i64 (a : Nat), .int .i64 (e : Nat), .int .u8 (x : Nat), .bool y.typed, .slice pg y.gives.length cg, .int .u32 y.align, .int .u32 y.num.1, .int .i64 (y.num.2 : Nat), .slice pl y.labels.length cl, .int .i64 y.val] 100)) (.slice pl y.labels.length cl)) := Row.kept hlr (K0 _) (fun _ _ _ c => c)
  have HU := And.intro hx (And.intro hll hbl)
  clear HU
  have HX := hide hxs
  have H5 := hide h5
  have HFS := hide hfs
  have HTB := hide htb
  have HTY := hide hty
  have HTO := hide hto
  have HN : Hid (checkM m ls x y st = checkNumberM x st) := by show _ = _; unfold checkM; rw [if_neg h1, if_neg h2, if_neg h3, if_neg h4]
  have t0 : ¬ (x : Int) ≤ 11 := by omega
  have t1 : ¬ (x : Int) ≤ 17 := by omega
  have t2 : ¬ (x : Int) ≤ 36 := by omega
  have t3 : ¬ (x : Int) ≤ 64 := by omega
  clear h hm hls hxs hlr hg h5 hfs htb hty hto K0 h1 h2 h3 h4
  · go_enter Tryz.func40, Tryz.ntmps40
    go_wp2_with fail
    refine (checkNumber_at (HA.out.alloc _) hb x (by omega)).mono ?_
    rintro ee w2 ⟨hok2, herr2, hk2, hlow2⟩
    have hlow : Kept (fun k => k < W.heap.size ∧ ¬ K k) W w2 := (((Kept.refl _ _).alloc _).trans hlow2).mono (fun k hk c => ⟨hk, c.2⟩)
    cases hm2 : checkNumberM x st with
    | error qp =>
      obtain ⟨q, p⟩ := qp
      have he := herr2 _ _ hm2
      subst he
      exact ⟨rfl, Ends.err_mk (HN.out.trans hm2) hk2 hlow⟩
    | ok st2 =>
      obtain ⟨rfl, hA2⟩ := hok2 _ hm2
      have HA2 := hide hA2
      have HE2 := hide (HN.out.trans hm2)
      clear hok2 herr2 hA2 hm2 HN
      go_wp2
      go_end0
      exact Ends.ok_mk HE2.out HA2.out hlow

theorem check_at {p0 : Option Addr} {c0 : Nat} {ls : List Nat} {pg pl : Option Addr} {cg cl : Nat} (h : At K O w W N bb (.pointer (some ⟨mb, 0, none⟩)) (.slice p0 ls.length c0) st) (hb : st.blocks ≠ []) (hm : MV s K W mb m) (hls : isKinds K ls W (.slice p0 ls.length c0)) (a e x : Nat) (y : Beh) (hx : 0 ≤ y.num.1 ∧ y.num.1 ≤ 4294967295) (hxs : ∀ z ∈ y.labels, 0 ≤ z.1 ∧ z.1 ≤ 4294967295) (hll : y.labels.length ≤ 20) (hlr : isRow 62 2 numCells K y.labels W (.slice pl y.labels.length cl)) (hg : isKinds K y.gives W (.slice pg y.gives.length cg)) (hs : st.stack.length ≤ 798000) (hbl : st.blocks.length ≤ 54) (h5 : x = 5 → 2 ≤ st.blocks.length) (hfs : ∀ x ∈ m.funcs, 0 ≤ x.1 ∧ x.1 < (m.types.length : Int)) (htb : ∀ t, blockTypeM m y = .ok t → t.ins.length ≤ 8 ∧ t.outs.length ≤ 8) (hty : ∀ t, typeAtM m y.num = .ok t → t.ins.length ≤ 8 ∧ t.outs.length ≤ 8) (hto : ∀ f, (typeOfM m f).ins.length ≤ 8 ∧ (typeOfM m f).outs.length ≤ 8) :
    Calls Tryz.prog 40 #[.pointer (some ⟨bb, 0, none⟩), .agg #[.int .i64 (a : Nat), .int .i64 (e : Nat), .int .u8 (x : Nat), .bool y.typed, .slice pg y.gives.length cg, .int .u32 y.align, .int .u32 y.num.1, .int .i64 (y.num.2 : Nat), .slice pl y.labels.length cl, .int .i64 y.val]] W (Ends K O w W (fun k => k < W.heap.size) bb (.pointer (some ⟨mb, 0, none⟩)) (.slice p0 ls.length c0) (checkM m ls x y st)) := by
  by_cases h1 : x ≤ 11
  · exact check_block h hb hm hls a e x y hx hxs hll hlr hg hs hbl h5 hfs htb hty hto h1
  by_cases h2 : x ≤ 17
  · exact check_jump h hb hm hls a e x y hx hxs hll hlr hg hs hbl h5 hfs htb hty hto h1 h2
  by_cases h3 : x ≤ 36
  · exact check_variable h hb hm hls a e x y hx hxs hll hlr hg hs hbl h5 hfs htb hty hto h1 h2 h3
  by_cases h4 : x ≤ 64
  · exact check_memory h hb hm hls a e x y hx hxs hll hlr hg hs hbl h5 hfs htb hty hto h1 h2 h3 h4
  exact check_number h hb hm hls a e x y hx hxs hll hlr hg hs hbl h5 hfs htb hty hto h1 h2 h3 h4

end

end Go.Proofs.YtdfmillbaabpiaaGreat
/-
  Two lists of kinds in one.
-/
namespace Go.Proofs.YtdfmillbaabpiaaGreat
open Go.RowKit

theorem grow0_any (w : World) : Calls Tryz.prog 59 #[.slice none 0 0, .int .i64 0] w fun e w' => e = .returned (.slice none 0 0) ∧ w' = w := by
  go_enter Tryz.func59, Tryz.ntmps59
  go_wp2
  go_ret
  exact ⟨rfl, rfl⟩

set_option maxRecDepth 100000 in
set_option maxHeartbeats 1600000 in
theorem grow1_any (w : World) (n : Nat) (h0 : 0 < n) (hn : n ≤ 100) : Calls Tryz.prog 59 #[.slice none 0 0, .int .i64 (n : Nat)] w fun e w' => ∃ v, e = .returned v ∧ Kept (fun _ => False) w w' ∧ isKinds (fun g => w.heap.size ≤ g) [] w' v := by
  obtain ⟨i0, hi0, hz0, hz1, hz2⟩ := info_parts Tryz.info74
  have hcm : grownCap w n 0 74 ≤ maxLen := grownCap_le_maxLen w n 0 74 (by unfold maxLen; omega)
  have hge := grownCap_ge w n 0 74
  have HR := hide (Lib.run_append_nil_zeros (P := Tryz.prog) w 83 3 83 74 i0 (.int .u8 0) .i64 .i64 Tryz.underlying83 rfl hi0 hz0 n h0 (by omega) (by omega) (by rw [hz2]; omega))
  have HC := hide (And.intro hcm hge)
  clear hcm hge
  go_enter Tryz.func59, Tryz.ntmps59
  go_wp2_with (at_builtin; refine Lib.wpList_append_run _ rfl _ _ _ _ rfl _ _ rfl rfl _ _ HR.out ?_)
  go_ret
  refine ⟨_, rfl, ((Kept.refl _ _).alloc _).drew, ⟨⟨rfl, .inr ⟨_, _, _, rfl, Nat.zero_le _, heap_alloc_new w _, Nat.zero_le _, HC.out.1, ?_, by simp [kindCells]⟩⟩, fun g hg => ?_⟩⟩
  · have := HC.out.2
    simp [size_zeroCells]
    omega
  · simp [Value.ownBlock] at hg
    omega

theorem grow_any (w : World) (n : Nat) (hn : n ≤ 100) : Calls Tryz.prog 59 #[.slice none 0 0, .int .i64 (n : Nat)] w fun e w' => ∃ v, e = .returned v ∧ Kept (fun _ => False) w w' ∧ isKinds (fun g => w.heap.size ≤ g) [] w' v := by
  by_cases h0 : 0 < n
  · exact grow1_any w n h0 hn
  · obtain rfl : n = 0 := by omega
    refine (grow0_any w).mono ?_
    rintro e w' ⟨rfl, rfl⟩
    exact ⟨_, rfl, Kept.refl _ _, Row.nil _ _ _ _⟩

/-- append(v, xv...), both lists of kinds: whatever lies in them. -/
theorem wpList_append_kinds {w : World} {ops : Array Oper} {rest : List Oper} {o : Oper} {a : Act} {Q : Exit → Act → World → Prop} {B : Nat} {ok : Nat → Prop} {us ks : List Nat} {v xv : Value} (hgd : o.guard = none) (s x : Operand)
    (ho : o.op = .call { callee := .builtin .append, args := #[s, x], argTypes := #[83, 83] }) (hs : a.eval s = v) (hv : isKinds (fun g => B ≤ g) us w v) (hx : a.eval x = xv) (hk : isKinds ok ks w xv) (hl : us.length + ks.length ≤ 1000) (hB : B ≤ w.heap.size)
    (h : ∀ p c w', isKinds (fun g => B ≤ g) (us ++ ks) w' (.slice p (us.length + ks.length) c) → Kept (fun g => B ≤ g) w w' → wpList Tryz.prog ops Q rest (a.put o.dst (.slice p (us.length + ks.length) c)) w') : wpList Tryz.prog ops Q (o :: rest) a w := by
  obtain ⟨i0, hi0, hz0, hz1, hz2⟩ := info_parts Tryz.info74
  obtain ⟨ps, cs, rfl⟩ := Row.shape hv
  obtain ⟨pk, ck, rfl⟩ := Row.shape hk
  by_cases hz : ks = []
  · subst hz
    refine wpList_append_empty hgd _ _ 83 ho 0 74 i0 1 Tryz.underlying83 hi0 _ _ _ hs hv.own _ _ hx ?_
    exact h ps cs w (by simpa using hv) (Kept.refl _ _)
  · have hkp : 0 < ks.length := by
      have : ks.length ≠ 0 := by simpa using hz
      omega
    obtain ⟨gk, ck', hvk, -, hgk, hck, hcells⟩ := Row.cells hk hkp
    cases hvk
    have hnews : ∀ j u, (kindCells ks)[j]? = some u → w.cell? ((⟨gk, 0, none⟩ : Addr).add j) = some u := by
      intro j u hj
      have hjl : j < ks.length := by
        have := (List.getElem?_eq_some_iff.1 hj).1
        simpa [kindCells] using this
      have hadd : (⟨gk, 0, none⟩ : Addr).add j = ⟨gk, j, none⟩ := by unfold Addr.add; split <;> simp_all
      rw [hadd, hcells j (by omega)]
      exact hj
    have hone : ∀ u ∈ kindCells ks, u.oneCell' = true := by
      intro u hu
      simp [kindCells] at hu
      obtain ⟨x, -, rfl⟩ := hu
      rfl
    refine wpList_append_lies _ hgd _ _ 83 ho 0 74 i0 (.int .u8 0) 1 1 Tryz.underlying83 hi0 hz0 hz1 hz2 rfl (by decide) _ _ _ hs hv.own ⟨gk, 0, none⟩ ks.length ck (kindCells ks) hx (by simp [kindCells]) hnews hone hkp (by unfold maxLen; omega) (by omega) (Nat.zero_le _) w.heap.size rfl ?_
    intro gg cap w3 hown3 hgrow hat hlt3
    refine h _ _ _ ⟨?_, fun g hg => ?_⟩ ((Kept.of_grown hgrow).mono (fun k _ e => hv.at_ k e))
    · rw [kindCells_append, List.length_append]; exact hown3
    · simp [Value.ownBlock] at hg
      subst hg
      rcases hat with hh | hh
      · exact hv.at_ _ hh
      · omega

set_option maxRecDepth 100000 in
set_option maxHeartbeats 1600000 in
theorem concat_any {ok : Nat → Prop} {w : World} {sb : Nat} {us vs : List Nat} {pa pb : Option Addr} {ca cb : Nat} (h0 : w.cell? ⟨sb, 0, none⟩ = some (.slice pa us.length ca)) (h1 : w.cell? ⟨sb, 1, none⟩ = some (.slice pb vs.length cb)) (hs : sb < w.heap.size) (ha : isKinds ok us w (.slice pa us.length ca)) (hb : isKinds ok vs w (.slice pb vs.length cb)) (hu : us.length ≤ 50) (hv : vs.length ≤ 50) :
    Calls Tryz.prog 38 #[.slice (some ⟨sb, 0, none⟩) 2 2] w fun e w' => ∃ v, e = .returned v ∧ Kept (fun _ => False) w w' ∧ isKinds (fun g => w.heap.size ≤ g) (us ++ vs) w' v := by
  have HA := hide ha
  have HB := hide hb
  clear ha hb
  go_enter Tryz.func38, Tryz.ntmps38
  go_wp2
  go_loopw [3, 11] (fun z q wr => w = wr ∧ ((z = .int .i64 0 ∧ q = .int .i64 0) ∨ (z = .int .i64 (us.length : Nat) ∧ q = .int .i64 1) ∨ (z = .int .i64 ((us.length + vs.length : Nat) : Nat) ∧ q = .int .i64 2))) (fun _ q _ => 2 - (intOf q).toNat)
  case atStart => exact ⟨rfl, .inl ⟨rfl, rfl⟩⟩
  case round =>
    obtain ⟨rfl, ⟨rfl, rfl⟩ | ⟨rfl, rfl⟩ | ⟨rfl, rfl⟩⟩ := hrel
    · go_wp2
      go_roundw
      case rel => exact ⟨trivial, .inr (.inl ⟨by go_num, by go_num⟩)⟩
      case measure => simp [intOf]
    · go_wp2
      go_roundw
      case rel => exact ⟨trivial, .inr (.inr ⟨by go_num, by go_num⟩)⟩
      case measure => simp [intOf]
    · go_wp2_with fail
      refine (grow_any _ (us.length + vs.length) (by omega)).mono ?_
      rintro e w1 ⟨v1, rfl, hk1, hr1⟩
      obtain ⟨p1, c1, rfl⟩ := Row.shape hr1
      have HR1 := hide hr1
      have HK1 := hide hk1
      clear hr1 hk1
      go_wp2
      go_loopw [6, 27] (fun nv q w2 => Kept (fun _ => False) w w2 ∧ ((isKinds (fun g => w.heap.size ≤ g) [] w2 nv ∧ q = .int .i64 0) ∨ (isKinds (fun g => w.heap.size ≤ g) us w2 nv ∧ q = .int .i64 1) ∨ (isKinds (fun g => w.heap.size ≤ g) (us ++ vs) w2 nv ∧ q = .int .i64 2))) (fun _ q _ => 2 - (intOf q).toNat)
      case atStart => exact ⟨HK1.out, .inl ⟨HR1.out, rfl⟩⟩
      case round =>
        obtain ⟨hk2, ⟨hn, rfl⟩ | ⟨hn, rfl⟩ | ⟨hn, rfl⟩⟩ := hrel
        · have HK2 := hide hk2
          have c0 : wr.cell? ⟨sb, 0, none⟩ = some (.slice pa us.length ca) := (hk2.cell (p := ⟨sb, 0, none⟩) hs (fun c => c)).trans h0
          have c1 : wr.cell? ⟨sb, 1, none⟩ = some (.slice pb vs.length cb) := (hk2.cell (p := ⟨sb, 1, none⟩) hs (fun c => c)).trans h1
          have hsz := hk2.size
          have hA2 : isKinds ok us wr (.slice pa us.length ca) := Row.kept HA.out hk2 (fun _ _ _ c => c)
          have hB2 : isKinds ok vs wr (.slice pb vs.length cb) := Row.kept HB.out hk2 (fun _ _ _ c => c)
          obtain ⟨p2, c2, rfl⟩ := Row.shape hn
          have HN := hide hn
          have HA2 := hide hA2
          have HB2 := hide hB2
          clear hn hk2 hA2 hB2 HR1 HK1 h0 h1
          go_wp2_with (at_builtin; refine wpList_append_kinds rfl _ _ rfl rfl HN.out rfl HA2.out (by simp; omega) hsz ?_)
          intro p3 c3 w3 hr3 hk3
          have HR3 := hide hr3
          have HK3 : Hid (Kept (fun _ => False) w w3) := HK2.out.fresh hk3 (fun g hg c => by omega)
          clear hr3 hk3
          go_wp2
          go_roundw
          case rel => exact ⟨HK3.out, .inr (.inl ⟨by simpa using HR3.out, by go_num⟩)⟩
          case measure => simp [intOf]
        · have HK2 := hide hk2
          have c0 : wr.cell? ⟨sb, 0, none⟩ = some (.slice pa us.length ca) := (hk2.cell (p := ⟨sb, 0, none⟩) hs (fun c => c)).trans h0
          have c1 : wr.cell? ⟨sb, 1, none⟩ = some (.slice pb vs.length cb) := (hk2.cell (p := ⟨sb, 1, none⟩) hs (fun c => c)).trans h1
          have hsz := hk2.size
          have hA2 : isKinds ok us wr (.slice pa us.length ca) := Row.kept HA.out hk2 (fun _ _ _ c => c)
          have hB2 : isKinds ok vs wr (.slice pb vs.length cb) := Row.kept HB.out hk2 (fun _ _ _ c => c)
          obtain ⟨p2, c2, rfl⟩ := Row.shape hn
          have HN := hide hn
          have HA2 := hide hA2
          have HB2 := hide hB2
          clear hn hk2 hA2 hB2 HR1 HK1 h0 h1
          go_wp2_with (at_builtin; refine wpList_append_kinds rfl _ _ rfl rfl HN.out rfl HB2.out (by omega) hsz ?_)
          intro p3 c3 w3 hr3 hk3
          have HR3 := hide hr3
          have HK3 : Hid (Kept (fun _ => False) w w3) := HK2.out.fresh hk3 (fun g hg c => by omega)
          clear hr3 hk3
          go_wp2
          go_roundw
          case rel => exact ⟨HK3.out, .inr (.inr ⟨by simpa using HR3.out, by go_num⟩)⟩
          case measure => simp [intOf]
        · have HN := hide hn
          have HK2 := hide hk2
          clear hn hk2 HR1 HK1
          go_wp2
          go_ret
          exact ⟨_, rfl, HK2.out, HN.out⟩

end Go.Proofs.YtdfmillbaabpiaaGreat
/-
  A code that is gone through: what stands between two instructions.
-/
namespace Go.Proofs.YtdfmillbaabpiaaGreat
open Go.RowKit

/-- Between two instructions: what is still to be looked at, how much lies there; none: behind the last. -/
def Stands (m : Mdl) (ls : List Nat) (s : ByteArray) (n : Nat) (whole : Except Err Unit) (o : Option (List Nat)) (j : Nat) (st : Bd) : Prop :=
  match o with
  | none => whole = .ok ()
  | some os => st.blocks.length = os.length + 1 ∧ st.stack.length ≤ 16 * j ∧ ∃ f, n - j ≤ f ∧ whole = insFit m ls s n f os j st

theorem behM_ok {j x e n : Nat} {s : ByteArray} {y : Beh} (hj : j < n) (h : behM j x s n (j + 1) = .ok (y, e)) : behOk n y := ((beh_fine j x).ok (by omega) (by omega) h).2.2

/-- An instruction on. -/
theorem Stands.step {m : Mdl} {ls os : List Nat} {s : ByteArray} {n N j e x : Nat} {whole : Except Err Unit} {o' : Option (List Nat)} {st : Bd} {y : Beh} (hm : ModOk N m) (hN : n ≤ N) (h : Stands m ls s n whole (some os) j st) (ht : Tidy st)
    (hT : Turns os o' j x) (hx : x = bt s j) (hj : j < n) (he : j < e) (hb : behM j x s n (j + 1) = .ok (y, e)) :
    (∀ q p, checkM m ls x y { st with at_ := j } = .error (q, p) → whole = .error (q, p)) ∧ ∀ st', checkM m ls x y { st with at_ := j } = .ok st' → Stands m ls s n whole o' e st' ∧ Tidy st' := by
  obtain ⟨h1, h2, f0, hf0, h3⟩ := h
  obtain ⟨f, rfl⟩ : ∃ f, f0 = f + 1 := ⟨f0 - 1, by omega⟩
  have hy := behM_ok hj hb
  have hy' : behOk N y := ⟨⟨hy.1.1, hy.1.2.1, Nat.le_trans hy.1.2.2 hN⟩, hy.2.1, fun z hz => ⟨(hy.2.2.1 z hz).1, (hy.2.2.1 z hz).2.1, Nat.le_trans (hy.2.2.1 z hz).2.2 hN⟩, hy.2.2.2⟩
  have htm := check_tame (ls := ls) hm hy' x { st with at_ := j } ⟨ht.floors, ht.short⟩ (fun c => by simp at c; rw [c] at h1; simp at h1) (by simp; omega)
  unfold insFit at h3
  rw [byteM_more hj, ← hx] at h3
  simp only at h3
  rcases hT with ⟨a1, a2, a3⟩ | ⟨a1, os2, a2, a3⟩
  · subst a3
    rw [if_pos ⟨a1, a2⟩] at h3
    simp only [hb] at h3
    refine ⟨fun q p hc => ?_, fun st' hc => ⟨?_, (htm.2 st' hc).1⟩⟩
    · rw [h3, hc]
    · show whole = _
      rw [h3, hc]
      simp [a1, a2]
  · subst a3
    have ht2 := turns_some (os := os) (os' := os2) (j := j) (x := x) (.inr ⟨a1, os2, a2, rfl⟩)
    rw [if_neg a1, a2] at h3
    simp only [hb] at h3
    refine ⟨fun q p hc => ?_, fun st' hc => ⟨⟨?_, ?_, ?_⟩, (htm.2 st' hc).1⟩⟩
    · rw [h3, hc]
    · have := (htm.2 st' hc).2.2.2
      simp at this
      omega
    · have := (htm.2 st' hc).2.2.1
      simp at this
      omega
    · refine ⟨f, by omega, ?_⟩
      rw [h3, hc]
      simp only [if_neg a1]

end Go.Proofs.YtdfmillbaabpiaaGreat
/-
  A code that is gone through, in memory: what stands between two instructions.
-/
namespace Go.Proofs.YtdfmillbaabpiaaGreat
open Go.RowKit

section
variable {K O N : Nat → Prop} {w W : World} {bb mb : Nat} {mp lv : Value} {st : Bd} {s : ByteArray} {m : Mdl}

/-- More is only read. -/
theorem BodyAt.moreK {K' : Nat → Prop} (h : BodyAt K O w bb mp lv st) (hk : ∀ k, K k → K' k) (hd : ∀ k, O k → ¬ K' k) (hl : ∀ k, K' k → k < w.heap.size) : BodyAt K' O w bb mp lv st := by
  obtain ⟨sv, bv, h⟩ := h
  refine ⟨sv, bv, h.blk, h.own, h.stk, ?_, hd, hl⟩
  obtain ⟨css, h1, h2⟩ := h.bls
  refine ⟨css, h1, h2.to (fun x cs hx => ⟨?_, hx.2⟩)⟩
  obtain ⟨tv, gv, e, a, c⟩ := hx.1
  exact ⟨tv, gv, e, Row.mono a (fun g _ => hk g), Row.mono c (fun g _ => hk g)⟩

theorem BodyAt.keep {S : Nat → Prop} (h : BodyAt K O w bb mp lv st) (hk : Kept S w W) (hs : ∀ k, k < w.heap.size → S k → ¬ O k ∧ ¬ K k) : BodyAt K O W bb mp lv st := by
  obtain ⟨sv, bv, h⟩ := h
  exact ⟨sv, bv, h.kept hk hs⟩

/-- The place is put down. -/
theorem BodyAt.place (h : BodyAt K O w bb mp lv st) (j : Nat) : BodyAt K O (w.setCell ⟨bb, 4, none⟩ (.int .i64 (j : Nat))) bb mp lv { st with at_ := j } := by
  obtain ⟨sv, bv, h⟩ := h
  exact ⟨sv, bv, h.cells ((Kept.refl _ _).own _) (h.blk.set 4 _) h.stk h.bls⟩

/-- Between two instructions: the body at bb, its box at vb; what was there before and is only read (K0) is as it was (w). -/
def Gone (K0 : Nat → Prop) (w : World) (m : Mdl) (ls : List Nat) (s : ByteArray) (n : Nat) (whole : Except Err Unit) (vb bb : Nat) (mp lv : Value) (o : Option (List Nat)) (j : Nat) (F : Nat → Prop) (W : World) : Prop :=
  ∃ (K O : Nat → Prop) (st : Bd), (∀ k, K0 k → K k) ∧ (∀ k, F k ↔ K k ∨ O k ∨ k = vb) ∧ (∀ k, O k → k < W.heap.size) ∧ ¬ O vb ∧ ¬ K vb ∧ vb < W.heap.size ∧
    BodyAt K O W bb mp lv st ∧ Tidy st ∧ Kept (fun k => ¬ K0 k) w W ∧ Blk W vb [.pointer (some ⟨bb, 0, none⟩)] ∧ Stands m ls s n whole o j st

theorem Gone.still {K0 F S : Nat → Prop} {W' : World} {ls : List Nat} {n vb j : Nat} {whole : Except Err Unit} {o : Option (List Nat)} (h : Gone K0 w m ls s n whole vb bb mp lv o j F W) (hk : Kept S W W') (hs : ∀ k, k < W.heap.size → S k → ¬ F k) : Gone K0 w m ls s n whole vb bb mp lv o j F W' := by
  obtain ⟨K, O, st, h1, h2, h3, h4, h5, h6, h7, h8, h9, h10, h11⟩ := h
  have hsz := hk.size
  refine ⟨K, O, st, h1, h2, fun k hk0 => Nat.lt_of_lt_of_le (h3 k hk0) hsz, h4, h5, Nat.lt_of_lt_of_le h6 hsz, h7.keep hk (fun k hl hS => ⟨fun c => hs k hl hS ((h2 k).2 (.inr (.inl c))), fun c => hs k hl hS ((h2 k).2 (.inl c))⟩), h8, h9.fresh hk (fun i hi hS c => hs i (Nat.lt_of_lt_of_le hi h9.size) hS ((h2 i).2 (.inl (h1 i c)))), h10.kept hk h6 (fun c => hs vb h6 c ((h2 vb).2 (.inr (.inr rfl)))), h11⟩

theorem Gone.lt {K0 F : Nat → Prop} {ls : List Nat} {n vb j k : Nat} {whole : Except Err Unit} {o : Option (List Nat)} (h : Gone K0 w m ls s n whole vb bb mp lv o j F W) (hF : F k) : k < W.heap.size := by
  obtain ⟨K, O, st, h1, h2, h3, h4, h5, h6, h7, h8, h9, h10, h11⟩ := h
  rcases (h2 k).1 hF with c | c | c
  · exact h7.kb k c
  · exact h3 k c
  · omega

end

section
variable {F : Fence} {n : Nat} {P : Program}

theorem wpAt_block {f0 : FuncId} {id : Nat} {c : Code} {Q : Exit → Act → World → Prop} {a : Act} {w : World} (h : wpAt f0 F n P c (fun e a w => match e with | .normal => Q .normal a w | .panic chain => Q (.panic chain) a w | _ => False) a w) : wpAt f0 F n P (.block id c) Q a w := by
  intro b k cs hf hro hb hr
  have h0 : (lone (b.atR a (.code (.block id c) :: k)) cs w).fenced P F := fenced_calm hb hr rfl
  obtain ⟨e, a₁, w₁, hq, harr⟩ := h b (.inBlock id :: k) cs hf hro hb hr
  cases e with
  | normal => exact ⟨.normal, a₁, w₁, hq, .head h0 stepR_block (StepsIn.trans harr (.one (fenced_calm hb hr rfl) stepR_inBlock))⟩
  | panic chain =>
    obtain ⟨todo, up⟩ := harr
    exact ⟨.panic chain, a₁, w₁, hq, todo, .head h0 stepR_block up⟩
  | ret => exact hq.elim
  | exit id => exact hq.elim
  | goto t => exact hq.elim
  | outgrown => exact hq.elim
end

end Go.Proofs.YtdfmillbaabpiaaGreat
/-
  Each code of a module that was read: its instructions can be read.
-/
namespace Go.Proofs.YtdfmillbaabpiaaGreat
open Go.RowKit

/-- Where it answers x, x is so. -/
def Tell {α : Type} (s : ByteArray) (Pr : α → Prop) (f : ByteArray → Nat → Nat → Except Err (α × Nat)) : Prop := ∀ ⦃n i x j⦄, f s n i = .ok (x, j) → Pr x

theorem Tell.within {α : Type} {s : ByteArray} {Pr : α → Prop} {f : ByteArray → Nat → Nat → Except Err (α × Nat)} (h : Tell s Pr f) : Tell s Pr (withinM f) := by
  intro n i x j hx
  unfold withinM at hx
  split at hx
  · cases hx
  · split at hx
    · split at hx <;> cases hx
    · split at hx
      · cases hx
      · rename_i ho
        split at hx <;> cases hx
        exact h ho

theorem Tell.listGo {α : Type} {s : ByteArray} {Pr : α → Prop} {f : ByteArray → Nat → Nat → Except Err (α × Nat)} (h : Tell s Pr f) {n : Nat} : ∀ (k : Nat) (acc : List α) (j : Nat) {xs : List α} {j' : Nat}, (∀ x ∈ acc, Pr x) → listGo f s n k acc j = .ok (xs, j') → ∀ x ∈ xs, Pr x := by
  intro k
  induction k with
  | zero => intro acc j xs j' ha hx; unfold Go.Proofs.YtdfmillbaabpiaaGreat.listGo at hx; cases hx; exact ha
  | succ k ih =>
    intro acc j xs j' ha hx
    unfold Go.Proofs.YtdfmillbaabpiaaGreat.listGo at hx
    split at hx
    · cases hx
    · rename_i ho
      refine ih _ _ (fun x hx0 => ?_) hx
      rcases List.mem_append.1 hx0 with c | c
      · exact ha x c
      · simp at c; subst c; exact h ho

/-- Its codes' instructions can be read. -/
def AllRead (s : ByteArray) (m : Mdl) : Prop := ∀ c ∈ m.codes, ∃ j, insM s c.2.2 c.2.1 = .ok j

theorem code_tell (s : ByteArray) : Tell s (fun c : Cod => ∃ j, insM s c.2.2 c.2.1 = .ok j) codeM := by
  refine Tell.within (f := codeInM) ?_
  intro n i x j h
  unfold codeInM at h
  split at h
  · cases h
  · split at h
    · cases h
    · rename_i ho; cases h; exact ⟨_, ho⟩

theorem part_tell {α : Type} {s : ByteArray} {Pr : α → Prop} {f : ByteArray → Nat → Nat → Except Err (α × Nat)} (which : Nat) (x0 : α) (h0 : Pr x0) (h : Tell s Pr f) : Tell s Pr (partM which x0 f) := by
  intro n i x j hx
  unfold partM at hx
  split at hx
  · split at hx
    · exact h.within hx
    · cases hx; exact h0
  · cases hx; exact h0

theorem funcNames_tell {s : ByteArray} {m : Mdl} (hm : AllRead s m) : Tell s (AllRead s) (funcNamesM m) := by
  intro n i x j h
  unfold funcNamesM at h
  split at h <;> cases h
  exact hm

theorem localNames_tell {s : ByteArray} {m : Mdl} (hm : AllRead s m) : Tell s (AllRead s) (localNamesM m) := by
  intro n i x j h
  unfold localNamesM at h
  split at h
  · cases h
  · split at h <;> cases h
    exact hm

theorem names_tell {s : ByteArray} {m : Mdl} (hm : AllRead s m) : Tell s (AllRead s) (namesM m) := by
  intro n i x j h
  unfold namesM at h
  split at h
  · cases h
  · split at h
    · cases h
    · rename_i ho
      have h1 := part_tell 1 m hm (funcNames_tell hm) ho
      exact part_tell 2 _ h1 (localNames_tell h1) h

theorem codes_tell {s : ByteArray} (m : Mdl) : Tell s (AllRead s) (codesM m) := by
  intro n i x j h
  unfold codesM at h
  split at h
  · cases h
  · split at h
    · split at h
      · cases h
      · rename_i ho
        cases h
        exact (code_tell s).listGo _ _ _ (by simp) ho
    · cases h

theorem cont_tell {s : ByteArray} {m : Mdl} (hm : AllRead s m) (which : Nat) : Tell s (AllRead s) (contM m which) := by
  intro n i x j h
  unfold contM at h
  split at h
  · exact names_tell hm h
  · unfold cont1M at h; split at h <;> cases h; exact hm
  · unfold cont3M at h; split at h <;> cases h; exact hm
  · unfold cont4M at h; split at h <;> cases h; exact hm
  · unfold cont5M at h; split at h <;> cases h; exact hm
  · unfold cont6M at h; split at h <;> cases h; exact hm
  · unfold cont7M at h; split at h <;> cases h; exact hm
  · unfold cont8M at h; split at h <;> cases h; exact hm
  · unfold cont9M at h; split at h <;> cases h; exact hm
  · exact codes_tell m h
  · unfold cont11M at h; split at h <;> cases h; exact hm
  · cases h; exact hm

theorem sec_tell {s : ByteArray} {m : Mdl} (hm : AllRead s m) (last : Nat) : Tell s (fun x : Mdl × Nat => AllRead s x.1) (secM m last) := by
  intro n i x j h
  unfold secM at h
  split at h
  · cases h
  · split at h
    · cases h
    · split at h
      · cases h
      · split at h
        · cases h
        · rename_i ho; cases h; exact (cont_tell hm _).within ho

theorem readGo_tell {s : ByteArray} {n : Nat} : ∀ (k : Nat) (m : Mdl) (last i : Nat) {m1 : Mdl} {j : Nat}, AllRead s m → readGo s n k m last i = .ok (m1, j) → AllRead s m1 := by
  intro k
  induction k with
  | zero => intro m last i m1 j hm h; simp [readGo] at h
  | succ k ih =>
    intro m last i m1 j hm h
    unfold readGo at h
    split at h
    · split at h <;> cases h
      exact hm
    · split at h
      · cases h
      · rename_i ho
        exact ih _ _ _ (sec_tell hm last ho) h

theorem readM_reads {s : ByteArray} {m : Mdl} {j : Nat} (h : readM s = .ok (m, j)) : AllRead s m := by
  unfold readM at h
  split at h
  · cases h
  · exact readGo_tell _ _ _ _ (by intro c hc; simp [Mdl.new] at hc) h

end Go.Proofs.YtdfmillbaabpiaaGreat
/-
  checkCode.
-/
namespace Go.Proofs.YtdfmillbaabpiaaGreat
open Go.RowKit

section
variable {K : Nat → Prop} {w : World} {mb : Nat} {s : ByteArray} {m : Mdl}

/-- A code of the module, by its index. -/
theorem codes_cell {ts : List Cod} {v : Value} (h : isLst 92 2 (elCode s) K ts w v) {k : Nat} (hk : k < ts.length) :
    ∃ g cap lv fv, v = .slice (some ⟨g, 0, none⟩) ts.length cap ∧ g < w.heap.size ∧ ts.length ≤ cap ∧ isKinds K ts[k].1 w lv ∧ isIter K s ts[k].2.1 ts[k].2.2 w fv ∧ w.cell? ⟨g, k * 2, none⟩ = some lv ∧ w.cell? ⟨g, k * 2 + 1, none⟩ = some fv := by
  obtain ⟨css, hrow, hea⟩ := h
  obtain ⟨g, cap, hv, -, hg, hc, hcell⟩ := Row.cells hrow (by omega)
  have hy : ts[k]? = some ts[k] := List.getElem?_eq_getElem hk
  obtain ⟨cs, hcs, ⟨⟨lv, fv, rfl, h1, h2⟩, -⟩⟩ := hea.get hy
  exact ⟨g, cap, lv, fv, hv, hg, hc, h1, h2, (hcell (k * 2) (by omega)).trans (Each.flat (o := 0) hea hcs (by omega)), (hcell (k * 2 + 1) (by omega)).trans (Each.flat (o := 1) hea hcs (by omega))⟩

/-- The module's codes, and where one of them lies. -/
theorem MV.code (h : MV s K w mb m) {k : Nat} (hk : k < m.codes.length) : ∃ g cap lv fv, w.cell? ⟨mb, 8, none⟩ = some (.slice (some ⟨g, 0, none⟩) m.codes.length cap) ∧ g < w.heap.size ∧ m.codes.length ≤ cap ∧ isKinds K m.codes[k].1 w lv ∧ isIter K s m.codes[k].2.1 m.codes[k].2.2 w fv ∧ w.cell? ⟨g, k * 2, none⟩ = some lv ∧ w.cell? ⟨g, k * 2 + 1, none⟩ = some fv := by
  obtain ⟨hK, f, hM, hH⟩ := h
  obtain ⟨g, cap, lv, fv, hv, hr⟩ := codes_cell hH.h8 hk
  have := (hM 8 (by simp [Fields.cells])).1
  refine ⟨g, cap, lv, fv, ?_, hr⟩
  rw [this, ← hv]
  rfl

theorem isLst.mono {α : Type} {E : TypeId} {size : Nat} {El : (Nat → Prop) → α → World → List Value → Prop} {ok ok' : Nat → Prop} {xs : List α} {v : Value} (h : isLst E size El ok xs w v) (hm : ∀ g, g < w.heap.size → ok g → ok' g)
    (he : ∀ x cs, El ok x w cs → El ok' x w cs) : isLst E size El ok' xs w v := by
  obtain ⟨css, h1, h2⟩ := h
  exact ⟨css, h1.mono hm, h2.to (fun x cs c => ⟨he x cs c.1, c.2⟩)⟩

/-- More may be read. -/
theorem MV.mono {K' : Nat → Prop} (h : MV s K w mb m) (hm : ∀ g, g < w.heap.size → K g → K' g) : MV s K' w mb m := by
  have hl := h.lt
  obtain ⟨hK, f, hM, H⟩ := h
  refine ⟨hm mb hl hK, f, hM, H.h0.mono hm ?_, Row.mono H.h1 hm, Row.mono H.h2 hm, Row.mono H.h3 hm, Row.mono H.h4 hm, Row.mono H.h5 hm, Row.mono H.h6 hm, H.h7.mono hm ?_, H.h8.mono hm ?_, Row.mono H.h9 hm, Row.mono H.h10 hm, H.h11.mono hm ?_, H.nil6, H.nil8, H.nil11⟩
  · rintro x cs ⟨a, b, e, c, d⟩; exact ⟨a, b, e, Row.mono c hm, Row.mono d hm⟩
  · rintro x cs ⟨a, e, c⟩; exact ⟨a, e, Row.mono c hm⟩
  · rintro x cs ⟨a, b, e, c, d⟩; exact ⟨a, b, e, Row.mono c hm, d.mono hm⟩
  · rintro x cs ⟨a, e, c⟩; exact ⟨a, e, Row.mono c hm⟩

end

end Go.Proofs.YtdfmillbaabpiaaGreat
