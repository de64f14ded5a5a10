/-
  Part 3 of the proof: List2, Row2, Mod4, Mod5, Each.
-/
import Derived.Test.YtgkpkngchploiaaGreatPart02
/-
  list: of numbers, limits, globals, exports, data.
-/
namespace Go.Proofs.YtgkpkngchploiaaGreat
open Go.RowKit

/-- A list of parts in memory, each of cells that are told. -/
def isRow {α : Type} (E : TypeId) (size : Nat) (cells : α → List Value) (ok : Nat → Prop) (xs : List α) (w : World) (v : Value) : Prop := Row ok w E size v xs.length (xs.flatMap cells)

theorem cells_at {w : World} {g : Nat} {c : Array Value} {t : TypeId} {l : List Value} (hg : g = w.heap.size) (hl : l = c.toList) : ∀ j u, l[j]? = some u → (w.alloc (.cells c t)).cell? ((⟨g, 0, none⟩ : Addr).add j) = some u := by
  intro j u hj
  subst hg hl
  have hadd : (⟨w.heap.size, 0, none⟩ : Addr).add j = ⟨w.heap.size, j, none⟩ := by unfold Addr.add; split <;> simp_all
  rw [hadd, World.cell?_alloc_new]
  simpa using hj

theorem Tryz.info62 : (Tryz.prog.info? 62).map (fun i => (i.zero, i.size, i.bytes)) = some (some (.agg #[.int .u32 0, .int .i64 0]), 2, 16) := by kernel_rfl

set_option maxRecDepth 100000 in
set_option maxHeartbeats 800000 in
theorem listNumber_any {w : World} {b : Nat} {s : ByteArray} {i n : Nat} (most K : Nat) (tM : ByteArray → Nat → Nat → Except Err ((Int × Nat) × Nat)) (h : Rd w b s i n) (hm : most ≤ 50) (hc : Enters K)
    (ht : ∀ w1 j, Rd w1 b s j n → Calls Tryz.prog K #[.pointer (some ⟨b, 0, none⟩)] w1 (Out w1 b s n isNum (tM s n j))) :
    Calls Tryz.prog 45 #[.pointer (some ⟨b, 0, none⟩), .int .i64 (most : Nat), .func (.func K) #[] #[]] w (Out w b s n (isRow 62 2 numCells (fun g => w.heap.size ≤ g)) (listM most tM s n i)) := by
  obtain ⟨i0, hi0, hz0, hz1, hz2⟩ := info_parts Tryz.info62
  have hcl : ∀ (args : Array Value) (w : World), (callFunc K args).run Tryz.prog w = .ok (.enter K args) w := hc
  have HT := hide ht
  clear ht
  go_enter Tryz.func45, Tryz.ntmps45
  go_wp2_with fail
  refine (count_any most h (by omega)).mono ?_
  rintro e w1 ⟨hk1, hok, herr⟩
  cases ho : countM most s n i with
  | error qp =>
    obtain ⟨q, p⟩ := qp
    have he := herr _ _ ho
    subst he
    exact ⟨rfl, Out.err_mk (by simp [listM, ho]) hk1⟩
  | ok xj =>
    obtain ⟨cnt, j0⟩ := xj
    obtain ⟨u, rfl, hv, hrd⟩ := hok _ _ ho
    have hv : u = .int .i64 (cnt : Nat) := hv
    subst hv
    have hcnt := (countM_facts ho).1
    have HM : Hid (listM most tM s n i = listGo tM s n cnt [] j0) := by show _ = _; simp [listM, ho]
    clear hok herr ho
    go_wp2
    go_loopw [7, 12] (fun v q wr => ∃ (k j : Nat) (ks : List (Int × Nat)), k ≤ cnt ∧ ks.length = k ∧ q = .int .i64 k ∧ Rd wr b s j n ∧ Kept (only b) w wr ∧ isRow 62 2 numCells (fun g => w.heap.size ≤ g) ks wr v ∧ listM most tM s n i = listGo tM s n (cnt - k) ks j) (fun _ q _ => cnt - (intOf q).toNat)
    case atStart => exact ⟨0, j0, [], Nat.zero_le _, rfl, rfl, hrd, hk1, Row.nil _ _ _ _, HM.out⟩
    case round =>
      obtain ⟨k, j, ks, hk, hl, rfl, hrd, hkp, hrow, hme⟩ := hrel
      have HE := hide hme
      clear hme HM
      by_cases hlt : k < cnt
      · have hlt' : (k : Int) < (cnt : Int) := by omega
        go_wp2_with fail
        refine (HT.out _ _ hrd).mono ?_
        rintro e w2 ⟨hk2, hok, herr⟩
        have hk3 := hkp.trans hk2
        have hrow2 : Row (fun g => w.heap.size ≤ g) w2 62 2 u7 ks.length (ks.flatMap numCells) := hrow.kept hk2 (fun g _ hg (e : g = b) => by have := h.lt; omega)
        clear hrow hk2 hkp
        cases ho : tM s n j with
        | error qp =>
          obtain ⟨q, p⟩ := qp
          have he := herr _ _ ho
          subst he
          exact ⟨rfl, Out.err_mk (HE.out.trans (listGo_err (by omega) ho)) hk3⟩
        | ok xj =>
          obtain ⟨x, j2⟩ := xj
          obtain ⟨u, rfl, hv, hrd2⟩ := hok _ _ ho
          have hv : u = .agg #[.int .u32 x.1, .int .i64 (x.2 : Nat)] := hv
          subst hv
          have HH : Hid (listM most tM s n i = listGo tM s n (cnt - (k + 1)) (ks ++ [x]) j2) := HE.out.trans (listGo_ok (by omega) ho)
          clear hok herr ho hrd
          have hown := ((hrow2.toBase (fun g hg => hg)).alloc (.cells #[.int .u32 x.1, .int .i64 (x.2 : Nat)] 62)).alloc (.cells #[.int .u32 x.1, .int .i64 (x.2 : Nat)] 62)
          have HW := hide hown
          have hsz := hk3.size
          clear hown hrow2
          go_wp2_with (at_builtin; refine wpList_append_own _ rfl _ _ 43 rfl w.heap.size 62 i0 (.agg #[.int .u32 0, .int .i64 0]) 2 16 Tryz.underlying43 hi0 hz0 hz1 hz2 rfl (by decide) _ _ _ rfl HW.out ⟨w2.heap.size + 1, 0, none⟩ 1 1 [.int .u32 x.1, .int .i64 (x.2 : Nat)] rfl rfl ?c1 ?c2 ?c3 ?c4 ?c5 ?_)
          case c1 => exact cells_at (by simp) rfl
          case c2 => intro u hu; simp at hu; rcases hu with rfl | rfl <;> rfl
          case c3 => unfold maxLen; omega
          case c4 => omega
          case c5 => simp; omega
          intro v' w3 hown' hgrow _
          have hk4 := grown_kept ((hk3.alloc _).alloc _) HW.out (Nat.le_refl _) hgrow
          have hrd3 := grown_rd ((hrd2.alloc _).alloc _) HW.out h.lt hgrow
          have hrow3 : isRow 62 2 numCells (fun g => w.heap.size ≤ g) (ks ++ [x]) w3 v' := by
            have := Row.ofBase (ok := fun g => w.heap.size ≤ g) hown' (fun g hg _ => hg)
            simpa [isRow, numCells, hl] using this
          have HR := hide hrow3
          clear hown' hgrow hrow3 HW
          go_wp2
          go_roundw
          case rel => exact ⟨k + 1, j2, ks ++ [x], by omega, by simp [hl], by go_num, hrd3, hk4, HR.out, HH.out⟩
          case measure => simp [intOf]; omega
      · have HH : Hid (listM most tM s n i = .ok (ks, j)) := by show _ = _; rw [HE.out, show cnt - k = 0 by omega]; rfl
        go_wp2
        go_ret
        exact Out.ok_mk HH.out hkp hrow hrd

theorem Tryz.info73 : (Tryz.prog.info? 73).map (fun i => (i.zero, i.size, i.bytes)) = some (some (.agg #[.int .i64 0, .int .u32 0, .int .u32 0, .bool false]), 4, 24) := by kernel_rfl

set_option maxRecDepth 100000 in
set_option maxHeartbeats 800000 in
theorem listLimits_any {w : World} {b : Nat} {s : ByteArray} {i n : Nat} (most K : Nat) (tM : ByteArray → Nat → Nat → Except Err ((Lim) × Nat)) (h : Rd w b s i n) (hm : most ≤ 50) (hc : Enters K)
    (ht : ∀ w1 j, Rd w1 b s j n → Calls Tryz.prog K #[.pointer (some ⟨b, 0, none⟩)] w1 (Out w1 b s n isLim (tM s n j))) :
    Calls Tryz.prog 46 #[.pointer (some ⟨b, 0, none⟩), .int .i64 (most : Nat), .func (.func K) #[] #[]] w (Out w b s n (isRow 73 4 Lim.cells (fun g => w.heap.size ≤ g)) (listM most tM s n i)) := by
  obtain ⟨i0, hi0, hz0, hz1, hz2⟩ := info_parts Tryz.info73
  have hcl : ∀ (args : Array Value) (w : World), (callFunc K args).run Tryz.prog w = .ok (.enter K args) w := hc
  have HT := hide ht
  clear ht
  go_enter Tryz.func46, Tryz.ntmps46
  go_wp2_with fail
  refine (count_any most h (by omega)).mono ?_
  rintro e w1 ⟨hk1, hok, herr⟩
  cases ho : countM most s n i with
  | error qp =>
    obtain ⟨q, p⟩ := qp
    have he := herr _ _ ho
    subst he
    exact ⟨rfl, Out.err_mk (by simp [listM, ho]) hk1⟩
  | ok xj =>
    obtain ⟨cnt, j0⟩ := xj
    obtain ⟨u, rfl, hv, hrd⟩ := hok _ _ ho
    have hv : u = .int .i64 (cnt : Nat) := hv
    subst hv
    have hcnt := (countM_facts ho).1
    have HM : Hid (listM most tM s n i = listGo tM s n cnt [] j0) := by show _ = _; simp [listM, ho]
    clear hok herr ho
    go_wp2
    go_loopw [7, 12] (fun v q wr => ∃ (k j : Nat) (ks : List (Lim)), k ≤ cnt ∧ ks.length = k ∧ q = .int .i64 k ∧ Rd wr b s j n ∧ Kept (only b) w wr ∧ isRow 73 4 Lim.cells (fun g => w.heap.size ≤ g) ks wr v ∧ listM most tM s n i = listGo tM s n (cnt - k) ks j) (fun _ q _ => cnt - (intOf q).toNat)
    case atStart => exact ⟨0, j0, [], Nat.zero_le _, rfl, rfl, hrd, hk1, Row.nil _ _ _ _, HM.out⟩
    case round =>
      obtain ⟨k, j, ks, hk, hl, rfl, hrd, hkp, hrow, hme⟩ := hrel
      have HE := hide hme
      clear hme HM
      by_cases hlt : k < cnt
      · have hlt' : (k : Int) < (cnt : Int) := by omega
        go_wp2_with fail
        refine (HT.out _ _ hrd).mono ?_
        rintro e w2 ⟨hk2, hok, herr⟩
        have hk3 := hkp.trans hk2
        have hrow2 : Row (fun g => w.heap.size ≤ g) w2 73 4 u7 ks.length (ks.flatMap Lim.cells) := hrow.kept hk2 (fun g _ hg (e : g = b) => by have := h.lt; omega)
        clear hrow hk2 hkp
        cases ho : tM s n j with
        | error qp =>
          obtain ⟨q, p⟩ := qp
          have he := herr _ _ ho
          subst he
          exact ⟨rfl, Out.err_mk (HE.out.trans (listGo_err (by omega) ho)) hk3⟩
        | ok xj =>
          obtain ⟨x, j2⟩ := xj
          obtain ⟨u, rfl, hv, hrd2⟩ := hok _ _ ho
          have hv : u = .agg #[.int .i64 (x.at_ : Nat), .int .u32 x.least, .int .u32 x.most, .bool x.has] := hv
          subst hv
          have HH : Hid (listM most tM s n i = listGo tM s n (cnt - (k + 1)) (ks ++ [x]) j2) := HE.out.trans (listGo_ok (by omega) ho)
          clear hok herr ho hrd
          have hown := ((hrow2.toBase (fun g hg => hg)).alloc (.cells #[.int .i64 (x.at_ : Nat), .int .u32 x.least, .int .u32 x.most, .bool x.has] 73)).alloc (.cells #[.int .i64 (x.at_ : Nat), .int .u32 x.least, .int .u32 x.most, .bool x.has] 73)
          have HW := hide hown
          have hsz := hk3.size
          clear hown hrow2
          go_wp2_with (at_builtin; refine wpList_append_own _ rfl _ _ 44 rfl w.heap.size 73 i0 (.agg #[.int .i64 0, .int .u32 0, .int .u32 0, .bool false]) 4 24 Tryz.underlying44 hi0 hz0 hz1 hz2 rfl (by decide) _ _ _ rfl HW.out ⟨w2.heap.size + 1, 0, none⟩ 1 1 [.int .i64 (x.at_ : Nat), .int .u32 x.least, .int .u32 x.most, .bool x.has] rfl rfl ?c1 ?c2 ?c3 ?c4 ?c5 ?_)
          case c1 => exact cells_at (by simp) rfl
          case c2 => intro u hu; simp at hu; rcases hu with rfl | rfl | rfl | rfl <;> rfl
          case c3 => unfold maxLen; omega
          case c4 => omega
          case c5 => simp; omega
          intro v' w3 hown' hgrow _
          have hk4 := grown_kept ((hk3.alloc _).alloc _) HW.out (Nat.le_refl _) hgrow
          have hrd3 := grown_rd ((hrd2.alloc _).alloc _) HW.out h.lt hgrow
          have hrow3 : isRow 73 4 Lim.cells (fun g => w.heap.size ≤ g) (ks ++ [x]) w3 v' := by
            have := Row.ofBase (ok := fun g => w.heap.size ≤ g) hown' (fun g hg _ => hg)
            simpa [isRow, Lim.cells, hl] using this
          have HR := hide hrow3
          clear hown' hgrow hrow3 HW
          go_wp2
          go_roundw
          case rel => exact ⟨k + 1, j2, ks ++ [x], by omega, by simp [hl], by go_num, hrd3, hk4, HR.out, HH.out⟩
          case measure => simp [intOf]; omega
      · have HH : Hid (listM most tM s n i = .ok (ks, j)) := by show _ = _; rw [HE.out, show cnt - k = 0 by omega]; rfl
        go_wp2
        go_ret
        exact Out.ok_mk HH.out hkp hrow hrd

theorem Tryz.info78 : (Tryz.prog.info? 78).map (fun i => (i.zero, i.size, i.bytes)) = some (some (.agg #[.int .u8 0, .bool false, .int .i64 0, .int .u8 0, .int .i64 0]), 5, 32) := by kernel_rfl

set_option maxRecDepth 100000 in
set_option maxHeartbeats 800000 in
theorem listGlobal_any {w : World} {b : Nat} {s : ByteArray} {i n : Nat} (most K : Nat) (tM : ByteArray → Nat → Nat → Except Err ((Glb) × Nat)) (h : Rd w b s i n) (hm : most ≤ 50) (hc : Enters K)
    (ht : ∀ w1 j, Rd w1 b s j n → Calls Tryz.prog K #[.pointer (some ⟨b, 0, none⟩)] w1 (Out w1 b s n isGlb (tM s n j))) :
    Calls Tryz.prog 49 #[.pointer (some ⟨b, 0, none⟩), .int .i64 (most : Nat), .func (.func K) #[] #[]] w (Out w b s n (isRow 78 5 Glb.cells (fun g => w.heap.size ≤ g)) (listM most tM s n i)) := by
  obtain ⟨i0, hi0, hz0, hz1, hz2⟩ := info_parts Tryz.info78
  have hcl : ∀ (args : Array Value) (w : World), (callFunc K args).run Tryz.prog w = .ok (.enter K args) w := hc
  have HT := hide ht
  clear ht
  go_enter Tryz.func49, Tryz.ntmps49
  go_wp2_with fail
  refine (count_any most h (by omega)).mono ?_
  rintro e w1 ⟨hk1, hok, herr⟩
  cases ho : countM most s n i with
  | error qp =>
    obtain ⟨q, p⟩ := qp
    have he := herr _ _ ho
    subst he
    exact ⟨rfl, Out.err_mk (by simp [listM, ho]) hk1⟩
  | ok xj =>
    obtain ⟨cnt, j0⟩ := xj
    obtain ⟨u, rfl, hv, hrd⟩ := hok _ _ ho
    have hv : u = .int .i64 (cnt : Nat) := hv
    subst hv
    have hcnt := (countM_facts ho).1
    have HM : Hid (listM most tM s n i = listGo tM s n cnt [] j0) := by show _ = _; simp [listM, ho]
    clear hok herr ho
    go_wp2
    go_loopw [7, 12] (fun v q wr => ∃ (k j : Nat) (ks : List (Glb)), k ≤ cnt ∧ ks.length = k ∧ q = .int .i64 k ∧ Rd wr b s j n ∧ Kept (only b) w wr ∧ isRow 78 5 Glb.cells (fun g => w.heap.size ≤ g) ks wr v ∧ listM most tM s n i = listGo tM s n (cnt - k) ks j) (fun _ q _ => cnt - (intOf q).toNat)
    case atStart => exact ⟨0, j0, [], Nat.zero_le _, rfl, rfl, hrd, hk1, Row.nil _ _ _ _, HM.out⟩
    case round =>
      obtain ⟨k, j, ks, hk, hl, rfl, hrd, hkp, hrow, hme⟩ := hrel
      have HE := hide hme
      clear hme HM
      by_cases hlt : k < cnt
      · have hlt' : (k : Int) < (cnt : Int) := by omega
        go_wp2_with fail
        refine (HT.out _ _ hrd).mono ?_
        rintro e w2 ⟨hk2, hok, herr⟩
        have hk3 := hkp.trans hk2
        have hrow2 : Row (fun g => w.heap.size ≤ g) w2 78 5 u7 ks.length (ks.flatMap Glb.cells) := hrow.kept hk2 (fun g _ hg (e : g = b) => by have := h.lt; omega)
        clear hrow hk2 hkp
        cases ho : tM s n j with
        | error qp =>
          obtain ⟨q, p⟩ := qp
          have he := herr _ _ ho
          subst he
          exact ⟨rfl, Out.err_mk (HE.out.trans (listGo_err (by omega) ho)) hk3⟩
        | ok xj =>
          obtain ⟨x, j2⟩ := xj
          obtain ⟨u, rfl, hv, hrd2⟩ := hok _ _ ho
          have hv : u = .agg #[.int .u8 (x.kind : Nat), .bool x.set_, .int .i64 (x.first.at_ : Nat), .int .u8 (x.first.kind : Nat), .int .i64 x.first.val] := hv
          subst hv
          have HH : Hid (listM most tM s n i = listGo tM s n (cnt - (k + 1)) (ks ++ [x]) j2) := HE.out.trans (listGo_ok (by omega) ho)
          clear hok herr ho hrd
          have hown := ((hrow2.toBase (fun g hg => hg)).alloc (.cells #[.int .u8 (x.kind : Nat), .bool x.set_, .int .i64 (x.first.at_ : Nat), .int .u8 (x.first.kind : Nat), .int .i64 x.first.val] 78)).alloc (.cells #[.int .u8 (x.kind : Nat), .bool x.set_, .int .i64 (x.first.at_ : Nat), .int .u8 (x.first.kind : Nat), .int .i64 x.first.val] 78)
          have HW := hide hown
          have hsz := hk3.size
          clear hown hrow2
          go_wp2_with (at_builtin; refine wpList_append_own _ rfl _ _ 45 rfl w.heap.size 78 i0 (.agg #[.int .u8 0, .bool false, .int .i64 0, .int .u8 0, .int .i64 0]) 5 32 Tryz.underlying45 hi0 hz0 hz1 hz2 rfl (by decide) _ _ _ rfl HW.out ⟨w2.heap.size + 1, 0, none⟩ 1 1 [.int .u8 (x.kind : Nat), .bool x.set_, .int .i64 (x.first.at_ : Nat), .int .u8 (x.first.kind : Nat), .int .i64 x.first.val] rfl rfl ?c1 ?c2 ?c3 ?c4 ?c5 ?_)
          case c1 => exact cells_at (by simp) rfl
          case c2 => intro u hu; simp at hu; rcases hu with rfl | rfl | rfl | rfl | rfl <;> rfl
          case c3 => unfold maxLen; omega
          case c4 => omega
          case c5 => simp; omega
          intro v' w3 hown' hgrow _
          have hk4 := grown_kept ((hk3.alloc _).alloc _) HW.out (Nat.le_refl _) hgrow
          have hrd3 := grown_rd ((hrd2.alloc _).alloc _) HW.out h.lt hgrow
          have hrow3 : isRow 78 5 Glb.cells (fun g => w.heap.size ≤ g) (ks ++ [x]) w3 v' := by
            have := Row.ofBase (ok := fun g => w.heap.size ≤ g) hown' (fun g hg _ => hg)
            simpa [isRow, Glb.cells, hl] using this
          have HR := hide hrow3
          clear hown' hgrow hrow3 HW
          go_wp2
          go_roundw
          case rel => exact ⟨k + 1, j2, ks ++ [x], by omega, by simp [hl], by go_num, hrd3, hk4, HR.out, HH.out⟩
          case measure => simp [intOf]; omega
      · have HH : Hid (listM most tM s n i = .ok (ks, j)) := by show _ = _; rw [HE.out, show cnt - k = 0 by omega]; rfl
        go_wp2
        go_ret
        exact Out.ok_mk HH.out hkp hrow hrd

theorem Tryz.info81 : (Tryz.prog.info? 81).map (fun i => (i.zero, i.size, i.bytes)) = some (some (.agg #[.int .i64 0, .string { data := #[] }, .int .u8 0, .int .u32 0, .int .i64 0]), 5, 48) := by kernel_rfl

set_option maxRecDepth 100000 in
set_option maxHeartbeats 800000 in
theorem listExport_any {w : World} {b : Nat} {s : ByteArray} {i n : Nat} (most K : Nat) (tM : ByteArray → Nat → Nat → Except Err ((Exp) × Nat)) (h : Rd w b s i n) (hm : most ≤ 50) (hc : Enters K)
    (ht : ∀ w1 j, Rd w1 b s j n → Calls Tryz.prog K #[.pointer (some ⟨b, 0, none⟩)] w1 (Out w1 b s n isExp (tM s n j))) :
    Calls Tryz.prog 51 #[.pointer (some ⟨b, 0, none⟩), .int .i64 (most : Nat), .func (.func K) #[] #[]] w (Out w b s n (isRow 81 5 Exp.cells (fun g => w.heap.size ≤ g)) (listM most tM s n i)) := by
  obtain ⟨i0, hi0, hz0, hz1, hz2⟩ := info_parts Tryz.info81
  have hcl : ∀ (args : Array Value) (w : World), (callFunc K args).run Tryz.prog w = .ok (.enter K args) w := hc
  have HT := hide ht
  clear ht
  go_enter Tryz.func51, Tryz.ntmps51
  go_wp2_with fail
  refine (count_any most h (by omega)).mono ?_
  rintro e w1 ⟨hk1, hok, herr⟩
  cases ho : countM most s n i with
  | error qp =>
    obtain ⟨q, p⟩ := qp
    have he := herr _ _ ho
    subst he
    exact ⟨rfl, Out.err_mk (by simp [listM, ho]) hk1⟩
  | ok xj =>
    obtain ⟨cnt, j0⟩ := xj
    obtain ⟨u, rfl, hv, hrd⟩ := hok _ _ ho
    have hv : u = .int .i64 (cnt : Nat) := hv
    subst hv
    have hcnt := (countM_facts ho).1
    have HM : Hid (listM most tM s n i = listGo tM s n cnt [] j0) := by show _ = _; simp [listM, ho]
    clear hok herr ho
    go_wp2
    go_loopw [7, 12] (fun v q wr => ∃ (k j : Nat) (ks : List (Exp)), k ≤ cnt ∧ ks.length = k ∧ q = .int .i64 k ∧ Rd wr b s j n ∧ Kept (only b) w wr ∧ isRow 81 5 Exp.cells (fun g => w.heap.size ≤ g) ks wr v ∧ listM most tM s n i = listGo tM s n (cnt - k) ks j) (fun _ q _ => cnt - (intOf q).toNat)
    case atStart => exact ⟨0, j0, [], Nat.zero_le _, rfl, rfl, hrd, hk1, Row.nil _ _ _ _, HM.out⟩
    case round =>
      obtain ⟨k, j, ks, hk, hl, rfl, hrd, hkp, hrow, hme⟩ := hrel
      have HE := hide hme
      clear hme HM
      by_cases hlt : k < cnt
      · have hlt' : (k : Int) < (cnt : Int) := by omega
        go_wp2_with fail
        refine (HT.out _ _ hrd).mono ?_
        rintro e w2 ⟨hk2, hok, herr⟩
        have hk3 := hkp.trans hk2
        have hrow2 : Row (fun g => w.heap.size ≤ g) w2 81 5 u7 ks.length (ks.flatMap Exp.cells) := hrow.kept hk2 (fun g _ hg (e : g = b) => by have := h.lt; omega)
        clear hrow hk2 hkp
        cases ho : tM s n j with
        | error qp =>
          obtain ⟨q, p⟩ := qp
          have he := herr _ _ ho
          subst he
          exact ⟨rfl, Out.err_mk (HE.out.trans (listGo_err (by omega) ho)) hk3⟩
        | ok xj =>
          obtain ⟨x, j2⟩ := xj
          obtain ⟨u, rfl, hv, hrd2⟩ := hok _ _ ho
          have hv : u = .agg #[.int .i64 (x.nameAt : Nat), .string x.name, .int .u8 (x.of_ : Nat), .int .u32 x.idx.1, .int .i64 (x.idx.2 : Nat)] := hv
          subst hv
          have HH : Hid (listM most tM s n i = listGo tM s n (cnt - (k + 1)) (ks ++ [x]) j2) := HE.out.trans (listGo_ok (by omega) ho)
          clear hok herr ho hrd
          have hown := ((hrow2.toBase (fun g hg => hg)).alloc (.cells #[.int .i64 (x.nameAt : Nat), .string x.name, .int .u8 (x.of_ : Nat), .int .u32 x.idx.1, .int .i64 (x.idx.2 : Nat)] 81)).alloc (.cells #[.int .i64 (x.nameAt : Nat), .string x.name, .int .u8 (x.of_ : Nat), .int .u32 x.idx.1, .int .i64 (x.idx.2 : Nat)] 81)
          have HW := hide hown
          have hsz := hk3.size
          clear hown hrow2
          go_wp2_with (at_builtin; refine wpList_append_own _ rfl _ _ 46 rfl w.heap.size 81 i0 (.agg #[.int .i64 0, .string { data := #[] }, .int .u8 0, .int .u32 0, .int .i64 0]) 5 48 Tryz.underlying46 hi0 hz0 hz1 hz2 rfl (by decide) _ _ _ rfl HW.out ⟨w2.heap.size + 1, 0, none⟩ 1 1 [.int .i64 (x.nameAt : Nat), .string x.name, .int .u8 (x.of_ : Nat), .int .u32 x.idx.1, .int .i64 (x.idx.2 : Nat)] rfl rfl ?c1 ?c2 ?c3 ?c4 ?c5 ?_)
          case c1 => exact cells_at (by simp) rfl
          case c2 => intro u hu; simp at hu; rcases hu with rfl | rfl | rfl | rfl | rfl <;> rfl
          case c3 => unfold maxLen; omega
          case c4 => omega
          case c5 => simp; omega
          intro v' w3 hown' hgrow _
          have hk4 := grown_kept ((hk3.alloc _).alloc _) HW.out (Nat.le_refl _) hgrow
          have hrd3 := grown_rd ((hrd2.alloc _).alloc _) HW.out h.lt hgrow
          have hrow3 : isRow 81 5 Exp.cells (fun g => w.heap.size ≤ g) (ks ++ [x]) w3 v' := by
            have := Row.ofBase (ok := fun g => w.heap.size ≤ g) hown' (fun g hg _ => hg)
            simpa [isRow, Exp.cells, hl] using this
          have HR := hide hrow3
          clear hown' hgrow hrow3 HW
          go_wp2
          go_roundw
          case rel => exact ⟨k + 1, j2, ks ++ [x], by omega, by simp [hl], by go_num, hrd3, hk4, HR.out, HH.out⟩
          case measure => simp [intOf]; omega
      · have HH : Hid (listM most tM s n i = .ok (ks, j)) := by show _ = _; rw [HE.out, show cnt - k = 0 by omega]; rfl
        go_wp2
        go_ret
        exact Out.ok_mk HH.out hkp hrow hrd

theorem Tryz.info103 : (Tryz.prog.info? 103).map (fun i => (i.zero, i.size, i.bytes)) = some (some (.agg #[.int .i64 0, .int .i64 0, .int .u8 0, .int .i64 0, .string { data := #[] }]), 5, 48) := by kernel_rfl

set_option maxRecDepth 100000 in
set_option maxHeartbeats 800000 in
theorem listData_any {w : World} {b : Nat} {s : ByteArray} {i n : Nat} (most K : Nat) (tM : ByteArray → Nat → Nat → Except Err ((Dat) × Nat)) (h : Rd w b s i n) (hm : most ≤ 50) (hc : Enters K)
    (ht : ∀ w1 j, Rd w1 b s j n → Calls Tryz.prog K #[.pointer (some ⟨b, 0, none⟩)] w1 (Out w1 b s n isDat (tM s n j))) :
    Calls Tryz.prog 56 #[.pointer (some ⟨b, 0, none⟩), .int .i64 (most : Nat), .func (.func K) #[] #[]] w (Out w b s n (isRow 103 5 Dat.cells (fun g => w.heap.size ≤ g)) (listM most tM s n i)) := by
  obtain ⟨i0, hi0, hz0, hz1, hz2⟩ := info_parts Tryz.info103
  have hcl : ∀ (args : Array Value) (w : World), (callFunc K args).run Tryz.prog w = .ok (.enter K args) w := hc
  have HT := hide ht
  clear ht
  go_enter Tryz.func56, Tryz.ntmps56
  go_wp2_with fail
  refine (count_any most h (by omega)).mono ?_
  rintro e w1 ⟨hk1, hok, herr⟩
  cases ho : countM most s n i with
  | error qp =>
    obtain ⟨q, p⟩ := qp
    have he := herr _ _ ho
    subst he
    exact ⟨rfl, Out.err_mk (by simp [listM, ho]) hk1⟩
  | ok xj =>
    obtain ⟨cnt, j0⟩ := xj
    obtain ⟨u, rfl, hv, hrd⟩ := hok _ _ ho
    have hv : u = .int .i64 (cnt : Nat) := hv
    subst hv
    have hcnt := (countM_facts ho).1
    have HM : Hid (listM most tM s n i = listGo tM s n cnt [] j0) := by show _ = _; simp [listM, ho]
    clear hok herr ho
    go_wp2
    go_loopw [7, 12] (fun v q wr => ∃ (k j : Nat) (ks : List (Dat)), k ≤ cnt ∧ ks.length = k ∧ q = .int .i64 k ∧ Rd wr b s j n ∧ Kept (only b) w wr ∧ isRow 103 5 Dat.cells (fun g => w.heap.size ≤ g) ks wr v ∧ listM most tM s n i = listGo tM s n (cnt - k) ks j) (fun _ q _ => cnt - (intOf q).toNat)
    case atStart => exact ⟨0, j0, [], Nat.zero_le _, rfl, rfl, hrd, hk1, Row.nil _ _ _ _, HM.out⟩
    case round =>
      obtain ⟨k, j, ks, hk, hl, rfl, hrd, hkp, hrow, hme⟩ := hrel
      have HE := hide hme
      clear hme HM
      by_cases hlt : k < cnt
      · have hlt' : (k : Int) < (cnt : Int) := by omega
        go_wp2_with fail
        refine (HT.out _ _ hrd).mono ?_
        rintro e w2 ⟨hk2, hok, herr⟩
        have hk3 := hkp.trans hk2
        have hrow2 : Row (fun g => w.heap.size ≤ g) w2 103 5 u7 ks.length (ks.flatMap Dat.cells) := hrow.kept hk2 (fun g _ hg (e : g = b) => by have := h.lt; omega)
        clear hrow hk2 hkp
        cases ho : tM s n j with
        | error qp =>
          obtain ⟨q, p⟩ := qp
          have he := herr _ _ ho
          subst he
          exact ⟨rfl, Out.err_mk (HE.out.trans (listGo_err (by omega) ho)) hk3⟩
        | ok xj =>
          obtain ⟨x, j2⟩ := xj
          obtain ⟨u, rfl, hv, hrd2⟩ := hok _ _ ho
          have hv : u = .agg #[.int .i64 (x.at_ : Nat), .int .i64 (x.place.at_ : Nat), .int .u8 (x.place.kind : Nat), .int .i64 x.place.val, .string x.bytes] := hv
          subst hv
          have HH : Hid (listM most tM s n i = listGo tM s n (cnt - (k + 1)) (ks ++ [x]) j2) := HE.out.trans (listGo_ok (by omega) ho)
          clear hok herr ho hrd
          have hown := ((hrow2.toBase (fun g hg => hg)).alloc (.cells #[.int .i64 (x.at_ : Nat), .int .i64 (x.place.at_ : Nat), .int .u8 (x.place.kind : Nat), .int .i64 x.place.val, .string x.bytes] 103)).alloc (.cells #[.int .i64 (x.at_ : Nat), .int .i64 (x.place.at_ : Nat), .int .u8 (x.place.kind : Nat), .int .i64 x.place.val, .string x.bytes] 103)
          have HW := hide hown
          have hsz := hk3.size
          clear hown hrow2
          go_wp2_with (at_builtin; refine wpList_append_own _ rfl _ _ 49 rfl w.heap.size 103 i0 (.agg #[.int .i64 0, .int .i64 0, .int .u8 0, .int .i64 0, .string { data := #[] }]) 5 48 Tryz.underlying49 hi0 hz0 hz1 hz2 rfl (by decide) _ _ _ rfl HW.out ⟨w2.heap.size + 1, 0, none⟩ 1 1 [.int .i64 (x.at_ : Nat), .int .i64 (x.place.at_ : Nat), .int .u8 (x.place.kind : Nat), .int .i64 x.place.val, .string x.bytes] rfl rfl ?c1 ?c2 ?c3 ?c4 ?c5 ?_)
          case c1 => exact cells_at (by simp) rfl
          case c2 => intro u hu; simp at hu; rcases hu with rfl | rfl | rfl | rfl | rfl <;> rfl
          case c3 => unfold maxLen; omega
          case c4 => omega
          case c5 => simp; omega
          intro v' w3 hown' hgrow _
          have hk4 := grown_kept ((hk3.alloc _).alloc _) HW.out (Nat.le_refl _) hgrow
          have hrd3 := grown_rd ((hrd2.alloc _).alloc _) HW.out h.lt hgrow
          have hrow3 : isRow 103 5 Dat.cells (fun g => w.heap.size ≤ g) (ks ++ [x]) w3 v' := by
            have := Row.ofBase (ok := fun g => w.heap.size ≤ g) hown' (fun g hg _ => hg)
            simpa [isRow, Dat.cells, hl] using this
          have HR := hide hrow3
          clear hown' hgrow hrow3 HW
          go_wp2
          go_roundw
          case rel => exact ⟨k + 1, j2, ks ++ [x], by omega, by simp [hl], by go_num, hrd3, hk4, HR.out, HH.out⟩
          case measure => simp [intOf]; omega
      · have HH : Hid (listM most tM s n i = .ok (ks, j)) := by show _ = _; rw [HE.out, show cnt - k = 0 by omega]; rfl
        go_wp2
        go_ret
        exact Out.ok_mk HH.out hkp hrow hrd

end Go.Proofs.YtgkpkngchploiaaGreat
/-
  Slices that were made, carried on past stores into other blocks.
-/
namespace Go.Proofs.YtgkpkngchploiaaGreat
open Go.RowKit

section
variable {ok : Nat → Prop} {w w' : World} {E : TypeId} {size : Nat} {v : Value} {n : Nat} {xs : List Value}

theorem Row.other (h : Row ok w E size v n xs) {g o : Nat} (hg : ∀ k, ok k → k ≠ g) (u : Value) : Row ok (w.setCell ⟨g, o, none⟩ u) E size v n xs :=
  h.kept (S := only g) ((Kept.refl _ _).own u) (fun k _ hk e => hg k hk e)

theorem Row.call {b : Nat} (h : Row ok w E size v n xs) (hk : Kept (only b) w w') (hb : ∀ k, ok k → k ≠ b) : Row ok w' E size v n xs :=
  h.kept hk (fun k _ hk e => hb k hk e)

theorem Row.shape (h : Row ok w E size v n xs) : ∃ p c, v = .slice p n c := by
  rcases h.own.2 with ⟨hv, hn⟩ | ⟨g, cap, cur, hv, _⟩
  · exact ⟨none, 0, by rw [hv, hn]⟩
  · exact ⟨_, cap, hv⟩

theorem Row.alloc (h : Row ok w E size v n xs) (o : Obj) : Row ok (w.alloc o) E size v n xs :=
  h.kept (S := fun _ => False) ((Kept.refl _ _).alloc o) (fun _ _ _ x => x)
end

/-- A type in memory: two lists of kinds. -/
def isTy (ok : Nat → Prop) (t : Ty) (w : World) (v : Value) : Prop := ∃ vi vo, v = .agg #[vi, vo] ∧ isKinds ok t.ins w vi ∧ isKinds ok t.outs w vo

/-- An element in memory. -/
def isElm (ok : Nat → Prop) (x : Elm) (w : World) (v : Value) : Prop :=
  ∃ vl, v = .agg #[.int .i64 (x.at_ : Nat), .int .i64 (x.place.at_ : Nat), .int .u8 (x.place.kind : Nat), .int .i64 x.place.val, vl] ∧ isRow 62 2 numCells ok x.funcs w vl

end Go.Proofs.YtgkpkngchploiaaGreat
/-
  takeType, takeElement.
-/
namespace Go.Proofs.YtgkpkngchploiaaGreat
open Go.RowKit

set_option maxRecDepth 100000 in
set_option maxHeartbeats 800000 in
theorem takeType_any {w : World} {b : Nat} {s : ByteArray} {i n : Nat} (h : Rd w b s i n) :
    Calls Tryz.prog 44 #[.pointer (some ⟨b, 0, none⟩)] w (Out w b s n (isTy (fun g => w.heap.size ≤ g)) (typeM s n i)) := by
  have hbw := h.lt
  have hfld := field_num0
  go_enter Tryz.func44, Tryz.ntmps44
  go_wp2_with fail
  refine (one_any (ts := [96]) (((h.alloc _).alloc _).alloc _) (bts_one' 96 (by simp) rfl) (by simp) (by omega) (by simp)).mono ?_
  rintro e w1 ⟨hx1, hok, herr⟩
  have hk1 := ((((Kept.refl (only b) w).alloc _).alloc _).alloc _).trans hx1
  have oR1 : OB w1 b (w.heap.size) [.slice none 0 0, .slice none 0 0] := (((OB.new (b := b) (g := w.heap.size) (c := #[.slice none 0 0, .slice none 0 0]) (by first | omega | (simp; omega)) (by simp)).alloc _).alloc _).call hx1
  have oL1 : OB w1 b (w.heap.size + 1) [.slice none 0 0, .slice none 0 0] := ((OB.new (b := b) (g := w.heap.size + 1) (c := #[.slice none 0 0, .slice none 0 0]) (by first | omega | (simp; omega)) (by simp)).alloc _).call hx1
  clear hx1
  cases ho : oneM [96] s n i with
  | error qp =>
    obtain ⟨q, p⟩ := qp
    have he := herr _ _ ho
    subst he
    exact ⟨rfl, Out.err_mk (by simp [typeM, ho]) hk1⟩
  | ok xj =>
    obtain ⟨x, j⟩ := xj
    obtain ⟨u, rfl, -, hrd1⟩ := hok _ _ ho
    have HO1 := hide ho
    clear hok herr ho
    have hz1 := hk1.size
    go_wp2_with fail
    refine (listKind_any 8 hrd1 (by omega)).mono ?_
    rintro e w2 ⟨hx2, hok, herr⟩
    have hk2 := hk1.trans hx2
    have oR2 : OB w2 b (w.heap.size) [.slice none 0 0, .slice none 0 0] := oR1.call hx2
    have oL2 : OB w2 b (w.heap.size + 1) [.slice none 0 0, .slice none 0 0] := oL1.call hx2
    clear hx2
    cases ho : listM 8 kindM s n j with
    | error qp =>
      obtain ⟨q, p⟩ := qp
      have he := herr _ _ ho
      subst he
      exact ⟨rfl, Out.err_mk (by simp [typeM, HO1.out, ho]) hk2⟩
    | ok xj =>
      obtain ⟨ins, j2⟩ := xj
      obtain ⟨vi, rfl, hvi, hrd2⟩ := hok _ _ ho
      have HO2 := hide ho
      clear hok herr ho
      have hz2 := hk2.size
      obtain ⟨pi, ci, rfl⟩ := Row.shape hvi
      obtain ⟨⟨Lc0, Lf0⟩, ⟨Lc1, Lf1⟩⟩ := oL2.blk.two
      go_wp2_with fail
      refine (listKind_any 4 (hrd2.set_other oL2.ne _) (by omega)).mono ?_
      rintro e w3 ⟨hx3, hok, herr⟩
      have hk3 := (hk2.new (by omega) _).trans hx3
      have oR3 : OB w3 b (w.heap.size) [.slice none 0 0, .slice none 0 0] := (oR2.other (by omega) _).call hx3
      have oL3 : OB w3 b (w.heap.size + 1) [(.slice pi ins.length ci), .slice none 0 0] := (oL2.set 0 (.slice pi ins.length ci)).call hx3
      clear Lc0 Lf0 Lc1 Lf1
      have hvi3 : isKinds (fun g => w1.heap.size ≤ g) ins w3 (.slice pi ins.length ci) := Row.call (Row.other hvi (fun k hk => by have := oL1.lt; omega) _) hx3 (fun k hk => by omega)
      clear hx3
      cases ho : listM 4 kindM s n j2 with
      | error qp =>
        obtain ⟨q, p⟩ := qp
        have he := herr _ _ ho
        subst he
        exact ⟨rfl, Out.err_mk (by simp [typeM, HO1.out, HO2.out, ho]) hk3⟩
      | ok xj =>
        obtain ⟨outs, j3⟩ := xj
        obtain ⟨vo, rfl, hvo, hrd3⟩ := hok _ _ ho
        have HO3 := hide ho
        clear hok herr ho
        have hz3 := hk3.size
        obtain ⟨po, co, rfl⟩ := Row.shape hvo
        obtain ⟨⟨Rc0, Rf0⟩, ⟨Rc1, Rf1⟩⟩ := oR3.blk.two
        obtain ⟨⟨Lc0, Lf0⟩, ⟨Lc1, Lf1⟩⟩ := oL3.blk.two
        have HH : Hid (typeM s n i = .ok (⟨ins, outs⟩, j3)) := by show _ = _; simp [typeM, HO1.out, HO2.out, HO3.out]
        have HV1 := hide hvi3
        have HV2 := hide hvo
        clear hvi3 hvo hvi
        go_wp2
        refine bodyPost_ret (v := .agg #[(.slice pi ins.length ci), (.slice po outs.length co)]) ?_ rfl (Out.ok_mk HH.out (((hk3.new (by omega) _).new (Nat.le_refl _) _).new (Nat.le_refl _) _) ⟨(.slice pi ins.length ci), (.slice po outs.length co), rfl, ?_, ?_⟩ (((hrd3.set_other oL3.ne _).set_other oR3.ne _).set_other oR3.ne _))
        · simp [results, Tryz.results44, go_sem, Rc0, Rc1]
        · exact Row.mono (Row.other (Row.other (Row.other HV1.out (g := w.heap.size + 1) (o := 1) (fun k hk => by have := oL1.lt; omega) _) (g := w.heap.size) (o := 0) (fun k hk => by have := oL1.lt; omega) _) (g := w.heap.size) (o := 1) (fun k hk => by have := oL1.lt; omega) _) (fun g _ hg => by have := oL1.lt; omega)
        · exact Row.mono (Row.other (Row.other (Row.other HV2.out (g := w.heap.size + 1) (o := 1) (fun k hk => by have := oL2.lt; simp at hk; omega) _) (g := w.heap.size) (o := 0) (fun k hk => by have := oL2.lt; simp at hk; omega) _) (g := w.heap.size) (o := 1) (fun k hk => by have := oL2.lt; simp at hk; omega) _) (fun g _ hg => by have := oL2.lt; simp at hg; omega)

set_option maxRecDepth 100000 in
set_option maxHeartbeats 800000 in
theorem takeElement_any {w : World} {b : Nat} {s : ByteArray} {i n : Nat} (h : Rd w b s i n) :
    Calls Tryz.prog 54 #[.pointer (some ⟨b, 0, none⟩)] w (Out w b s n (isElm (fun g => w.heap.size ≤ g)) (elemM s n i)) := by
  have hbw := h.lt
  have hfld := field_num0
  go_enter Tryz.func54, Tryz.ntmps54
  go_wp2_with fail
  refine (at_any (h.alloc _)).mono ?_
  rintro e w0 ⟨rfl, rfl⟩
  go_wp2_with fail
  refine (one_any (ts := [0]) (((h.alloc _).alloc _).alloc _) (bts_one' 0 (by simp) rfl) (by simp) (by omega) (by simp)).mono ?_
  rintro e w1 ⟨hx1, hok, herr⟩
  have hk1 := ((((Kept.refl (only b) w).alloc _).alloc _).alloc _).trans hx1
  have oR1 : OB w1 b (w.heap.size) [.int .i64 0, .int .i64 0, .int .u8 0, .int .i64 0, .slice none 0 0] := (((OB.new (b := b) (g := w.heap.size) (c := #[.int .i64 0, .int .i64 0, .int .u8 0, .int .i64 0, .slice none 0 0]) (by first | omega | (simp; omega)) (by simp)).alloc _).alloc _).call hx1
  have oL1 : OB w1 b (w.heap.size + 1) [.int .i64 (i : Nat), .int .i64 0, .int .u8 0, .int .i64 0, .slice none 0 0] := ((OB.new (b := b) (g := w.heap.size + 1) (c := #[.int .i64 (i : Nat), .int .i64 0, .int .u8 0, .int .i64 0, .slice none 0 0]) (by first | omega | (simp; omega)) (by simp)).alloc _).call hx1
  clear hx1
  cases ho : oneM [0] s n i with
  | error qp =>
    obtain ⟨q, p⟩ := qp
    have he := herr _ _ ho
    subst he
    exact ⟨rfl, Out.err_mk (by simp [elemM, ho]) hk1⟩
  | ok xj =>
    obtain ⟨x, j⟩ := xj
    obtain ⟨u, rfl, -, hrd1⟩ := hok _ _ ho
    have HO1 := hide ho
    clear hok herr ho
    have hz1 := hk1.size
    go_wp2_with fail
    refine (takeConstant_any hrd1).mono ?_
    rintro e w2 ⟨hx2, hok, herr⟩
    have hk2 := hk1.trans hx2
    have oR2 : OB w2 b (w.heap.size) [.int .i64 0, .int .i64 0, .int .u8 0, .int .i64 0, .slice none 0 0] := oR1.call hx2
    have oL2 : OB w2 b (w.heap.size + 1) [.int .i64 (i : Nat), .int .i64 0, .int .u8 0, .int .i64 0, .slice none 0 0] := oL1.call hx2
    clear hx2
    cases ho : constM s n j with
    | error qp =>
      obtain ⟨q, p⟩ := qp
      have he := herr _ _ ho
      subst he
      exact ⟨rfl, Out.err_mk (by simp [elemM, HO1.out, ho]) hk2⟩
    | ok xj =>
      obtain ⟨c, j2⟩ := xj
      obtain ⟨u, rfl, hv, hrd2⟩ := hok _ _ ho
      have hv : u = .agg #[.int .i64 (c.at_ : Nat), .int .u8 (c.kind : Nat), .int .i64 c.val] := hv
      subst hv
      have HO2 := hide ho
      clear hok herr ho
      have hz2 := hk2.size
      obtain ⟨⟨Lc0, Lf0⟩, ⟨Lc1, Lf1⟩, ⟨Lc2, Lf2⟩, ⟨Lc3, Lf3⟩, ⟨Lc4, Lf4⟩⟩ := oL2.blk.five
      go_wp2_with fail
      refine (listNumber_any 20 42 uM (((hrd2.set_other oL2.ne _).set_other oL2.ne _).set_other oL2.ne _) (by omega) enters_U (fun _ _ hr => u_any hr)).mono ?_
      rintro e w3 ⟨hx3, hok, herr⟩
      have hk3 := (((hk2.new (by omega) _).new (by omega) _).new (by omega) _).trans hx3
      have oR3 : OB w3 b (w.heap.size) [.int .i64 0, .int .i64 0, .int .u8 0, .int .i64 0, .slice none 0 0] := (((oR2.other (by omega) _).other (by omega) _).other (by omega) _).call hx3
      have oL3 : OB w3 b (w.heap.size + 1) [.int .i64 (i : Nat), (.int .i64 (c.at_ : Nat)), (.int .u8 (c.kind : Nat)), (.int .i64 c.val), .slice none 0 0] := (((oL2.set 1 (.int .i64 (c.at_ : Nat))).set 2 (.int .u8 (c.kind : Nat))).set 3 (.int .i64 c.val)).call hx3
      clear Lc0 Lf0 Lc1 Lf1 Lc2 Lf2 Lc3 Lf3 Lc4 Lf4
      clear hx3
      cases ho : listM 20 uM s n j2 with
      | error qp =>
        obtain ⟨q, p⟩ := qp
        have he := herr _ _ ho
        subst he
        exact ⟨rfl, Out.err_mk (by simp [elemM, HO1.out, HO2.out, ho]) hk3⟩
      | ok xj =>
        obtain ⟨fs, j3⟩ := xj
        obtain ⟨vl, rfl, hvl, hrd3⟩ := hok _ _ ho
        have HO3 := hide ho
        clear hok herr ho
        have hz3 := hk3.size
        obtain ⟨pl, cl, rfl⟩ := Row.shape hvl
        obtain ⟨⟨Rc0, Rf0⟩, ⟨Rc1, Rf1⟩, ⟨Rc2, Rf2⟩, ⟨Rc3, Rf3⟩, ⟨Rc4, Rf4⟩⟩ := oR3.blk.five
        obtain ⟨⟨Lc0, Lf0⟩, ⟨Lc1, Lf1⟩, ⟨Lc2, Lf2⟩, ⟨Lc3, Lf3⟩, ⟨Lc4, Lf4⟩⟩ := oL3.blk.five
        have HH : Hid (elemM s n i = .ok (⟨i, c, fs⟩, j3)) := by show _ = _; simp [elemM, HO1.out, HO2.out, HO3.out]
        have HV := hide hvl
        clear hvl
        go_wp2
        refine bodyPost_ret (v := .agg #[.int .i64 (i : Nat), .int .i64 (c.at_ : Nat), .int .u8 (c.kind : Nat), .int .i64 c.val, (.slice pl fs.length cl)]) ?_ rfl (Out.ok_mk HH.out ((((((hk3.new (by omega) _).new (Nat.le_refl _) _).new (Nat.le_refl _) _).new (Nat.le_refl _) _).new (Nat.le_refl _) _).new (Nat.le_refl _) _) ⟨(.slice pl fs.length cl), rfl, ?_⟩ ((((((hrd3.set_other oL3.ne _).set_other oR3.ne _).set_other oR3.ne _).set_other oR3.ne _).set_other oR3.ne _).set_other oR3.ne _))
        · simp [results, Tryz.results54, go_sem, Rc0, Rc1, Rc2, Rc3, Rc4]
        · exact Row.mono (Row.other (Row.other (Row.other (Row.other (Row.other (Row.other HV.out (g := w.heap.size + 1) (o := 4) (fun k hk => by have := oL2.lt; simp at hk; omega) _) (g := w.heap.size) (o := 0) (fun k hk => by have := oL2.lt; simp at hk; omega) _) (g := w.heap.size) (o := 1) (fun k hk => by have := oL2.lt; simp at hk; omega) _) (g := w.heap.size) (o := 2) (fun k hk => by have := oL2.lt; simp at hk; omega) _) (g := w.heap.size) (o := 3) (fun k hk => by have := oL2.lt; simp at hk; omega) _) (g := w.heap.size) (o := 4) (fun k hk => by have := oL2.lt; simp at hk; omega) _) (fun g _ hg => by have := oL2.lt; simp at hg; omega)

end Go.Proofs.YtgkpkngchploiaaGreat
/-
  Plain, ExportName, takeExport.
-/
namespace Go.Proofs.YtgkpkngchploiaaGreat
open Go.RowKit

set_option maxHeartbeats 400000 in
theorem exportable_any (x : Nat) (w : World) :
    Calls Tryz.prog 98 #[.int .u8 (x : Nat)] w fun e w' => e = .returned (.bool (expB x)) ∧ w' = w := by
  by_cases h1 : 32 ≤ x
  · by_cases h2 : x ≤ 126
    · have t1 : decide ((32 : Int) ≤ (x : Int)) = true := by simp; omega
      have t2 : decide ((x : Int) ≤ (126 : Int)) = true := by simp; omega
      have HH : Hid (expB x = ((x : Int) != 34 && (x : Int) != 92)) := by
        show _ = _
        have a1 : ((x : Int) != 34) = (x != 34) := by rw [Bool.eq_iff_iff]; simp; omega
        have a2 : ((x : Int) != 92) = (x != 92) := by rw [Bool.eq_iff_iff]; simp; omega
        simp [expB, h1, h2, a1, a2]
      clear h1 h2
      cases t3 : ((x : Int) != 34) with
      | true =>
        have HT := hide t3
        go_enter Tryz.func98, Tryz.ntmps98
        go_wp2
        go_ret
        exact ⟨by rw [HH.out, HT.out]; rfl, rfl⟩
      | false =>
        have HT := hide t3
        go_enter Tryz.func98, Tryz.ntmps98
        go_wp2
        go_ret
        exact ⟨by rw [HH.out, HT.out]; rfl, rfl⟩
    · have t1 : decide ((32 : Int) ≤ (x : Int)) = true := by simp; omega
      have t2 : decide ((x : Int) ≤ (126 : Int)) = false := by simp; omega
      have HH : Hid (expB x = false) := by show _ = _; simp [expB, h2]
      clear h1 h2
      go_enter Tryz.func98, Tryz.ntmps98
      go_wp2
      go_ret
      exact ⟨by rw [HH.out]; rfl, rfl⟩
  · have t1 : decide ((32 : Int) ≤ (x : Int)) = false := by simp; omega
    have HH : Hid (expB x = false) := by show _ = _; simp [expB, h1]
    clear h1
    go_enter Tryz.func98, Tryz.ntmps98
    go_wp2
    go_ret
    exact ⟨by rw [HH.out]; rfl, rfl⟩

--GEN
theorem allExp_yes {t : ByteArray} {k : Nat} (h : k < t.size) (hx : expB t[k].toNat = true) : allExp t k = allExp t (k + 1) := by
  unfold allExp; rw [tl_cons h]; simp [hx]

theorem allExp_no {t : ByteArray} {k : Nat} (h : k < t.size) (hx : expB t[k].toNat = false) : allExp t k = false := by
  unfold allExp; rw [tl_cons h]; simp [hx]

theorem allExp_end {t : ByteArray} {k : Nat} (h : t.size ≤ k) : allExp t k = true := by
  unfold allExp; rw [tl_end h]; rfl

theorem textM_facts {k : Nat} {s : ByteArray} {n i : Nat} {t : ByteArray} {j : Nat} (h : textM k s n i = .ok (t, j)) (hn : n ≤ s.size) (hi : i ≤ n) : t.size = k ∧ j = i + k ∧ j ≤ n := by
  unfold textM at h
  split at h
  · cases h
  · cases h
    refine ⟨?_, rfl, by omega⟩
    rw [ByteArray.size_extract]
    omega

set_option maxHeartbeats 800000 in
theorem exportName_any (t : ByteArray) (w : World) (ht : t.size ≤ 20) : Calls Tryz.prog 73 #[.string t] w fun e w' => e = .returned (.bool (allExp t 0)) ∧ w' = w := by
  have hnot : ∀ (x : Bool) (w : World), (Op.unary .not (.bool x)).run Tryz.prog w = .ok (.bool (!x)) w := fun _ _ => rfl
  have hle : (t.size : Int) ≤ 20 := by omega
  go_enter Tryz.func73, Tryz.ntmps73
  go_wp2
  go_loop [3, 6] (fun _ q => ∃ k : Nat, k ≤ t.size ∧ q = .int .i64 k ∧ allExp t 0 = allExp t k) (fun _ q => t.size - (intOf q).toNat)
  case atStart => exact ⟨0, Nat.zero_le _, rfl, rfl⟩
  case round =>
    obtain ⟨k, hk, rfl, ha⟩ := hrel
    have HA := hide ha
    clear ha
    by_cases hlt : k < t.size
    · have hlt' : (k : Int) < (t.size : Int) := by omega
      cases hx : expB t[k].toNat with
      | true =>
        have HN := hide (HA.out.trans (allExp_yes hlt hx))
        have HX := hide hx
        clear hx
        go_wp2_with fail
        refine (exportable_any _ _).mono ?_
        rintro e w3 ⟨rfl, rfl⟩
        rw [HX.out]
        go_wp2
        go_round
        case rel => exact ⟨k + 1, by omega, by go_num, HN.out⟩
        case measure => simp [intOf]; omega
      | false =>
        have HN := hide (HA.out.trans (allExp_no hlt hx))
        have HX := hide hx
        clear hx
        go_wp2_with fail
        refine (exportable_any _ _).mono ?_
        rintro e w3 ⟨rfl, rfl⟩
        rw [HX.out]
        go_wp2
        go_ret
        exact ⟨by simp [HN.out], rfl⟩
    · have HN := hide (HA.out.trans (allExp_end (by omega)))
      go_wp2
      go_ret
      exact ⟨by rw [HN.out]; rfl, rfl⟩

set_option maxRecDepth 100000 in
set_option maxHeartbeats 1600000 in
theorem takeExport_any {w : World} {b : Nat} {s : ByteArray} {i n : Nat} (h : Rd w b s i n) :
    Calls Tryz.prog 52 #[.pointer (some ⟨b, 0, none⟩)] w (Out w b s n isExp (exportM s n i)) := by
  have hbw := h.lt
  have hfld := field_num0
  go_enter Tryz.func52, Tryz.ntmps52
  go_wp2_with fail
  refine (at_any (h.alloc _)).mono ?_
  rintro e w0 ⟨rfl, rfl⟩
  go_wp2_with fail
  refine (count_any 20 ((h.alloc _).alloc _) (by omega)).mono ?_
  rintro e w1 ⟨hx1, hok, herr⟩
  have hk1 := (((Kept.refl (only b) w).alloc _).alloc _).trans hx1
  have oR1 : OB w1 b (w.heap.size) [.int .i64 0, .string { data := #[] }, .int .u8 0, .int .u32 0, .int .i64 0] := ((OB.new (b := b) (g := w.heap.size) (c := #[.int .i64 0, .string { data := #[] }, .int .u8 0, .int .u32 0, .int .i64 0]) (by first | omega | (simp; omega)) (by simp)).alloc _).call hx1
  have oL1 : OB w1 b (w.heap.size + 1) [.int .i64 (i : Nat), .string { data := #[] }, .int .u8 0, .int .u32 0, .int .i64 0] := (OB.new (b := b) (g := w.heap.size + 1) (c := #[.int .i64 (i : Nat), .string { data := #[] }, .int .u8 0, .int .u32 0, .int .i64 0]) (by first | omega | (simp; omega)) (by simp)).call hx1
  clear hx1
  cases ho : countM 20 s n i with
  | error qp =>
    obtain ⟨q, p⟩ := qp
    have he := herr _ _ ho
    subst he
    exact ⟨rfl, Out.err_mk (by simp [exportM, ho]) hk1⟩
  | ok xj =>
    obtain ⟨kn, j⟩ := xj
    obtain ⟨u, rfl, hv, hrd1⟩ := hok _ _ ho
    have hv : u = .int .i64 (kn : Nat) := hv
    subst hv
    have HO1 := hide ho
    clear hok herr ho
    have hz1 := hk1.size
    have hkn := (countM_facts HO1.out).1
    go_wp2_with fail
    refine (text_any kn hrd1 (by omega)).mono ?_
    rintro e w2 ⟨hx2, hok, herr⟩
    have hk2 := hk1.trans hx2
    have oR2 : OB w2 b (w.heap.size) [.int .i64 0, .string { data := #[] }, .int .u8 0, .int .u32 0, .int .i64 0] := oR1.call hx2
    have oL2 : OB w2 b (w.heap.size + 1) [.int .i64 (i : Nat), .string { data := #[] }, .int .u8 0, .int .u32 0, .int .i64 0] := oL1.call hx2
    clear hx2
    cases ho : textM kn s n j with
    | error qp =>
      obtain ⟨q, p⟩ := qp
      have he := herr _ _ ho
      subst he
      exact ⟨rfl, Out.err_mk (by simp [exportM, HO1.out, ho]) hk2⟩
    | ok xj =>
      obtain ⟨tx, j2⟩ := xj
      obtain ⟨u, rfl, hv, hrd2⟩ := hok _ _ ho
      have hv : u = .string tx := hv
      subst hv
      have HO2 := hide ho
      clear hok herr ho
      have hz2 := hk2.size
      have htx : tx.size ≤ 20 := by have := (textM_facts HO2.out hrd1.big hrd1.le).1; omega
      obtain ⟨⟨Lc0, Lf0⟩, ⟨Lc1, Lf1⟩, ⟨Lc2, Lf2⟩, ⟨Lc3, Lf3⟩, ⟨Lc4, Lf4⟩⟩ := oL2.blk.five
      have hnot : ∀ (x : Bool) (w : World), (Op.unary .not (.bool x)).run Tryz.prog w = .ok (.bool (!x)) w := fun _ _ => rfl
      go_wp2_with fail
      refine (exportName_any _ _ htx).mono ?_
      rintro e w3 ⟨rfl, rfl⟩
      cases hx : allExp tx 0 with
      | false =>
          have HN := hide hx
          clear hx
          go_wp2_with fail
          refine (refuse_any _ _).mono ?_
          rintro e w3 ⟨rfl, rfl⟩
          exact ⟨rfl, Out.err_mk (by simp [exportM, HO1.out, HO2.out, HN.out]) (hk2.new (by omega) _)⟩
      | true =>
          have HA1 := hide hx
          clear hx
          go_wp2_with fail
          refine (one_any (ts := [0, 1, 2, 3]) ((hrd2.set_other oL2.ne _).alloc _) (bts_four' 0 1 2 3 (by simp) rfl rfl rfl rfl) (by simp) (by simp; have := hrd2.lt; omega) (by simp)).mono ?_
          rintro e w3 ⟨hx3, hok, herr⟩
          have hk3 := ((hk2.new (by omega) _).alloc _).trans hx3
          have oR3 : OB w3 b (w.heap.size) [.int .i64 0, .string { data := #[] }, .int .u8 0, .int .u32 0, .int .i64 0] := ((oR2.other (by omega) _).alloc _).call hx3
          have oL3 : OB w3 b (w.heap.size + 1) [.int .i64 (i : Nat), (.string tx), .int .u8 0, .int .u32 0, .int .i64 0] := ((oL2.set 1 (.string tx)).alloc _).call hx3
          clear hx3
          cases ho : oneM [0, 1, 2, 3] s n j2 with
          | error qp =>
            obtain ⟨q, p⟩ := qp
            have he := herr _ _ ho
            subst he
            exact ⟨rfl, Out.err_mk (by simp [exportM, HO1.out, HO2.out, HA1.out, ho]) hk3⟩
          | ok xj =>
            obtain ⟨x, j3⟩ := xj
            obtain ⟨u, rfl, hv, hrd3⟩ := hok _ _ ho
            have hv : u = .int .u8 (x : Nat) := hv
            subst hv
            have HO3 := hide ho
            clear hok herr ho
            have hz3 := hk3.size
            clear Lc0 Lf0 Lc1 Lf1 Lc2 Lf2 Lc3 Lf3 Lc4 Lf4
            obtain ⟨⟨Lc0, Lf0⟩, ⟨Lc1, Lf1⟩, ⟨Lc2, Lf2⟩, ⟨Lc3, Lf3⟩, ⟨Lc4, Lf4⟩⟩ := oL3.blk.five
            go_wp2_with fail
            refine (u_any (hrd3.set_other oL3.ne _)).mono ?_
            rintro e w4 ⟨hx4, hok, herr⟩
            have hk4 := (hk3.new (by omega) _).trans hx4
            have oR4 : OB w4 b (w.heap.size) [.int .i64 0, .string { data := #[] }, .int .u8 0, .int .u32 0, .int .i64 0] := (oR3.other (by omega) _).call hx4
            have oL4 : OB w4 b (w.heap.size + 1) [.int .i64 (i : Nat), (.string tx), (.int .u8 (x : Nat)), .int .u32 0, .int .i64 0] := (oL3.set 2 (.int .u8 (x : Nat))).call hx4
            clear Lc0 Lf0 Lc1 Lf1 Lc2 Lf2 Lc3 Lf3 Lc4 Lf4
            clear hx4
            cases ho : uM s n j3 with
            | error qp =>
              obtain ⟨q, p⟩ := qp
              have he := herr _ _ ho
              subst he
              exact ⟨rfl, Out.err_mk (by simp [exportM, HO1.out, HO2.out, HA1.out, HO3.out, ho]) hk4⟩
            | ok xj =>
              obtain ⟨⟨v, a⟩, j4⟩ := xj
              obtain ⟨u, rfl, hv, hrd4⟩ := hok _ _ ho
              have hv : u = .agg #[.int .u32 v, .int .i64 (a : Nat)] := hv
              subst hv
              have HO4 := hide ho
              clear hok herr ho
              have hz4 := hk4.size
              obtain ⟨⟨Rc0, Rf0⟩, ⟨Rc1, Rf1⟩, ⟨Rc2, Rf2⟩, ⟨Rc3, Rf3⟩, ⟨Rc4, Rf4⟩⟩ := oR4.blk.five
              obtain ⟨⟨Lc0, Lf0⟩, ⟨Lc1, Lf1⟩, ⟨Lc2, Lf2⟩, ⟨Lc3, Lf3⟩, ⟨Lc4, Lf4⟩⟩ := oL4.blk.five
              have HH : Hid (exportM s n i = .ok (⟨i, tx, x, (v, a)⟩, j4)) := by show _ = _; simp [exportM, HO1.out, HO2.out, HA1.out, HO3.out, HO4.out]
              go_wp2
              refine bodyPost_ret (v := .agg #[.int .i64 (i : Nat), .string tx, .int .u8 (x : Nat), .int .u32 v, .int .i64 (a : Nat)]) ?_ rfl (Out.ok_mk HH.out (((((((hk4.new (by omega) _).new (by omega) _).new (Nat.le_refl _) _).new (Nat.le_refl _) _).new (Nat.le_refl _) _).new (Nat.le_refl _) _).new (Nat.le_refl _) _) rfl (((((((hrd4.set_other oL4.ne _).set_other oL4.ne _).set_other oR4.ne _).set_other oR4.ne _).set_other oR4.ne _).set_other oR4.ne _).set_other oR4.ne _))
              simp [results, Tryz.results52, go_sem, Rc0, Rc1, Rc2, Rc3, Rc4]

end Go.Proofs.YtgkpkngchploiaaGreat
/-
  Lists of parts that hold slices themselves.
-/
namespace Go.Proofs.YtgkpkngchploiaaGreat
open Go.RowKit

/-- Two lists, member by member. -/
def Each {α β : Type} (P : α → β → Prop) : List α → List β → Prop
  | [], [] => True
  | x :: xs, y :: ys => P x y ∧ Each P xs ys
  | [], _ :: _ => False
  | _ :: _, [] => False

theorem Each.snoc {α β : Type} {P : α → β → Prop} : ∀ {xs : List α} {ys : List β} {x : α} {y : β}, Each P xs ys → P x y → Each P (xs ++ [x]) (ys ++ [y])
  | [], [], _, _, _, h => ⟨h, trivial⟩
  | _ :: xs, _ :: ys, _, _, h, hp => ⟨h.1, Each.snoc (xs := xs) (ys := ys) h.2 hp⟩
  | [], _ :: _, _, _, h, _ => h.elim
  | _ :: _, [], _, _, h, _ => h.elim

theorem Each.to {α β : Type} {P Q : α → β → Prop} (hq : ∀ x y, P x y → Q x y) : ∀ {xs : List α} {ys : List β}, Each P xs ys → Each Q xs ys
  | [], [], _ => trivial
  | _ :: xs, _ :: ys, h => ⟨hq _ _ h.1, Each.to hq (xs := xs) (ys := ys) h.2⟩
  | [], _ :: _, h => h.elim
  | _ :: _, [], h => h.elim

theorem Each.len {α β : Type} {P : α → β → Prop} : ∀ {xs : List α} {ys : List β}, Each P xs ys → xs.length = ys.length
  | [], [], _ => rfl
  | _ :: xs, _ :: ys, h => by simp [Each.len (xs := xs) (ys := ys) h.2]
  | [], _ :: _, h => h.elim
  | _ :: _, [], h => h.elim

theorem Each.get {α β : Type} {P : α → β → Prop} : ∀ {xs : List α} {ys : List β} {i : Nat} {x : α}, Each P xs ys → xs[i]? = some x → ∃ y, ys[i]? = some y ∧ P x y
  | [], [], _, _, _, h => by simp at h
  | a :: xs, b :: ys, 0, x, h, hx => by simp at hx; subst hx; exact ⟨b, rfl, h.1⟩
  | _ :: xs, _ :: ys, i + 1, x, h, hx => by
    have := Each.get (xs := xs) (ys := ys) (i := i) (x := x) h.2 (by simpa using hx)
    simpa using this
  | [], _ :: _, _, _, h, _ => h.elim
  | _ :: _, [], _, _, h, _ => h.elim

/-- A slice of another element type does not lie where this one does: an append to this one leaves it. -/
theorem Row.grown {ok : Nat → Prop} {w w' : World} {E E' : TypeId} {size size' : Nat} {v v' : Value} {n n' : Nat} {xs xs' : List Value} {B : Nat}
    (h : Row ok w E' size' v' n' xs') (ho : w.ownsRow B E size v n xs) (hne : E' ≠ E) (hg : w.grownBy w' v.ownBlock) : Row ok w' E' size' v' n' xs' := by
  refine ⟨⟨h.own.1, ?_⟩, h.at_⟩
  rcases h.own.2 with hn | ⟨g, cap, cur, rfl, hb, hgg, rest⟩
  · exact .inl hn
  · refine .inr ⟨g, cap, cur, rfl, hb, ?_, rest⟩
    have hlt : g < w.heap.size := (Array.getElem?_eq_some_iff.1 hgg).1
    rw [hg.block g hlt ?_]
    · exact hgg
    · intro e
      rcases ho.2 with ⟨rfl, _⟩ | ⟨g2, cap2, cur2, rfl, _, hg2, _⟩
      · simp [Value.ownBlock] at e
      · simp [Value.ownBlock] at e
        subst e
        rw [hgg] at hg2
        simp at hg2
        exact hne hg2.2

/-- A list in memory whose members hold slices: their cells, member by member. -/
def isLst {α : Type} (E : TypeId) (size : Nat) (El : (Nat → Prop) → α → World → List Value → Prop) (ok : Nat → Prop) (xs : List α) (w : World) (v : Value) : Prop :=
  ∃ css : List (List Value), Row ok w E size v xs.length css.flatten ∧ Each (fun x cs => El ok x w cs ∧ cs.length = size) xs css

/-- The cells of a type. -/
def elTy (ok : Nat → Prop) (t : Ty) (w : World) (cs : List Value) : Prop := ∃ vi vo, cs = [vi, vo] ∧ isKinds ok t.ins w vi ∧ isKinds ok t.outs w vo

/-- The cells of an element. -/
def elElm (ok : Nat → Prop) (x : Elm) (w : World) (cs : List Value) : Prop :=
  ∃ vl, cs = [.int .i64 (x.at_ : Nat), .int .i64 (x.place.at_ : Nat), .int .u8 (x.place.kind : Nat), .int .i64 x.place.val, vl] ∧ isRow 62 2 numCells ok x.funcs w vl

theorem elTy.kept {S ok : Nat → Prop} {w w' : World} {t : Ty} {cs : List Value} (h : elTy ok t w cs) (hk : Kept S w w') (hs : ∀ g, g < w.heap.size → ok g → ¬ S g) : elTy ok t w' cs := by
  obtain ⟨vi, vo, e, a, c⟩ := h
  exact ⟨vi, vo, e, Row.kept a hk hs, Row.kept c hk hs⟩

theorem elTy.grown {ok : Nat → Prop} {w w' : World} {t : Ty} {cs : List Value} {size n B : Nat} {v : Value} {xs : List Value} (h : elTy ok t w cs) (ho : w.ownsRow B 85 size v n xs) (hg : w.grownBy w' v.ownBlock) : elTy ok t w' cs := by
  obtain ⟨vi, vo, e, a, c⟩ := h
  exact ⟨vi, vo, e, Row.grown a ho (by decide) hg, Row.grown c ho (by decide) hg⟩

theorem elElm.kept {S ok : Nat → Prop} {w w' : World} {t : Elm} {cs : List Value} (h : elElm ok t w cs) (hk : Kept S w w') (hs : ∀ g, g < w.heap.size → ok g → ¬ S g) : elElm ok t w' cs := by
  obtain ⟨vl, e, a⟩ := h
  exact ⟨vl, e, Row.kept a hk hs⟩

theorem elElm.grown {ok : Nat → Prop} {w w' : World} {t : Elm} {cs : List Value} {size n B : Nat} {v : Value} {xs : List Value} (h : elElm ok t w cs) (ho : w.ownsRow B 88 size v n xs) (hg : w.grownBy w' v.ownBlock) : elElm ok t w' cs := by
  obtain ⟨vl, e, a⟩ := h
  exact ⟨vl, e, Row.grown a ho (by decide) hg⟩

end Go.Proofs.YtgkpkngchploiaaGreat
