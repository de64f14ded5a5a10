/-
  Part 4 of the proof: List3, Mir6, Code1, Code2, Mir7, Code3, Code4, Code5.
-/
import Derived.Test.YtgkpkngchploiaaGreatPart03
import Derived.Deep.RegionHeld3
import Derived.Deep.AppendLies
import Derived.RegionDies
import Derived.Deep.RegionLaw
/-
  list: of types, of elements.
-/
namespace Go.Proofs.YtgkpkngchploiaaGreat
open Go.RowKit

theorem Tryz.info85 : (Tryz.prog.info? 85).map (fun i => (i.zero, i.size, i.bytes)) = some (some (.agg #[.slice none 0 0, .slice none 0 0]), 2, 48) := by kernel_rfl

set_option maxRecDepth 100000 in
set_option maxHeartbeats 800000 in
theorem listType_any {w : World} {b : Nat} {s : ByteArray} {i n : Nat} (most K : Nat) (tM : ByteArray → Nat → Nat → Except Err (Ty × Nat)) (h : Rd w b s i n) (hm : most ≤ 50) (hc : Enters K)
    (ht : ∀ w1 j, Rd w1 b s j n → Calls Tryz.prog K #[.pointer (some ⟨b, 0, none⟩)] w1 (Out w1 b s n (isTy (fun g => w1.heap.size ≤ g)) (tM s n j))) :
    Calls Tryz.prog 43 #[.pointer (some ⟨b, 0, none⟩), .int .i64 (most : Nat), .func (.func K) #[] #[]] w (Out w b s n (isLst 85 2 elTy (fun g => w.heap.size ≤ g)) (listM most tM s n i)) := by
  obtain ⟨i0, hi0, hz0, hz1, hz2⟩ := info_parts Tryz.info85
  have hcl : ∀ (args : Array Value) (w : World), (callFunc K args).run Tryz.prog w = .ok (.enter K args) w := hc
  have HT := hide ht
  clear ht
  go_enter Tryz.func43, Tryz.ntmps43
  go_wp2_with fail
  refine (count_any most h (by omega)).mono ?_
  rintro e w1 ⟨hk1, hok, herr⟩
  cases ho : countM most s n i with
  | error qp =>
    obtain ⟨q, p⟩ := qp
    have he := herr _ _ ho
    subst he
    exact ⟨rfl, Out.err_mk (by simp [listM, ho]) hk1⟩
  | ok xj =>
    obtain ⟨cnt, j0⟩ := xj
    obtain ⟨u, rfl, hv, hrd⟩ := hok _ _ ho
    have hv : u = .int .i64 (cnt : Nat) := hv
    subst hv
    have hcnt := (countM_facts ho).1
    have HM : Hid (listM most tM s n i = listGo tM s n cnt [] j0) := by show _ = _; simp [listM, ho]
    clear hok herr ho
    go_wp2
    go_loopw [7, 12] (fun v q wr => ∃ (k j : Nat) (ks : List Ty), k ≤ cnt ∧ ks.length = k ∧ q = .int .i64 k ∧ Rd wr b s j n ∧ Kept (only b) w wr ∧ isLst 85 2 elTy (fun g => w.heap.size ≤ g) ks wr v ∧ listM most tM s n i = listGo tM s n (cnt - k) ks j) (fun _ q _ => cnt - (intOf q).toNat)
    case atStart => exact ⟨0, j0, [], Nat.zero_le _, rfl, rfl, hrd, hk1, ⟨[], Row.nil _ _ _ _, trivial⟩, HM.out⟩
    case round =>
      obtain ⟨k, j, ks, hk, hl, rfl, hrd, hkp, hlst, hme⟩ := hrel
      have HE := hide hme
      have HL := hide hlst
      clear hme HM hlst
      by_cases hlt : k < cnt
      · have hlt' : (k : Int) < (cnt : Int) := by omega
        go_wp2_with fail
        refine (HT.out _ _ hrd).mono ?_
        rintro e w2 ⟨hk2, hok, herr⟩
        have hk3 := hkp.trans hk2
        obtain ⟨css, hrow, heach⟩ := HL.out
        have hrow2 : Row (fun g => w.heap.size ≤ g) w2 85 2 u7 ks.length css.flatten := hrow.kept hk2 (fun g _ hg (e : g = b) => by have := h.lt; omega)
        have heach2 : Each (fun x cs => elTy (fun g => w.heap.size ≤ g) x w2 cs ∧ cs.length = 2) ks css := heach.to (fun x cs hh => ⟨hh.1.kept hk2 (fun g _ hg (e : g = b) => by have := h.lt; omega), hh.2⟩)
        have hsz0 := hkp.size
        clear hrow heach HL hk2 hkp
        have HEA := hide heach2
        clear heach2
        cases ho : tM s n j with
        | error qp =>
          obtain ⟨q, p⟩ := qp
          have he := herr _ _ ho
          subst he
          exact ⟨rfl, Out.err_mk (HE.out.trans (listGo_err (by omega) ho)) hk3⟩
        | ok xj =>
          obtain ⟨x, j2⟩ := xj
          obtain ⟨u, rfl, hv, hrd2⟩ := hok _ _ ho
          obtain ⟨vi, vo, rfl, hvi, hvo⟩ := hv
          obtain ⟨pi, ci, rfl⟩ := Row.shape hvi
          obtain ⟨po, co, rfl⟩ := Row.shape hvo
          have HNew : Hid (elTy (fun g => w.heap.size ≤ g) x w2 [.slice pi x.ins.length ci, .slice po x.outs.length co]) := by
            exact ⟨_, _, rfl, Row.mono hvi (fun g _ hg => by omega), Row.mono hvo (fun g _ hg => by omega)⟩
          have HH : Hid (listM most tM s n i = listGo tM s n (cnt - (k + 1)) (ks ++ [x]) j2) := HE.out.trans (listGo_ok (by omega) ho)
          clear hok herr ho hrd hvi hvo
          have hown := ((hrow2.toBase (fun g hg => hg)).alloc (.cells #[.slice pi x.ins.length ci, .slice po x.outs.length co] 85)).alloc (.cells #[.slice pi x.ins.length ci, .slice po x.outs.length co] 85)
          have HW := hide hown
          have hsz := hk3.size
          clear hown hrow2
          go_wp2_with (at_builtin; refine wpList_append_own _ rfl _ _ 42 rfl w.heap.size 85 i0 (.agg #[.slice none 0 0, .slice none 0 0]) 2 48 Tryz.underlying42 hi0 hz0 hz1 hz2 rfl (by decide) _ _ _ rfl HW.out ⟨w2.heap.size + 1, 0, none⟩ 1 1 [.slice pi x.ins.length ci, .slice po x.outs.length co] rfl rfl ?c1 ?c2 ?c3 ?c4 ?c5 ?_)
          case c1 => exact cells_at (by simp) rfl
          case c2 => intro u hu; simp at hu; rcases hu with rfl | rfl <;> rfl
          case c3 => unfold maxLen; omega
          case c4 => omega
          case c5 => simp; omega
          intro v' w3 hown' hgrow _
          have hk4 := grown_kept ((hk3.alloc _).alloc _) HW.out (Nat.le_refl _) hgrow
          have hrd3 := grown_rd ((hrd2.alloc _).alloc _) HW.out h.lt hgrow
          have hal : Kept (fun _ => False) w2 ((w2.alloc (.cells #[.slice pi x.ins.length ci, .slice po x.outs.length co] 85)).alloc (.cells #[.slice pi x.ins.length ci, .slice po x.outs.length co] 85)) := ((Kept.refl _ _).alloc _).alloc _
          have hlst3 : isLst 85 2 elTy (fun g => w.heap.size ≤ g) (ks ++ [x]) w3 v' := by
            refine ⟨css ++ [[.slice pi x.ins.length ci, .slice po x.outs.length co]], ?_, ?_⟩
            · have := Row.ofBase (ok := fun g => w.heap.size ≤ g) hown' (fun g hg _ => hg)
              simpa [hl] using this
            · refine Each.snoc (HEA.out.to (fun x cs hh => ⟨(hh.1.kept hal (fun _ _ _ c => c)).grown HW.out hgrow, hh.2⟩)) ⟨(elTy.kept HNew.out hal (fun _ _ _ c => c)).grown HW.out hgrow, rfl⟩
          have HR := hide hlst3
          clear hown' hgrow hlst3 HW HEA HNew hal
          go_wp2
          go_roundw
          case rel => exact ⟨k + 1, j2, ks ++ [x], by omega, by simp [hl], by go_num, hrd3, hk4, HR.out, HH.out⟩
          case measure => simp [intOf]; omega
      · have HH : Hid (listM most tM s n i = .ok (ks, j)) := by show _ = _; rw [HE.out, show cnt - k = 0 by omega]; rfl
        go_wp2
        go_ret
        exact Out.ok_mk HH.out hkp HL.out hrd

theorem Tryz.info88 : (Tryz.prog.info? 88).map (fun i => (i.zero, i.size, i.bytes)) = some (some (.agg #[.int .i64 0, .int .i64 0, .int .u8 0, .int .i64 0, .slice none 0 0]), 5, 56) := by kernel_rfl

set_option maxRecDepth 100000 in
set_option maxHeartbeats 800000 in
theorem listElement_any {w : World} {b : Nat} {s : ByteArray} {i n : Nat} (most K : Nat) (tM : ByteArray → Nat → Nat → Except Err (Elm × Nat)) (h : Rd w b s i n) (hm : most ≤ 50) (hc : Enters K)
    (ht : ∀ w1 j, Rd w1 b s j n → Calls Tryz.prog K #[.pointer (some ⟨b, 0, none⟩)] w1 (Out w1 b s n (isElm (fun g => w1.heap.size ≤ g)) (tM s n j))) :
    Calls Tryz.prog 53 #[.pointer (some ⟨b, 0, none⟩), .int .i64 (most : Nat), .func (.func K) #[] #[]] w (Out w b s n (isLst 88 5 elElm (fun g => w.heap.size ≤ g)) (listM most tM s n i)) := by
  obtain ⟨i0, hi0, hz0, hz1, hz2⟩ := info_parts Tryz.info88
  have hcl : ∀ (args : Array Value) (w : World), (callFunc K args).run Tryz.prog w = .ok (.enter K args) w := hc
  have HT := hide ht
  clear ht
  go_enter Tryz.func53, Tryz.ntmps53
  go_wp2_with fail
  refine (count_any most h (by omega)).mono ?_
  rintro e w1 ⟨hk1, hok, herr⟩
  cases ho : countM most s n i with
  | error qp =>
    obtain ⟨q, p⟩ := qp
    have he := herr _ _ ho
    subst he
    exact ⟨rfl, Out.err_mk (by simp [listM, ho]) hk1⟩
  | ok xj =>
    obtain ⟨cnt, j0⟩ := xj
    obtain ⟨u, rfl, hv, hrd⟩ := hok _ _ ho
    have hv : u = .int .i64 (cnt : Nat) := hv
    subst hv
    have hcnt := (countM_facts ho).1
    have HM : Hid (listM most tM s n i = listGo tM s n cnt [] j0) := by show _ = _; simp [listM, ho]
    clear hok herr ho
    go_wp2
    go_loopw [7, 12] (fun v q wr => ∃ (k j : Nat) (ks : List Elm), k ≤ cnt ∧ ks.length = k ∧ q = .int .i64 k ∧ Rd wr b s j n ∧ Kept (only b) w wr ∧ isLst 88 5 elElm (fun g => w.heap.size ≤ g) ks wr v ∧ listM most tM s n i = listGo tM s n (cnt - k) ks j) (fun _ q _ => cnt - (intOf q).toNat)
    case atStart => exact ⟨0, j0, [], Nat.zero_le _, rfl, rfl, hrd, hk1, ⟨[], Row.nil _ _ _ _, trivial⟩, HM.out⟩
    case round =>
      obtain ⟨k, j, ks, hk, hl, rfl, hrd, hkp, hlst, hme⟩ := hrel
      have HE := hide hme
      have HL := hide hlst
      clear hme HM hlst
      by_cases hlt : k < cnt
      · have hlt' : (k : Int) < (cnt : Int) := by omega
        go_wp2_with fail
        refine (HT.out _ _ hrd).mono ?_
        rintro e w2 ⟨hk2, hok, herr⟩
        have hk3 := hkp.trans hk2
        obtain ⟨css, hrow, heach⟩ := HL.out
        have hrow2 : Row (fun g => w.heap.size ≤ g) w2 88 5 u7 ks.length css.flatten := hrow.kept hk2 (fun g _ hg (e : g = b) => by have := h.lt; omega)
        have heach2 : Each (fun x cs => elElm (fun g => w.heap.size ≤ g) x w2 cs ∧ cs.length = 5) ks css := heach.to (fun x cs hh => ⟨hh.1.kept hk2 (fun g _ hg (e : g = b) => by have := h.lt; omega), hh.2⟩)
        have hsz0 := hkp.size
        clear hrow heach HL hk2 hkp
        have HEA := hide heach2
        clear heach2
        cases ho : tM s n j with
        | error qp =>
          obtain ⟨q, p⟩ := qp
          have he := herr _ _ ho
          subst he
          exact ⟨rfl, Out.err_mk (HE.out.trans (listGo_err (by omega) ho)) hk3⟩
        | ok xj =>
          obtain ⟨x, j2⟩ := xj
          obtain ⟨u, rfl, hv, hrd2⟩ := hok _ _ ho
          obtain ⟨vl, rfl, hvl⟩ := hv
          obtain ⟨pl, cl, rfl⟩ := Row.shape hvl
          have HNew : Hid (elElm (fun g => w.heap.size ≤ g) x w2 [.int .i64 (x.at_ : Nat), .int .i64 (x.place.at_ : Nat), .int .u8 (x.place.kind : Nat), .int .i64 x.place.val, .slice pl x.funcs.length cl]) := by
            exact ⟨_, rfl, Row.mono hvl (fun g _ hg => by omega)⟩
          have HH : Hid (listM most tM s n i = listGo tM s n (cnt - (k + 1)) (ks ++ [x]) j2) := HE.out.trans (listGo_ok (by omega) ho)
          clear hok herr ho hrd hvl
          have hown := ((hrow2.toBase (fun g hg => hg)).alloc (.cells #[.int .i64 (x.at_ : Nat), .int .i64 (x.place.at_ : Nat), .int .u8 (x.place.kind : Nat), .int .i64 x.place.val, .slice pl x.funcs.length cl] 88)).alloc (.cells #[.int .i64 (x.at_ : Nat), .int .i64 (x.place.at_ : Nat), .int .u8 (x.place.kind : Nat), .int .i64 x.place.val, .slice pl x.funcs.length cl] 88)
          have HW := hide hown
          have hsz := hk3.size
          clear hown hrow2
          go_wp2_with (at_builtin; refine wpList_append_own _ rfl _ _ 47 rfl w.heap.size 88 i0 (.agg #[.int .i64 0, .int .i64 0, .int .u8 0, .int .i64 0, .slice none 0 0]) 5 56 Tryz.underlying47 hi0 hz0 hz1 hz2 rfl (by decide) _ _ _ rfl HW.out ⟨w2.heap.size + 1, 0, none⟩ 1 1 [.int .i64 (x.at_ : Nat), .int .i64 (x.place.at_ : Nat), .int .u8 (x.place.kind : Nat), .int .i64 x.place.val, .slice pl x.funcs.length cl] rfl rfl ?c1 ?c2 ?c3 ?c4 ?c5 ?_)
          case c1 => exact cells_at (by simp) rfl
          case c2 => intro u hu; simp at hu; rcases hu with rfl | rfl | rfl | rfl | rfl <;> rfl
          case c3 => unfold maxLen; omega
          case c4 => omega
          case c5 => simp; omega
          intro v' w3 hown' hgrow _
          have hk4 := grown_kept ((hk3.alloc _).alloc _) HW.out (Nat.le_refl _) hgrow
          have hrd3 := grown_rd ((hrd2.alloc _).alloc _) HW.out h.lt hgrow
          have hal : Kept (fun _ => False) w2 ((w2.alloc (.cells #[.int .i64 (x.at_ : Nat), .int .i64 (x.place.at_ : Nat), .int .u8 (x.place.kind : Nat), .int .i64 x.place.val, .slice pl x.funcs.length cl] 88)).alloc (.cells #[.int .i64 (x.at_ : Nat), .int .i64 (x.place.at_ : Nat), .int .u8 (x.place.kind : Nat), .int .i64 x.place.val, .slice pl x.funcs.length cl] 88)) := ((Kept.refl _ _).alloc _).alloc _
          have hlst3 : isLst 88 5 elElm (fun g => w.heap.size ≤ g) (ks ++ [x]) w3 v' := by
            refine ⟨css ++ [[.int .i64 (x.at_ : Nat), .int .i64 (x.place.at_ : Nat), .int .u8 (x.place.kind : Nat), .int .i64 x.place.val, .slice pl x.funcs.length cl]], ?_, ?_⟩
            · have := Row.ofBase (ok := fun g => w.heap.size ≤ g) hown' (fun g hg _ => hg)
              simpa [hl] using this
            · refine Each.snoc (HEA.out.to (fun x cs hh => ⟨(hh.1.kept hal (fun _ _ _ c => c)).grown HW.out hgrow, hh.2⟩)) ⟨(elElm.kept HNew.out hal (fun _ _ _ c => c)).grown HW.out hgrow, rfl⟩
          have HR := hide hlst3
          clear hown' hgrow hlst3 HW HEA HNew hal
          go_wp2
          go_roundw
          case rel => exact ⟨k + 1, j2, ks ++ [x], by omega, by simp [hl], by go_num, hrd3, hk4, HR.out, HH.out⟩
          case measure => simp [intOf]; omega
      · have HH : Hid (listM most tM s n i = .ok (ks, j)) := by show _ = _; rw [HE.out, show cnt - k = 0 by omega]; rfl
        go_wp2
        go_ret
        exact Out.ok_mk HH.out hkp HL.out hrd

end Go.Proofs.YtgkpkngchploiaaGreat
/-
  Instructions in plain words.
-/
namespace Go.Proofs.YtgkpkngchploiaaGreat
open Go.RowKit

/-- As 'Out', with the blocks that may turn told. -/
structure OutS {α : Type} (S : Nat → Prop) (w : World) (b : Nat) (s : ByteArray) (n : Nat) (V : α → World → Value → Prop) (r : Except Err (α × Nat)) (e : Ending) (w' : World) : Prop where
  kept : Kept S w w'
  ok : ∀ x j, r = .ok (x, j) → ∃ v, e = .returned v ∧ V x w' v ∧ Rd w' b s j n
  err : ∀ q p, r = .error (q, p) → e = gaveUp q p

theorem OutS.ok_mk {α : Type} {S : Nat → Prop} {w w' : World} {b : Nat} {s : ByteArray} {n : Nat} {V : α → World → Value → Prop} {r : Except Err (α × Nat)} {x : α} {j : Nat} {v : Value}
    (hr : r = .ok (x, j)) (hk : Kept S w w') (hv : V x w' v) (hd : Rd w' b s j n) : OutS S w b s n V r (.returned v) w' :=
  ⟨hk, fun x' j' h => by rw [hr] at h; cases h; exact ⟨v, rfl, hv, hd⟩, fun q p h => by rw [hr] at h; cases h⟩

theorem OutS.err_mk {α : Type} {S : Nat → Prop} {w w' : World} {b : Nat} {s : ByteArray} {n : Nat} {V : α → World → Value → Prop} {r : Except Err (α × Nat)} {q p : Nat}
    (hr : r = .error (q, p)) (hk : Kept S w w') : OutS S w b s n V r (gaveUp q p) w' :=
  ⟨hk, fun x' j' h => by (rw [hr] at h; cases h), fun q' p' h => by rw [hr] at h; cases h; rfl⟩

/-- Two blocks. -/
def both (b c : Nat) : Nat → Prop := fun k => k = b ∨ k = c

theorem Kept.both_of {w w' : World} {b c : Nat} (h : Kept (only b) w w') : Kept (both b c) w w' := h.mono (fun _ _ hk => .inl hk)

theorem Kept.own2 {a w : World} {b c o : Nat} (h : Kept (both b c) a w) (u : Value) : Kept (both b c) a (w.setCell ⟨c, o, none⟩ u) := h.setCell (p := ⟨c, o, none⟩) (fun _ => .inr rfl) u

/-- Is a byte an instruction behind which nothing stands? -/
def bareB (x : Nat) : Bool := x == 0 || x == 1 || x == 5 || x == 11 || x == 15 || x == 26 || x == 27 || (decide (69 ≤ x) && decide (x ≤ 90)) || (decide (103 ≤ x) && decide (x ≤ 138)) || x == 167 || x == 172 || x == 173

/-- What stands behind an instruction's byte. -/
structure Beh where
  typed : Bool
  gives : List Nat
  align : Int
  num : Int × Nat
  labels : List (Int × Nat)
  val : Int

def Beh.none : Beh := ⟨false, [], 0, (0, 0), [], 0⟩

/-- What tells what a block takes and gives. -/
def blockM (s : ByteArray) (n i : Nat) : Except Err (Beh × Nat) :=
  match peekM s n i with
  | .error e => .error e
  | .ok (x, _) =>
    if x = 127 ∨ x = 126 then .ok ({ Beh.none with gives := [x] }, i + 1)
    else if x = 64 then .ok (Beh.none, i + 1)
    else match sM 4 5 s n i with
      | .error e => .error e
      | .ok (v, j) => if v < 0 then .error (2, i) else .ok ({ Beh.none with typed := true, num := (v % 4294967296, i) }, j)

/-- An instruction's block: its place, its end, its byte, and what stands behind it. -/
def insCells (a e x : Nat) (y : Beh) (gv lv : Value) : List Value :=
  [.int .i64 (a : Nat), .int .i64 (e : Nat), .int .u8 (x : Nat), .bool y.typed, gv, .int .u32 y.align, .int .u32 y.num.1, .int .i64 (y.num.2 : Nat), lv, .int .i64 y.val]

/-- It lies at block c, beside the reader's block b. -/
def InsAt (ok : Nat → Prop) (w : World) (b c a e x : Nat) (y : Beh) : Prop :=
  ∃ gv lv, OB w b c (insCells a e x y gv lv) ∧ isKinds ok y.gives w gv ∧ isRow 62 2 numCells ok y.labels w lv

section
variable {w : World} {g : Nat} {a b c d e a' b' c' d' e' : Value}
theorem Blk.ten (h : Blk w g [a, b, c, d, e, a', b', c', d', e']) :
    (w.cell? ⟨g, 0, none⟩ = some a ∧ w.frozen? ⟨g, 0, none⟩ = false) ∧ (w.cell? ⟨g, 1, none⟩ = some b ∧ w.frozen? ⟨g, 1, none⟩ = false) ∧ (w.cell? ⟨g, 2, none⟩ = some c ∧ w.frozen? ⟨g, 2, none⟩ = false) ∧
    (w.cell? ⟨g, 3, none⟩ = some d ∧ w.frozen? ⟨g, 3, none⟩ = false) ∧ (w.cell? ⟨g, 4, none⟩ = some e ∧ w.frozen? ⟨g, 4, none⟩ = false) ∧ (w.cell? ⟨g, 5, none⟩ = some a' ∧ w.frozen? ⟨g, 5, none⟩ = false) ∧
    (w.cell? ⟨g, 6, none⟩ = some b' ∧ w.frozen? ⟨g, 6, none⟩ = false) ∧ (w.cell? ⟨g, 7, none⟩ = some c' ∧ w.frozen? ⟨g, 7, none⟩ = false) ∧ (w.cell? ⟨g, 8, none⟩ = some d' ∧ w.frozen? ⟨g, 8, none⟩ = false) ∧
    (w.cell? ⟨g, 9, none⟩ = some e' ∧ w.frozen? ⟨g, 9, none⟩ = false) :=
  ⟨h 0 (by simp), h 1 (by simp), h 2 (by simp), h 3 (by simp), h 4 (by simp), h 5 (by simp), h 6 (by simp), h 7 (by simp), h 8 (by simp), h 9 (by simp)⟩
end

end Go.Proofs.YtgkpkngchploiaaGreat
/-
  bare.
-/
namespace Go.Proofs.YtgkpkngchploiaaGreat
open Go.RowKit

set_option maxHeartbeats 800000 in
theorem bare_any (x : Nat) (w : World) :
    Calls Tryz.prog 120 #[.int .u8 (x : Nat)] w fun e w' => e = .returned (.bool (bareB x)) ∧ w' = w := by
  by_cases h0 : x = 0 ∨ x = 1 ∨ x = 5 ∨ x = 11 ∨ x = 15 ∨ x = 26 ∨ x = 27
  · have HH : Hid (bareB x = true) := by
      show _ = _
      rcases h0 with rfl | rfl | rfl | rfl | rfl | rfl | rfl <;> rfl
    rcases h0 with rfl | rfl | rfl | rfl | rfl | rfl | rfl
    all_goals
      go_enter Tryz.func120, Tryz.ntmps120
      go_wp2
      go_ret
      exact ⟨by rw [HH.out]; rfl, rfl⟩
  · have t0 : ((x : Int) == 0) = false := by simp; omega
    have t1 : ((x : Int) == 1) = false := by simp; omega
    have t5 : ((x : Int) == 5) = false := by simp; omega
    have t11 : ((x : Int) == 11) = false := by simp; omega
    have t15 : ((x : Int) == 15) = false := by simp; omega
    have t26 : ((x : Int) == 26) = false := by simp; omega
    have t27 : ((x : Int) == 27) = false := by simp; omega
    by_cases h1 : 69 ≤ x ∧ x ≤ 90
    · have a1 : decide ((69 : Int) ≤ (x : Int)) = true := by simp; omega
      have a2 : decide ((x : Int) ≤ (90 : Int)) = true := by simp; omega
      have HH : Hid (bareB x = true) := by show _ = _; simp [bareB, h1.1, h1.2]
      clear h0 h1
      go_enter Tryz.func120, Tryz.ntmps120
      go_wp2
      go_ret
      exact ⟨by rw [HH.out]; rfl, rfl⟩
    · by_cases h2 : 103 ≤ x ∧ x ≤ 138
      · have a1 : decide ((69 : Int) ≤ (x : Int)) = true := by simp; omega
        have a2 : decide ((x : Int) ≤ (90 : Int)) = false := by simp; omega
        have a3 : decide ((103 : Int) ≤ (x : Int)) = true := by simp; omega
        have a4 : decide ((x : Int) ≤ (138 : Int)) = true := by simp; omega
        have HH : Hid (bareB x = true) := by show _ = _; simp [bareB, h2.1, h2.2]
        clear h0 h1 h2
        go_enter Tryz.func120, Tryz.ntmps120
        go_wp2
        go_ret
        exact ⟨by rw [HH.out]; rfl, rfl⟩
      · have HH : Hid (bareB x = (x == 167 || x == 172 || x == 173)) := by
          show _ = _
          have c1 : (decide (69 ≤ x) && decide (x ≤ 90)) = false := by simp; omega
          have c2 : (decide (103 ≤ x) && decide (x ≤ 138)) = false := by simp; omega
          have c3 : (x == 0 || x == 1 || x == 5 || x == 11 || x == 15 || x == 26 || x == 27) = false := by simp; omega
          unfold bareB; rw [c1, c2, c3]; rfl
        by_cases h3 : x = 167 ∨ x = 172 ∨ x = 173
        · rcases h3 with rfl | rfl | rfl
          all_goals
            clear h0 h1 h2
            go_enter Tryz.func120, Tryz.ntmps120
            go_wp2
            go_ret
            exact ⟨by rw [HH.out]; rfl, rfl⟩
        · have HF : Hid (bareB x = false) := by show _ = _; rw [HH.out]; simp; omega
          have b1 : ((x : Int) == 167) = false := by simp; omega
          have b2 : ((x : Int) == 172) = false := by simp; omega
          have b3 : ((x : Int) == 173) = false := by simp; omega
          by_cases h69 : 69 ≤ x
          · have a1 : decide ((69 : Int) ≤ (x : Int)) = true := by simp; omega
            have a2 : decide ((x : Int) ≤ (90 : Int)) = false := by simp; omega
            by_cases h103 : 103 ≤ x
            · have a3 : decide ((103 : Int) ≤ (x : Int)) = true := by simp; omega
              have a4 : decide ((x : Int) ≤ (138 : Int)) = false := by simp; omega
              clear h0 h1 h2 h3 h69 h103
              go_enter Tryz.func120, Tryz.ntmps120
              go_wp2
              go_ret
              exact ⟨by rw [HF.out]; rfl, rfl⟩
            · have a3 : decide ((103 : Int) ≤ (x : Int)) = false := by simp; omega
              clear h0 h1 h2 h3 h69 h103
              go_enter Tryz.func120, Tryz.ntmps120
              go_wp2
              go_ret
              exact ⟨by rw [HF.out]; rfl, rfl⟩
          · have a1 : decide ((69 : Int) ≤ (x : Int)) = false := by simp; omega
            have a3 : decide ((103 : Int) ≤ (x : Int)) = false := by simp; omega
            clear h0 h1 h2 h3 h69
            go_enter Tryz.func120, Tryz.ntmps120
            go_wp2
            go_ret
            exact ⟨by rw [HF.out]; rfl, rfl⟩

end Go.Proofs.YtgkpkngchploiaaGreat
/-
  takeBlock.
-/
namespace Go.Proofs.YtgkpkngchploiaaGreat
open Go.RowKit

theorem Row.fresh {ok : Nat → Prop} {w : World} {E : TypeId} {v : Value} {g : Nat} (hg : g = w.heap.size) (hok : ok g) : Row ok (w.alloc (.cells #[v] E)) E 1 (.slice (some ⟨g, 0, none⟩) 1 1) 1 [v] := by
  subst hg
  refine ⟨⟨by simp, .inr ⟨w.heap.size, 1, #[v], rfl, Nat.zero_le _, heap_alloc_new w _, Nat.le_refl _, by unfold maxLen; omega, by simp, by simp⟩⟩, fun g hg => ?_⟩
  simp [Value.ownBlock] at hg
  subst hg; exact hok

/-- Nothing stands behind the byte yet. -/
abbrev insNew (a e x : Nat) : List Value := [.int .i64 (a : Nat), .int .i64 (e : Nat), .int .u8 (x : Nat), .bool false, .slice none 0 0, .int .u32 0, .int .u32 0, .int .i64 0, .slice none 0 0, .int .i64 0]

def isBeh (ok : Nat → Prop) (b c a e x : Nat) (y : Beh) (w : World) (v : Value) : Prop := v = .tuple #[] ∧ InsAt ok w b c a e x y

theorem InsAt.new {ok : Nat → Prop} {w : World} {b c a e x : Nat} (h : OB w b c (insNew a e x)) : InsAt ok w b c a e x Beh.none :=
  ⟨_, _, h, Row.nil _ _ _ _, Row.nil _ _ _ _⟩

set_option maxRecDepth 100000 in
set_option maxHeartbeats 1600000 in
theorem takeBlock_any {w : World} {b c a e0 x0 : Nat} {s : ByteArray} {i n : Nat} (h : Rd w b s i n) (hI : OB w b c (insNew a e0 x0)) :
    Calls Tryz.prog 119 #[.pointer (some ⟨b, 0, none⟩), .pointer (some ⟨c, 0, none⟩)] w (OutS (both b c) w b s n (isBeh (fun g => w.heap.size ≤ g) b c a e0 x0) (blockM s n i)) := by
  go_enter Tryz.func119, Tryz.ntmps119
  go_wp2_with fail
  refine (at_any h).mono ?_
  rintro e w0 ⟨rfl, rfl⟩
  go_wp2_with fail
  refine (peek_any h).mono ?_
  rintro e w1 ⟨hx1, hok, herr⟩
  have hk1 : Kept (both b c) w0 w1 := hx1.both_of
  have hI1 := hI.call hx1
  have hsz := hx1.size
  clear hx1
  cases ho : peekM s n i with
  | error qp =>
    obtain ⟨q, p⟩ := qp
    have he := herr _ _ ho
    subst he
    exact ⟨rfl, OutS.err_mk (by simp [blockM, ho]) hk1⟩
  | ok xj =>
    obtain ⟨x, j⟩ := xj
    obtain ⟨u, rfl, hv, hrd⟩ := hok _ _ ho
    have hv : u = .int .u8 (x : Nat) := hv
    subst hv
    have hj : j = i ∧ i < n := by
      unfold peekM at ho
      split at ho
      · cases ho; exact ⟨rfl, by assumption⟩
      · cases ho
    obtain ⟨rfl, hin⟩ := hj
    have hbt : bt s j = x := by unfold peekM at ho; rw [if_pos hin] at ho; cases ho; rfl
    have HB := hide hbt
    have HO := hide ho
    clear hok herr ho hbt
    obtain ⟨⟨I0, J0⟩, ⟨I1, J1⟩, ⟨I2, J2⟩, ⟨I3, J3⟩, ⟨I4, J4⟩, ⟨I5, J5⟩, ⟨I6, J6⟩, ⟨I7, J7⟩, ⟨I8, J8⟩, ⟨I9, J9⟩⟩ := hI1.blk.ten
    have hcw := hI1.lt
    have hne := hI1.ne
    by_cases hkd : x = 127 ∨ x = 126
    · have HH : Hid (blockM s n j = .ok ({ Beh.none with gives := [x] }, j + 1)) := by show _ = _; simp [blockM, HO.out, hkd]
      rcases hkd with rfl | rfl
      all_goals
        go_wp2_with fail
        refine (byte_any ((hrd.set_other hne _).alloc _)).mono ?_
        rintro e w2 ⟨hx2, hok, herr⟩
        obtain ⟨u, rfl, -, hrd2⟩ := hok _ _ (byteM_more hin)
        have hk2 := ((hk1.own2 _).alloc _).trans hx2.both_of
        have hI2 := ((hI1.set 4 (.slice (some ⟨w1.heap.size, 0, none⟩) 1 1)).alloc _).call hx2
        have hbw := h.lt
        have hR := (Row.fresh (ok := fun g => w0.heap.size ≤ g) (w := w1.setCell ⟨c, 4, none⟩ (.slice (some ⟨w1.heap.size, 0, none⟩) 1 1)) (E := 74) (g := w1.heap.size) (by simp) hsz).call hx2 (fun k hk => by omega)
        clear hok herr I0 J0 I1 J1 I2 J2 I3 J3 I4 J4 I5 J5 I6 J6 I7 J7 I8 J8 I9 J9 hx2
        have HI := hide hI2
        have HR := hide hR
        clear hI2 hR
        go_wp2
        go_end0
        exact OutS.ok_mk HH.out hk2 ⟨rfl, _, _, HI.out, HR.out, Row.nil _ _ _ _⟩ hrd2
    · have n1 : ((x : Int) == 127) = false := by simp; omega
      have n2 : ((x : Int) == 126) = false := by simp; omega
      by_cases h64 : x = 64
      · have HH : Hid (blockM s n j = .ok (Beh.none, j + 1)) := by show _ = _; simp [blockM, HO.out, h64]
        clear hkd n1 n2
        subst h64
        go_wp2_with fail
        refine (byte_any hrd).mono ?_
        rintro e w2 ⟨hx2, hok, herr⟩
        obtain ⟨u, rfl, -, hrd2⟩ := hok _ _ (byteM_more hin)
        have hk2 := hk1.trans hx2.both_of
        have hI2 := hI1.call hx2
        clear hok herr I0 J0 I1 J1 I2 J2 I3 J3 I4 J4 I5 J5 I6 J6 I7 J7 I8 J8 I9 J9 hx2
        have HI := hide hI2
        clear hI2
        go_wp2
        go_end0
        exact OutS.ok_mk HH.out hk2 ⟨rfl, InsAt.new HI.out⟩ hrd2
      · have n3 : ((x : Int) == 64) = false := by simp; omega
        have HK := hide hkd
        have H64 := hide h64
        clear hkd h64
        go_wp2_with fail
        refine (s33_any hrd).mono ?_
        rintro e w2 ⟨hx2, hok, herr⟩
        have hk2 := hk1.trans hx2.both_of
        have hI2 := hI1.call hx2
        clear I0 J0 I1 J1 I2 J2 I3 J3 I4 J4 I5 J5 I6 J6 I7 J7 I8 J8 I9 J9 hx2 hI1 hk1
        cases ho : sM 4 5 s n j with
        | error qp =>
          obtain ⟨q, p⟩ := qp
          have he := herr _ _ ho
          subst he
          exact ⟨rfl, OutS.err_mk (by simp [blockM, HO.out, HK.out, H64.out, ho]) hk2⟩
        | ok xj =>
          obtain ⟨v, j2⟩ := xj
          obtain ⟨u, rfl, hv, hrd2⟩ := hok _ _ ho
          have hv : u = .int .i64 v := hv
          subst hv
          clear hok herr
          by_cases hneg : v < 0
          · have HH : Hid (blockM s n j = .error (2, j)) := by show _ = _; simp [blockM, HO.out, HK.out, H64.out, ho, hneg]
            clear ho
            go_wp2_with fail
            refine (refuse_any _ _).mono ?_
            rintro e w3 ⟨rfl, rfl⟩
            exact ⟨rfl, OutS.err_mk HH.out hk2⟩
          · have HH : Hid (blockM s n j = .ok ({ Beh.none with typed := true, num := (v % 4294967296, j) }, j2)) := by show _ = _; simp [blockM, HO.out, HK.out, H64.out, ho, hneg]
            clear ho
            obtain ⟨⟨I0, J0⟩, ⟨I1, J1⟩, ⟨I2, J2⟩, ⟨I3, J3⟩, ⟨I4, J4⟩, ⟨I5, J5⟩, ⟨I6, J6⟩, ⟨I7, J7⟩, ⟨I8, J8⟩, ⟨I9, J9⟩⟩ := hI2.blk.ten
            have hI3 := ((hI2.set 3 (.bool true)).set 6 (.int .u32 (v % 4294967296))).set 7 (.int .i64 (j : Nat))
            have HI := hide hI3
            clear hI3
            go_wp2
            go_end0
            exact OutS.ok_mk HH.out (((hk2.own2 _).own2 _).own2 _) ⟨rfl, _, _, HI.out, Row.nil _ _ _ _, Row.nil _ _ _ _⟩ (((hrd2.set_other hne _).set_other hne _).set_other hne _)

end Go.Proofs.YtgkpkngchploiaaGreat
/-
  What stands behind an instruction's byte, in plain words.
-/
namespace Go.Proofs.YtgkpkngchploiaaGreat
open Go.RowKit

def behM (a x : Nat) (s : ByteArray) (n i : Nat) : Except Err (Beh × Nat) :=
  if x ∈ [2, 3, 4] then blockM s n i
  else if x ∈ [14] then
    match listM 20 uM s n i with
    | .error e => .error e
    | .ok (ls, j) =>
      match uM s n j with
      | .error e => .error e
      | .ok (u, j2) => .ok ({ Beh.none with num := u, labels := ls }, j2)
  else if x ∈ [40, 41, 44, 45, 54, 55, 58] then
    match uM s n i with
    | .error e => .error e
    | .ok (al, j) =>
      match uM s n j with
      | .error e => .error e
      | .ok (u, j2) => .ok ({ Beh.none with align := al.1, num := u }, j2)
  else if x ∈ [12, 13, 16, 32, 33, 34, 35, 36] then
    match uM s n i with
    | .error e => .error e
    | .ok (u, j) => .ok ({ Beh.none with num := u }, j)
  else if x ∈ [17] then
    match uM s n i with
    | .error e => .error e
    | .ok (u, j) =>
      match oneM [0] s n j with
      | .error e => .error e
      | .ok (_, j2) => .ok ({ Beh.none with num := u }, j2)
  else if x ∈ [63, 64] then
    match oneM [0] s n i with
    | .error e => .error e
    | .ok (_, j) => .ok (Beh.none, j)
  else if x ∈ [65] then
    match sM 4 4 s n i with
    | .error e => .error e
    | .ok (v, j) => .ok ({ Beh.none with val := v }, j)
  else if x ∈ [66] then
    match sM 9 1 s n i with
    | .error e => .error e
    | .ok (v, j) => .ok ({ Beh.none with val := v }, j)
  else if bareB x = true then .ok (Beh.none, i) else .error (2, a)

/-- All bytes behind which something stands. -/
def fullWords : List Nat := [2, 3, 4, 14, 40, 41, 44, 45, 54, 55, 58, 12, 13, 16, 32, 33, 34, 35, 36, 17, 63, 64, 65, 66]

theorem behM_other {a x : Nat} {s : ByteArray} {n i : Nat} (h : x ∉ fullWords) : behM a x s n i = if bareB x = true then .ok (Beh.none, i) else .error (2, a) := by
  simp only [fullWords, List.mem_cons, List.not_mem_nil, or_false, not_or] at h
  unfold behM
  simp [h]

end Go.Proofs.YtgkpkngchploiaaGreat
/-
  takeBehind, but for br_table.
-/
namespace Go.Proofs.YtgkpkngchploiaaGreat
open Go.RowKit

set_option maxRecDepth 100000 in
set_option maxHeartbeats 3200000 in
theorem takeBehind_one {w : World} {b c a e0 x : Nat} {s : ByteArray} {i n : Nat} (h : Rd w b s i n) (hI : OB w b c (insNew a e0 x)) (hx : x = 12 ∨ x = 13 ∨ x = 16 ∨ x = 32 ∨ x = 33 ∨ x = 34 ∨ x = 35 ∨ x = 36) :
    Calls Tryz.prog 116 #[.pointer (some ⟨b, 0, none⟩), .pointer (some ⟨c, 0, none⟩)] w (OutS (both b c) w b s n (isBeh (fun g => w.heap.size ≤ g) b c a e0 x) (behM a x s n i)) := by
  obtain ⟨⟨I0, J0⟩, ⟨I1, J1⟩, ⟨I2, J2⟩, ⟨I3, J3⟩, ⟨I4, J4⟩, ⟨I5, J5⟩, ⟨I6, J6⟩, ⟨I7, J7⟩, ⟨I8, J8⟩, ⟨I9, J9⟩⟩ := hI.blk.ten
  have hcw := hI.lt
  have hne := hI.ne
  have hfld := field_num0
  rcases hx with rfl | rfl | rfl | rfl | rfl | rfl | rfl | rfl
  all_goals
    go_enter Tryz.func116, Tryz.ntmps116
    go_wp2_with fail
    refine (u_any h).mono ?_
    rintro e w1 ⟨hx1, hok, herr⟩
    have hk1 := (Kept.refl (both b c) w).trans hx1.both_of
    have hI1 := hI.call hx1
    clear hx1 I0 J0 I1 J1 I2 J2 I3 J3 I4 J4 I5 J5 I6 J6 I7 J7 I8 J8 I9 J9
    cases ho : uM s n i with
    | error qp =>
      obtain ⟨q, p⟩ := qp
      have he := herr _ _ ho
      subst he
      exact ⟨rfl, OutS.err_mk (by simp [behM, ho]) hk1⟩
    | ok xj =>
      obtain ⟨⟨v, p⟩, j⟩ := xj
      obtain ⟨u, rfl, hv, hrd1⟩ := hok _ _ ho
      have hv : u = .agg #[.int .u32 v, .int .i64 (p : Nat)] := hv
      subst hv
      have HO1 := hide ho
      clear hok herr ho
      obtain ⟨⟨I0, J0⟩, ⟨I1, J1⟩, ⟨I2, J2⟩, ⟨I3, J3⟩, ⟨I4, J4⟩, ⟨I5, J5⟩, ⟨I6, J6⟩, ⟨I7, J7⟩, ⟨I8, J8⟩, ⟨I9, J9⟩⟩ := hI1.blk.ten
      have HI := hide ((hI1.set 6 (.int .u32 v)).set 7 (.int .i64 (p : Nat)))
      go_wp2
      go_end0
      exact OutS.ok_mk (x := (⟨false, [], 0, (v, p), [], 0⟩ : Beh)) (j := j) (by simp [behM, Beh.none, HO1.out]) ((hk1.own2 _).own2 _) ⟨rfl, _, _, HI.out, Row.nil _ _ _ _, Row.nil _ _ _ _⟩ ((hrd1.set_other hne _).set_other hne _)

set_option maxRecDepth 100000 in
set_option maxHeartbeats 3200000 in
theorem takeBehind_s32 {w : World} {b c a e0 x : Nat} {s : ByteArray} {i n : Nat} (h : Rd w b s i n) (hI : OB w b c (insNew a e0 x)) (hx : x = 65) :
    Calls Tryz.prog 116 #[.pointer (some ⟨b, 0, none⟩), .pointer (some ⟨c, 0, none⟩)] w (OutS (both b c) w b s n (isBeh (fun g => w.heap.size ≤ g) b c a e0 x) (behM a x s n i)) := by
  obtain ⟨⟨I0, J0⟩, ⟨I1, J1⟩, ⟨I2, J2⟩, ⟨I3, J3⟩, ⟨I4, J4⟩, ⟨I5, J5⟩, ⟨I6, J6⟩, ⟨I7, J7⟩, ⟨I8, J8⟩, ⟨I9, J9⟩⟩ := hI.blk.ten
  have hcw := hI.lt
  have hne := hI.ne
  have hfld := field_num0
  rcases hx with rfl
  all_goals
    go_enter Tryz.func116, Tryz.ntmps116
    go_wp2_with fail
    refine (s32_any h).mono ?_
    rintro e w1 ⟨hx1, hok, herr⟩
    have hk1 := (Kept.refl (both b c) w).trans hx1.both_of
    have hI1 := hI.call hx1
    clear hx1 I0 J0 I1 J1 I2 J2 I3 J3 I4 J4 I5 J5 I6 J6 I7 J7 I8 J8 I9 J9
    cases ho : sM 4 4 s n i with
    | error qp =>
      obtain ⟨q, p⟩ := qp
      have he := herr _ _ ho
      subst he
      exact ⟨rfl, OutS.err_mk (by simp [behM, ho]) hk1⟩
    | ok xj =>
      obtain ⟨v, j⟩ := xj
      obtain ⟨u, rfl, hv, hrd1⟩ := hok _ _ ho
      have hv : u = .int .i64 v := hv
      subst hv
      have HO1 := hide ho
      clear hok herr ho
      obtain ⟨⟨I0, J0⟩, ⟨I1, J1⟩, ⟨I2, J2⟩, ⟨I3, J3⟩, ⟨I4, J4⟩, ⟨I5, J5⟩, ⟨I6, J6⟩, ⟨I7, J7⟩, ⟨I8, J8⟩, ⟨I9, J9⟩⟩ := hI1.blk.ten
      have HI := hide (hI1.set 9 (.int .i64 v))
      go_wp2
      go_end0
      exact OutS.ok_mk (x := (⟨false, [], 0, (0, 0), [], v⟩ : Beh)) (j := j) (by simp [behM, Beh.none, HO1.out]) (hk1.own2 _) ⟨rfl, _, _, HI.out, Row.nil _ _ _ _, Row.nil _ _ _ _⟩ (hrd1.set_other hne _)

set_option maxRecDepth 100000 in
set_option maxHeartbeats 3200000 in
theorem takeBehind_s64 {w : World} {b c a e0 x : Nat} {s : ByteArray} {i n : Nat} (h : Rd w b s i n) (hI : OB w b c (insNew a e0 x)) (hx : x = 66) :
    Calls Tryz.prog 116 #[.pointer (some ⟨b, 0, none⟩), .pointer (some ⟨c, 0, none⟩)] w (OutS (both b c) w b s n (isBeh (fun g => w.heap.size ≤ g) b c a e0 x) (behM a x s n i)) := by
  obtain ⟨⟨I0, J0⟩, ⟨I1, J1⟩, ⟨I2, J2⟩, ⟨I3, J3⟩, ⟨I4, J4⟩, ⟨I5, J5⟩, ⟨I6, J6⟩, ⟨I7, J7⟩, ⟨I8, J8⟩, ⟨I9, J9⟩⟩ := hI.blk.ten
  have hcw := hI.lt
  have hne := hI.ne
  have hfld := field_num0
  rcases hx with rfl
  all_goals
    go_enter Tryz.func116, Tryz.ntmps116
    go_wp2_with fail
    refine (s64_any h).mono ?_
    rintro e w1 ⟨hx1, hok, herr⟩
    have hk1 := (Kept.refl (both b c) w).trans hx1.both_of
    have hI1 := hI.call hx1
    clear hx1 I0 J0 I1 J1 I2 J2 I3 J3 I4 J4 I5 J5 I6 J6 I7 J7 I8 J8 I9 J9
    cases ho : sM 9 1 s n i with
    | error qp =>
      obtain ⟨q, p⟩ := qp
      have he := herr _ _ ho
      subst he
      exact ⟨rfl, OutS.err_mk (by simp [behM, ho]) hk1⟩
    | ok xj =>
      obtain ⟨v, j⟩ := xj
      obtain ⟨u, rfl, hv, hrd1⟩ := hok _ _ ho
      have hv : u = .int .i64 v := hv
      subst hv
      have HO1 := hide ho
      clear hok herr ho
      obtain ⟨⟨I0, J0⟩, ⟨I1, J1⟩, ⟨I2, J2⟩, ⟨I3, J3⟩, ⟨I4, J4⟩, ⟨I5, J5⟩, ⟨I6, J6⟩, ⟨I7, J7⟩, ⟨I8, J8⟩, ⟨I9, J9⟩⟩ := hI1.blk.ten
      have HI := hide (hI1.set 9 (.int .i64 v))
      go_wp2
      go_end0
      exact OutS.ok_mk (x := (⟨false, [], 0, (0, 0), [], v⟩ : Beh)) (j := j) (by simp [behM, Beh.none, HO1.out]) (hk1.own2 _) ⟨rfl, _, _, HI.out, Row.nil _ _ _ _, Row.nil _ _ _ _⟩ (hrd1.set_other hne _)

set_option maxRecDepth 100000 in
set_option maxHeartbeats 3200000 in
theorem takeBehind_zero {w : World} {b c a e0 x : Nat} {s : ByteArray} {i n : Nat} (h : Rd w b s i n) (hI : OB w b c (insNew a e0 x)) (hx : x = 63 ∨ x = 64) :
    Calls Tryz.prog 116 #[.pointer (some ⟨b, 0, none⟩), .pointer (some ⟨c, 0, none⟩)] w (OutS (both b c) w b s n (isBeh (fun g => w.heap.size ≤ g) b c a e0 x) (behM a x s n i)) := by
  obtain ⟨⟨I0, J0⟩, ⟨I1, J1⟩, ⟨I2, J2⟩, ⟨I3, J3⟩, ⟨I4, J4⟩, ⟨I5, J5⟩, ⟨I6, J6⟩, ⟨I7, J7⟩, ⟨I8, J8⟩, ⟨I9, J9⟩⟩ := hI.blk.ten
  have hcw := hI.lt
  have hne := hI.ne
  have hfld := field_num0
  rcases hx with rfl | rfl
  all_goals
    go_enter Tryz.func116, Tryz.ntmps116
    go_wp2_with fail
    refine (one_any (ts := [0]) (h.alloc _) (bts_one' 0 (by simp) rfl) (by simp) (by have := h.lt; omega) (by simp)).mono ?_
    rintro e w1 ⟨hx1, hok, herr⟩
    have hk1 := ((Kept.refl (both b c) w).alloc _).trans hx1.both_of
    have hI1 := (hI.alloc _).call hx1
    clear hx1 I0 J0 I1 J1 I2 J2 I3 J3 I4 J4 I5 J5 I6 J6 I7 J7 I8 J8 I9 J9
    cases ho : oneM [0] s n i with
    | error qp =>
      obtain ⟨q, p⟩ := qp
      have he := herr _ _ ho
      subst he
      exact ⟨rfl, OutS.err_mk (by simp [behM, ho]) hk1⟩
    | ok xj =>
      obtain ⟨y, j⟩ := xj
      obtain ⟨u, rfl, -, hrd1⟩ := hok _ _ ho
      have HO1 := hide ho
      clear hok herr ho
      obtain ⟨⟨I0, J0⟩, ⟨I1, J1⟩, ⟨I2, J2⟩, ⟨I3, J3⟩, ⟨I4, J4⟩, ⟨I5, J5⟩, ⟨I6, J6⟩, ⟨I7, J7⟩, ⟨I8, J8⟩, ⟨I9, J9⟩⟩ := hI1.blk.ten
      have HI := hide hI1
      go_wp2
      go_end0
      exact OutS.ok_mk (x := (⟨false, [], 0, (0, 0), [], 0⟩ : Beh)) (j := j) (by simp [behM, Beh.none, HO1.out]) hk1 ⟨rfl, _, _, HI.out, Row.nil _ _ _ _, Row.nil _ _ _ _⟩ hrd1

set_option maxRecDepth 100000 in
set_option maxHeartbeats 3200000 in
theorem takeBehind_block {w : World} {b c a e0 x : Nat} {s : ByteArray} {i n : Nat} (h : Rd w b s i n) (hI : OB w b c (insNew a e0 x)) (hx : x = 2 ∨ x = 3 ∨ x = 4) :
    Calls Tryz.prog 116 #[.pointer (some ⟨b, 0, none⟩), .pointer (some ⟨c, 0, none⟩)] w (OutS (both b c) w b s n (isBeh (fun g => w.heap.size ≤ g) b c a e0 x) (behM a x s n i)) := by
  obtain ⟨⟨I0, J0⟩, ⟨I1, J1⟩, ⟨I2, J2⟩, ⟨I3, J3⟩, ⟨I4, J4⟩, ⟨I5, J5⟩, ⟨I6, J6⟩, ⟨I7, J7⟩, ⟨I8, J8⟩, ⟨I9, J9⟩⟩ := hI.blk.ten
  have hcw := hI.lt
  have hne := hI.ne
  have hfld := field_num0
  rcases hx with rfl | rfl | rfl
  all_goals
    go_enter Tryz.func116, Tryz.ntmps116
    go_wp2_with fail
    refine (takeBlock_any h hI).mono ?_
    rintro e w1 ⟨hk1, hok, herr⟩
    clear I0 J0 I1 J1 I2 J2 I3 J3 I4 J4 I5 J5 I6 J6 I7 J7 I8 J8 I9 J9
    cases ho : blockM s n i with
    | error qp =>
      obtain ⟨q, p⟩ := qp
      have he := herr _ _ ho
      subst he
      exact ⟨rfl, OutS.err_mk (by simp [behM, ho]) hk1⟩
    | ok xj =>
      obtain ⟨y, j⟩ := xj
      obtain ⟨u, rfl, hv, hrd1⟩ := hok _ _ ho
      have HV := hide hv
      have HO1 := hide ho
      clear hok herr ho hv
      go_wp2
      go_end0
      exact OutS.ok_mk (x := y) (j := j) (by simp [behM, HO1.out]) hk1 ⟨rfl, HV.out.2⟩ hrd1

set_option maxRecDepth 100000 in
set_option maxHeartbeats 3200000 in
theorem takeBehind_bare {w : World} {b c a e0 x : Nat} {s : ByteArray} {i n : Nat} (h : Rd w b s i n) (hI : OB w b c (insNew a e0 x)) (hx : x ∉ fullWords) :
    Calls Tryz.prog 116 #[.pointer (some ⟨b, 0, none⟩), .pointer (some ⟨c, 0, none⟩)] w (OutS (both b c) w b s n (isBeh (fun g => w.heap.size ≤ g) b c a e0 x) (behM a x s n i)) := by
  obtain ⟨⟨I0, J0⟩, ⟨I1, J1⟩, ⟨I2, J2⟩, ⟨I3, J3⟩, ⟨I4, J4⟩, ⟨I5, J5⟩, ⟨I6, J6⟩, ⟨I7, J7⟩, ⟨I8, J8⟩, ⟨I9, J9⟩⟩ := hI.blk.ten
  have HB := hide (behM_other (a := a) (s := s) (n := n) (i := i) hx)
  simp only [fullWords, List.mem_cons, List.not_mem_nil, or_false, not_or] at hx
  obtain ⟨e2, e3, e4, e14, e40, e41, e44, e45, e54, e55, e58, e12, e13, e16, e32, e33, e34, e35, e36, e17, e63, e64, e65, e66⟩ := hx
  have t2 : ((x : Int) == 2) = false := by simp; omega
  have t3 : ((x : Int) == 3) = false := by simp; omega
  have t4 : ((x : Int) == 4) = false := by simp; omega
  have t14 : ((x : Int) == 14) = false := by simp; omega
  have t40 : ((x : Int) == 40) = false := by simp; omega
  have t41 : ((x : Int) == 41) = false := by simp; omega
  have t44 : ((x : Int) == 44) = false := by simp; omega
  have t45 : ((x : Int) == 45) = false := by simp; omega
  have t54 : ((x : Int) == 54) = false := by simp; omega
  have t55 : ((x : Int) == 55) = false := by simp; omega
  have t58 : ((x : Int) == 58) = false := by simp; omega
  have t12 : ((x : Int) == 12) = false := by simp; omega
  have t13 : ((x : Int) == 13) = false := by simp; omega
  have t16 : ((x : Int) == 16) = false := by simp; omega
  have t32 : ((x : Int) == 32) = false := by simp; omega
  have t33 : ((x : Int) == 33) = false := by simp; omega
  have t34 : ((x : Int) == 34) = false := by simp; omega
  have t35 : ((x : Int) == 35) = false := by simp; omega
  have t36 : ((x : Int) == 36) = false := by simp; omega
  have t17 : ((x : Int) == 17) = false := by simp; omega
  have t63 : ((x : Int) == 63) = false := by simp; omega
  have t64 : ((x : Int) == 64) = false := by simp; omega
  have t65 : ((x : Int) == 65) = false := by simp; omega
  have t66 : ((x : Int) == 66) = false := by simp; omega
  clear e2 e3 e4 e14 e40 e41 e44 e45 e54 e55 e58 e12 e13 e16 e32 e33 e34 e35 e36 e17 e63 e64 e65 e66
  have hnot : ∀ (x : Bool) (w : World), (Op.unary .not (.bool x)).run Tryz.prog w = .ok (.bool (!x)) w := fun _ _ => rfl
  go_enter Tryz.func116, Tryz.ntmps116
  go_wp2_with fail
  refine (bare_any _ _).mono ?_
  rintro e w1 ⟨rfl, rfl⟩
  cases hb : bareB x with
  | true =>
    have HH : Hid (behM a x s n i = .ok (Beh.none, i)) := by show _ = _; rw [HB.out, hb]; rfl
    have HI := hide hI
    go_wp2
    go_end0
    exact OutS.ok_mk HH.out (Kept.refl _ _) ⟨rfl, InsAt.new HI.out⟩ h
  | false =>
    have HH : Hid (behM a x s n i = .error (2, a)) := by show _ = _; rw [HB.out, hb]; rfl
    go_wp2_with fail
    refine (refuse_any _ _).mono ?_
    rintro e w3 ⟨rfl, rfl⟩
    exact ⟨rfl, OutS.err_mk HH.out (Kept.refl _ _)⟩

end Go.Proofs.YtgkpkngchploiaaGreat
/-
  takeBehind: loads and stores, call_indirect, br_table.
-/
namespace Go.Proofs.YtgkpkngchploiaaGreat
open Go.RowKit

set_option maxRecDepth 100000 in
set_option maxHeartbeats 3200000 in
theorem takeBehind_two {w : World} {b c a e0 x : Nat} {s : ByteArray} {i n : Nat} (h : Rd w b s i n) (hI : OB w b c (insNew a e0 x)) (hx : x = 40 ∨ x = 41 ∨ x = 44 ∨ x = 45 ∨ x = 54 ∨ x = 55 ∨ x = 58) :
    Calls Tryz.prog 116 #[.pointer (some ⟨b, 0, none⟩), .pointer (some ⟨c, 0, none⟩)] w (OutS (both b c) w b s n (isBeh (fun g => w.heap.size ≤ g) b c a e0 x) (behM a x s n i)) := by
  obtain ⟨⟨I0, J0⟩, ⟨I1, J1⟩, ⟨I2, J2⟩, ⟨I3, J3⟩, ⟨I4, J4⟩, ⟨I5, J5⟩, ⟨I6, J6⟩, ⟨I7, J7⟩, ⟨I8, J8⟩, ⟨I9, J9⟩⟩ := hI.blk.ten
  have hcw := hI.lt
  have hne := hI.ne
  have hfld := field_num0
  rcases hx with rfl | rfl | rfl | rfl | rfl | rfl | rfl
  all_goals
    go_enter Tryz.func116, Tryz.ntmps116
    go_wp2_with fail
    refine (u_any h).mono ?_
    rintro e w1 ⟨hx1, hok, herr⟩
    have hk1 := (Kept.refl (both b c) w).trans hx1.both_of
    have hI1 := hI.call hx1
    clear hx1 I0 J0 I1 J1 I2 J2 I3 J3 I4 J4 I5 J5 I6 J6 I7 J7 I8 J8 I9 J9
    cases ho : uM s n i with
    | error qp =>
      obtain ⟨q, p⟩ := qp
      have he := herr _ _ ho
      subst he
      exact ⟨rfl, OutS.err_mk (by simp [behM, ho]) hk1⟩
    | ok xj =>
      obtain ⟨⟨al, pa⟩, j⟩ := xj
      obtain ⟨u, rfl, hv, hrd1⟩ := hok _ _ ho
      have hv : u = .agg #[.int .u32 al, .int .i64 (pa : Nat)] := hv
      subst hv
      have HO1 := hide ho
      clear hok herr ho
      obtain ⟨⟨I0, J0⟩, ⟨I1, J1⟩, ⟨I2, J2⟩, ⟨I3, J3⟩, ⟨I4, J4⟩, ⟨I5, J5⟩, ⟨I6, J6⟩, ⟨I7, J7⟩, ⟨I8, J8⟩, ⟨I9, J9⟩⟩ := hI1.blk.ten
      go_wp2_with fail
      refine (u_any (hrd1.set_other hne _)).mono ?_
      rintro e w2 ⟨hx2, hok, herr⟩
      have hk2 := (hk1.own2 _).trans hx2.both_of
      have hI2 := (hI1.set 5 (.int .u32 al)).call hx2
      clear hx2 I0 J0 I1 J1 I2 J2 I3 J3 I4 J4 I5 J5 I6 J6 I7 J7 I8 J8 I9 J9
      cases ho : uM s n j with
      | error qp =>
        obtain ⟨q, p⟩ := qp
        have he := herr _ _ ho
        subst he
        exact ⟨rfl, OutS.err_mk (by simp [behM, HO1.out, ho]) hk2⟩
      | ok xj =>
        obtain ⟨⟨v, p⟩, j2⟩ := xj
        obtain ⟨u, rfl, hv, hrd2⟩ := hok _ _ ho
        have hv : u = .agg #[.int .u32 v, .int .i64 (p : Nat)] := hv
        subst hv
        have HO2 := hide ho
        clear hok herr ho
        obtain ⟨⟨I0, J0⟩, ⟨I1, J1⟩, ⟨I2, J2⟩, ⟨I3, J3⟩, ⟨I4, J4⟩, ⟨I5, J5⟩, ⟨I6, J6⟩, ⟨I7, J7⟩, ⟨I8, J8⟩, ⟨I9, J9⟩⟩ := hI2.blk.ten
        have HI := hide ((hI2.set 6 (.int .u32 v)).set 7 (.int .i64 (p : Nat)))
        go_wp2
        go_end0
        exact OutS.ok_mk (x := (⟨false, [], al, (v, p), [], 0⟩ : Beh)) (j := j2) (by simp [behM, Beh.none, HO1.out, HO2.out]) ((hk2.own2 _).own2 _) ⟨rfl, _, _, HI.out, Row.nil _ _ _ _, Row.nil _ _ _ _⟩ ((hrd2.set_other hne _).set_other hne _)

set_option maxRecDepth 100000 in
set_option maxHeartbeats 3200000 in
theorem takeBehind_indirect {w : World} {b c a e0 x : Nat} {s : ByteArray} {i n : Nat} (h : Rd w b s i n) (hI : OB w b c (insNew a e0 x)) (hx : x = 17) :
    Calls Tryz.prog 116 #[.pointer (some ⟨b, 0, none⟩), .pointer (some ⟨c, 0, none⟩)] w (OutS (both b c) w b s n (isBeh (fun g => w.heap.size ≤ g) b c a e0 x) (behM a x s n i)) := by
  obtain ⟨⟨I0, J0⟩, ⟨I1, J1⟩, ⟨I2, J2⟩, ⟨I3, J3⟩, ⟨I4, J4⟩, ⟨I5, J5⟩, ⟨I6, J6⟩, ⟨I7, J7⟩, ⟨I8, J8⟩, ⟨I9, J9⟩⟩ := hI.blk.ten
  have hcw := hI.lt
  have hne := hI.ne
  have hfld := field_num0
  rcases hx with rfl
  all_goals
    go_enter Tryz.func116, Tryz.ntmps116
    go_wp2_with fail
    refine (u_any h).mono ?_
    rintro e w1 ⟨hx1, hok, herr⟩
    have hk1 := (Kept.refl (both b c) w).trans hx1.both_of
    have hI1 := hI.call hx1
    clear hx1 I0 J0 I1 J1 I2 J2 I3 J3 I4 J4 I5 J5 I6 J6 I7 J7 I8 J8 I9 J9
    cases ho : uM s n i with
    | error qp =>
      obtain ⟨q, p⟩ := qp
      have he := herr _ _ ho
      subst he
      exact ⟨rfl, OutS.err_mk (by simp [behM, ho]) hk1⟩
    | ok xj =>
      obtain ⟨⟨v, p⟩, j⟩ := xj
      obtain ⟨u, rfl, hv, hrd1⟩ := hok _ _ ho
      have hv : u = .agg #[.int .u32 v, .int .i64 (p : Nat)] := hv
      subst hv
      have HO1 := hide ho
      clear hok herr ho
      obtain ⟨⟨I0, J0⟩, ⟨I1, J1⟩, ⟨I2, J2⟩, ⟨I3, J3⟩, ⟨I4, J4⟩, ⟨I5, J5⟩, ⟨I6, J6⟩, ⟨I7, J7⟩, ⟨I8, J8⟩, ⟨I9, J9⟩⟩ := hI1.blk.ten
      go_wp2_with fail
      refine (one_any (ts := [0]) (((hrd1.set_other hne _).set_other hne _).alloc _) (bts_one' 0 (by simp) rfl) (by simp) (by have := hrd1.lt; simp; omega) (by simp)).mono ?_
      rintro e w2 ⟨hx2, hok, herr⟩
      have hk2 := (((hk1.own2 _).own2 _).alloc _).trans hx2.both_of
      have hI2 := (((hI1.set 6 (.int .u32 v)).set 7 (.int .i64 (p : Nat))).alloc _).call hx2
      clear hx2 I0 J0 I1 J1 I2 J2 I3 J3 I4 J4 I5 J5 I6 J6 I7 J7 I8 J8 I9 J9
      cases ho : oneM [0] s n j with
      | error qp =>
        obtain ⟨q, p⟩ := qp
        have he := herr _ _ ho
        subst he
        exact ⟨rfl, OutS.err_mk (by simp [behM, HO1.out, ho]) hk2⟩
      | ok xj =>
        obtain ⟨y, j2⟩ := xj
        obtain ⟨u, rfl, -, hrd2⟩ := hok _ _ ho
        have HO2 := hide ho
        clear hok herr ho
        obtain ⟨⟨I0, J0⟩, ⟨I1, J1⟩, ⟨I2, J2⟩, ⟨I3, J3⟩, ⟨I4, J4⟩, ⟨I5, J5⟩, ⟨I6, J6⟩, ⟨I7, J7⟩, ⟨I8, J8⟩, ⟨I9, J9⟩⟩ := hI2.blk.ten
        have HI := hide hI2
        go_wp2
        go_end0
        exact OutS.ok_mk (x := (⟨false, [], 0, (v, p), [], 0⟩ : Beh)) (j := j2) (by simp [behM, Beh.none, HO1.out, HO2.out]) hk2 ⟨rfl, _, _, HI.out, Row.nil _ _ _ _, Row.nil _ _ _ _⟩ hrd2

end Go.Proofs.YtgkpkngchploiaaGreat
/-
  takeBehind: br_table.
-/
namespace Go.Proofs.YtgkpkngchploiaaGreat
open Go.RowKit

theorem u_ok {w : World} {b : Nat} {s : ByteArray} {i n : Nat} {v : Int} {p j : Nat} (h : Rd w b s i n) (hu : uM s n i = .ok ((v, p), j)) :
    Calls Tryz.prog 42 #[.pointer (some ⟨b, 0, none⟩)] w fun e w' => e = .returned (.agg #[.int .u32 v, .int .i64 (p : Nat)]) ∧ Rd w' b s j n ∧ Kept (only b) w w' := by
  refine (u_any h).mono ?_
  rintro e w1 ⟨hk, hok, herr⟩
  obtain ⟨u, rfl, hv, hrd⟩ := hok _ _ hu
  have hv : u = .agg #[.int .u32 v, .int .i64 (p : Nat)] := hv
  subst hv
  exact ⟨rfl, hrd, hk⟩

theorem u_err {w : World} {b : Nat} {s : ByteArray} {i n : Nat} {q p : Nat} (h : Rd w b s i n) (hu : uM s n i = .error (q, p)) :
    Calls Tryz.prog 42 #[.pointer (some ⟨b, 0, none⟩)] w fun e w' => e = gaveUp q p ∧ Kept (only b) w w' := by
  refine (u_any h).mono ?_
  rintro e w1 ⟨hk, hok, herr⟩
  exact ⟨herr _ _ hu, hk⟩

theorem OB.kept {S : Nat → Prop} {w w1 : World} {b g : Nat} {cs : List Value} (h : OB w b g cs) (hk : Kept S w w1) (hs : ¬ S g) : OB w1 b g cs :=
  ⟨h.blk.kept hk h.lt hs, Nat.lt_of_lt_of_le h.lt hk.size, h.ne⟩

theorem OB.drew {w : World} {b g : Nat} {cs : List Value} (h : OB w b g cs) : OB w.drew b g cs := ⟨h.blk, h.lt, h.ne⟩

/-- A call that returns, by its contract, as one step of a region that draws its order. -/
theorem step_call {P : Program} {ops : Array Oper} {o : Oper} {a : Act} {w : World} {K : Act → World → Prop} {Q : Exit → Act → World → Prop} {E : Prop} {f : FuncId} {args : Array Value} {R : Ending → World → Prop} (hgd : o.guard = none)
    (hex : (execOp a.eval o).run P w = .ok (.enter f args) w) (hc : Calls P f args w R) (h : ∀ e w', R e w' → ∃ v, e = .returned v ∧ K (a.put o.dst v) w') :
    if Region.wanted o (yielded ops a.tmps) = true then Oper.wp P o a w K Q else E := by
  have hw : Region.wanted o (yielded ops a.tmps) = true := by simp [Region.wanted, hgd]
  rw [if_pos hw]
  unfold Oper.wp
  rw [hex]
  refine hc.mono ?_
  intro e w' hr
  obtain ⟨v, rfl, hk⟩ := h e w' hr
  exact hk

set_option maxRecDepth 100000 in
set_option maxHeartbeats 3200000 in
theorem takeBehind_table {w : World} {b c a e0 : Nat} {s : ByteArray} {i n : Nat} (h : Rd w b s i n) (hI : OB w b c (insNew a e0 14)) :
    Calls Tryz.prog 116 #[.pointer (some ⟨b, 0, none⟩), .pointer (some ⟨c, 0, none⟩)] w (OutS (both b c) w b s n (isBeh (fun g => w.heap.size ≤ g) b c a e0 14) (behM a 14 s n i)) := by
  obtain ⟨i0, hi0, hz0, hz1, hz2⟩ := info_parts Tryz.info62
  obtain ⟨⟨I0, J0⟩, ⟨I1, J1⟩, ⟨I2, J2⟩, ⟨I3, J3⟩, ⟨I4, J4⟩, ⟨I5, J5⟩, ⟨I6, J6⟩, ⟨I7, J7⟩, ⟨I8, J8⟩, ⟨I9, J9⟩⟩ := hI.blk.ten
  have hcw := hI.lt
  have hne := hI.ne
  have hfld := field_num0
  go_enter Tryz.func116, Tryz.ntmps116
  go_wp2_with fail
  refine (count_any 20 h (by omega)).mono ?_
  rintro e w1 ⟨hx1, hok, herr⟩
  have hk1 : Kept (both b c) w w1 := hx1.both_of
  have hI1 := hI.call hx1
  clear hx1 I0 J0 I1 J1 I2 J2 I3 J3 I4 J4 I5 J5 I6 J6 I7 J7 I8 J8 I9 J9
  cases ho : countM 20 s n i with
  | error qp =>
    obtain ⟨q, p⟩ := qp
    have he := herr _ _ ho
    subst he
    exact ⟨rfl, OutS.err_mk (by simp [behM, listM, ho]) hk1⟩
  | ok xj =>
    obtain ⟨cnt, j0⟩ := xj
    obtain ⟨u, rfl, hv, hrd⟩ := hok _ _ ho
    have hv : u = .int .i64 (cnt : Nat) := hv
    subst hv
    have hcnt := (countM_facts ho).1
    have HM : Hid (listM 20 uM s n i = listGo uM s n cnt [] j0) := by show _ = _; simp [listM, ho]
    clear hok herr ho
    go_wp2
    go_loopw [45] (fun q wr => ∃ (k j : Nat) (ls : List (Int × Nat)) (lv : Value), k ≤ cnt ∧ ls.length = k ∧ q = .int .i64 k ∧ Rd wr b s j n ∧ Kept (both b c) w wr ∧ OB wr b c (insCells a e0 14 Beh.none (.slice none 0 0) lv) ∧
        isRow 62 2 numCells (fun g => w.heap.size ≤ g) ls wr lv ∧ listM 20 uM s n i = listGo uM s n (cnt - k) ls j) (fun q _ => cnt - (intOf q).toNat)
    case atStart => exact ⟨0, j0, [], .slice none 0 0, Nat.zero_le _, rfl, rfl, hrd, hk1, hI1, Row.nil _ _ _ _, HM.out⟩
    case round =>
      obtain ⟨k, j, ks, lv, hk, hl, rfl, hrd, hkp, hIr, hrow, hme⟩ := hrel
      subst hl
      have HE := hide hme
      clear hme HM
      obtain ⟨pl, cl, rfl⟩ := Row.shape hrow
      obtain ⟨⟨I0, J0⟩, ⟨I1, J1⟩, ⟨I2, J2⟩, ⟨I3, J3⟩, ⟨I4, J4⟩, ⟨I5, J5⟩, ⟨I6, J6⟩, ⟨I7, J7⟩, ⟨I8, J8⟩, ⟨I9, J9⟩⟩ := hIr.blk.ten
      by_cases hlt : ks.length < cnt
      · have hlt' : (ks.length : Int) < (cnt : Int) := by omega
        cases hu : uM s n j with
        | error qp =>
          obtain ⟨q, p⟩ := qp
          have HU := hide hu
          clear hu
          go_wp2_with fail
          go_region_dies
          all_goals
            refine (u_err ?_ HU.out).mono ?_
            · exact hrd.drew
            rintro e w2 ⟨rfl, hx2⟩
            exact ⟨rfl, OutS.err_mk (by simp [behM, HE.out, listGo_err (tM := uM) (show 0 < cnt - ks.length by omega) HU.out]) (hkp.drew.trans hx2.both_of)⟩
        | ok xj =>
          obtain ⟨⟨v, p⟩, j2⟩ := xj
          have HU := hide hu
          clear hu
          go_wp2_with fail
          have hbw := hrd.lt
          have hown : Hid (∀ w2, Kept (only b) wr.drew w2 → w2.ownsRow w.heap.size 62 2 (.slice pl ks.length cl) ks.length (ks.flatMap numCells)) := fun w2 hx => ((Row.kept hrow (S := fun _ => False) (w' := wr.drew) ((Kept.refl _ _).drew) (fun _ _ _ c => c)).call hx (fun k hk => by have := h.lt; omega)).toBase (fun g hg => hg)
          go_region_law (first
              | (refine step_call (f := 42) (args := #[.pointer (some ⟨b, 0, none⟩)]) (by rfl) (by go_simp) (u_ok hrd.drew HU.out) ?_; rintro e w2 ⟨rfl, hrd2, hx2⟩; refine ⟨_, rfl, ?_⟩; have q8 : w2.cell? ⟨c, 8, none⟩ = some (.slice pl ks.length cl) := (hx2.other (show c < wr.drew.heap.size from hIr.lt) hne).trans I8; have f8 : w2.frozen? ⟨c, 8, none⟩ = false := (hx2.other_frozen (show c < wr.drew.heap.size from hIr.lt) hne).trans J8; have hcw2 : c < w2.heap.size := Nat.lt_of_lt_of_le (show c < wr.drew.heap.size from hIr.lt) hx2.size)
              | ((refine step_append_lies _ (by rfl) _ _ _ (by rfl) w.heap.size 62 i0 _ 2 16 Tryz.underlying43 hi0 hz0 hz1 hz2 rfl (by omega) (.slice pl ks.length cl) ks.length (ks.flatMap numCells) (by rfl) ((hown.out _ hx2).alloc _) ⟨w2.heap.size, 0, none⟩ 1 1 [.int .u32 v, .int .i64 (p : Nat)] (by rfl) (by rfl) (World.news_of_block (cs := #[.int .u32 v, .int .i64 (p : Nat)]) (t := 62) (fr := (0, 0)) (heap_alloc_new w2 _)) (by simp [Value.oneCell']) (by omega) (by unfold maxLen; omega) (by omega) (by have := hkp.size; have := hx2.size; simp at *; omega) (w2.heap.size + 1) (by simp) ?_; intro gg cap w3 hown3 hgrow hat hlt3; have hfar : some c ≠ (Value.slice pl ks.length cl).ownBlock := fun e => absurd ((hown.out _ hx2).lt c e.symm).1 (by omega); have q83 : w3.cell? ⟨c, 8, none⟩ = some (.slice pl ks.length cl) := (hgrow.cell_far ⟨c, 8, none⟩ (by simp; omega) hfar).trans ((World.cell?_alloc_lt _ _ _ hcw2).trans q8); have f83 : w3.frozen? ⟨c, 8, none⟩ = false := (hgrow.frozen_far ⟨c, 8, none⟩ (by simp; omega) hfar).trans ((World.frozen?_alloc_old _ _ _ (by simp; omega)).trans f8))))
          all_goals
            have ho2 := (hown.out _ hx2).alloc (.cells #[.int .u32 v, .int .i64 (p : Nat)] 62)
            have hrd3 := (grown_rd (hrd2.alloc _) ho2 h.lt hgrow).set_other (o := 8) hne (.slice (some ⟨gg, 0, none⟩) (ks.length + 1) cap)
            have hk3 := (grown_kept ((hkp.drew.trans hx2.both_of).alloc _) ho2 (Nat.le_refl _) hgrow).own2 (o := 8) (.slice (some ⟨gg, 0, none⟩) (ks.length + 1) cap)
            have hI3 := (((hIr.drew.call hx2).alloc (.cells #[.int .u32 v, .int .i64 (p : Nat)] 62)).kept (Kept.of_grown hgrow) (fun e => hfar e.symm)).set 8 (.slice (some ⟨gg, 0, none⟩) (ks.length + 1) cap)
            have hrow3 : isRow 62 2 numCells (fun g => w.heap.size ≤ g) (ks ++ [(v, p)]) (w3.setCell ⟨c, 8, none⟩ (.slice (some ⟨gg, 0, none⟩) (ks.length + 1) cap)) (.slice (some ⟨gg, 0, none⟩) (ks.length + 1) cap) := by
              have q := Row.other (Row.ofBase (ok := fun g => w.heap.size ≤ g) hown3 (fun g hg _ => hg)) (g := c) (o := 8) (fun k hk => by omega) (.slice (some ⟨gg, 0, none⟩) (ks.length + 1) cap)
              simpa [isRow, numCells] using q
            have HH : Hid (listM 20 uM s n i = listGo uM s n (cnt - (ks.length + 1)) (ks ++ [(v, p)]) j2) := HE.out.trans (listGo_ok (by omega) HU.out)
            have HR := hide hrow3
            have HI3 := hide hI3
            clear hrow3 hown3 hgrow hat hlt3 q83 f83 q8 f8 hx2 ho2 hI3 hrd2 hown hrow
            go_wp2
            go_roundw
            case rel => exact ⟨ks.length + 1, j2, ks ++ [(v, p)], .slice (some ⟨gg, 0, none⟩) (ks.length + 1) cap, by omega, by simp, by go_num, hrd3, hk3, HI3.out, HR.out, HH.out⟩
            case measure => simp [intOf]; omega
      · have HH : Hid (listM 20 uM s n i = .ok (ks, j)) := by show _ = _; rw [HE.out, show cnt - ks.length = 0 by omega]; rfl
        go_wp2_with fail
        refine (u_any hrd).mono ?_
        rintro e w2 ⟨hx2, hok, herr⟩
        have hk2 := hkp.trans hx2.both_of
        have hI2 := hIr.call hx2
        have hrow2 := Row.call hrow hx2 (fun k hk => by have := h.lt; omega)
        clear I0 J0 I1 J1 I2 J2 I3 J3 I4 J4 I5 J5 I6 J6 I7 J7 I8 J8 I9 J9
        cases ho : uM s n j with
        | error qp =>
          obtain ⟨q, p⟩ := qp
          have he := herr _ _ ho
          subst he
          exact ⟨rfl, OutS.err_mk (by simp [behM, HH.out, ho]) hk2⟩
        | ok xj =>
          obtain ⟨⟨v, p⟩, j2⟩ := xj
          obtain ⟨u, rfl, hv, hrd2⟩ := hok _ _ ho
          have hv : u = .agg #[.int .u32 v, .int .i64 (p : Nat)] := hv
          subst hv
          have HO := hide ho
          clear hok herr ho hrow hx2
          obtain ⟨⟨I0, J0⟩, ⟨I1, J1⟩, ⟨I2, J2⟩, ⟨I3, J3⟩, ⟨I4, J4⟩, ⟨I5, J5⟩, ⟨I6, J6⟩, ⟨I7, J7⟩, ⟨I8, J8⟩, ⟨I9, J9⟩⟩ := hI2.blk.ten
          have HR := hide (Row.other (Row.other hrow2 (g := c) (o := 6) (fun k hk => by omega) (.int .u32 v)) (g := c) (o := 7) (fun k hk => by omega) (.int .i64 (p : Nat)))
          have HI := hide ((hI2.set 6 (.int .u32 v)).set 7 (.int .i64 (p : Nat)))
          clear hrow2
          go_wp2
          go_end0
          exact OutS.ok_mk (x := (⟨false, [], 0, (v, p), ks, 0⟩ : Beh)) (j := j2) (by simp [behM, Beh.none, HH.out, HO.out]) ((hk2.own2 _).own2 _) ⟨rfl, _, _, HI.out, Row.nil _ _ _ _, HR.out⟩ ((hrd2.set_other hne _).set_other hne _)

end Go.Proofs.YtgkpkngchploiaaGreat
