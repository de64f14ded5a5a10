/-
  Part 2 of the proof: Blk, Mod1, Row, List1, Mir5, Mod2, Mod3, Enters.
-/
import Derived.Test.YtgkpkngchploiaaGreatPart01
import Derived.Test.YtgkpkngchploiaaGreatProg
/-
  Blocks of the call's own, cell by cell.
-/
namespace Go.Proofs.YtgkpkngchploiaaGreat
open Go.RowKit

/-- Block g holds the cells cs, and each may be written. -/
def Blk (w : World) (g : Nat) (cs : List Value) : Prop := ∀ i, i < cs.length → w.cell? ⟨g, i, none⟩ = some (cs.getD i undef) ∧ w.frozen? ⟨g, i, none⟩ = false

theorem Blk.new (w : World) (c : Array Value) (t : TypeId) : Blk (w.alloc (.cells c t)) w.heap.size c.toList := by
  intro i hi
  have hi' : i < c.size := by simpa using hi
  refine ⟨?_, by simp⟩
  rw [World.cell?_alloc_new]
  simp [List.getD, hi']

theorem Blk.kept {S : Nat → Prop} {w w1 : World} {g : Nat} {cs : List Value} (h : Blk w g cs) (hk : Kept S w w1) (hg : g < w.heap.size) (hs : ¬ S g) : Blk w1 g cs := by
  intro i hi
  rw [hk.cell (p := ⟨g, i, none⟩) hg hs, hk.frozen (p := ⟨g, i, none⟩) hg hs]
  exact h i hi

theorem Blk.alloc {w : World} {g : Nat} {cs : List Value} (h : Blk w g cs) (hg : g < w.heap.size) (o : Obj) : Blk (w.alloc o) g cs :=
  h.kept (S := fun _ => False) ((Kept.refl _ _).alloc o) hg (fun x => x)

theorem Blk.drewN {w : World} {g : Nat} {cs : List Value} (h : Blk w g cs) (k : Nat) : Blk (w.drewN k) g cs := h

theorem Blk.new' {w : World} {g : Nat} {c : Array Value} {t : TypeId} (hg : g = w.heap.size) : Blk (w.alloc (.cells c t)) g c.toList := by
  subst hg; exact Blk.new w c t

theorem Blk.lt {w : World} {g : Nat} {c : Value} {cs : List Value} (h : Blk w g (c :: cs)) : g < w.heap.size := World.block_lt_of_cell? _ _ (h 0 (by simp)).1

theorem Blk.set {w : World} {g : Nat} {cs : List Value} (h : Blk w g cs) (k : Nat) (v : Value) : Blk (w.setCell ⟨g, k, none⟩ v) g (cs.set k v) := by
  intro i hi
  have hi' : i < cs.length := by simpa using hi
  refine ⟨?_, by simp [(h i hi').2]⟩
  by_cases e : k = i
  · subst e
    rw [World.cell?_setCell_same _ _ _ (h k hi').1]
    simp [List.getD, hi']
  · rw [World.cell?_setCell_other _ _ ⟨g, i, none⟩ _ (fun c => e (congrArg Addr.off c)), (h i hi').1]
    simp [List.getD, e]

theorem Blk.set_other {w : World} {g g' o : Nat} {cs : List Value} (h : Blk w g cs) (hne : g' ≠ g) (v : Value) : Blk (w.setCell ⟨g', o, none⟩ v) g cs := by
  intro i hi
  rw [World.cell?_setCell_other _ _ ⟨g, i, none⟩ _ (fun c => hne (congrArg Addr.block c))]
  exact ⟨(h i hi).1, by simp [(h i hi).2]⟩

section
variable {w : World} {g : Nat} {a b c d e : Value}
theorem Blk.two (h : Blk w g [a, b]) : (w.cell? ⟨g, 0, none⟩ = some a ∧ w.frozen? ⟨g, 0, none⟩ = false) ∧ (w.cell? ⟨g, 1, none⟩ = some b ∧ w.frozen? ⟨g, 1, none⟩ = false) := ⟨h 0 (by simp), h 1 (by simp)⟩
theorem Blk.three (h : Blk w g [a, b, c]) : (w.cell? ⟨g, 0, none⟩ = some a ∧ w.frozen? ⟨g, 0, none⟩ = false) ∧ (w.cell? ⟨g, 1, none⟩ = some b ∧ w.frozen? ⟨g, 1, none⟩ = false) ∧ (w.cell? ⟨g, 2, none⟩ = some c ∧ w.frozen? ⟨g, 2, none⟩ = false) := ⟨h 0 (by simp), h 1 (by simp), h 2 (by simp)⟩
theorem Blk.four (h : Blk w g [a, b, c, d]) : (w.cell? ⟨g, 0, none⟩ = some a ∧ w.frozen? ⟨g, 0, none⟩ = false) ∧ (w.cell? ⟨g, 1, none⟩ = some b ∧ w.frozen? ⟨g, 1, none⟩ = false) ∧ (w.cell? ⟨g, 2, none⟩ = some c ∧ w.frozen? ⟨g, 2, none⟩ = false) ∧ (w.cell? ⟨g, 3, none⟩ = some d ∧ w.frozen? ⟨g, 3, none⟩ = false) :=
  ⟨h 0 (by simp), h 1 (by simp), h 2 (by simp), h 3 (by simp)⟩
theorem Blk.five (h : Blk w g [a, b, c, d, e]) : (w.cell? ⟨g, 0, none⟩ = some a ∧ w.frozen? ⟨g, 0, none⟩ = false) ∧ (w.cell? ⟨g, 1, none⟩ = some b ∧ w.frozen? ⟨g, 1, none⟩ = false) ∧ (w.cell? ⟨g, 2, none⟩ = some c ∧ w.frozen? ⟨g, 2, none⟩ = false) ∧ (w.cell? ⟨g, 3, none⟩ = some d ∧ w.frozen? ⟨g, 3, none⟩ = false) ∧ (w.cell? ⟨g, 4, none⟩ = some e ∧ w.frozen? ⟨g, 4, none⟩ = false) :=
  ⟨h 0 (by simp), h 1 (by simp), h 2 (by simp), h 3 (by simp), h 4 (by simp)⟩
end

/-- A block of the call's own, beside the reader's block b. -/
structure OB (w : World) (b g : Nat) (cs : List Value) : Prop where
  blk : Blk w g cs
  lt : g < w.heap.size
  ne : g ≠ b

theorem OB.new {w : World} {b g : Nat} {c : Array Value} {t : TypeId} (hb : b < w.heap.size) (hg : g = w.heap.size) : OB (w.alloc (.cells c t)) b g c.toList :=
  ⟨Blk.new' hg, by simp [hg], by omega⟩

theorem OB.alloc {w : World} {b g : Nat} {cs : List Value} (h : OB w b g cs) (o : Obj) : OB (w.alloc o) b g cs :=
  ⟨h.blk.alloc h.lt o, by have := h.lt; simp; omega, h.ne⟩

theorem OB.call {w w1 : World} {b g : Nat} {cs : List Value} (h : OB w b g cs) (hk : Kept (only b) w w1) : OB w1 b g cs :=
  ⟨h.blk.kept hk h.lt (fun (e : g = b) => h.ne e), Nat.lt_of_lt_of_le h.lt hk.size, h.ne⟩

theorem OB.set {w : World} {b g : Nat} {cs : List Value} (h : OB w b g cs) (k : Nat) (v : Value) : OB (w.setCell ⟨g, k, none⟩ v) b g (cs.set k v) :=
  ⟨h.blk.set k v, by simpa using h.lt, h.ne⟩

theorem OB.other {w : World} {b g g' o : Nat} {cs : List Value} (h : OB w b g cs) (hne : g' ≠ g) (v : Value) : OB (w.setCell ⟨g', o, none⟩ v) b g cs :=
  ⟨h.blk.set_other hne v, by simpa using h.lt, h.ne⟩

theorem OB.drewN {w : World} {b g : Nat} {cs : List Value} (h : OB w b g cs) (k : Nat) : OB (w.drewN k) b g cs := ⟨h.blk, h.lt, h.ne⟩

theorem bts_two' {w : World} {g : Nat} (x y : Nat) {t : TypeId} {a c : Int} (hg : g = w.heap.size) (ha : a = (x : Int)) (hc : c = (y : Int)) : Bts (w.alloc (.cells #[.int .u8 a, .int .u8 c] t)) g [x, y] := by
  subst ha hc hg; exact bts_two w x y t

theorem bts_one' {w : World} {g : Nat} (x : Nat) {t : TypeId} {a : Int} (hg : g = w.heap.size) (ha : a = (x : Int)) : Bts (w.alloc (.cells #[.int .u8 a] t)) g [x] := by
  subst ha hg; exact bts_one w x t

theorem bts_four' {w : World} {g : Nat} (x y z u : Nat) {t : TypeId} {a c d e : Int} (hg : g = w.heap.size) (ha : a = (x : Int)) (hc : c = (y : Int)) (hd : d = (z : Int)) (he : e = (u : Int)) :
    Bts (w.alloc (.cells #[.int .u8 a, .int .u8 c, .int .u8 d, .int .u8 e] t)) g [x, y, z, u] := by
  subst ha hc hd he hg
  intro j hj
  have : j = 0 ∨ j = 1 ∨ j = 2 ∨ j = 3 := by simp at hj; omega
  rcases this with rfl | rfl | rfl | rfl <;> simp

theorem oneM_facts {ts : List Nat} {s : ByteArray} {n i x j : Nat} (h : oneM ts s n i = .ok (x, j)) : x ∈ ts ∧ j = i + 1 ∧ i < n := by
  unfold oneM at h
  split at h
  · split at h
    · cases h; exact ⟨by assumption, rfl, by assumption⟩
    · cases h
  · cases h

/-- A kind's byte. -/
def kindM (s : ByteArray) (n i : Nat) : Except Err (Nat × Nat) := oneM [127, 126] s n i

/-- A constant: its place, its kind, its number. -/
structure Cst where
  at_ : Nat
  kind : Nat
  val : Int

def constM (s : ByteArray) (n i : Nat) : Except Err (Cst × Nat) :=
  match oneM [65, 66] s n i with
  | .error e => .error e
  | .ok (x, j) =>
    match (if x = 65 then sM 4 4 s n j else sM 9 1 s n j) with
    | .error e => .error e
    | .ok (v, j2) =>
      match oneM [11] s n j2 with
      | .error e => .error e
      | .ok (_, j3) => .ok (⟨i, if x = 65 then 127 else 126, v⟩, j3)

def Cst.cells (c : Cst) : List Value := [.int .i64 (c.at_ : Nat), .int .u8 (c.kind : Nat), .int .i64 c.val]
def isConst (c : Cst) (_ : World) (v : Value) : Prop := v = .agg c.cells.toArray

end Go.Proofs.YtgkpkngchploiaaGreat
/-
  TakeKind, takeConstant.
-/
namespace Go.Proofs.YtgkpkngchploiaaGreat
open Go.RowKit

set_option maxHeartbeats 400000 in
theorem takeKind_any {w : World} {b : Nat} {s : ByteArray} {i n : Nat} (h : Rd w b s i n) :
    Calls Tryz.prog 70 #[.pointer (some ⟨b, 0, none⟩)] w (Out w b s n isByte (kindM s n i)) := by
  have hbw := h.lt
  go_enter Tryz.func70, Tryz.ntmps70
  go_wp2_with fail
  refine (one_any (ts := [127, 126]) (h.alloc _) (bts_two' 127 126 rfl rfl rfl) (by simp) (by omega) (by simp)).mono ?_
  rintro e w1 ⟨hk, hok, herr⟩
  have hk1 := hk.from_alloc
  cases ho : oneM [127, 126] s n i with
  | error qp =>
    obtain ⟨q, p⟩ := qp
    have he := herr _ _ ho
    subst he
    exact ⟨rfl, Out.err_mk ho hk1⟩
  | ok xj =>
    obtain ⟨x, j⟩ := xj
    obtain ⟨u, rfl, hv, hrd⟩ := hok _ _ ho
    have hv : u = .int .u8 (x : Nat) := hv
    subst hv
    clear hok herr
    have HO := hide ho
    clear ho
    go_wp2
    go_ret
    exact Out.ok_mk HO.out hk1 rfl hrd

set_option maxHeartbeats 800000 in
theorem takeConstant_any {w : World} {b : Nat} {s : ByteArray} {i n : Nat} (h : Rd w b s i n) :
    Calls Tryz.prog 71 #[.pointer (some ⟨b, 0, none⟩)] w (Out w b s n isConst (constM s n i)) := by
  have hbw := h.lt
  go_enter Tryz.func71, Tryz.ntmps71
  go_wp2_with fail
  refine (at_any (h.alloc _)).mono ?_
  rintro e w1 ⟨rfl, rfl⟩
  go_wp2_with fail
  refine (one_any (ts := [65, 66]) (((h.alloc _).alloc _).alloc _) (bts_two' 65 66 (by simp) rfl rfl) (by simp) (by omega) (by simp)).mono ?_
  rintro e w1 ⟨hk, hok, herr⟩
  have hk1 := hk.from_alloc.from_alloc.from_alloc
  have oR := (((OB.new (b := b) (g := w.heap.size) (c := #[.int .i64 0, .int .u8 0, .int .i64 0]) hbw rfl).alloc _).alloc _).call hk
  have oL := ((OB.new (b := b) (g := w.heap.size + 1) (c := #[.int .i64 (i : Nat), .int .u8 0, .int .i64 0]) (by simp; omega) (by simp)).alloc _).call hk
  clear hk
  cases ho : oneM [65, 66] s n i with
  | error qp =>
    obtain ⟨q, p⟩ := qp
    have he := herr _ _ ho
    subst he
    exact ⟨rfl, Out.err_mk (by simp [constM, ho]) hk1⟩
  | ok xj =>
    obtain ⟨x, j⟩ := xj
    obtain ⟨u, rfl, hv, hrd⟩ := hok _ _ ho
    have hv : u = .int .u8 (x : Nat) := hv
    subst hv
    clear hok herr
    have hx : x = 65 ∨ x = 66 := by have := (oneM_facts ho).1; simpa using this
    have HO := hide ho
    clear ho
    rcases hx with rfl | rfl
    · go_wp2_with fail
      refine (s32_any hrd).mono ?_
      rintro e w2 ⟨hk2, hok, herr⟩
      have hk3 := hk1.trans hk2
      have oR2 := oR.call hk2
      have oL2 := oL.call hk2
      clear oR oL hk2 hk1
      cases ho : sM 4 4 s n j with
      | error qp =>
        obtain ⟨q, p⟩ := qp
        have he := herr _ _ ho
        subst he
        exact ⟨rfl, Out.err_mk (by simp [constM, HO.out, ho]) hk3⟩
      | ok xj =>
        obtain ⟨v, j2⟩ := xj
        obtain ⟨u, rfl, hv, hrd2⟩ := hok _ _ ho
        have hv : u = .int .i64 v := hv
        subst hv
        clear hok herr hrd
        have HO2 := hide ho
        clear ho
        obtain ⟨⟨l0, l1⟩, ⟨l2, l3⟩, ⟨l4, l5⟩⟩ := oL2.blk.three
        go_wp2_with fail
        have hlt2 := hrd2.lt
        refine (one_any (ts := [11]) (((hrd2.set_other oL2.ne _).set_other oL2.ne _).alloc _) (bts_one' 11 (by simp) rfl) (by simp) (by omega) (by simp)).mono ?_
        rintro e w3 ⟨hk4, hok, herr⟩
        have hk5 := (((hk3.new (by omega) _).new (by omega) _).alloc _).trans hk4
        have oR3 := (((oR2.other (by omega) _).other (by omega) _).alloc _).call hk4
        have oL3 := (((oL2.set 1 (.int .u8 127)).set 2 (.int .i64 v)).alloc _).call hk4
        simp at oL3
        clear oR2 oL2 hk4 hk3 l0 l1 l2 l3 l4 l5
        cases ho : oneM [11] s n j2 with
        | error qp =>
          obtain ⟨q, p⟩ := qp
          have he := herr _ _ ho
          subst he
          exact ⟨rfl, Out.err_mk (by simp [constM, HO.out, HO2.out, ho]) hk5⟩
        | ok xj =>
          obtain ⟨y, j3⟩ := xj
          obtain ⟨u, rfl, -, hrd3⟩ := hok _ _ ho
          have HH : Hid (constM s n i = .ok (⟨i, 127, v⟩, j3)) := by show _ = _; simp [constM, HO.out, HO2.out, ho]
          clear hok herr hrd2 ho
          obtain ⟨⟨l0, l1⟩, ⟨l2, l3⟩, ⟨l4, l5⟩⟩ := oL3.blk.three
          obtain ⟨⟨r0, r1⟩, ⟨r2, r3⟩, ⟨r4, r5⟩⟩ := oR3.blk.three
          go_wp2
          refine bodyPost_ret (v := .agg #[.int .i64 (i : Nat), .int .u8 127, .int .i64 v]) ?_ rfl (Out.ok_mk HH.out (((hk5.new (Nat.le_refl _) _).new (Nat.le_refl _) _).new (Nat.le_refl _) _) rfl (((hrd3.set_other oR3.ne _).set_other oR3.ne _).set_other oR3.ne _))
          simp [results, Tryz.results71, go_sem, r0, r2, r4]
    · go_wp2_with fail
      refine (s64_any hrd).mono ?_
      rintro e w2 ⟨hk2, hok, herr⟩
      have hk3 := hk1.trans hk2
      have oR2 := oR.call hk2
      have oL2 := oL.call hk2
      clear oR oL hk2 hk1
      cases ho : sM 9 1 s n j with
      | error qp =>
        obtain ⟨q, p⟩ := qp
        have he := herr _ _ ho
        subst he
        exact ⟨rfl, Out.err_mk (by simp [constM, HO.out, ho]) hk3⟩
      | ok xj =>
        obtain ⟨v, j2⟩ := xj
        obtain ⟨u, rfl, hv, hrd2⟩ := hok _ _ ho
        have hv : u = .int .i64 v := hv
        subst hv
        clear hok herr hrd
        have HO2 := hide ho
        clear ho
        obtain ⟨⟨l0, l1⟩, ⟨l2, l3⟩, ⟨l4, l5⟩⟩ := oL2.blk.three
        go_wp2_with fail
        have hlt2 := hrd2.lt
        refine (one_any (ts := [11]) (((hrd2.set_other oL2.ne _).set_other oL2.ne _).alloc _) (bts_one' 11 (by simp) rfl) (by simp) (by omega) (by simp)).mono ?_
        rintro e w3 ⟨hk4, hok, herr⟩
        have hk5 := (((hk3.new (by omega) _).new (by omega) _).alloc _).trans hk4
        have oR3 := (((oR2.other (by omega) _).other (by omega) _).alloc _).call hk4
        have oL3 := (((oL2.set 1 (.int .u8 126)).set 2 (.int .i64 v)).alloc _).call hk4
        simp at oL3
        clear oR2 oL2 hk4 hk3 l0 l1 l2 l3 l4 l5
        cases ho : oneM [11] s n j2 with
        | error qp =>
          obtain ⟨q, p⟩ := qp
          have he := herr _ _ ho
          subst he
          exact ⟨rfl, Out.err_mk (by simp [constM, HO.out, HO2.out, ho]) hk5⟩
        | ok xj =>
          obtain ⟨y, j3⟩ := xj
          obtain ⟨u, rfl, -, hrd3⟩ := hok _ _ ho
          have HH : Hid (constM s n i = .ok (⟨i, 126, v⟩, j3)) := by show _ = _; simp [constM, HO.out, HO2.out, ho]
          clear hok herr hrd2 ho
          obtain ⟨⟨l0, l1⟩, ⟨l2, l3⟩, ⟨l4, l5⟩⟩ := oL3.blk.three
          obtain ⟨⟨r0, r1⟩, ⟨r2, r3⟩, ⟨r4, r5⟩⟩ := oR3.blk.three
          go_wp2
          refine bodyPost_ret (v := .agg #[.int .i64 (i : Nat), .int .u8 126, .int .i64 v]) ?_ rfl (Out.ok_mk HH.out (((hk5.new (Nat.le_refl _) _).new (Nat.le_refl _) _).new (Nat.le_refl _) _) rfl (((hrd3.set_other oR3.ne _).set_other oR3.ne _).set_other oR3.ne _))
          simp [results, Tryz.results71, go_sem, r0, r2, r4]

end Go.Proofs.YtgkpkngchploiaaGreat
/-
  Slices that were made: their cells, and in which blocks they lie.
-/
namespace Go.Proofs.YtgkpkngchploiaaGreat
open Go.RowKit

/-- The slice v of n elements (of type E, size cells each) holds the cells xs; its block is one of 'ok'. -/
structure Row (ok : Nat → Prop) (w : World) (E : TypeId) (size : Nat) (v : Value) (n : Nat) (xs : List Value) : Prop where
  own : w.ownsRow 0 E size v n xs
  at_ : ∀ g, v.ownBlock = some g → ok g

theorem Row.nil (ok : Nat → Prop) (w : World) (E : TypeId) (size : Nat) : Row ok w E size (.slice none 0 0) 0 [] :=
  ⟨World.ownsRow_nil w 0 E size, fun g h => by simp [Value.ownBlock] at h⟩

theorem Row.mono {ok ok' : Nat → Prop} {w : World} {E : TypeId} {size : Nat} {v : Value} {n : Nat} {xs : List Value} (h : Row ok w E size v n xs) (hm : ∀ g, g < w.heap.size → ok g → ok' g) : Row ok' w E size v n xs :=
  ⟨h.own, fun g hg => hm g (h.own.lt g hg).2 (h.at_ g hg)⟩

theorem Row.kept {S ok : Nat → Prop} {w w' : World} {E : TypeId} {size : Nat} {v : Value} {n : Nat} {xs : List Value} (h : Row ok w E size v n xs) (hk : Kept S w w') (hs : ∀ g, g < w.heap.size → ok g → ¬ S g) : Row ok w' E size v n xs := by
  refine ⟨⟨h.own.1, ?_⟩, h.at_⟩
  rcases h.own.2 with hn | ⟨g, cap, cur, rfl, hb, hgg, rest⟩
  · exact .inl hn
  · have hlt : g < w.heap.size := (Array.getElem?_eq_some_iff.1 hgg).1
    exact .inr ⟨g, cap, cur, rfl, hb, by rw [hk.block g hlt (hs g hlt (h.at_ g rfl))]; exact hgg, rest⟩

theorem Kept.of_grown {w w' : World} {row : Option Nat} (h : w.grownBy w' row) : Kept (fun k => row = some k) w w' :=
  ⟨h.os, h.tape, h.output, h.size, fun k hk hs => h.block k hk (fun e => hs e.symm)⟩

theorem Kept.fresh {S S' : Nat → Prop} {a b c : World} (h : Kept S a b) (k : Kept S' b c) (hs : ∀ i, i < a.heap.size → S' i → S i) : Kept S a c :=
  ⟨k.os.trans h.os, k.tape.trans h.tape, k.output.trans h.output, Nat.le_trans h.size k.size,
    fun i hi hn => (k.block i (Nat.lt_of_lt_of_le hi h.size) (fun x => hn (hs i hi x))).trans (h.block i hi hn)⟩

theorem Row.toBase {ok : Nat → Prop} {w : World} {E : TypeId} {size : Nat} {v : Value} {n : Nat} {xs : List Value} {B : Nat} (h : Row ok w E size v n xs) (hb : ∀ g, ok g → B ≤ g) : w.ownsRow B E size v n xs := by
  refine ⟨h.own.1, ?_⟩
  rcases h.own.2 with hn | ⟨g, cap, cur, rfl, _, rest⟩
  · exact .inl hn
  · exact .inr ⟨g, cap, cur, rfl, hb g (h.at_ g rfl), rest⟩

theorem Row.ofBase {ok : Nat → Prop} {w : World} {E : TypeId} {size : Nat} {v : Value} {n : Nat} {xs : List Value} {B : Nat} (h : w.ownsRow B E size v n xs) (hb : ∀ g, B ≤ g → g < w.heap.size → ok g) : Row ok w E size v n xs := by
  refine ⟨⟨h.1, ?_⟩, fun g hg => hb g (h.lt g hg).1 (h.lt g hg).2⟩
  rcases h.2 with hn | ⟨g, cap, cur, rfl, _, rest⟩
  · exact .inl hn
  · exact .inr ⟨g, cap, cur, rfl, Nat.zero_le _, rest⟩

/-- Behind an append to a slice of the call's own (all its blocks lie at or beyond B, which nothing old does): what was kept is kept, the reader lies where it lay. -/
theorem grown_kept {S : Nat → Prop} {a w w' : World} {E : TypeId} {size : Nat} {v : Value} {n : Nat} {xs : List Value} {B : Nat} (h : Kept S a w) (ho : w.ownsRow B E size v n xs) (hB : a.heap.size ≤ B) (hg : w.grownBy w' v.ownBlock) : Kept S a w' :=
  h.fresh (Kept.of_grown hg) (fun i hi hr => absurd (ho.lt i hr).1 (by omega))

theorem grown_rd {w w' : World} {E : TypeId} {size : Nat} {v : Value} {m : Nat} {xs : List Value} {B b : Nat} {s : ByteArray} {i n : Nat} (h : Rd w b s i n) (ho : w.ownsRow B E size v m xs) (hB : b < B) (hg : w.grownBy w' v.ownBlock) : Rd w' b s i n :=
  h.kept (Kept.of_grown hg) (fun hr => absurd (ho.lt b hr).1 (by omega))

/-- A list of at most so many: count, then one after the other. -/
def listGo {α : Type} (tM : ByteArray → Nat → Nat → Except Err (α × Nat)) (s : ByteArray) (n : Nat) : Nat → List α → Nat → Except Err (List α × Nat)
  | 0, acc, j => .ok (acc, j)
  | k + 1, acc, j => match tM s n j with
    | .error e => .error e
    | .ok (x, j') => listGo tM s n k (acc ++ [x]) j'

def listM {α : Type} (most : Nat) (tM : ByteArray → Nat → Nat → Except Err (α × Nat)) (s : ByteArray) (n i : Nat) : Except Err (List α × Nat) :=
  match countM most s n i with
  | .error e => .error e
  | .ok (k, j) => listGo tM s n k [] j

theorem listGo_err {α : Type} {tM : ByteArray → Nat → Nat → Except Err (α × Nat)} {s : ByteArray} {n k j : Nat} {acc : List α} {e : Err} (hk : 0 < k) (h : tM s n j = .error e) : listGo tM s n k acc j = .error e := by
  obtain ⟨m, rfl⟩ : ∃ m, k = m + 1 := ⟨k - 1, by omega⟩
  simp [listGo, h]

theorem listGo_ok {α : Type} {tM : ByteArray → Nat → Nat → Except Err (α × Nat)} {s : ByteArray} {n k j j' : Nat} {acc : List α} {x : α} (hk : 0 < k) (h : tM s n j = .ok (x, j')) : listGo tM s n k acc j = listGo tM s n (k - 1) (acc ++ [x]) j' := by
  obtain ⟨m, rfl⟩ : ∃ m, k = m + 1 := ⟨k - 1, by omega⟩
  simp [listGo, h]

theorem countM_facts {most : Nat} {s : ByteArray} {n i k j : Nat} (h : countM most s n i = .ok (k, j)) : k ≤ most ∧ i < j ∧ j ≤ n := by
  unfold countM at h
  cases ho : uM s n i with
  | error e => rw [ho] at h; cases h
  | ok x =>
    obtain ⟨⟨v, a⟩, j2⟩ := x
    rw [ho] at h
    have := uM_facts ho
    simp only at h
    split at h
    · cases h
    · cases h; omega

end Go.Proofs.YtgkpkngchploiaaGreat
/-
  list: of kinds.
-/
namespace Go.Proofs.YtgkpkngchploiaaGreat
open Go.RowKit

theorem Tryz.info74 : (Tryz.prog.info? 74).map (fun i => (i.zero, i.size, i.bytes)) = some (some (.int .u8 0), 1, 1) := by kernel_rfl

def kindCells (ks : List Nat) : List Value := ks.map fun (k : Nat) => .int .u8 (k : Nat)

/-- A list of kinds in memory. -/
def isKinds (ok : Nat → Prop) (ks : List Nat) (w : World) (v : Value) : Prop := Row ok w 74 1 v ks.length (kindCells ks)

set_option maxHeartbeats 800000 in
theorem listKind_any {w : World} {b : Nat} {s : ByteArray} {i n : Nat} (most : Nat) (h : Rd w b s i n) (hm : most ≤ 50) :
    Calls Tryz.prog 69 #[.pointer (some ⟨b, 0, none⟩), .int .i64 (most : Nat), .func (.func 70) #[] #[]] w (Out w b s n (isKinds (fun g => w.heap.size ≤ g)) (listM most kindM s n i)) := by
  obtain ⟨i0, hi0, hz0, hz1, hz2⟩ := info_parts Tryz.info74
  go_enter Tryz.func69, Tryz.ntmps69
  go_wp2_with fail
  refine (count_any most h (by omega)).mono ?_
  rintro e w1 ⟨hk1, hok, herr⟩
  cases ho : countM most s n i with
  | error qp =>
    obtain ⟨q, p⟩ := qp
    have he := herr _ _ ho
    subst he
    exact ⟨rfl, Out.err_mk (by simp [listM, ho]) hk1⟩
  | ok xj =>
    obtain ⟨cnt, j0⟩ := xj
    obtain ⟨u, rfl, hv, hrd⟩ := hok _ _ ho
    have hv : u = .int .i64 (cnt : Nat) := hv
    subst hv
    have hcnt := (countM_facts ho).1
    have HM : Hid (listM most kindM s n i = listGo kindM s n cnt [] j0) := by show _ = _; simp [listM, ho]
    clear hok herr ho
    go_wp2
    go_loopw [7, 12] (fun v q wr => ∃ (k j : Nat) (ks : List Nat), k ≤ cnt ∧ ks.length = k ∧ q = .int .i64 k ∧ Rd wr b s j n ∧ Kept (only b) w wr ∧ isKinds (fun g => w.heap.size ≤ g) ks wr v ∧ listM most kindM s n i = listGo kindM s n (cnt - k) ks j) (fun _ q _ => cnt - (intOf q).toNat)
    case atStart => exact ⟨0, j0, [], Nat.zero_le _, rfl, rfl, hrd, hk1, Row.nil _ _ _ _, HM.out⟩
    case round =>
      obtain ⟨k, j, ks, hk, hl, rfl, hrd, hkp, hrow, hme⟩ := hrel
      have HE := hide hme
      clear hme HM
      by_cases hlt : k < cnt
      · have hlt' : (k : Int) < (cnt : Int) := by omega
        go_wp2_with fail
        refine (takeKind_any hrd).mono ?_
        rintro e w2 ⟨hk2, hok, herr⟩
        have hk3 := hkp.trans hk2
        have hrow2 : Row (fun g => w.heap.size ≤ g) w2 74 1 u7 ks.length (kindCells ks) := hrow.kept hk2 (fun g _ hg (e : g = b) => by have := h.lt; omega)
        clear hrow hk2 hkp
        cases ho : kindM s n j with
        | error qp =>
          obtain ⟨q, p⟩ := qp
          have he := herr _ _ ho
          subst he
          exact ⟨rfl, Out.err_mk (HE.out.trans (listGo_err (by omega) ho)) hk3⟩
        | ok xj =>
          obtain ⟨x, j2⟩ := xj
          obtain ⟨u, rfl, hv, hrd2⟩ := hok _ _ ho
          have hv : u = .int .u8 (x : Nat) := hv
          subst hv
          have HH : Hid (listM most kindM s n i = listGo kindM s n (cnt - (k + 1)) (ks ++ [x]) j2) := HE.out.trans (listGo_ok (by omega) ho)
          clear hok herr ho hrd
          have hown := (hrow2.toBase (fun g hg => hg)).alloc (.cells #[.int .u8 (x : Nat)] 74)
          have HW := hide hown
          have hsz := hk3.size
          clear hown hrow2
          go_wp2_with (at_builtin; refine wpList_append_own _ rfl _ _ 83 rfl w.heap.size 74 i0 (.int .u8 0) 1 1 Tryz.underlying83 hi0 hz0 hz1 hz2 rfl (by decide) _ _ _ rfl HW.out ⟨w2.heap.size, 0, none⟩ 1 1 [.int .u8 (x : Nat)] rfl rfl ?c1 ?c2 ?c3 ?c4 ?c5 ?_)
          case c1 => exact cell_one_new _ _ _
          case c2 => intro u hu; simp at hu; subst hu; rfl
          case c3 => unfold maxLen; omega
          case c4 => omega
          case c5 => simp; omega
          intro v' w3 hown' hgrow _
          have hk4 := grown_kept (hk3.alloc _) HW.out (Nat.le_refl _) hgrow
          have hrd3 := grown_rd (hrd2.alloc _) HW.out h.lt hgrow
          have hrow3 : isKinds (fun g => w.heap.size ≤ g) (ks ++ [x]) w3 v' := by
            have := Row.ofBase (ok := fun g => w.heap.size ≤ g) hown' (fun g hg _ => hg)
            simpa [isKinds, kindCells, hl] using this
          have HR := hide hrow3
          clear hown' hgrow hrow3 HW
          go_wp2
          go_roundw
          case rel => exact ⟨k + 1, j2, ks ++ [x], by omega, by simp [hl], by go_num, hrd3, hk4, HR.out, HH.out⟩
          case measure => simp [intOf]; omega
      · have HH : Hid (listM most kindM s n i = .ok (ks, j)) := by show _ = _; rw [HE.out, show cnt - k = 0 by omega]; rfl
        go_wp2
        go_ret
        exact Out.ok_mk HH.out hkp hrow hrd

end Go.Proofs.YtgkpkngchploiaaGreat
/-
  The parts of a module in plain words: limits, globals, exports, data, types, elements.
-/
namespace Go.Proofs.YtgkpkngchploiaaGreat
open Go.RowKit

def numCells (x : Int × Nat) : List Value := [.int .u32 x.1, .int .i64 (x.2 : Nat)]

structure Lim where
  at_ : Nat
  least : Int
  most : Int
  has : Bool

def Lim.cells (x : Lim) : List Value := [.int .i64 (x.at_ : Nat), .int .u32 x.least, .int .u32 x.most, .bool x.has]
def isLim (x : Lim) (_ : World) (v : Value) : Prop := v = .agg #[.int .i64 (x.at_ : Nat), .int .u32 x.least, .int .u32 x.most, .bool x.has]

def limM (s : ByteArray) (n i : Nat) : Except Err (Lim × Nat) :=
  match oneM [0, 1] s n i with
  | .error e => .error e
  | .ok (x, j) =>
    match uM s n j with
    | .error e => .error e
    | .ok ((v, _), j2) =>
      if x = 1 then
        match uM s n j2 with
        | .error e => .error e
        | .ok ((m, _), j3) => .ok (⟨i, v, m, true⟩, j3)
      else .ok (⟨i, v, 0, false⟩, j2)

def tableM (s : ByteArray) (n i : Nat) : Except Err (Lim × Nat) :=
  match oneM [112] s n i with
  | .error e => .error e
  | .ok (_, j) => limM s n j

structure Glb where
  kind : Nat
  set_ : Bool
  first : Cst

def Glb.cells (x : Glb) : List Value := [.int .u8 (x.kind : Nat), .bool x.set_, .int .i64 (x.first.at_ : Nat), .int .u8 (x.first.kind : Nat), .int .i64 x.first.val]
def isGlb (x : Glb) (_ : World) (v : Value) : Prop := v = .agg #[.int .u8 (x.kind : Nat), .bool x.set_, .int .i64 (x.first.at_ : Nat), .int .u8 (x.first.kind : Nat), .int .i64 x.first.val]

def globalM (s : ByteArray) (n i : Nat) : Except Err (Glb × Nat) :=
  match kindM s n i with
  | .error e => .error e
  | .ok (k, j) =>
    match oneM [0, 1] s n j with
    | .error e => .error e
    | .ok (x, j2) =>
      match constM s n j2 with
      | .error e => .error e
      | .ok (c, j3) => .ok (⟨k, x == 1, c⟩, j3)

structure Exp where
  nameAt : Nat
  name : ByteArray
  of_ : Nat
  idx : Int × Nat

def Exp.cells (x : Exp) : List Value := [.int .i64 (x.nameAt : Nat), .string x.name, .int .u8 (x.of_ : Nat), .int .u32 x.idx.1, .int .i64 (x.idx.2 : Nat)]
def isExp (x : Exp) (_ : World) (v : Value) : Prop := v = .agg #[.int .i64 (x.nameAt : Nat), .string x.name, .int .u8 (x.of_ : Nat), .int .u32 x.idx.1, .int .i64 (x.idx.2 : Nat)]

/-- May a byte be in the name of an export? -/
def expB (x : Nat) : Bool := decide (32 ≤ x) && decide (x ≤ 126) && x != 34 && x != 92

/-- All bytes from k on may. -/
def allExp (t : ByteArray) (k : Nat) : Bool := (tl t k).all expB

def exportM (s : ByteArray) (n i : Nat) : Except Err (Exp × Nat) :=
  match countM 20 s n i with
  | .error e => .error e
  | .ok (k, j) =>
    match textM k s n j with
    | .error e => .error e
    | .ok (t, j2) =>
      if allExp t 0 = false then .error (2, i) else
      match oneM [0, 1, 2, 3] s n j2 with
      | .error e => .error e
      | .ok (x, j3) =>
        match uM s n j3 with
        | .error e => .error e
        | .ok (u, j4) => .ok (⟨i, t, x, u⟩, j4)

structure Dat where
  at_ : Nat
  place : Cst
  bytes : ByteArray

def Dat.cells (x : Dat) : List Value := [.int .i64 (x.at_ : Nat), .int .i64 (x.place.at_ : Nat), .int .u8 (x.place.kind : Nat), .int .i64 x.place.val, .string x.bytes]
def isDat (x : Dat) (_ : World) (v : Value) : Prop := v = .agg #[.int .i64 (x.at_ : Nat), .int .i64 (x.place.at_ : Nat), .int .u8 (x.place.kind : Nat), .int .i64 x.place.val, .string x.bytes]

def dataM (s : ByteArray) (n i : Nat) : Except Err (Dat × Nat) :=
  match oneM [0] s n i with
  | .error e => .error e
  | .ok (_, j) =>
    match constM s n j with
    | .error e => .error e
    | .ok (c, j2) =>
      match countM 100 s n j2 with
      | .error e => .error e
      | .ok (k, j3) =>
        match textM k s n j3 with
        | .error e => .error e
        | .ok (t, j4) => .ok (⟨i, c, t⟩, j4)

structure Ty where
  ins : List Nat
  outs : List Nat

def typeM (s : ByteArray) (n i : Nat) : Except Err (Ty × Nat) :=
  match oneM [96] s n i with
  | .error e => .error e
  | .ok (_, j) =>
    match listM 8 kindM s n j with
    | .error e => .error e
    | .ok (a, j2) =>
      match listM 4 kindM s n j2 with
      | .error e => .error e
      | .ok (c, j3) => .ok (⟨a, c⟩, j3)

structure Elm where
  at_ : Nat
  place : Cst
  funcs : List (Int × Nat)

def elemM (s : ByteArray) (n i : Nat) : Except Err (Elm × Nat) :=
  match oneM [0] s n i with
  | .error e => .error e
  | .ok (_, j) =>
    match constM s n j with
    | .error e => .error e
    | .ok (c, j2) =>
      match listM 20 uM s n j2 with
      | .error e => .error e
      | .ok (l, j3) => .ok (⟨i, c, l⟩, j3)

end Go.Proofs.YtgkpkngchploiaaGreat
/-
  takeLimits, takeTable, takeGlobal, takeData.
-/
namespace Go.Proofs.YtgkpkngchploiaaGreat
open Go.RowKit

theorem field_num0 (x y : Value) (w : World) : (Instr.field 62 (.agg #[x, y]) 0).run Tryz.prog w = .ok x w := by kernel_rfl

set_option maxRecDepth 100000 in
set_option maxHeartbeats 800000 in
theorem takeLimits_any {w : World} {b : Nat} {s : ByteArray} {i n : Nat} (h : Rd w b s i n) :
    Calls Tryz.prog 48 #[.pointer (some ⟨b, 0, none⟩)] w (Out w b s n isLim (limM s n i)) := by
  have hbw := h.lt
  have hfld := field_num0
  go_enter Tryz.func48, Tryz.ntmps48
  go_wp2_with fail
  refine (at_any (h.alloc _)).mono ?_
  rintro e w0 ⟨rfl, rfl⟩
  go_wp2_with fail
  refine (one_any (ts := [0, 1]) (((h.alloc _).alloc _).alloc _) (bts_two' 0 1 (by simp) rfl rfl) (by simp) (by omega) (by simp)).mono ?_
  rintro e w1 ⟨hx1, hok, herr⟩
  have hk1 := ((((Kept.refl (only b) w).alloc _).alloc _).alloc _).trans hx1
  have oR1 : OB w1 b (w.heap.size) [.int .i64 0, .int .u32 0, .int .u32 0, .bool false] := (((OB.new (b := b) (g := w.heap.size) (c := #[.int .i64 0, .int .u32 0, .int .u32 0, .bool false]) (by first | omega | (simp; omega)) (by simp)).alloc _).alloc _).call hx1
  have oL1 : OB w1 b (w.heap.size + 1) [.int .i64 (i : Nat), .int .u32 0, .int .u32 0, .bool false] := ((OB.new (b := b) (g := w.heap.size + 1) (c := #[.int .i64 (i : Nat), .int .u32 0, .int .u32 0, .bool false]) (by first | omega | (simp; omega)) (by simp)).alloc _).call hx1
  clear hx1
  cases ho : oneM [0, 1] s n i with
  | error qp =>
    obtain ⟨q, p⟩ := qp
    have he := herr _ _ ho
    subst he
    exact ⟨rfl, Out.err_mk (by simp [limM, ho]) hk1⟩
  | ok xj =>
    obtain ⟨x, j⟩ := xj
    obtain ⟨u, rfl, hv, hrd1⟩ := hok _ _ ho
    have hv : u = .int .u8 (x : Nat) := hv
    subst hv
    have HO1 := hide ho
    clear hok herr ho
    have hz1 := hk1.size
    have hx : x = 0 ∨ x = 1 := by have := (oneM_facts HO1.out).1; simpa using this
    rcases hx with rfl | rfl
    · skip
      obtain ⟨⟨Lc0, Lf0⟩, ⟨Lc1, Lf1⟩, ⟨Lc2, Lf2⟩, ⟨Lc3, Lf3⟩⟩ := oL1.blk.four
      go_wp2_with fail
      refine (u_any (hrd1.set_other oL1.ne _)).mono ?_
      rintro e w2 ⟨hx2, hok, herr⟩
      have hk2 := (hk1.new (by omega) _).trans hx2
      have oR2 : OB w2 b (w.heap.size) [.int .i64 0, .int .u32 0, .int .u32 0, .bool false] := (oR1.other (by omega) _).call hx2
      have oL2 : OB w2 b (w.heap.size + 1) [.int .i64 (i : Nat), .int .u32 0, .int .u32 0, (.bool false)] := (oL1.set 3 (.bool false)).call hx2
      clear Lc0 Lf0 Lc1 Lf1 Lc2 Lf2 Lc3 Lf3
      clear hx2
      cases ho : uM s n j with
      | error qp =>
        obtain ⟨q, p⟩ := qp
        have he := herr _ _ ho
        subst he
        exact ⟨rfl, Out.err_mk (by simp [limM, HO1.out, ho]) hk2⟩
      | ok xj =>
        obtain ⟨⟨v, a⟩, j2⟩ := xj
        obtain ⟨u, rfl, hv, hrd2⟩ := hok _ _ ho
        have hv : u = .agg #[.int .u32 v, .int .i64 (a : Nat)] := hv
        subst hv
        have HO2 := hide ho
        clear hok herr ho
        have hz2 := hk2.size
        obtain ⟨⟨Rc0, Rf0⟩, ⟨Rc1, Rf1⟩, ⟨Rc2, Rf2⟩, ⟨Rc3, Rf3⟩⟩ := oR2.blk.four
        obtain ⟨⟨Lc0, Lf0⟩, ⟨Lc1, Lf1⟩, ⟨Lc2, Lf2⟩, ⟨Lc3, Lf3⟩⟩ := oL2.blk.four
        have HH : Hid (limM s n i = .ok (⟨i, v, 0, false⟩, j2)) := by show _ = _; simp [limM, HO1.out, HO2.out]
        go_wp2
        refine bodyPost_ret (v := .agg #[.int .i64 (i : Nat), .int .u32 v, .int .u32 0, .bool false]) ?_ rfl (Out.ok_mk HH.out (((((hk2.new (by omega) _).new (Nat.le_refl _) _).new (Nat.le_refl _) _).new (Nat.le_refl _) _).new (Nat.le_refl _) _) rfl (((((hrd2.set_other oL2.ne _).set_other oR2.ne _).set_other oR2.ne _).set_other oR2.ne _).set_other oR2.ne _))
        simp [results, Tryz.results48, go_sem, Rc0, Rc1, Rc2, Rc3]
    · skip
      obtain ⟨⟨Lc0, Lf0⟩, ⟨Lc1, Lf1⟩, ⟨Lc2, Lf2⟩, ⟨Lc3, Lf3⟩⟩ := oL1.blk.four
      go_wp2_with fail
      refine (u_any (hrd1.set_other oL1.ne _)).mono ?_
      rintro e w2 ⟨hx2, hok, herr⟩
      have hk2 := (hk1.new (by omega) _).trans hx2
      have oR2 : OB w2 b (w.heap.size) [.int .i64 0, .int .u32 0, .int .u32 0, .bool false] := (oR1.other (by omega) _).call hx2
      have oL2 : OB w2 b (w.heap.size + 1) [.int .i64 (i : Nat), .int .u32 0, .int .u32 0, (.bool true)] := (oL1.set 3 (.bool true)).call hx2
      clear Lc0 Lf0 Lc1 Lf1 Lc2 Lf2 Lc3 Lf3
      clear hx2
      cases ho : uM s n j with
      | error qp =>
        obtain ⟨q, p⟩ := qp
        have he := herr _ _ ho
        subst he
        exact ⟨rfl, Out.err_mk (by simp [limM, HO1.out, ho]) hk2⟩
      | ok xj =>
        obtain ⟨⟨v, a⟩, j2⟩ := xj
        obtain ⟨u, rfl, hv, hrd2⟩ := hok _ _ ho
        have hv : u = .agg #[.int .u32 v, .int .i64 (a : Nat)] := hv
        subst hv
        have HO2 := hide ho
        clear hok herr ho
        have hz2 := hk2.size
        obtain ⟨⟨Lc0, Lf0⟩, ⟨Lc1, Lf1⟩, ⟨Lc2, Lf2⟩, ⟨Lc3, Lf3⟩⟩ := oL2.blk.four
        go_wp2_with fail
        refine (u_any (hrd2.set_other oL2.ne _)).mono ?_
        rintro e w3 ⟨hx3, hok, herr⟩
        have hk3 := (hk2.new (by omega) _).trans hx3
        have oR3 : OB w3 b (w.heap.size) [.int .i64 0, .int .u32 0, .int .u32 0, .bool false] := (oR2.other (by omega) _).call hx3
        have oL3 : OB w3 b (w.heap.size + 1) [.int .i64 (i : Nat), (.int .u32 v), .int .u32 0, (.bool true)] := (oL2.set 1 (.int .u32 v)).call hx3
        clear Lc0 Lf0 Lc1 Lf1 Lc2 Lf2 Lc3 Lf3
        clear hx3
        cases ho : uM s n j2 with
        | error qp =>
          obtain ⟨q, p⟩ := qp
          have he := herr _ _ ho
          subst he
          exact ⟨rfl, Out.err_mk (by simp [limM, HO1.out, HO2.out, ho]) hk3⟩
        | ok xj =>
          obtain ⟨⟨m, a2⟩, j3⟩ := xj
          obtain ⟨u, rfl, hv, hrd3⟩ := hok _ _ ho
          have hv : u = .agg #[.int .u32 m, .int .i64 (a2 : Nat)] := hv
          subst hv
          have HO3 := hide ho
          clear hok herr ho
          have hz3 := hk3.size
          obtain ⟨⟨Rc0, Rf0⟩, ⟨Rc1, Rf1⟩, ⟨Rc2, Rf2⟩, ⟨Rc3, Rf3⟩⟩ := oR3.blk.four
          obtain ⟨⟨Lc0, Lf0⟩, ⟨Lc1, Lf1⟩, ⟨Lc2, Lf2⟩, ⟨Lc3, Lf3⟩⟩ := oL3.blk.four
          have HH : Hid (limM s n i = .ok (⟨i, v, m, true⟩, j3)) := by show _ = _; simp [limM, HO1.out, HO2.out, HO3.out]
          go_wp2
          refine bodyPost_ret (v := .agg #[.int .i64 (i : Nat), .int .u32 v, .int .u32 m, .bool true]) ?_ rfl (Out.ok_mk HH.out (((((hk3.new (by omega) _).new (Nat.le_refl _) _).new (Nat.le_refl _) _).new (Nat.le_refl _) _).new (Nat.le_refl _) _) rfl (((((hrd3.set_other oL3.ne _).set_other oR3.ne _).set_other oR3.ne _).set_other oR3.ne _).set_other oR3.ne _))
          simp [results, Tryz.results48, go_sem, Rc0, Rc1, Rc2, Rc3]

set_option maxRecDepth 100000 in
set_option maxHeartbeats 800000 in
theorem takeTable_any {w : World} {b : Nat} {s : ByteArray} {i n : Nat} (h : Rd w b s i n) :
    Calls Tryz.prog 47 #[.pointer (some ⟨b, 0, none⟩)] w (Out w b s n isLim (tableM s n i)) := by
  have hbw := h.lt
  have hfld := field_num0
  go_enter Tryz.func47, Tryz.ntmps47
  go_wp2_with fail
  refine (one_any (ts := [112]) ((h.alloc _).alloc _) (bts_one' 112 (by simp) rfl) (by simp) (by omega) (by simp)).mono ?_
  rintro e w1 ⟨hx1, hok, herr⟩
  have hk1 := (((Kept.refl (only b) w).alloc _).alloc _).trans hx1
  have oR1 : OB w1 b (w.heap.size) [.int .i64 0, .int .u32 0, .int .u32 0, .bool false] := ((OB.new (b := b) (g := w.heap.size) (c := #[.int .i64 0, .int .u32 0, .int .u32 0, .bool false]) (by first | omega | (simp; omega)) (by simp)).alloc _).call hx1
  clear hx1
  cases ho : oneM [112] s n i with
  | error qp =>
    obtain ⟨q, p⟩ := qp
    have he := herr _ _ ho
    subst he
    exact ⟨rfl, Out.err_mk (by simp [tableM, ho]) hk1⟩
  | ok xj =>
    obtain ⟨x, j⟩ := xj
    obtain ⟨u, rfl, -, hrd1⟩ := hok _ _ ho
    have HO1 := hide ho
    clear hok herr ho
    have hz1 := hk1.size
    go_wp2_with fail
    refine (takeLimits_any hrd1).mono ?_
    rintro e w2 ⟨hx2, hok, herr⟩
    have hk2 := hk1.trans hx2
    have oR2 : OB w2 b (w.heap.size) [.int .i64 0, .int .u32 0, .int .u32 0, .bool false] := oR1.call hx2
    clear hx2
    cases ho : limM s n j with
    | error qp =>
      obtain ⟨q, p⟩ := qp
      have he := herr _ _ ho
      subst he
      exact ⟨rfl, Out.err_mk (by simp [tableM, HO1.out, ho]) hk2⟩
    | ok xj =>
      obtain ⟨l, j2⟩ := xj
      obtain ⟨u, rfl, hv, hrd2⟩ := hok _ _ ho
      have hv : u = .agg #[.int .i64 (l.at_ : Nat), .int .u32 l.least, .int .u32 l.most, .bool l.has] := hv
      subst hv
      have HO2 := hide ho
      clear hok herr ho
      have hz2 := hk2.size
      obtain ⟨⟨Rc0, Rf0⟩, ⟨Rc1, Rf1⟩, ⟨Rc2, Rf2⟩, ⟨Rc3, Rf3⟩⟩ := oR2.blk.four
      have HH : Hid (tableM s n i = .ok (l, j2)) := by show _ = _; simp [tableM, HO1.out, HO2.out]
      go_wp2
      refine bodyPost_ret (v := .agg #[.int .i64 (l.at_ : Nat), .int .u32 l.least, .int .u32 l.most, .bool l.has]) ?_ rfl (Out.ok_mk HH.out ((((hk2.new (Nat.le_refl _) _).new (Nat.le_refl _) _).new (Nat.le_refl _) _).new (Nat.le_refl _) _) rfl ((((hrd2.set_other oR2.ne _).set_other oR2.ne _).set_other oR2.ne _).set_other oR2.ne _))
      simp [results, Tryz.results47, go_sem, Rc0, Rc1, Rc2, Rc3]

end Go.Proofs.YtgkpkngchploiaaGreat
/-
  takeGlobal, takeData.
-/
namespace Go.Proofs.YtgkpkngchploiaaGreat
open Go.RowKit

set_option maxRecDepth 100000 in
set_option maxHeartbeats 800000 in
theorem takeGlobal_any {w : World} {b : Nat} {s : ByteArray} {i n : Nat} (h : Rd w b s i n) :
    Calls Tryz.prog 50 #[.pointer (some ⟨b, 0, none⟩)] w (Out w b s n isGlb (globalM s n i)) := by
  have hbw := h.lt
  have hfld := field_num0
  go_enter Tryz.func50, Tryz.ntmps50
  go_wp2_with fail
  refine (takeKind_any ((h.alloc _).alloc _)).mono ?_
  rintro e w1 ⟨hx1, hok, herr⟩
  have hk1 := (((Kept.refl (only b) w).alloc _).alloc _).trans hx1
  have oR1 : OB w1 b (w.heap.size) [.int .u8 0, .bool false, .int .i64 0, .int .u8 0, .int .i64 0] := ((OB.new (b := b) (g := w.heap.size) (c := #[.int .u8 0, .bool false, .int .i64 0, .int .u8 0, .int .i64 0]) (by first | omega | (simp; omega)) (by simp)).alloc _).call hx1
  have oL1 : OB w1 b (w.heap.size + 1) [.int .u8 0, .bool false, .int .i64 0, .int .u8 0, .int .i64 0] := (OB.new (b := b) (g := w.heap.size + 1) (c := #[.int .u8 0, .bool false, .int .i64 0, .int .u8 0, .int .i64 0]) (by first | omega | (simp; omega)) (by simp)).call hx1
  clear hx1
  cases ho : kindM s n i with
  | error qp =>
    obtain ⟨q, p⟩ := qp
    have he := herr _ _ ho
    subst he
    exact ⟨rfl, Out.err_mk (by simp [globalM, ho]) hk1⟩
  | ok xj =>
    obtain ⟨kd, j⟩ := xj
    obtain ⟨u, rfl, hv, hrd1⟩ := hok _ _ ho
    have hv : u = .int .u8 (kd : Nat) := hv
    subst hv
    have HO1 := hide ho
    clear hok herr ho
    have hz1 := hk1.size
    obtain ⟨⟨Lc0, Lf0⟩, ⟨Lc1, Lf1⟩, ⟨Lc2, Lf2⟩, ⟨Lc3, Lf3⟩, ⟨Lc4, Lf4⟩⟩ := oL1.blk.five
    go_wp2_with fail
    refine (one_any (ts := [0, 1]) ((hrd1.set_other oL1.ne _).alloc _) (bts_two' 0 1 (by simp) rfl rfl) (by simp) (by simp; omega) (by simp)).mono ?_
    rintro e w2 ⟨hx2, hok, herr⟩
    have hk2 := ((hk1.new (by omega) _).alloc _).trans hx2
    have oR2 : OB w2 b (w.heap.size) [.int .u8 0, .bool false, .int .i64 0, .int .u8 0, .int .i64 0] := ((oR1.other (by omega) _).alloc _).call hx2
    have oL2 : OB w2 b (w.heap.size + 1) [(.int .u8 (kd : Nat)), .bool false, .int .i64 0, .int .u8 0, .int .i64 0] := ((oL1.set 0 (.int .u8 (kd : Nat))).alloc _).call hx2
    clear Lc0 Lf0 Lc1 Lf1 Lc2 Lf2 Lc3 Lf3 Lc4 Lf4
    clear hx2
    cases ho : oneM [0, 1] s n j with
    | error qp =>
      obtain ⟨q, p⟩ := qp
      have he := herr _ _ ho
      subst he
      exact ⟨rfl, Out.err_mk (by simp [globalM, HO1.out, ho]) hk2⟩
    | ok xj =>
      obtain ⟨x, j2⟩ := xj
      obtain ⟨u, rfl, hv, hrd2⟩ := hok _ _ ho
      have hv : u = .int .u8 (x : Nat) := hv
      subst hv
      have HO2 := hide ho
      clear hok herr ho
      have hz2 := hk2.size
      have hx : x = 0 ∨ x = 1 := by have := (oneM_facts HO2.out).1; simpa using this
      rcases hx with rfl | rfl
      · skip
        obtain ⟨⟨Lc0, Lf0⟩, ⟨Lc1, Lf1⟩, ⟨Lc2, Lf2⟩, ⟨Lc3, Lf3⟩, ⟨Lc4, Lf4⟩⟩ := oL2.blk.five
        go_wp2_with fail
        refine (takeConstant_any (hrd2.set_other oL2.ne _)).mono ?_
        rintro e w3 ⟨hx3, hok, herr⟩
        have hk3 := (hk2.new (by omega) _).trans hx3
        have oR3 : OB w3 b (w.heap.size) [.int .u8 0, .bool false, .int .i64 0, .int .u8 0, .int .i64 0] := (oR2.other (by omega) _).call hx3
        have oL3 : OB w3 b (w.heap.size + 1) [(.int .u8 (kd : Nat)), (.bool false), .int .i64 0, .int .u8 0, .int .i64 0] := (oL2.set 1 (.bool false)).call hx3
        clear Lc0 Lf0 Lc1 Lf1 Lc2 Lf2 Lc3 Lf3 Lc4 Lf4
        clear hx3
        cases ho : constM s n j2 with
        | error qp =>
          obtain ⟨q, p⟩ := qp
          have he := herr _ _ ho
          subst he
          exact ⟨rfl, Out.err_mk (by simp [globalM, HO1.out, HO2.out, ho]) hk3⟩
        | ok xj =>
          obtain ⟨c, j3⟩ := xj
          obtain ⟨u, rfl, hv, hrd3⟩ := hok _ _ ho
          have hv : u = .agg #[.int .i64 (c.at_ : Nat), .int .u8 (c.kind : Nat), .int .i64 c.val] := hv
          subst hv
          have HO3 := hide ho
          clear hok herr ho
          have hz3 := hk3.size
          obtain ⟨⟨Rc0, Rf0⟩, ⟨Rc1, Rf1⟩, ⟨Rc2, Rf2⟩, ⟨Rc3, Rf3⟩, ⟨Rc4, Rf4⟩⟩ := oR3.blk.five
          obtain ⟨⟨Lc0, Lf0⟩, ⟨Lc1, Lf1⟩, ⟨Lc2, Lf2⟩, ⟨Lc3, Lf3⟩, ⟨Lc4, Lf4⟩⟩ := oL3.blk.five
          have HH : Hid (globalM s n i = .ok (⟨kd, false, c⟩, j3)) := by show _ = _; simp [globalM, HO1.out, HO2.out, HO3.out]
          go_wp2
          refine bodyPost_ret (v := .agg #[.int .u8 (kd : Nat), .bool false, .int .i64 (c.at_ : Nat), .int .u8 (c.kind : Nat), .int .i64 c.val]) ?_ rfl (Out.ok_mk HH.out ((((((((hk3.new (by omega) _).new (by omega) _).new (by omega) _).new (Nat.le_refl _) _).new (Nat.le_refl _) _).new (Nat.le_refl _) _).new (Nat.le_refl _) _).new (Nat.le_refl _) _) rfl ((((((((hrd3.set_other oL3.ne _).set_other oL3.ne _).set_other oL3.ne _).set_other oR3.ne _).set_other oR3.ne _).set_other oR3.ne _).set_other oR3.ne _).set_other oR3.ne _))
          simp [results, Tryz.results50, go_sem, Rc0, Rc1, Rc2, Rc3, Rc4]
      · skip
        obtain ⟨⟨Lc0, Lf0⟩, ⟨Lc1, Lf1⟩, ⟨Lc2, Lf2⟩, ⟨Lc3, Lf3⟩, ⟨Lc4, Lf4⟩⟩ := oL2.blk.five
        go_wp2_with fail
        refine (takeConstant_any (hrd2.set_other oL2.ne _)).mono ?_
        rintro e w3 ⟨hx3, hok, herr⟩
        have hk3 := (hk2.new (by omega) _).trans hx3
        have oR3 : OB w3 b (w.heap.size) [.int .u8 0, .bool false, .int .i64 0, .int .u8 0, .int .i64 0] := (oR2.other (by omega) _).call hx3
        have oL3 : OB w3 b (w.heap.size + 1) [(.int .u8 (kd : Nat)), (.bool true), .int .i64 0, .int .u8 0, .int .i64 0] := (oL2.set 1 (.bool true)).call hx3
        clear Lc0 Lf0 Lc1 Lf1 Lc2 Lf2 Lc3 Lf3 Lc4 Lf4
        clear hx3
        cases ho : constM s n j2 with
        | error qp =>
          obtain ⟨q, p⟩ := qp
          have he := herr _ _ ho
          subst he
          exact ⟨rfl, Out.err_mk (by simp [globalM, HO1.out, HO2.out, ho]) hk3⟩
        | ok xj =>
          obtain ⟨c, j3⟩ := xj
          obtain ⟨u, rfl, hv, hrd3⟩ := hok _ _ ho
          have hv : u = .agg #[.int .i64 (c.at_ : Nat), .int .u8 (c.kind : Nat), .int .i64 c.val] := hv
          subst hv
          have HO3 := hide ho
          clear hok herr ho
          have hz3 := hk3.size
          obtain ⟨⟨Rc0, Rf0⟩, ⟨Rc1, Rf1⟩, ⟨Rc2, Rf2⟩, ⟨Rc3, Rf3⟩, ⟨Rc4, Rf4⟩⟩ := oR3.blk.five
          obtain ⟨⟨Lc0, Lf0⟩, ⟨Lc1, Lf1⟩, ⟨Lc2, Lf2⟩, ⟨Lc3, Lf3⟩, ⟨Lc4, Lf4⟩⟩ := oL3.blk.five
          have HH : Hid (globalM s n i = .ok (⟨kd, true, c⟩, j3)) := by show _ = _; simp [globalM, HO1.out, HO2.out, HO3.out]
          go_wp2
          refine bodyPost_ret (v := .agg #[.int .u8 (kd : Nat), .bool true, .int .i64 (c.at_ : Nat), .int .u8 (c.kind : Nat), .int .i64 c.val]) ?_ rfl (Out.ok_mk HH.out ((((((((hk3.new (by omega) _).new (by omega) _).new (by omega) _).new (Nat.le_refl _) _).new (Nat.le_refl _) _).new (Nat.le_refl _) _).new (Nat.le_refl _) _).new (Nat.le_refl _) _) rfl ((((((((hrd3.set_other oL3.ne _).set_other oL3.ne _).set_other oL3.ne _).set_other oR3.ne _).set_other oR3.ne _).set_other oR3.ne _).set_other oR3.ne _).set_other oR3.ne _))
          simp [results, Tryz.results50, go_sem, Rc0, Rc1, Rc2, Rc3, Rc4]

set_option maxRecDepth 100000 in
set_option maxHeartbeats 800000 in
theorem takeData_any {w : World} {b : Nat} {s : ByteArray} {i n : Nat} (h : Rd w b s i n) :
    Calls Tryz.prog 57 #[.pointer (some ⟨b, 0, none⟩)] w (Out w b s n isDat (dataM s n i)) := by
  have hbw := h.lt
  have hfld := field_num0
  go_enter Tryz.func57, Tryz.ntmps57
  go_wp2_with fail
  refine (at_any (h.alloc _)).mono ?_
  rintro e w0 ⟨rfl, rfl⟩
  go_wp2_with fail
  refine (one_any (ts := [0]) (((h.alloc _).alloc _).alloc _) (bts_one' 0 (by simp) rfl) (by simp) (by omega) (by simp)).mono ?_
  rintro e w1 ⟨hx1, hok, herr⟩
  have hk1 := ((((Kept.refl (only b) w).alloc _).alloc _).alloc _).trans hx1
  have oR1 : OB w1 b (w.heap.size) [.int .i64 0, .int .i64 0, .int .u8 0, .int .i64 0, .string { data := #[] }] := (((OB.new (b := b) (g := w.heap.size) (c := #[.int .i64 0, .int .i64 0, .int .u8 0, .int .i64 0, .string { data := #[] }]) (by first | omega | (simp; omega)) (by simp)).alloc _).alloc _).call hx1
  have oL1 : OB w1 b (w.heap.size + 1) [.int .i64 (i : Nat), .int .i64 0, .int .u8 0, .int .i64 0, .string { data := #[] }] := ((OB.new (b := b) (g := w.heap.size + 1) (c := #[.int .i64 (i : Nat), .int .i64 0, .int .u8 0, .int .i64 0, .string { data := #[] }]) (by first | omega | (simp; omega)) (by simp)).alloc _).call hx1
  clear hx1
  cases ho : oneM [0] s n i with
  | error qp =>
    obtain ⟨q, p⟩ := qp
    have he := herr _ _ ho
    subst he
    exact ⟨rfl, Out.err_mk (by simp [dataM, ho]) hk1⟩
  | ok xj =>
    obtain ⟨x, j⟩ := xj
    obtain ⟨u, rfl, -, hrd1⟩ := hok _ _ ho
    have HO1 := hide ho
    clear hok herr ho
    have hz1 := hk1.size
    go_wp2_with fail
    refine (takeConstant_any hrd1).mono ?_
    rintro e w2 ⟨hx2, hok, herr⟩
    have hk2 := hk1.trans hx2
    have oR2 : OB w2 b (w.heap.size) [.int .i64 0, .int .i64 0, .int .u8 0, .int .i64 0, .string { data := #[] }] := oR1.call hx2
    have oL2 : OB w2 b (w.heap.size + 1) [.int .i64 (i : Nat), .int .i64 0, .int .u8 0, .int .i64 0, .string { data := #[] }] := oL1.call hx2
    clear hx2
    cases ho : constM s n j with
    | error qp =>
      obtain ⟨q, p⟩ := qp
      have he := herr _ _ ho
      subst he
      exact ⟨rfl, Out.err_mk (by simp [dataM, HO1.out, ho]) hk2⟩
    | ok xj =>
      obtain ⟨c, j2⟩ := xj
      obtain ⟨u, rfl, hv, hrd2⟩ := hok _ _ ho
      have hv : u = .agg #[.int .i64 (c.at_ : Nat), .int .u8 (c.kind : Nat), .int .i64 c.val] := hv
      subst hv
      have HO2 := hide ho
      clear hok herr ho
      have hz2 := hk2.size
      obtain ⟨⟨Lc0, Lf0⟩, ⟨Lc1, Lf1⟩, ⟨Lc2, Lf2⟩, ⟨Lc3, Lf3⟩, ⟨Lc4, Lf4⟩⟩ := oL2.blk.five
      go_wp2_with fail
      refine (count_any 100 (((hrd2.set_other oL2.ne _).set_other oL2.ne _).set_other oL2.ne _) (by omega)).mono ?_
      rintro e w3 ⟨hx3, hok, herr⟩
      have hk3 := (((hk2.new (by omega) _).new (by omega) _).new (by omega) _).trans hx3
      have oR3 : OB w3 b (w.heap.size) [.int .i64 0, .int .i64 0, .int .u8 0, .int .i64 0, .string { data := #[] }] := (((oR2.other (by omega) _).other (by omega) _).other (by omega) _).call hx3
      have oL3 : OB w3 b (w.heap.size + 1) [.int .i64 (i : Nat), (.int .i64 (c.at_ : Nat)), (.int .u8 (c.kind : Nat)), (.int .i64 c.val), .string { data := #[] }] := (((oL2.set 1 (.int .i64 (c.at_ : Nat))).set 2 (.int .u8 (c.kind : Nat))).set 3 (.int .i64 c.val)).call hx3
      clear Lc0 Lf0 Lc1 Lf1 Lc2 Lf2 Lc3 Lf3 Lc4 Lf4
      clear hx3
      cases ho : countM 100 s n j2 with
      | error qp =>
        obtain ⟨q, p⟩ := qp
        have he := herr _ _ ho
        subst he
        exact ⟨rfl, Out.err_mk (by simp [dataM, HO1.out, HO2.out, ho]) hk3⟩
      | ok xj =>
        obtain ⟨kn, j3⟩ := xj
        obtain ⟨u, rfl, hv, hrd3⟩ := hok _ _ ho
        have hv : u = .int .i64 (kn : Nat) := hv
        subst hv
        have HO3 := hide ho
        clear hok herr ho
        have hz3 := hk3.size
        have hkn := (countM_facts HO3.out).1
        go_wp2_with fail
        refine (text_any kn hrd3 (by omega)).mono ?_
        rintro e w4 ⟨hx4, hok, herr⟩
        have hk4 := hk3.trans hx4
        have oR4 : OB w4 b (w.heap.size) [.int .i64 0, .int .i64 0, .int .u8 0, .int .i64 0, .string { data := #[] }] := oR3.call hx4
        have oL4 : OB w4 b (w.heap.size + 1) [.int .i64 (i : Nat), (.int .i64 (c.at_ : Nat)), (.int .u8 (c.kind : Nat)), (.int .i64 c.val), .string { data := #[] }] := oL3.call hx4
        clear hx4
        cases ho : textM kn s n j3 with
        | error qp =>
          obtain ⟨q, p⟩ := qp
          have he := herr _ _ ho
          subst he
          exact ⟨rfl, Out.err_mk (by simp [dataM, HO1.out, HO2.out, HO3.out, ho]) hk4⟩
        | ok xj =>
          obtain ⟨tx, j4⟩ := xj
          obtain ⟨u, rfl, hv, hrd4⟩ := hok _ _ ho
          have hv : u = .string tx := hv
          subst hv
          have HO4 := hide ho
          clear hok herr ho
          have hz4 := hk4.size
          obtain ⟨⟨Rc0, Rf0⟩, ⟨Rc1, Rf1⟩, ⟨Rc2, Rf2⟩, ⟨Rc3, Rf3⟩, ⟨Rc4, Rf4⟩⟩ := oR4.blk.five
          obtain ⟨⟨Lc0, Lf0⟩, ⟨Lc1, Lf1⟩, ⟨Lc2, Lf2⟩, ⟨Lc3, Lf3⟩, ⟨Lc4, Lf4⟩⟩ := oL4.blk.five
          have HH : Hid (dataM s n i = .ok (⟨i, c, tx⟩, j4)) := by show _ = _; simp [dataM, HO1.out, HO2.out, HO3.out, HO4.out]
          go_wp2
          refine bodyPost_ret (v := .agg #[.int .i64 (i : Nat), .int .i64 (c.at_ : Nat), .int .u8 (c.kind : Nat), .int .i64 c.val, .string tx]) ?_ rfl (Out.ok_mk HH.out ((((((hk4.new (by omega) _).new (Nat.le_refl _) _).new (Nat.le_refl _) _).new (Nat.le_refl _) _).new (Nat.le_refl _) _).new (Nat.le_refl _) _) rfl ((((((hrd4.set_other oL4.ne _).set_other oR4.ne _).set_other oR4.ne _).set_other oR4.ne _).set_other oR4.ne _).set_other oR4.ne _))
          simp [results, Tryz.results57, go_sem, Rc0, Rc1, Rc2, Rc3, Rc4]

end Go.Proofs.YtgkpkngchploiaaGreat
/-
  A call of a function that has a body, by its number.
-/
namespace Go.Proofs.YtgkpkngchploiaaGreat
open Go.RowKit

/-- Function f is entered where it is called. -/
def Enters (f : FuncId) : Prop := ∀ (args : Array Value) (w : World), (callFunc f args).run Tryz.prog w = .ok (.enter f args) w

theorem enters_of {f : FuncId} {fn : Func} (hf : Tryz.prog.funcs[f]? = some fn) (hname : (fn.name == "runtime.NumGoroutine") = false) (hbody : fn.body.isNone = false) : Enters f := by
  intro args w
  have h1 : fn.name ≠ "runtime.NumGoroutine" := by simpa using hname
  have h2 : ¬ fn.body = none := by intro c; rw [c] at hbody; cases hbody
  simp [callFunc, hf, h1, h2]

theorem enters_U : Enters 42 := enters_of Tryz.func42 (by kernel_rfl) (by kernel_rfl)

end Go.Proofs.YtgkpkngchploiaaGreat
