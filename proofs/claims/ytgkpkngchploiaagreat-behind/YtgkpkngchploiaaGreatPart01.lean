/-
  Part 1 of the proof: Base, Mir1, Scan1, Scan2, Scan3, Mir2, Scan4, Mir3, Scan5, Mir4, Scan6.
-/
import Derived.WalkKit
import Derived.WalkSpells
import Derived.WalkLawsBesides
import Derived.Test.YtgkpkngchploiaaGreatProg
import Derived.Deep.QuietTactic
import Derived.BigQuiet
import Derived.OpenShut
/-
  Plain notions of this proof, over no program: what a call leaves as it was ('Kept'), a reader of bytes in memory ('Rd'), the value with which the program gives up.
-/
namespace Go.Proofs.YtgkpkngchploiaaGreat
open Go.RowKit

/-- Between two worlds: nothing but the blocks of S has turned; blocks may have come. -/
structure Kept (S : Nat → Prop) (w w' : World) : Prop where
  os : w'.os = w.os
  tape : w'.tape = w.tape
  output : w'.output = w.output
  size : w.heap.size ≤ w'.heap.size
  block : ∀ k, k < w.heap.size → ¬ S k → w'.heap[k]? = w.heap[k]?

theorem Kept.refl (S : Nat → Prop) (w : World) : Kept S w w := ⟨rfl, rfl, rfl, Nat.le_refl _, fun _ _ _ => rfl⟩

theorem Kept.trans {S : Nat → Prop} {a b c : World} (h : Kept S a b) (k : Kept S b c) : Kept S a c :=
  ⟨k.os.trans h.os, k.tape.trans h.tape, k.output.trans h.output, Nat.le_trans h.size k.size,
    fun i hi hs => (k.block i (Nat.lt_of_lt_of_le hi h.size) hs).trans (h.block i hi hs)⟩

theorem Kept.mono {S S' : Nat → Prop} {w w' : World} (h : Kept S w w') (hs : ∀ k, k < w.heap.size → S k → S' k) : Kept S' w w' :=
  ⟨h.os, h.tape, h.output, h.size, fun k hk hn => h.block k hk (fun x => hn (hs k hk x))⟩

theorem Kept.drew {S : Nat → Prop} {a w : World} (h : Kept S a w) : Kept S a w.drew := ⟨h.os, h.tape, h.output, h.size, h.block⟩

theorem Kept.alloc {S : Nat → Prop} {a w : World} (h : Kept S a w) (o : Obj) : Kept S a (w.alloc o) :=
  h.trans ⟨rfl, rfl, rfl, by simp, fun k hk _ => Below.heap_alloc _ _ _ hk⟩

theorem Kept.setCell {S : Nat → Prop} {a w : World} (h : Kept S a w) {p : Addr} (hp : p.block < a.heap.size → S p.block) (u : Value) : Kept S a (w.setCell p u) := by
  refine ⟨h.os, h.tape, h.output, by simpa [World.setCell] using h.size, fun k hk hs => ?_⟩
  rw [Below.heap_setCell _ _ _ _ (fun e => hs (by subst e; exact hp hk))]
  exact h.block k hk hs

theorem Kept.cell {S : Nat → Prop} {w w' : World} (h : Kept S w w') {p : Addr} (hp : p.block < w.heap.size) (hs : ¬ S p.block) : w'.cell? p = w.cell? p :=
  World.cell?_of_block (w := w) (h.block p.block hp hs)

theorem Kept.frozen {S : Nat → Prop} {w w' : World} (h : Kept S w w') {p : Addr} (hp : p.block < w.heap.size) (hs : ¬ S p.block) : w'.frozen? p = w.frozen? p :=
  World.frozen?_of_block (w := w) (h.block p.block hp hs)

theorem Kept.below {w w' : World} (h : Kept (fun _ => False) w w') : Below w.heap.size w w' :=
  ⟨h.os, h.tape, h.output, h.size, fun k hk => h.block k hk (fun x => x)⟩

/-- Nothing but block b. -/
def only (b : Nat) : Nat → Prop := fun k => k = b

/-- A reader lies at block b: its bytes, the next place, the end. -/
structure Rd (w : World) (b : Nat) (s : ByteArray) (i n : Nat) : Prop where
  c0 : w.cell? ⟨b, 0, none⟩ = some (.string s)
  c1 : w.cell? ⟨b, 1, none⟩ = some (.int .i64 i)
  c2 : w.cell? ⟨b, 2, none⟩ = some (.int .i64 n)
  f0 : w.frozen? ⟨b, 0, none⟩ = false
  f1 : w.frozen? ⟨b, 1, none⟩ = false
  f2 : w.frozen? ⟨b, 2, none⟩ = false
  le : i ≤ n
  big : n ≤ s.size
  sz : s.size ≤ 5000

theorem Rd.lt {w : World} {b : Nat} {s : ByteArray} {i n : Nat} (h : Rd w b s i n) : b < w.heap.size := World.block_lt_of_cell? _ _ h.c0

theorem Rd.kept {S : Nat → Prop} {w w' : World} {b : Nat} {s : ByteArray} {i n : Nat} (h : Rd w b s i n) (k : Kept S w w') (hs : ¬ S b) : Rd w' b s i n := by
  have hl := h.lt
  exact ⟨by rw [k.cell hl hs]; exact h.c0, by rw [k.cell hl hs]; exact h.c1, by rw [k.cell hl hs]; exact h.c2,
    by rw [k.frozen hl hs]; exact h.f0, by rw [k.frozen hl hs]; exact h.f1, by rw [k.frozen hl hs]; exact h.f2, h.le, h.big, h.sz⟩

theorem Rd.drew {w : World} {b : Nat} {s : ByteArray} {i n : Nat} (h : Rd w b s i n) : Rd w.drew b s i n :=
  ⟨h.c0, h.c1, h.c2, h.f0, h.f1, h.f2, h.le, h.big, h.sz⟩

theorem Rd.move {w : World} {b : Nat} {s : ByteArray} {i n : Nat} (h : Rd w b s i n) (j : Nat) (hj : j ≤ n) {z : Int} (hz : z = (j : Int)) : Rd (w.setCell ⟨b, 1, none⟩ (.int .i64 z)) b s j n := by
  subst hz
  refine ⟨?_, World.cell?_setCell_same _ _ _ h.c1, ?_, by simp [h.f0], by simp [h.f1], by simp [h.f2], hj, h.big, h.sz⟩
  · rw [World.cell?_setCell_other _ _ _ _ (by simp)]; exact h.c0
  · rw [World.cell?_setCell_other _ _ _ _ (by simp)]; exact h.c2

end Go.Proofs.YtgkpkngchploiaaGreat
/-
  The reader of bytes in plain words: what each of its methods answers, told on the bytes alone. A place that is told with an error: (the error, the place).
-/
namespace Go.Proofs.YtgkpkngchploiaaGreat
open Go.RowKit

/-- The error and the place. -/
abbrev Err := Nat × Nat

/-- The byte at a place; 0 outside. -/
def bt (s : ByteArray) (i : Nat) : Nat := if h : i < s.size then s[i].toNat else 0

theorem bt_eq {s : ByteArray} {i : Nat} (h : i < s.size) : bt s i = s[i].toNat := by simp [bt, h]

theorem bt_lt (s : ByteArray) (i : Nat) : bt s i < 256 := by
  unfold bt; split
  · exact UInt8.toNat_lt _
  · omega

def byteM (s : ByteArray) (n i : Nat) : Except Err (Nat × Nat) := if i < n then .ok (bt s i, i + 1) else .error (2, n)

def peekM (s : ByteArray) (n i : Nat) : Except Err (Nat × Nat) := if i < n then .ok (bt s i, i) else .error (2, n)

def oneM (these : List Nat) (s : ByteArray) (n i : Nat) : Except Err (Nat × Nat) :=
  if i < n then (if bt s i ∈ these then .ok (bt s i, i + 1) else .error (2, i)) else .error (2, n)

/-- How the program gives up: a Fault (its error, its place). -/
def gaveUp (errno at_ : Int) : Ending := .panicked [{ v := .iface 36 (.agg #[.int .i64 errno, .int .i64 at_]), recovered := false }]

/-- What a method of the reader at block b leaves: nothing else has turned; it answers, or gives up, as r says. -/
structure Out {α : Type} (w : World) (b : Nat) (s : ByteArray) (n : Nat) (V : α → World → Value → Prop) (r : Except Err (α × Nat)) (e : Ending) (w' : World) : Prop where
  kept : Kept (only b) w w'
  ok : ∀ x j, r = .ok (x, j) → ∃ v, e = .returned v ∧ V x w' v ∧ Rd w' b s j n
  err : ∀ q p, r = .error (q, p) → e = gaveUp q p

theorem Out.ok_mk {α : Type} {w w' : World} {b : Nat} {s : ByteArray} {n : Nat} {V : α → World → Value → Prop} {r : Except Err (α × Nat)} {x : α} {j : Nat} {v : Value}
    (hr : r = .ok (x, j)) (hk : Kept (only b) w w') (hv : V x w' v) (hd : Rd w' b s j n) : Out w b s n V r (.returned v) w' :=
  ⟨hk, fun x' j' h => by rw [hr] at h; cases h; exact ⟨v, rfl, hv, hd⟩, fun q p h => by rw [hr] at h; cases h⟩

theorem Out.err_mk {α : Type} {w w' : World} {b : Nat} {s : ByteArray} {n : Nat} {V : α → World → Value → Prop} {r : Except Err (α × Nat)} {q p : Nat}
    (hr : r = .error (q, p)) (hk : Kept (only b) w w') : Out w b s n V r (gaveUp q p) w' :=
  ⟨hk, fun x' j' h => by (rw [hr] at h; cases h), fun q' p' h => by rw [hr] at h; cases h; rfl⟩

/-- The answer is a byte. -/
def isByte (x : Nat) (_ : World) (v : Value) : Prop := v = .int .u8 (x : Nat)

theorem Kept.drewN {S : Nat → Prop} {a w : World} (h : Kept S a w) (k : Nat) : Kept S a (w.drewN k) := ⟨h.os, h.tape, h.output, h.size, h.block⟩

theorem Rd.drewN {w : World} {b : Nat} {s : ByteArray} {i n : Nat} (h : Rd w b s i n) (k : Nat) : Rd (w.drewN k) b s i n :=
  ⟨h.c0, h.c1, h.c2, h.f0, h.f1, h.f2, h.le, h.big, h.sz⟩

theorem Kept.own {a w : World} {b o : Nat} (h : Kept (only b) a w) (u : Value) : Kept (only b) a (w.setCell ⟨b, o, none⟩ u) := h.setCell (p := ⟨b, o, none⟩) (fun _ => show b = b from rfl) u

theorem Kept.other {w w1 : World} {b g j : Nat} (hk : Kept (only b) w w1) (hg : g < w.heap.size) (hne : g ≠ b) : w1.cell? ⟨g, j, none⟩ = w.cell? ⟨g, j, none⟩ :=
  hk.cell (p := ⟨g, j, none⟩) hg (fun (e : g = b) => hne e)

theorem Kept.other_frozen {w w1 : World} {b g j : Nat} (hk : Kept (only b) w w1) (hg : g < w.heap.size) (hne : g ≠ b) : w1.frozen? ⟨g, j, none⟩ = w.frozen? ⟨g, j, none⟩ :=
  hk.frozen (p := ⟨g, j, none⟩) hg (fun (e : g = b) => hne e)

/-- The bytes ts lie from block g's cell 0 on. -/
def Bts (w : World) (g : Nat) (ts : List Nat) : Prop := ∀ j, j < ts.length → w.cell? ⟨g, j, none⟩ = some (.int .u8 (ts.getD j 0 : Nat))

theorem Bts.kept {w w1 : World} {b g : Nat} {ts : List Nat} (h : Bts w g ts) (hk : Kept (only b) w w1) (hg : g < w.heap.size) (hne : g ≠ b) : Bts w1 g ts :=
  fun j hj => (hk.other hg hne).trans (h j hj)

theorem Rd.alloc {w : World} {b : Nat} {s : ByteArray} {i n : Nat} (h : Rd w b s i n) (o : Obj) : Rd (w.alloc o) b s i n :=
  h.kept (S := fun _ => False) ((Kept.refl _ _).alloc o) (fun x => x)

theorem Kept.from_alloc {S : Nat → Prop} {w w1 : World} {o : Obj} (h : Kept S (w.alloc o) w1) : Kept S w w1 :=
  ((Kept.refl S w).alloc o).trans h

theorem bts_one (w : World) (x : Nat) (t : TypeId) : Bts (w.alloc (.cells #[.int .u8 (x : Nat)] t)) w.heap.size [x] := by
  intro j hj
  have : j = 0 := by simp at hj; omega
  subst this
  simp

theorem bts_two (w : World) (x y : Nat) (t : TypeId) : Bts (w.alloc (.cells #[.int .u8 (x : Nat), .int .u8 (y : Nat)] t)) w.heap.size [x, y] := by
  intro j hj
  have : j = 0 ∨ j = 1 := by simp at hj; omega
  rcases this with rfl | rfl <;> simp

/-- Bytes that must stand there, one after the other. -/
def exactlyM : List Nat → ByteArray → Nat → Nat → Except Err (Unit × Nat)
  | [], _, _, i => .ok ((), i)
  | t :: ts, s, n, i => match oneM [t] s n i with
    | .error e => .error e
    | .ok (_, j) => exactlyM ts s n j

/-- The bytes of a string from a place on. -/
def tl (t : ByteArray) (k : Nat) : List Nat := (t.data.toList.drop k).map UInt8.toNat

theorem tl_cons {t : ByteArray} {k : Nat} (h : k < t.size) : tl t k = t[k].toNat :: tl t (k + 1) := by
  unfold tl
  rw [List.drop_eq_getElem_cons (by simpa using h)]
  rfl

theorem tl_end {t : ByteArray} {k : Nat} (h : t.size ≤ k) : tl t k = [] := by
  unfold tl
  rw [List.drop_of_length_le (by simpa using h)]
  rfl

theorem exactlyM_err {t : ByteArray} {k : Nat} {s : ByteArray} {n j : Nat} {e : Err} (h : k < t.size) (ho : oneM [t[k].toNat] s n j = .error e) : exactlyM (tl t k) s n j = .error e := by
  rw [tl_cons h]; simp [exactlyM, ho]

theorem exactlyM_ok {t : ByteArray} {k : Nat} {s : ByteArray} {n j x j2 : Nat} (h : k < t.size) (ho : oneM [t[k].toNat] s n j = .ok (x, j2)) : exactlyM (tl t k) s n j = exactlyM (tl t (k + 1)) s n j2 := by
  rw [tl_cons h]; simp [exactlyM, ho]

/-- No answer at all (a method that gives nothing back). -/
def isNone (_ : Unit) (_ : World) (v : Value) : Prop := v = .tuple #[]

end Go.Proofs.YtgkpkngchploiaaGreat
/-
  The reader's small methods, each as the plain words have it: Done, At, Refuse, GiveUp, Byte, Peek.
-/
namespace Go.Proofs.YtgkpkngchploiaaGreat
open Go.RowKit

set_option maxHeartbeats 400000 in
theorem done_any {w : World} {b : Nat} {s : ByteArray} {i n : Nat} (h : Rd w b s i n) :
    Calls Tryz.prog 15 #[.pointer (some ⟨b, 0, none⟩)] w fun e w' => e = .returned (.bool (decide (n ≤ i))) ∧ ∃ k, w' = w.drewN k := by
  obtain ⟨c0, c1, c2, f0, f1, f2, le, big, sz⟩ := h
  go_enter Tryz.func15, Tryz.ntmps15
  go_wp2
  go_quiet (fail)
  go_wp2
  go_ret
  exact ⟨rfl, _, rfl⟩

set_option maxHeartbeats 400000 in
theorem at_any {w : World} {b : Nat} {s : ByteArray} {i n : Nat} (h : Rd w b s i n) :
    Calls Tryz.prog 18 #[.pointer (some ⟨b, 0, none⟩)] w fun e w' => e = .returned (.int .i64 i) ∧ w' = w := by
  obtain ⟨c0, c1, c2, f0, f1, f2, le, big, sz⟩ := h
  go_enter Tryz.func18, Tryz.ntmps18
  go_wp2
  go_ret
  exact ⟨rfl, rfl⟩

set_option maxHeartbeats 400000 in
theorem giveUp_any (errno at_ : Int) (w : World) :
    Calls Tryz.prog 34 #[.int .i64 errno, .int .i64 at_] w fun e w' => e = gaveUp errno at_ ∧ w' = w := by
  go_enter Tryz.func34, Tryz.ntmps34
  go_wp2
  exact ⟨rfl, rfl, rfl⟩

set_option maxHeartbeats 400000 in
theorem refuse_any (at_ : Int) (w : World) :
    Calls Tryz.prog 30 #[.int .i64 at_] w fun e w' => e = gaveUp 2 at_ ∧ w' = w := by
  go_enter Tryz.func30, Tryz.ntmps30
  go_wp2_with fail
  refine (giveUp_any _ _ _).mono ?_
  rintro e w' ⟨rfl, rfl⟩
  exact ⟨rfl, rfl, rfl⟩

set_option maxHeartbeats 400000 in
theorem byte_any {w : World} {b : Nat} {s : ByteArray} {i n : Nat} (h : Rd w b s i n) :
    Calls Tryz.prog 28 #[.pointer (some ⟨b, 0, none⟩)] w (Out w b s n isByte (byteM s n i)) := by
  have h' := h
  obtain ⟨c0, c1, c2, f0, f1, f2, le, big, sz⟩ := h
  by_cases hi : i < n
  · have hr : byteM s n i = .ok (bt s i, i + 1) := by simp [byteM, hi]
    have hs : i < s.size := by omega
    have hd : decide (n ≤ i) = false := by simp; omega
    have hb : (i : Int) < (s.size : Int) := by omega
    have hb0 : 0 ≤ (i : Int) := by omega
    have HR : Hid (byteM s n i = .ok (bt s i, i + 1)) := hr
    clear hr
    go_enter Tryz.func28, Tryz.ntmps28
    go_wp2_with fail
    refine (done_any h').mono ?_
    rintro e w' ⟨rfl, k, rfl⟩
    go_wp2
    go_quiet (fail)
    go_wp2
    go_ret
    exact Out.ok_mk HR.out (((Kept.refl _ _).drewN _).own _) (by simp [isByte, bt_eq hs]) ((h'.drewN _).move (i + 1) (by omega) (by simp))
  · have hr : byteM s n i = .error (2, n) := by simp [byteM, hi]
    have HR : Hid (byteM s n i = .error (2, n)) := hr
    clear hr
    have hd : decide (n ≤ i) = true := by simp; omega
    go_enter Tryz.func28, Tryz.ntmps28
    go_wp2_with fail
    refine (done_any h').mono ?_
    rintro e w' ⟨rfl, k, rfl⟩
    go_wp2_with fail
    refine (refuse_any _ _).mono ?_
    rintro e w' ⟨rfl, rfl⟩
    exact ⟨rfl, Out.err_mk HR.out ((Kept.refl _ _).drewN _)⟩

set_option maxHeartbeats 400000 in
theorem peek_any {w : World} {b : Nat} {s : ByteArray} {i n : Nat} (h : Rd w b s i n) :
    Calls Tryz.prog 103 #[.pointer (some ⟨b, 0, none⟩)] w (Out w b s n isByte (peekM s n i)) := by
  have h' := h
  obtain ⟨c0, c1, c2, f0, f1, f2, le, big, sz⟩ := h
  by_cases hi : i < n
  · have hr : peekM s n i = .ok (bt s i, i) := by simp [peekM, hi]
    have hs : i < s.size := by omega
    have hd : decide (n ≤ i) = false := by simp; omega
    have hb : (i : Int) < (s.size : Int) := by omega
    have hb0 : 0 ≤ (i : Int) := by omega
    have HR : Hid (peekM s n i = .ok (bt s i, i)) := hr
    clear hr
    go_enter Tryz.func103, Tryz.ntmps103
    go_wp2_with fail
    refine (done_any h').mono ?_
    rintro e w' ⟨rfl, k, rfl⟩
    go_wp2
    go_quiet (fail)
    go_wp2
    go_ret
    exact Out.ok_mk HR.out (((Kept.refl _ _).drewN _).drewN _) (by simp [isByte, bt_eq hs]) ((h'.drewN _).drewN _)
  · have hr : peekM s n i = .error (2, n) := by simp [peekM, hi]
    have HR : Hid (peekM s n i = .error (2, n)) := hr
    clear hr
    have hd : decide (n ≤ i) = true := by simp; omega
    go_enter Tryz.func103, Tryz.ntmps103
    go_wp2_with fail
    refine (done_any h').mono ?_
    rintro e w' ⟨rfl, k, rfl⟩
    go_wp2_with fail
    refine (refuse_any _ _).mono ?_
    rintro e w' ⟨rfl, rfl⟩
    exact ⟨rfl, Out.err_mk HR.out ((Kept.refl _ _).drewN _)⟩

end Go.Proofs.YtgkpkngchploiaaGreat
/-
  slices.Index, slices.Contains of bytes; the reader's One, Exactly.
-/
namespace Go.Proofs.YtgkpkngchploiaaGreat
open Go.RowKit

theorem getD_mem_of {ts : List Nat} {x : Nat} (h : ∀ j, j < ts.length → ts.getD j 0 ≠ x) : x ∉ ts := by
  intro hm
  obtain ⟨j, hj, he⟩ := List.getElem_of_mem hm
  exact h j hj (by simp [List.getD, hj, he])

theorem mem_of_getD {ts : List Nat} {j x : Nat} (hj : j < ts.length) (h : ts.getD j 0 = x) : x ∈ ts := by
  have : ts.getD j 0 = ts[j] := by simp [List.getD, hj]
  rw [← h, this]; exact List.getElem_mem hj

set_option maxHeartbeats 400000 in
theorem index_any {w : World} {g cap : Nat} {ts : List Nat} (x : Nat) (h : Bts w g ts) (hl : ts.length ≤ 100) :
    Calls Tryz.prog 67 #[.slice (some ⟨g, 0, none⟩) ts.length cap, .int .u8 (x : Nat)] w fun e w' => (∃ z : Int, e = .returned (.int .i64 z) ∧ (0 ≤ z ↔ x ∈ ts)) ∧ w' = w := by
  go_enter Tryz.func67, Tryz.ntmps67
  go_wp2
  go_loop [5, 8] (fun _ i => ∃ k : Nat, k ≤ ts.length ∧ i = .int .i64 k ∧ ∀ j, j < k → ts.getD j 0 ≠ x) (fun _ i => ts.length - (intOf i).toNat)
  case atStart => exact ⟨0, Nat.zero_le _, rfl, by omega⟩
  case round =>
    obtain ⟨k, hk, rfl, hno⟩ := hrel
    have HN : Hid (∀ j, j < k → ts.getD j 0 ≠ x) := hno
    clear hno
    by_cases hlt : k < ts.length
    · have hc := h k hlt
      have hlt' : (k : Int) < (ts.length : Int) := by omega
      generalize hy : ts.getD k 0 = y at hc
      have HY : Hid (ts.getD k 0 = y) := hy
      clear hy
      by_cases hx : x = y
      · have ht : ((x : Int) == (y : Int)) = true := by simp [hx]
        have HX : Hid (x = y) := hx
        clear hx
        go_wp2
        go_ret
        exact ⟨⟨k, rfl, by simp; exact mem_of_getD hlt (HY.out.trans HX.out.symm)⟩, rfl⟩
      · have ht : ((x : Int) == (y : Int)) = false := by simp; omega
        have HX : Hid (¬ x = y) := hx
        clear hx
        go_wp2
        go_round
        case rel =>
          refine ⟨k + 1, by omega, by go_num, fun j hj => ?_⟩
          by_cases hjk : j = k
          · subst hjk; rw [HY.out]; exact fun e => HX.out e.symm
          · exact HN.out j (by omega)
        case measure => simp [intOf]; omega
    · go_wp2
      go_ret
      exact ⟨⟨-1, rfl, by simpa using getD_mem_of (fun j hj => HN.out j (by omega))⟩, rfl⟩

set_option maxHeartbeats 400000 in
theorem contains_any {w : World} {g cap : Nat} {ts : List Nat} (x : Nat) (h : Bts w g ts) (hl : ts.length ≤ 100) :
    Calls Tryz.prog 41 #[.slice (some ⟨g, 0, none⟩) ts.length cap, .int .u8 (x : Nat)] w fun e w' => e = .returned (.bool (decide (x ∈ ts))) ∧ w' = w := by
  go_enter Tryz.func41, Tryz.ntmps41
  go_wp2_with fail
  refine (index_any x h hl).mono ?_
  rintro e w' ⟨⟨z, rfl, hz⟩, rfl⟩
  have HZ : Hid (0 ≤ z ↔ x ∈ ts) := hz
  clear hz
  go_wp2
  go_ret
  exact ⟨congrArg (fun t => Ending.returned (.bool t)) (decide_eq_decide.2 HZ.out), rfl⟩

set_option maxHeartbeats 400000 in
theorem one_any {w : World} {b g cap : Nat} {s : ByteArray} {i n : Nat} {ts : List Nat} (h : Rd w b s i n) (ht : Bts w g ts) (hl : ts.length ≤ 100) (hg : g ≠ b) (hgw : g < w.heap.size) :
    Calls Tryz.prog 27 #[.pointer (some ⟨b, 0, none⟩), .slice (some ⟨g, 0, none⟩) ts.length cap] w (Out w b s n isByte (oneM ts s n i)) := by
  have h' := h
  obtain ⟨c0, c1, c2, f0, f1, f2, le, big, sz⟩ := h
  go_enter Tryz.func27, Tryz.ntmps27
  go_wp2_with fail
  refine (byte_any h').mono ?_
  rintro e w1 ⟨hk, hok, herr⟩
  have hnot : ∀ (x : Bool) (w : World), (Op.unary .not (.bool x)).run Tryz.prog w = .ok (.bool (!x)) w := fun _ _ => rfl
  by_cases hi : i < n
  · obtain ⟨v, rfl, hv, hrd⟩ := hok _ _ (show byteM s n i = .ok (bt s i, i + 1) by simp [byteM, hi])
    have hv : v = .int .u8 (bt s i : Nat) := hv
    subst hv
    have ht1 := ht.kept hk hgw hg
    clear hok herr c0 c1 c2 f0 f1 f2
    go_wp2_with fail
    refine (contains_any _ ht1 hl).mono ?_
    rintro e w2 ⟨rfl, rfl⟩
    by_cases hm : bt s i ∈ ts
    · have hd : decide (bt s i ∈ ts) = true := by simp [hm]
      have HR : Hid (oneM ts s n i = .ok (bt s i, i + 1)) := by show oneM ts s n i = _; simp [oneM, hi, hm]
      go_wp2
      go_ret
      exact Out.ok_mk HR.out hk rfl hrd
    · have hd : decide (bt s i ∈ ts) = false := by simp [hm]
      have HR : Hid (oneM ts s n i = .error (2, i)) := by show oneM ts s n i = _; simp [oneM, hi, hm]
      go_wp2_with fail
      refine (refuse_any _ _).mono ?_
      rintro e w3 ⟨rfl, rfl⟩
      exact ⟨rfl, Out.err_mk HR.out hk⟩
  · have he := herr _ _ (show byteM s n i = .error (2, n) by simp [byteM, hi])
    subst he
    exact ⟨rfl, Out.err_mk (by simp [oneM, hi]) hk⟩

end Go.Proofs.YtgkpkngchploiaaGreat
/-
  The reader's Exactly, MoveTo, Text.
-/
namespace Go.Proofs.YtgkpkngchploiaaGreat
open Go.RowKit

set_option maxHeartbeats 400000 in
theorem exactly_any {w : World} {b : Nat} {s t : ByteArray} {i n : Nat} (h : Rd w b s i n) (hb : t.size ≤ 100) :
    Calls Tryz.prog 14 #[.pointer (some ⟨b, 0, none⟩), .string t] w (Out w b s n isNone (exactlyM (tl t 0) s n i)) := by
  go_enter Tryz.func14, Tryz.ntmps14
  go_wp2
  go_loopw [4, 7] (fun _ q wr => ∃ k j : Nat, k ≤ t.size ∧ q = .int .i64 k ∧ Rd wr b s j n ∧ Kept (only b) w wr ∧ exactlyM (tl t 0) s n i = exactlyM (tl t k) s n j) (fun _ q _ => t.size - (intOf q).toNat)
  case atStart => exact ⟨0, i, Nat.zero_le _, rfl, h, Kept.refl _ _, rfl⟩
  case round =>
    obtain ⟨k, j, hk, rfl, hrd, hkp, he⟩ := hrel
    have HE : Hid (exactlyM (tl t 0) s n i = exactlyM (tl t k) s n j) := he
    clear he
    by_cases hlt : k < t.size
    · have hlt' : (k : Int) < (t.size : Int) := by omega
      go_wp2_with fail
      refine (one_any (ts := [t[k].toNat]) (hrd.alloc _) (bts_one _ _ _) (by simp) (by have := hrd.lt; omega) (by simp)).mono ?_
      rintro e w1 ⟨hk1, hok, herr⟩
      have hk2 := hkp.trans hk1.from_alloc
      cases ho : oneM [t[k].toNat] s n j with
      | error qp =>
        obtain ⟨q, p⟩ := qp
        have he := herr _ _ ho
        subst he
        exact ⟨rfl, Out.err_mk (HE.out.trans (exactlyM_err hlt ho)) hk2⟩
      | ok xj =>
        obtain ⟨x, j2⟩ := xj
        obtain ⟨v, rfl, -, hrd2⟩ := hok _ _ ho
        have HH2 : Hid (exactlyM (tl t 0) s n i = exactlyM (tl t (k + 1)) s n j2) := HE.out.trans (exactlyM_ok hlt ho)
        clear hok herr ho
        go_wp2
        go_roundw
        case rel => exact ⟨k + 1, j2, by omega, by go_num, hrd2, hk2, HH2.out⟩
        case measure => simp [intOf]; omega
    · have HH : Hid (exactlyM (tl t 0) s n i = .ok ((), j)) := by show _ = _; rw [HE.out, tl_end (by omega)]; rfl
      go_wp2
      go_end0
      exact Out.ok_mk HH.out hkp rfl hrd

set_option maxHeartbeats 400000 in
theorem moveTo_any {w : World} {b : Nat} {s : ByteArray} {i n : Nat} (h : Rd w b s i n) (j : Nat) (hj : j ≤ n) :
    Calls Tryz.prog 102 #[.pointer (some ⟨b, 0, none⟩), .int .i64 (j : Nat)] w fun e w' => e = .returned (.tuple #[]) ∧ Rd w' b s j n ∧ Kept (only b) w w' := by
  have h' := h
  obtain ⟨c0, c1, c2, f0, f1, f2, le, big, sz⟩ := h
  go_enter Tryz.func102, Tryz.ntmps102
  go_wp2
  go_end0
  exact ⟨rfl, h'.move j hj rfl, (Kept.refl _ _).own _⟩

end Go.Proofs.YtgkpkngchploiaaGreat
/-
  Numbers in plain words: U.
-/
namespace Go.Proofs.YtgkpkngchploiaaGreat
open Go.RowKit

theorem Kept.new {S : Nat → Prop} {a w : World} (h : Kept S a w) {g o : Nat} (hg : a.heap.size ≤ g) (u : Value) : Kept S a (w.setCell ⟨g, o, none⟩ u) :=
  h.setCell (p := ⟨g, o, none⟩) (fun (x : g < a.heap.size) => absurd x (by omega)) u

theorem Rd.set_other {w : World} {b : Nat} {s : ByteArray} {i n : Nat} (h : Rd w b s i n) {g o : Nat} (hg : g ≠ b) (u : Value) : Rd (w.setCell ⟨g, o, none⟩ u) b s i n :=
  h.kept (S := only g) ((Kept.refl _ _).own u) (fun (e : b = g) => hg e.symm)

theorem hide {p : Prop} (h : p) : Hid p := h

/-- A number's bits behind k bytes, and byte x more. -/
def uStep (z : Int) (x k : Nat) : Int := bits BinOp.or IntKind.u32 z (bits BinOp.and IntKind.u8 (x : Int) 127 % 4294967296 * 2 ^ (7 * k) % 4294967296)

/-- Is it a number's last byte? -/
def lastB (x : Nat) : Bool := bits BinOp.and IntKind.u8 (x : Int) 128 == 0

/-- From byte k on; at most m more. -/
def uGo (s : ByteArray) (n start : Nat) : Nat → Nat → Int → Nat → Except Err ((Int × Nat) × Nat)
  | 0, _, _, j => .error (2, j)
  | m + 1, k, z, j => match byteM s n j with
    | .error e => .error e
    | .ok (x, j') =>
      if k = 4 ∧ ((x : Int) / 16 != 0) = true then .error (2, j)
      else if lastB x = true then .ok ((uStep z x k, start), j')
      else uGo s n start m (k + 1) (uStep z x k) j'

/-- A U at place i: the number, and i. -/
def uM (s : ByteArray) (n i : Nat) : Except Err ((Int × Nat) × Nat) := uGo s n i 5 0 0 i

/-- The answer is a Number. -/
def isNum (x : Int × Nat) (_ : World) (v : Value) : Prop := v = .agg #[.int .u32 x.1, .int .i64 (x.2 : Nat)]

theorem lastB_low {x : Nat} (h : ((x : Int) / 16 != 0) = false) : lastB x = true := by
  have hx : x < 16 := by simp at h; omega
  have all : ∀ y : Fin 16, lastB y.val = true := by decide
  exact all ⟨x, hx⟩

theorem byteM_more {s : ByteArray} {n i : Nat} (h : i < n) : byteM s n i = .ok (bt s i, i + 1) := by simp [byteM, h]
theorem byteM_end {s : ByteArray} {n i : Nat} (h : ¬ i < n) : byteM s n i = .error (2, n) := by simp [byteM, h]

theorem uGo_end {s : ByteArray} {n start k j : Nat} {z : Int} (hk : k ≤ 4) (h : ¬ j < n) : uGo s n start (5 - k) k z j = .error (2, n) := by
  obtain ⟨m, hm⟩ : ∃ m, 5 - k = m + 1 := ⟨4 - k, by omega⟩
  rw [hm]; simp [uGo, byteM_end h]

theorem uGo_great {s : ByteArray} {n start k j : Nat} {z : Int} (hk : k = 4) (h : j < n) (hx : ((bt s j : Int) / 16 != 0) = true) : uGo s n start (5 - k) k z j = .error (2, j) := by
  subst hk
  show uGo s n start 1 4 z j = _
  unfold uGo
  rw [byteM_more h]
  exact if_pos ⟨rfl, hx⟩

theorem uGo_last {s : ByteArray} {n start k j : Nat} {z : Int} (hk : k ≤ 4) (h : j < n) (hx : ¬ (k = 4 ∧ ((bt s j : Int) / 16 != 0) = true)) (hl : lastB (bt s j) = true) :
    uGo s n start (5 - k) k z j = .ok ((uStep z (bt s j) k, start), j + 1) := by
  obtain ⟨m, hm⟩ : ∃ m, 5 - k = m + 1 := ⟨4 - k, by omega⟩
  rw [hm]
  unfold uGo
  rw [byteM_more h]
  simp only [if_neg hx, if_pos hl]

theorem uGo_more {s : ByteArray} {n start k j : Nat} {z : Int} (hk : k < 4) (h : j < n) (hl : lastB (bt s j) = false) :
    uGo s n start (5 - k) k z j = uGo s n start (5 - (k + 1)) (k + 1) (uStep z (bt s j) k) (j + 1) := by
  obtain ⟨m, hm⟩ : ∃ m, 5 - k = m + 1 := ⟨4 - k, by omega⟩
  have hm' : 5 - (k + 1) = m := by omega
  rw [hm, hm']
  conv => lhs; unfold uGo
  rw [byteM_more h]
  have hx : ¬ (k = 4 ∧ ((bt s j : Int) / 16 != 0) = true) := fun c => by omega
  have hl' : ¬ lastB (bt s j) = true := by simp [hl]
  simp only [if_neg hx, if_neg hl']

end Go.Proofs.YtgkpkngchploiaaGreat
/-
  The reader's U.
-/
namespace Go.Proofs.YtgkpkngchploiaaGreat
open Go.RowKit

set_option maxHeartbeats 800000 in
theorem u_any {w : World} {b : Nat} {s : ByteArray} {i n : Nat} (h : Rd w b s i n) :
    Calls Tryz.prog 42 #[.pointer (some ⟨b, 0, none⟩)] w (Out w b s n isNum (uM s n i)) := by
  have hc1 := h.c1
  have hbw := h.lt
  go_enter Tryz.func42, Tryz.ntmps42
  go_wp2
  go_loopw [4, 5, 6, 7] (fun v q _ _ wr => ∃ (k : Nat) (z : Int) (j : Nat), k ≤ 4 ∧ q = .int .i64 (7 * k : Int) ∧ v = .int .u32 z ∧ Rd wr b s j n ∧
      Kept (only b) (w.alloc (.cells #[.int .u32 0, .int .i64 0] 62)) wr ∧ uM s n i = uGo s n i (5 - k) k z j) (fun _ q _ _ _ => 100 - (intOf q).toNat)
  case atStart => exact ⟨0, 0, i, by omega, rfl, rfl, h.alloc _, Kept.refl _ _, rfl⟩
  case round =>
    obtain ⟨k, z, j, hk, rfl, rfl, hrd, hkp, hm⟩ := hrel
    have HM : Hid (uM s n i = uGo s n i (5 - k) k z j) := hm
    clear hm
    have hc1 := hrd.c1
    go_wp2_with fail
    refine (byte_any hrd).mono ?_
    rintro e w1 ⟨hk1, hok, herr⟩
    have hk2 := hkp.trans hk1
    have hkw : Kept (only b) w w1 := hk2.from_alloc
    have q0 : w1.cell? ⟨w.heap.size, 0, none⟩ = some (.int .u32 0) := by rw [hk2.other (by simp) (by omega)]; simp
    have q1 : w1.cell? ⟨w.heap.size, 1, none⟩ = some (.int .i64 0) := by rw [hk2.other (by simp) (by omega)]; simp
    have p0 : w1.frozen? ⟨w.heap.size, 0, none⟩ = false := by rw [hk2.other_frozen (by simp) (by omega)]; simp
    have p1 : w1.frozen? ⟨w.heap.size, 1, none⟩ = false := by rw [hk2.other_frozen (by simp) (by omega)]; simp
    by_cases hi : j < n
    · obtain ⟨v, rfl, hv, hrd1⟩ := hok _ _ (byteM_more hi)
      have hv : v = .int .u8 (bt s j : Nat) := hv
      subst hv
      clear hok herr hc1
      have HB : Hid (b < w.heap.size) := hbw
      clear hkp hk1
      by_cases h4 : k = 4
      · have t1 : ((7 * (k : Int)) == 28) = true := by simp; omega
        cases t2 : ((bt s j : Int) / 16 != 0) with
        | true =>
          have HH : Hid (uM s n i = .error (2, j)) := HM.out.trans (uGo_great h4 hi t2)
          clear h4
          generalize bt s j = x at *
          go_wp2_with fail
          refine (refuse_any _ _).mono ?_
          rintro e w3 ⟨rfl, rfl⟩
          exact ⟨rfl, Out.err_mk HH.out hkw⟩
        | false =>
          have t3' := lastB_low t2
          have HH : Hid (uM s n i = .ok ((uStep z (bt s j) k, i), j + 1)) := HM.out.trans (uGo_last hk hi (by simp [t2]) t3')
          have t3 : (bits BinOp.and IntKind.u8 ((bt s j : Nat) : Int) 128 == 0) = true := t3'
          clear h4 t3'
          generalize bt s j = x at *
          go_wp2
          refine bodyPost_ret (v := .agg #[.int .u32 (uStep z x k), .int .i64 (i : Nat)]) ?_ rfl (Out.ok_mk HH.out ((hkw.new (Nat.le_refl _) _).new (Nat.le_refl _) _) rfl ((hrd1.set_other (Nat.ne_of_gt HB.out) _).set_other (Nat.ne_of_gt HB.out) _))
          simp [results, Tryz.results42, go_sem, uStep, q0, q1]
      · have t1 : ((7 * (k : Int)) == 28) = false := by simp; omega
        cases t3' : lastB (bt s j) with
        | true =>
          have HH : Hid (uM s n i = .ok ((uStep z (bt s j) k, i), j + 1)) := HM.out.trans (uGo_last hk hi (by omega) t3')
          have t3 : (bits BinOp.and IntKind.u8 ((bt s j : Nat) : Int) 128 == 0) = true := t3'
          clear h4 t3'
          generalize bt s j = x at *
          go_wp2
          refine bodyPost_ret (v := .agg #[.int .u32 (uStep z x k), .int .i64 (i : Nat)]) ?_ rfl (Out.ok_mk HH.out ((hkw.new (Nat.le_refl _) _).new (Nat.le_refl _) _) rfl ((hrd1.set_other (Nat.ne_of_gt HB.out) _).set_other (Nat.ne_of_gt HB.out) _))
          simp [results, Tryz.results42, go_sem, uStep, q0, q1]
        | false =>
          have HH : Hid (uM s n i = uGo s n i (5 - (k + 1)) (k + 1) (uStep z (bt s j) k) (j + 1)) := HM.out.trans (uGo_more (by omega) hi t3')
          have t3 : (bits BinOp.and IntKind.u8 ((bt s j : Nat) : Int) 128 == 0) = false := t3'
          clear t3'
          generalize bt s j = x at *
          go_wp2
          go_roundw
          case rel => exact ⟨k + 1, uStep z x k, j + 1, by omega, by go_num, rfl, hrd1, hk2, HH.out⟩
          case measure => simp [intOf]; omega
    · have he := herr _ _ (byteM_end hi)
      subst he
      exact ⟨rfl, Out.err_mk (HM.out.trans (uGo_end hk hi)) hkw⟩

end Go.Proofs.YtgkpkngchploiaaGreat
/-
  Numbers in plain words: a U's bounds; Count; Text.
-/
namespace Go.Proofs.YtgkpkngchploiaaGreat
open Go.RowKit

theorem uStep_bounds (z : Int) (x k : Nat) : 0 ≤ uStep z x k ∧ uStep z x k ≤ 4294967295 := bounds_u32 (wf_bits _ _ _ _)

theorem uGo_facts {s : ByteArray} {n start : Nat} : ∀ (m k : Nat) (z : Int) (j : Nat) {v : Int} {a j' : Nat}, uGo s n start m k z j = .ok ((v, a), j') → 0 ≤ v ∧ v ≤ 4294967295 ∧ a = start ∧ j < j' ∧ j' ≤ n := by
  intro m
  induction m with
  | zero => intro k z j v a j' h; simp [uGo] at h
  | succ m ih =>
    intro k z j v a j' h
    unfold uGo at h
    by_cases hj : j < n
    · rw [byteM_more hj] at h
      simp only at h
      split at h
      · cases h
      · split at h
        · cases h
          have := uStep_bounds z (bt s j) k
          exact ⟨this.1, this.2, rfl, by omega, by omega⟩
        · obtain ⟨h1, h2, h3, h4, h5⟩ := ih _ _ _ h
          exact ⟨h1, h2, h3, by omega, h5⟩
    · rw [byteM_end hj] at h; simp at h

theorem uM_facts {s : ByteArray} {n i : Nat} {v : Int} {a j : Nat} (h : uM s n i = .ok ((v, a), j)) : 0 ≤ v ∧ v ≤ 4294967295 ∧ a = i ∧ i < j ∧ j ≤ n := uGo_facts _ _ _ _ h

/-- A U that tells how many, at most so many. -/
def countM (most : Nat) (s : ByteArray) (n i : Nat) : Except Err (Nat × Nat) :=
  match uM s n i with
  | .error e => .error e
  | .ok ((v, a), j) => if (most : Int) < v then .error (2, a) else .ok (v.toNat, j)

/-- The answer is a number of type int. -/
def isInt (x : Nat) (_ : World) (v : Value) : Prop := v = .int .i64 (x : Nat)

/-- So many bytes. -/
def textM (k : Nat) (s : ByteArray) (n i : Nat) : Except Err (ByteArray × Nat) :=
  if n - i < k then .error (2, n) else .ok (s.extract i (i + k), i + k)

def isText (x : ByteArray) (_ : World) (v : Value) : Prop := v = .string x

end Go.Proofs.YtgkpkngchploiaaGreat
/-
  The reader's Count, Text.
-/
namespace Go.Proofs.YtgkpkngchploiaaGreat
open Go.RowKit

set_option maxHeartbeats 400000 in
theorem count_any {w : World} {b : Nat} {s : ByteArray} {i n : Nat} (most : Nat) (h : Rd w b s i n) (_hm : most ≤ 5000) :
    Calls Tryz.prog 68 #[.pointer (some ⟨b, 0, none⟩), .int .i64 (most : Nat)] w (Out w b s n isInt (countM most s n i)) := by
  go_enter Tryz.func68, Tryz.ntmps68
  go_wp2_with fail
  refine (u_any h).mono ?_
  rintro e w1 ⟨hk, hok, herr⟩
  cases ho : uM s n i with
  | error qp =>
    obtain ⟨q, p⟩ := qp
    have he := herr _ _ ho
    subst he
    exact ⟨rfl, Out.err_mk (by simp [countM, ho]) hk⟩
  | ok xj =>
    obtain ⟨⟨v, a⟩, j⟩ := xj
    obtain ⟨u, rfl, hv, hrd⟩ := hok _ _ ho
    have hv : u = .agg #[.int .u32 v, .int .i64 (a : Nat)] := hv
    subst hv
    obtain ⟨v0, v1, -, -, -⟩ := uM_facts ho
    have hbw := hrd.lt
    clear hok herr
    by_cases hg : (most : Int) < v
    · have HH : Hid (countM most s n i = .error (2, a)) := by show _ = _; simp [countM, ho, hg]
      clear ho
      go_wp2_with fail
      refine (refuse_any _ _).mono ?_
      rintro e w3 ⟨rfl, rfl⟩
      exact ⟨rfl, Out.err_mk HH.out (hk.alloc _)⟩
    · have HH : Hid (countM most s n i = .ok (v.toNat, j)) := by show _ = _; simp [countM, ho, hg]
      clear ho
      go_wp2
      go_ret
      exact Out.ok_mk HH.out (hk.alloc _) (by show Value.int _ _ = Value.int _ _; congr 1; omega) (hrd.alloc _)

set_option maxHeartbeats 400000 in
theorem text_any {w : World} {b : Nat} {s : ByteArray} {i n : Nat} (k : Nat) (h : Rd w b s i n) (hm : k ≤ 5000) :
    Calls Tryz.prog 72 #[.pointer (some ⟨b, 0, none⟩), .int .i64 (k : Nat)] w (Out w b s n isText (textM k s n i)) := by
  have h' := h
  obtain ⟨c0, c1, c2, f0, f1, f2, le, big, sz⟩ := h
  have hsub : (n : Int) - (i : Int) = ((n - i : Nat) : Int) := by omega
  by_cases hk : n - i < k
  · have hd : decide ((n : Int) - (i : Int) < (k : Int)) = true := by simp; omega
    have HH : Hid (textM k s n i = .error (2, n)) := by show _ = _; simp [textM, hk]
    have HS := hide hsub
    clear hsub
    go_enter Tryz.func72, Tryz.ntmps72
    go_wp2
    go_quiet (fail)
    go_wp2_with fail
    refine (refuse_any _ _).mono ?_
    rintro e w3 ⟨rfl, rfl⟩
    exact ⟨rfl, Out.err_mk HH.out ((Kept.refl _ _).drewN _)⟩
  · have hd : decide ((n : Int) - (i : Int) < (k : Int)) = false := by simp; omega
    have HH : Hid (textM k s n i = .ok (s.extract i (i + k), i + k)) := by show _ = _; simp [textM, hk]
    have HS := hide hsub
    clear hsub
    have g1 : (i : Int) + (k : Int) ≤ (s.size : Int) := by omega
    go_enter Tryz.func72, Tryz.ntmps72
    go_wp2
    go_quiet (fail)
    go_wp2
    go_quiet (fail)
    go_wp2
    go_ret
    exact Out.ok_mk HH.out (((Kept.refl _ _).drewN _).own _) rfl ((h'.drewN _).move (i + k) (by omega) (by simp))

end Go.Proofs.YtgkpkngchploiaaGreat
/-
  Numbers with a sign in plain words: S.
-/
namespace Go.Proofs.YtgkpkngchploiaaGreat
open Go.RowKit

def sStep (z : Int) (x k : Nat) : Int := bits BinOp.or IntKind.u64 z (IntKind.u64.wrap (IntKind.u64.wrap (bits BinOp.and IntKind.u8 (x : Int) 127) * 2 ^ (7 * k)))

/-- What is above the room in a last byte is like the sign. -/
def soB (room x : Nat) : Bool := (x : Int) / 2 ^ (room - 1) == 0 || (x : Int) / 2 ^ (room - 1) == 127 / 2 ^ (room - 1)

/-- A number filled up by its sign, behind byte k. -/
def wsM (z : Int) (x k : Nat) : Int :=
  if (bits BinOp.and IntKind.u8 (x : Int) 64 != 0) = true ∧ 7 * (k : Int) + 7 < 64 then wrap64 (bits BinOp.or IntKind.u64 z (IntKind.u64.wrap (18446744073709551615 * 2 ^ (7 * k + 7)))) else wrap64 z

def sGo (K room : Nat) (s : ByteArray) (n : Nat) : Nat → Nat → Int → Nat → Except Err (Int × Nat)
  | 0, _, _, j => .error (2, j)
  | m + 1, k, z, j => match byteM s n j with
    | .error e => .error e
    | .ok (x, j') =>
      if k = K ∧ soB room x = false then .error (2, j)
      else if lastB x = true then .ok (wsM (sStep z x k) x k, j')
      else sGo K room s n m (k + 1) (sStep z x k) j'

def sM (K room : Nat) (s : ByteArray) (n i : Nat) : Except Err (Int × Nat) := sGo K room s n (K + 1) 0 0 i

/-- The answer is a number of type int64. -/
def isI64 (x : Int) (_ : World) (v : Value) : Prop := v = .int .i64 x

theorem lastB_so4 : ∀ x : Fin 256, soB 4 x.val = true → lastB x.val = true := by decide +kernel
theorem lastB_so5 : ∀ x : Fin 256, soB 5 x.val = true → lastB x.val = true := by decide +kernel
theorem lastB_so1 : ∀ x : Fin 256, soB 1 x.val = true → lastB x.val = true := by decide +kernel

section
variable {K room : Nat} {s : ByteArray} {n k j : Nat} {z : Int}

theorem sGo_end (hk : k ≤ K) (h : ¬ j < n) : sGo K room s n (K + 1 - k) k z j = .error (2, n) := by
  obtain ⟨m, hm⟩ : ∃ m, K + 1 - k = m + 1 := ⟨K - k, by omega⟩
  rw [hm]; simp [sGo, byteM_end h]

theorem sGo_great (hk : k = K) (h : j < n) (hx : soB room (bt s j) = false) : sGo K room s n (K + 1 - k) k z j = .error (2, j) := by
  obtain ⟨m, hm⟩ : ∃ m, K + 1 - k = m + 1 := ⟨K - k, by omega⟩
  rw [hm]
  unfold sGo
  rw [byteM_more h]
  exact if_pos ⟨hk, hx⟩

theorem sGo_last (hk : k ≤ K) (h : j < n) (hx : ¬ (k = K ∧ soB room (bt s j) = false)) (hl : lastB (bt s j) = true) :
    sGo K room s n (K + 1 - k) k z j = .ok (wsM (sStep z (bt s j) k) (bt s j) k, j + 1) := by
  obtain ⟨m, hm⟩ : ∃ m, K + 1 - k = m + 1 := ⟨K - k, by omega⟩
  rw [hm]
  unfold sGo
  rw [byteM_more h]
  simp only [if_neg hx, if_pos hl]

theorem sGo_more (hk : k < K) (h : j < n) (hl : lastB (bt s j) = false) :
    sGo K room s n (K + 1 - k) k z j = sGo K room s n (K + 1 - (k + 1)) (k + 1) (sStep z (bt s j) k) (j + 1) := by
  obtain ⟨m, hm⟩ : ∃ m, K + 1 - k = m + 1 := ⟨K - k, by omega⟩
  have hm' : K + 1 - (k + 1) = m := by omega
  rw [hm, hm']
  conv => lhs; unfold sGo
  rw [byteM_more h]
  have hx : ¬ (k = K ∧ soB room (bt s j) = false) := fun c => by omega
  have hl' : ¬ lastB (bt s j) = true := by simp [hl]
  simp only [if_neg hx, if_neg hl']
end

end Go.Proofs.YtgkpkngchploiaaGreat
/-
  The reader's S.
-/
namespace Go.Proofs.YtgkpkngchploiaaGreat
open Go.RowKit

set_option maxHeartbeats 400000 in
theorem withSign_any (z : Int) (x k : Nat) (w : World) (hk : k ≤ 9) :
    Calls Tryz.prog 113 #[.int .u64 z, .int .u8 (x : Nat), .int .i64 (7 * k + 7 : Int)] w fun e w' => e = .returned (.int .i64 (wsM z x k)) ∧ w' = w := by
  by_cases h1 : bits BinOp.and IntKind.u8 (x : Int) 64 = 0
  · have HH : Hid (wsM z x k = wrap64 z) := by show _ = _; simp [wsM, h1]
    go_enter Tryz.func113, Tryz.ntmps113
    go_wp2
    go_ret
    exact ⟨by rw [HH.out]; rfl, rfl⟩
  · have t1 : (bits BinOp.and IntKind.u8 (x : Int) 64 != 0) = true := by simpa using h1
    by_cases h2 : 7 * (k : Int) + 7 < 64
    · have HH : Hid (wsM z x k = wrap64 (bits BinOp.or IntKind.u64 z (IntKind.u64.wrap (18446744073709551615 * 2 ^ (7 * k + 7))))) := by show _ = _; unfold wsM; rw [if_pos ⟨t1, h2⟩]
      clear h1
      go_enter Tryz.func113, Tryz.ntmps113
      go_wp2
      go_ret
      exact ⟨by rw [HH.out]; rfl, rfl⟩
    · have HH : Hid (wsM z x k = wrap64 z) := by show _ = _; unfold wsM; rw [if_neg (fun c => h2 c.2)]
      clear h1
      go_enter Tryz.func113, Tryz.ntmps113
      go_wp2
      go_ret
      exact ⟨by rw [HH.out]; rfl, rfl⟩

theorem so4_eq (x : Nat) : soB 4 x = ((x : Int) / 8 == 0 || (x : Int) / 8 == 15) := by simp [soB]

set_option maxHeartbeats 400000 in
theorem signOnly4 (x : Nat) (w : World) :
    Calls Tryz.prog 112 #[.int .u8 (x : Nat), .int .i64 4] w fun e w' => e = .returned (.bool (soB 4 x)) ∧ w' = w := by
  have HH : Hid (soB 4 x = ((x : Int) / 8 == 0 || (x : Int) / 8 == 15)) := so4_eq x
  by_cases h0 : (x : Int) / 8 = 0
  · have HZ := hide h0
    go_enter Tryz.func112, Tryz.ntmps112
    go_wp2
    go_ret
    exact ⟨by rw [HH.out, HZ.out]; rfl, rfl⟩
  · go_enter Tryz.func112, Tryz.ntmps112
    go_wp2
    go_ret
    exact ⟨by rw [HH.out]; rfl, rfl⟩

set_option maxHeartbeats 800000 in
theorem s32_any {w : World} {b : Nat} {s : ByteArray} {i n : Nat} (h : Rd w b s i n) :
    Calls Tryz.prog 97 #[.pointer (some ⟨b, 0, none⟩), .int .i64 32] w (Out w b s n isI64 (sM 4 4 s n i)) := by
  have hc1 := h.c1
  go_enter Tryz.func97, Tryz.ntmps97
  go_wp2
  go_loopw [6, 7, 8, 9] (fun v q _ _ wr => ∃ (k : Nat) (z : Int) (j : Nat), k ≤ 4 ∧ q = .int .i64 (7 * k : Int) ∧ v = .int .u64 z ∧ Rd wr b s j n ∧
      Kept (only b) w wr ∧ sM 4 4 s n i = sGo 4 4 s n (4 + 1 - k) k z j) (fun _ q _ _ _ => 100 - (intOf q).toNat)
  case atStart => exact ⟨0, 0, i, by omega, rfl, rfl, h, Kept.refl _ _, rfl⟩
  case round =>
    obtain ⟨k, z, j, hk, rfl, rfl, hrd, hkp, hm⟩ := hrel
    have HM : Hid (sM 4 4 s n i = sGo 4 4 s n (4 + 1 - k) k z j) := hm
    clear hm
    have hc1 := hrd.c1
    go_wp2_with fail
    refine (byte_any hrd).mono ?_
    rintro e w1 ⟨hk1, hok, herr⟩
    have hkw := hkp.trans hk1
    have hnot : ∀ (x : Bool) (w : World), (Op.unary .not (.bool x)).run Tryz.prog w = .ok (.bool (!x)) w := fun _ _ => rfl
    by_cases hi : j < n
    · obtain ⟨v, rfl, hv, hrd1⟩ := hok _ _ (byteM_more hi)
      have hv : v = .int .u8 (bt s j : Nat) := hv
      subst hv
      clear hok herr hc1 hkp hk1
      have hlow : soB 4 (bt s j) = true → lastB (bt s j) = true := lastB_so4 ⟨bt s j, bt_lt s j⟩
      have HL := hide hlow
      clear hlow
      by_cases h4 : k = 4
      · have t1 : ((7 * (k : Int)) == 28) = true := by simp; omega
        cases t2 : soB 4 (bt s j) with
        | false =>
          have HH : Hid (sM 4 4 s n i = .error (2, j)) := HM.out.trans (sGo_great h4 hi t2)
          clear h4
          generalize bt s j = x at *
          go_wp2_with fail
          refine (signOnly4 _ _).mono ?_
          rintro e w3 ⟨rfl, rfl⟩
          go_wp2_with fail
          refine (refuse_any _ _).mono ?_
          rintro e w3 ⟨rfl, rfl⟩
          exact ⟨rfl, Out.err_mk HH.out hkw⟩
        | true =>
          have t3' := HL.out t2
          have HH : Hid (sM 4 4 s n i = .ok (wsM (sStep z (bt s j) k) (bt s j) k, j + 1)) := HM.out.trans (sGo_last hk hi (by simp [t2]) t3')
          have t3 : (bits BinOp.and IntKind.u8 ((bt s j : Nat) : Int) 128 == 0) = true := t3'
          clear h4 t3'
          generalize bt s j = x at *
          go_wp2_with fail
          refine (signOnly4 _ _).mono ?_
          rintro e w3 ⟨rfl, rfl⟩
          go_wp2_with fail
          refine (withSign_any (sStep z x k) x k _ (by omega)).mono ?_
          rintro e w3 ⟨rfl, rfl⟩
          go_wp2
          go_ret
          exact Out.ok_mk HH.out hkw rfl hrd1
      · have t1 : ((7 * (k : Int)) == 28) = false := by simp; omega
        cases t3' : lastB (bt s j) with
        | true =>
          have HH : Hid (sM 4 4 s n i = .ok (wsM (sStep z (bt s j) k) (bt s j) k, j + 1)) := HM.out.trans (sGo_last hk hi (by omega) t3')
          have t3 : (bits BinOp.and IntKind.u8 ((bt s j : Nat) : Int) 128 == 0) = true := t3'
          clear h4 t3'
          generalize bt s j = x at *
          go_wp2_with fail
          refine (withSign_any (sStep z x k) x k _ (by omega)).mono ?_
          rintro e w3 ⟨rfl, rfl⟩
          go_wp2
          go_ret
          exact Out.ok_mk HH.out hkw rfl hrd1
        | false =>
          have HH : Hid (sM 4 4 s n i = sGo 4 4 s n (4 + 1 - (k + 1)) (k + 1) (sStep z (bt s j) k) (j + 1)) := HM.out.trans (sGo_more (by omega) hi t3')
          have t3 : (bits BinOp.and IntKind.u8 ((bt s j : Nat) : Int) 128 == 0) = false := t3'
          clear t3'
          generalize bt s j = x at *
          go_wp2
          go_roundw
          case rel => exact ⟨k + 1, sStep z x k, j + 1, by omega, by go_num, rfl, hrd1, hkw, HH.out⟩
          case measure => simp [intOf]; omega
    · have he := herr _ _ (byteM_end hi)
      subst he
      exact ⟨rfl, Out.err_mk (HM.out.trans (sGo_end hk hi)) hkw⟩

theorem so5_eq (x : Nat) : soB 5 x = ((x : Int) / 16 == 0 || (x : Int) / 16 == 7) := by simp [soB]

set_option maxHeartbeats 400000 in
theorem signOnly5 (x : Nat) (w : World) :
    Calls Tryz.prog 112 #[.int .u8 (x : Nat), .int .i64 5] w fun e w' => e = .returned (.bool (soB 5 x)) ∧ w' = w := by
  have HH : Hid (soB 5 x = ((x : Int) / 16 == 0 || (x : Int) / 16 == 7)) := so5_eq x
  by_cases h0 : (x : Int) / 16 = 0
  · have HZ := hide h0
    go_enter Tryz.func112, Tryz.ntmps112
    go_wp2
    go_ret
    exact ⟨by rw [HH.out, HZ.out]; rfl, rfl⟩
  · go_enter Tryz.func112, Tryz.ntmps112
    go_wp2
    go_ret
    exact ⟨by rw [HH.out]; rfl, rfl⟩

set_option maxHeartbeats 800000 in
theorem s33_any {w : World} {b : Nat} {s : ByteArray} {i n : Nat} (h : Rd w b s i n) :
    Calls Tryz.prog 97 #[.pointer (some ⟨b, 0, none⟩), .int .i64 33] w (Out w b s n isI64 (sM 4 5 s n i)) := by
  have hc1 := h.c1
  go_enter Tryz.func97, Tryz.ntmps97
  go_wp2
  go_loopw [6, 7, 8, 9] (fun v q _ _ wr => ∃ (k : Nat) (z : Int) (j : Nat), k ≤ 4 ∧ q = .int .i64 (7 * k : Int) ∧ v = .int .u64 z ∧ Rd wr b s j n ∧
      Kept (only b) w wr ∧ sM 4 5 s n i = sGo 4 5 s n (4 + 1 - k) k z j) (fun _ q _ _ _ => 100 - (intOf q).toNat)
  case atStart => exact ⟨0, 0, i, by omega, rfl, rfl, h, Kept.refl _ _, rfl⟩
  case round =>
    obtain ⟨k, z, j, hk, rfl, rfl, hrd, hkp, hm⟩ := hrel
    have HM : Hid (sM 4 5 s n i = sGo 4 5 s n (4 + 1 - k) k z j) := hm
    clear hm
    have hc1 := hrd.c1
    go_wp2_with fail
    refine (byte_any hrd).mono ?_
    rintro e w1 ⟨hk1, hok, herr⟩
    have hkw := hkp.trans hk1
    have hnot : ∀ (x : Bool) (w : World), (Op.unary .not (.bool x)).run Tryz.prog w = .ok (.bool (!x)) w := fun _ _ => rfl
    by_cases hi : j < n
    · obtain ⟨v, rfl, hv, hrd1⟩ := hok _ _ (byteM_more hi)
      have hv : v = .int .u8 (bt s j : Nat) := hv
      subst hv
      clear hok herr hc1 hkp hk1
      have hlow : soB 5 (bt s j) = true → lastB (bt s j) = true := lastB_so5 ⟨bt s j, bt_lt s j⟩
      have HL := hide hlow
      clear hlow
      by_cases h4 : k = 4
      · have t1 : ((7 * (k : Int)) == 28) = true := by simp; omega
        cases t2 : soB 5 (bt s j) with
        | false =>
          have HH : Hid (sM 4 5 s n i = .error (2, j)) := HM.out.trans (sGo_great h4 hi t2)
          clear h4
          generalize bt s j = x at *
          go_wp2_with fail
          refine (signOnly5 _ _).mono ?_
          rintro e w3 ⟨rfl, rfl⟩
          go_wp2_with fail
          refine (refuse_any _ _).mono ?_
          rintro e w3 ⟨rfl, rfl⟩
          exact ⟨rfl, Out.err_mk HH.out hkw⟩
        | true =>
          have t3' := HL.out t2
          have HH : Hid (sM 4 5 s n i = .ok (wsM (sStep z (bt s j) k) (bt s j) k, j + 1)) := HM.out.trans (sGo_last hk hi (by simp [t2]) t3')
          have t3 : (bits BinOp.and IntKind.u8 ((bt s j : Nat) : Int) 128 == 0) = true := t3'
          clear h4 t3'
          generalize bt s j = x at *
          go_wp2_with fail
          refine (signOnly5 _ _).mono ?_
          rintro e w3 ⟨rfl, rfl⟩
          go_wp2_with fail
          refine (withSign_any (sStep z x k) x k _ (by omega)).mono ?_
          rintro e w3 ⟨rfl, rfl⟩
          go_wp2
          go_ret
          exact Out.ok_mk HH.out hkw rfl hrd1
      · have t1 : ((7 * (k : Int)) == 28) = false := by simp; omega
        cases t3' : lastB (bt s j) with
        | true =>
          have HH : Hid (sM 4 5 s n i = .ok (wsM (sStep z (bt s j) k) (bt s j) k, j + 1)) := HM.out.trans (sGo_last hk hi (by omega) t3')
          have t3 : (bits BinOp.and IntKind.u8 ((bt s j : Nat) : Int) 128 == 0) = true := t3'
          clear h4 t3'
          generalize bt s j = x at *
          go_wp2_with fail
          refine (withSign_any (sStep z x k) x k _ (by omega)).mono ?_
          rintro e w3 ⟨rfl, rfl⟩
          go_wp2
          go_ret
          exact Out.ok_mk HH.out hkw rfl hrd1
        | false =>
          have HH : Hid (sM 4 5 s n i = sGo 4 5 s n (4 + 1 - (k + 1)) (k + 1) (sStep z (bt s j) k) (j + 1)) := HM.out.trans (sGo_more (by omega) hi t3')
          have t3 : (bits BinOp.and IntKind.u8 ((bt s j : Nat) : Int) 128 == 0) = false := t3'
          clear t3'
          generalize bt s j = x at *
          go_wp2
          go_roundw
          case rel => exact ⟨k + 1, sStep z x k, j + 1, by omega, by go_num, rfl, hrd1, hkw, HH.out⟩
          case measure => simp [intOf]; omega
    · have he := herr _ _ (byteM_end hi)
      subst he
      exact ⟨rfl, Out.err_mk (HM.out.trans (sGo_end hk hi)) hkw⟩

theorem so1_eq (x : Nat) : soB 1 x = ((x : Int) == 0 || (x : Int) == 127) := by simp [soB]

set_option maxHeartbeats 400000 in
theorem signOnly1 (x : Nat) (w : World) :
    Calls Tryz.prog 112 #[.int .u8 (x : Nat), .int .i64 1] w fun e w' => e = .returned (.bool (soB 1 x)) ∧ w' = w := by
  have HH : Hid (soB 1 x = ((x : Int) == 0 || (x : Int) == 127)) := so1_eq x
  by_cases h0 : (x : Int) = 0
  · have HZ := hide h0
    go_enter Tryz.func112, Tryz.ntmps112
    go_wp2
    go_ret
    exact ⟨by rw [HH.out, HZ.out]; rfl, rfl⟩
  · go_enter Tryz.func112, Tryz.ntmps112
    go_wp2
    go_ret
    exact ⟨by rw [HH.out]; rfl, rfl⟩

set_option maxHeartbeats 800000 in
theorem s64_any {w : World} {b : Nat} {s : ByteArray} {i n : Nat} (h : Rd w b s i n) :
    Calls Tryz.prog 97 #[.pointer (some ⟨b, 0, none⟩), .int .i64 64] w (Out w b s n isI64 (sM 9 1 s n i)) := by
  have hc1 := h.c1
  go_enter Tryz.func97, Tryz.ntmps97
  go_wp2
  go_loopw [6, 7, 8, 9] (fun v q _ _ wr => ∃ (k : Nat) (z : Int) (j : Nat), k ≤ 9 ∧ q = .int .i64 (7 * k : Int) ∧ v = .int .u64 z ∧ Rd wr b s j n ∧
      Kept (only b) w wr ∧ sM 9 1 s n i = sGo 9 1 s n (9 + 1 - k) k z j) (fun _ q _ _ _ => 100 - (intOf q).toNat)
  case atStart => exact ⟨0, 0, i, by omega, rfl, rfl, h, Kept.refl _ _, rfl⟩
  case round =>
    obtain ⟨k, z, j, hk, rfl, rfl, hrd, hkp, hm⟩ := hrel
    have HM : Hid (sM 9 1 s n i = sGo 9 1 s n (9 + 1 - k) k z j) := hm
    clear hm
    have hc1 := hrd.c1
    go_wp2_with fail
    refine (byte_any hrd).mono ?_
    rintro e w1 ⟨hk1, hok, herr⟩
    have hkw := hkp.trans hk1
    have hnot : ∀ (x : Bool) (w : World), (Op.unary .not (.bool x)).run Tryz.prog w = .ok (.bool (!x)) w := fun _ _ => rfl
    by_cases hi : j < n
    · obtain ⟨v, rfl, hv, hrd1⟩ := hok _ _ (byteM_more hi)
      have hv : v = .int .u8 (bt s j : Nat) := hv
      subst hv
      clear hok herr hc1 hkp hk1
      have hlow : soB 1 (bt s j) = true → lastB (bt s j) = true := lastB_so1 ⟨bt s j, bt_lt s j⟩
      have HL := hide hlow
      clear hlow
      by_cases h4 : k = 9
      · have t1 : ((7 * (k : Int)) == 63) = true := by simp; omega
        cases t2 : soB 1 (bt s j) with
        | false =>
          have HH : Hid (sM 9 1 s n i = .error (2, j)) := HM.out.trans (sGo_great h4 hi t2)
          clear h4
          generalize bt s j = x at *
          go_wp2_with fail
          refine (signOnly1 _ _).mono ?_
          rintro e w3 ⟨rfl, rfl⟩
          go_wp2_with fail
          refine (refuse_any _ _).mono ?_
          rintro e w3 ⟨rfl, rfl⟩
          exact ⟨rfl, Out.err_mk HH.out hkw⟩
        | true =>
          have t3' := HL.out t2
          have HH : Hid (sM 9 1 s n i = .ok (wsM (sStep z (bt s j) k) (bt s j) k, j + 1)) := HM.out.trans (sGo_last hk hi (by simp [t2]) t3')
          have t3 : (bits BinOp.and IntKind.u8 ((bt s j : Nat) : Int) 128 == 0) = true := t3'
          clear h4 t3'
          generalize bt s j = x at *
          go_wp2_with fail
          refine (signOnly1 _ _).mono ?_
          rintro e w3 ⟨rfl, rfl⟩
          go_wp2_with fail
          refine (withSign_any (sStep z x k) x k _ (by omega)).mono ?_
          rintro e w3 ⟨rfl, rfl⟩
          go_wp2
          go_ret
          exact Out.ok_mk HH.out hkw rfl hrd1
      · have t1 : ((7 * (k : Int)) == 63) = false := by simp; omega
        cases t3' : lastB (bt s j) with
        | true =>
          have HH : Hid (sM 9 1 s n i = .ok (wsM (sStep z (bt s j) k) (bt s j) k, j + 1)) := HM.out.trans (sGo_last hk hi (by omega) t3')
          have t3 : (bits BinOp.and IntKind.u8 ((bt s j : Nat) : Int) 128 == 0) = true := t3'
          clear h4 t3'
          generalize bt s j = x at *
          go_wp2_with fail
          refine (withSign_any (sStep z x k) x k _ (by omega)).mono ?_
          rintro e w3 ⟨rfl, rfl⟩
          go_wp2
          go_ret
          exact Out.ok_mk HH.out hkw rfl hrd1
        | false =>
          have HH : Hid (sM 9 1 s n i = sGo 9 1 s n (9 + 1 - (k + 1)) (k + 1) (sStep z (bt s j) k) (j + 1)) := HM.out.trans (sGo_more (by omega) hi t3')
          have t3 : (bits BinOp.and IntKind.u8 ((bt s j : Nat) : Int) 128 == 0) = false := t3'
          clear t3'
          generalize bt s j = x at *
          go_wp2
          go_roundw
          case rel => exact ⟨k + 1, sStep z x k, j + 1, by omega, by go_num, rfl, hrd1, hkw, HH.out⟩
          case measure => simp [intOf]; omega
    · have he := herr _ _ (byteM_end hi)
      subst he
      exact ⟨rfl, Out.err_mk (HM.out.trans (sGo_end hk hi)) hkw⟩

end Go.Proofs.YtgkpkngchploiaaGreat
