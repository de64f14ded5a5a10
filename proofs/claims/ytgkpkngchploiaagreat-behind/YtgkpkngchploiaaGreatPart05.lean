/-
  Part 5 of the proof: Mir8, Code6, Mir9, Mir10.
-/
import Derived.Test.YtgkpkngchploiaaGreatPart04
import Derived.Deep.AppendLies
import Derived.RangeFuncIn
/-
  How blocks nest, in plain words.
-/
namespace Go.Proofs.YtgkpkngchploiaaGreat
open Go.RowKit

def byteCells (os : List Nat) : List Value := os.map fun (k : Nat) => .int .u8 (k : Nat)

/-- The words of the blocks that are open behind an instruction. -/
def nestM (os : List Nat) (a x : Nat) : Except Err (List Nat) :=
  if x ∈ [2, 3, 4] then (if os.length = 50 then .error (2, a) else .ok (os ++ [x]))
  else if x = 5 then (if os.getLast? = some 4 then .ok (os.dropLast ++ [5]) else .error (2, a))
  else if x = 11 then .ok os.dropLast
  else .ok os

theorem nestM_len {os os' : List Nat} {a x : Nat} (h : nestM os a x = .ok os') (hl : os.length ≤ 50) : os'.length ≤ 50 := by
  unfold nestM at h
  split at h
  · split at h
    · cases h
    · cases h; simp; omega
  · split at h
    · split at h
      · cases h
        rename_i hg
        cases os with
        | nil => simp at hg
        | cons o os => simp; simp at hl; omega
      · cases h
    · split at h
      · cases h; simp; omega
      · cases h; exact hl

end Go.Proofs.YtgkpkngchploiaaGreat
/-
  takeBehind, whole; nest.
-/
namespace Go.Proofs.YtgkpkngchploiaaGreat
open Go.RowKit

theorem takeBehind_any {w : World} {b c a e0 x : Nat} {s : ByteArray} {i n : Nat} (h : Rd w b s i n) (hI : OB w b c (insNew a e0 x)) :
    Calls Tryz.prog 116 #[.pointer (some ⟨b, 0, none⟩), .pointer (some ⟨c, 0, none⟩)] w (OutS (both b c) w b s n (isBeh (fun g => w.heap.size ≤ g) b c a e0 x) (behM a x s n i)) := by
  by_cases hx : x ∈ fullWords
  · by_cases h1 : x = 2 ∨ x = 3 ∨ x = 4
    · exact takeBehind_block h hI h1
    by_cases h2 : x = 14
    · subst h2; exact takeBehind_table h hI
    by_cases h3 : x = 40 ∨ x = 41 ∨ x = 44 ∨ x = 45 ∨ x = 54 ∨ x = 55 ∨ x = 58
    · exact takeBehind_two h hI h3
    by_cases h4 : x = 12 ∨ x = 13 ∨ x = 16 ∨ x = 32 ∨ x = 33 ∨ x = 34 ∨ x = 35 ∨ x = 36
    · exact takeBehind_one h hI h4
    by_cases h5 : x = 17
    · exact takeBehind_indirect h hI h5
    by_cases h6 : x = 63 ∨ x = 64
    · exact takeBehind_zero h hI h6
    by_cases h7 : x = 65
    · exact takeBehind_s32 h hI h7
    by_cases h8 : x = 66
    · exact takeBehind_s64 h hI h8
    exfalso
    simp [fullWords] at hx
    omega
  · exact takeBehind_bare h hI hx

theorem Tryz.info5 : (Tryz.prog.info? 5).map (fun i => (i.zero, i.size, i.bytes)) = some (some (.int .u8 0), 1, 1) := by kernel_rfl

/-- Bytes that are gathered. -/
def isOpen (ok : Nat → Prop) (os : List Nat) (w : World) (v : Value) : Prop := Row ok w 5 1 v os.length (byteCells os)

/-- What nest leaves: the new list; nothing has turned but the old list's own block. -/
structure NestOut (ok : Nat → Prop) (w : World) (v : Value) (r : Except Err (List Nat)) (e : Ending) (w' : World) : Prop where
  kept : Kept (fun k => v.ownBlock = some k) w w'
  ok : ∀ os, r = .ok os → ∃ v', e = .returned v' ∧ isOpen (fun g => ok g ∨ w.heap.size ≤ g) os w' v'
  err : ∀ q p, r = .error (q, p) → e = gaveUp q p

theorem NestOut.err_mk {ok : Nat → Prop} {w w' : World} {v : Value} {r : Except Err (List Nat)} {q p : Nat} (hr : r = .error (q, p)) (hk : Kept (fun k => v.ownBlock = some k) w w') : NestOut ok w v r (gaveUp q p) w' :=
  ⟨hk, fun os h => by (rw [hr] at h; cases h), fun q' p' h => by rw [hr] at h; cases h; rfl⟩

theorem NestOut.ok_mk {ok : Nat → Prop} {w w' : World} {v v' : Value} {r : Except Err (List Nat)} {os : List Nat} (hr : r = .ok os) (hk : Kept (fun k => v.ownBlock = some k) w w') (ho : isOpen (fun g => ok g ∨ w.heap.size ≤ g) os w' v') : NestOut ok w v r (.returned v') w' :=
  ⟨hk, fun os' h => by rw [hr] at h; cases h; exact ⟨v', rfl, ho⟩, fun q p h => by rw [hr] at h; cases h⟩

/-- A list that is not empty lies somewhere; its members are its cells; it may be cut. -/
theorem isOpen.some {ok : Nat → Prop} {os : List Nat} {w : World} {v : Value} (h : isOpen ok os w v) (hne : os ≠ []) : ∃ g cap, v = .slice (some ⟨g, 0, none⟩) os.length cap ∧ os.length ≤ cap ∧
    (∀ j y, os[j]? = some y → w.cell? ⟨g, j, none⟩ = some (.int .u8 (y : Nat))) ∧ ok g ∧ g < w.heap.size ∧
    (∀ m, m ≤ os.length → isOpen ok (os.take m) w (.slice (some ⟨g, 0, none⟩) m cap)) := by
  have hl : os.length ≠ 0 := by simpa using hne
  have hcells := fun g => h.own.cells (g := g)
  rcases h.own.2 with ⟨_, hn⟩ | ⟨g, cap, cur, rfl, hb, hgg, hcap, hmax, hsz, htake⟩
  · exact absurd hn hl
  · refine ⟨g, cap, rfl, hcap, fun j y hj => ?_, h.at_ g rfl, (Array.getElem?_eq_some_iff.1 hgg).1, fun m hm => ?_⟩
    · have := hcells g rfl j (.int .u8 (y : Nat)) (by simp [byteCells, hj])
      have hadd : (⟨g, 0, none⟩ : Addr).add j = ⟨g, j, none⟩ := by unfold Addr.add; split <;> simp_all
      rwa [hadd] at this
    · refine ⟨⟨by simp [byteCells], .inr ⟨g, cap, cur, ?_, hb, hgg, ?_, hmax, hsz, ?_⟩⟩, fun k hk => ?_⟩
      · simp [Nat.min_eq_left hm]
      · simp; omega
      · simp only [List.length_take, Nat.min_eq_left hm, Nat.mul_one] at htake ⊢
        rw [show byteCells (os.take m) = (byteCells os).take m by simp [byteCells], ← htake, List.take_take, Nat.min_eq_left hm]
      · simp [Value.ownBlock] at hk
        subst hk; exact h.at_ g rfl

theorem isOpen.kept {S ok : Nat → Prop} {os : List Nat} {w w' : World} {v : Value} (h : isOpen ok os w v) (hk : Kept S w w') (hs : ∀ g, g < w.heap.size → ok g → ¬ S g) : isOpen ok os w' v := Row.kept h hk hs

theorem isOpen.mono {ok ok' : Nat → Prop} {os : List Nat} {w : World} {v : Value} (h : isOpen ok os w v) (hm : ∀ g, g < w.heap.size → ok g → ok' g) : isOpen ok' os w v := Row.mono h hm

set_option maxRecDepth 100000 in
set_option maxHeartbeats 1600000 in
theorem nest_open {ok : Nat → Prop} {w : World} {v : Value} {os : List Nat} {a x : Nat} {c1 c3 c4 c5 c6 c7 c8 c9 : Value} (hr : isOpen ok os w v) (hl : os.length ≤ 50) (hx : x = 2 ∨ x = 3 ∨ x = 4) :
    Calls Tryz.prog 115 #[v, .agg #[.int .i64 (a : Nat), c1, .int .u8 (x : Nat), c3, c4, c5, c6, c7, c8, c9]] w (NestOut ok w v (nestM os a x)) := by
  obtain ⟨i0, hi0, hz0, hz1, hz2⟩ := info_parts Tryz.info5
  obtain ⟨pv, cv, rfl⟩ := Row.shape hr
  have HRow := hide hr
  clear hr
  have hxm : x ∈ [2, 3, 4] := by simpa using hx
  by_cases h50 : os.length = 50
  · have t0 : ((os.length : Int) == 50) = true := by simp [h50]
    have HH : Hid (nestM os a x = .error (2, a)) := by show nestM os a x = _; unfold nestM; rw [if_pos hxm, if_pos h50]
    clear h50 hxm
    rcases hx with rfl | rfl | rfl
    all_goals
      go_enter Tryz.func115, Tryz.ntmps115
      go_wp2_with fail
      refine (refuse_any _ _).mono ?_
      rintro e w3 ⟨rfl, rfl⟩
      exact ⟨rfl, NestOut.err_mk HH.out ((Kept.refl _ _).alloc _)⟩
  · have t0 : ((os.length : Int) == 50) = false := by simp; omega
    have HH : Hid (nestM os a x = .ok (os ++ [x])) := by show nestM os a x = _; unfold nestM; rw [if_pos hxm, if_neg h50]
    have HOwn : Hid (∀ o1 o2, ((w.alloc o1).alloc o2).ownsRow 0 5 1 (.slice pv os.length cv) os.length (byteCells os)) := fun o1 o2 => ((Row.alloc (Row.alloc HRow.out o1) o2)).own
    clear h50 hxm
    rcases hx with rfl | rfl | rfl
    all_goals
      go_enter Tryz.func115, Tryz.ntmps115
      go_wp2_with (at_builtin; refine wpList_append_lies _ rfl _ _ 27 rfl 0 5 i0 (.int .u8 0) 1 1 Tryz.underlying27 hi0 hz0 hz1 hz2 rfl (by decide) _ _ _ rfl (HOwn.out _ _) ⟨w.heap.size + 1, 0, none⟩ 1 1 [_] rfl rfl (cells_at (by simp) rfl) ?c2 (by omega) ?c3 ?c4 (Nat.zero_le _) (w.heap.size + 1 + 1) (by simp) ?_)
      case c2 => intro u hu; simp at hu; subst hu; rfl
      case c3 => unfold maxLen; omega
      case c4 => omega
      intro gg cap w3 hown3 hgrow hat hlt3
      have hk : Kept (fun k => (Value.slice pv os.length cv).ownBlock = some k) w w3 := (((Kept.refl _ _).alloc _).alloc _).trans (Kept.of_grown hgrow)
      have HO3 := hide hown3
      have HA := hide hat
      clear hown3 hat hgrow
      go_wp2
      go_ret
      refine NestOut.ok_mk HH.out hk ⟨?_, fun g hg => ?_⟩
      · simpa [byteCells] using HO3.out
      · simp [Value.ownBlock] at hg
        subst hg
        rcases HA.out with hh | hh
        · exact .inl (HRow.out.at_ _ hh)
        · exact .inr (by omega)

set_option maxRecDepth 100000 in
set_option maxHeartbeats 1600000 in
theorem nest_other {ok : Nat → Prop} {w : World} {v : Value} {os : List Nat} {a x : Nat} {c1 c3 c4 c5 c6 c7 c8 c9 : Value} (hr : isOpen ok os w v) (hl : os.length ≤ 50) (h2 : x ≠ 2) (h3 : x ≠ 3) (h4 : x ≠ 4) (h5 : x ≠ 5) (h11 : x ≠ 11) :
    Calls Tryz.prog 115 #[v, .agg #[.int .i64 (a : Nat), c1, .int .u8 (x : Nat), c3, c4, c5, c6, c7, c8, c9]] w (NestOut ok w v (nestM os a x)) := by
  obtain ⟨pv, cv, rfl⟩ := Row.shape hr
  have HH : Hid (nestM os a x = .ok os) := by show nestM os a x = _; simp [nestM, h2, h3, h4, h5, h11]
  have t2 : ((x : Int) == 2) = false := by simp; omega
  have t3 : ((x : Int) == 3) = false := by simp; omega
  have t4 : ((x : Int) == 4) = false := by simp; omega
  have t5 : ((x : Int) == 5) = false := by simp; omega
  have t11 : ((x : Int) == 11) = false := by simp; omega
  have HRow := hide hr
  clear hr h2 h3 h4 h5 h11
  go_enter Tryz.func115, Tryz.ntmps115
  go_wp2
  go_ret
  exact NestOut.ok_mk HH.out ((Kept.refl _ _).alloc _) ((HRow.out.kept (S := fun _ => False) ((Kept.refl _ _).alloc _) (fun _ _ _ c => c)).mono (fun g _ hg => .inl hg))

set_option maxRecDepth 100000 in
set_option maxHeartbeats 1600000 in
theorem nest_end {ok : Nat → Prop} {w : World} {v : Value} {os : List Nat} {a : Nat} {c1 c3 c4 c5 c6 c7 c8 c9 : Value} (hr : isOpen ok os w v) (hl : os.length ≤ 50) (hne : os ≠ []) :
    Calls Tryz.prog 115 #[v, .agg #[.int .i64 (a : Nat), c1, .int .u8 11, c3, c4, c5, c6, c7, c8, c9]] w (NestOut ok w v (nestM os a 11)) := by
  obtain ⟨g, cap, rfl, hcap, hcells, hokg, hgw, htake⟩ := hr.some hne
  have HH : Hid (nestM os a 11 = .ok os.dropLast) := by show nestM os a 11 = _; simp [nestM]
  have HT := hide htake
  have hpos : 1 ≤ os.length := List.length_pos_iff.2 hne
  have e1 : ((os.length : Int) - 1) = ((os.length - 1 : Nat) : Int) := by omega
  have HE := hide e1
  clear e1 htake hr hcells
  have b1 : (0 : Int) ≤ (os.length : Int) - 1 := by omega
  have b2 : (os.length : Int) - 1 ≤ (cap : Int) := by omega
  go_enter Tryz.func115, Tryz.ntmps115
  go_wp2
  go_ret
  refine NestOut.ok_mk HH.out ((Kept.refl _ _).alloc _) (((isOpen.kept (S := fun _ => False) (w := w) ?_ ((Kept.refl _ _).alloc _) (fun _ _ _ c => c))).mono (fun g _ hg => .inl hg))
  rw [List.dropLast_eq_take]
  exact HT.out _ (by omega)

theorem isOpen.alloc {ok : Nat → Prop} {os : List Nat} {w : World} {v : Value} (h : isOpen ok os w v) (o : Obj) : isOpen ok os (w.alloc o) v :=
  h.kept (S := fun _ => False) ((Kept.refl _ _).alloc _) (fun _ _ _ c => c)

set_option maxRecDepth 100000 in
set_option maxHeartbeats 1600000 in
theorem nest_else {ok : Nat → Prop} {w : World} {v : Value} {os : List Nat} {a : Nat} {c1 c3 c4 c5 c6 c7 c8 c9 : Value} (hr : isOpen ok os w v) (hl : os.length ≤ 50) :
    Calls Tryz.prog 115 #[v, .agg #[.int .i64 (a : Nat), c1, .int .u8 5, c3, c4, c5, c6, c7, c8, c9]] w (NestOut ok w v (nestM os a 5)) := by
  obtain ⟨i0, hi0, hz0, hz1, hz2⟩ := info_parts Tryz.info5
  by_cases hne : os = []
  · subst hne
    obtain ⟨pv, cv, rfl⟩ := Row.shape hr
    have HH : Hid (nestM [] a 5 = .error (2, a)) := rfl
    clear hr
    go_enter Tryz.func115, Tryz.ntmps115
    go_wp2_with fail
    refine (refuse_any _ _).mono ?_
    rintro e w3 ⟨rfl, rfl⟩
    exact ⟨rfl, NestOut.err_mk HH.out ((Kept.refl _ _).alloc _)⟩
  · have hlast := List.getLast?_eq_some_getLast hne
    generalize os.getLast hne = y at hlast
    obtain ⟨g, cap, rfl, hcap, hcells, hokg, hgw, htake⟩ := hr.some hne
    have hpos : 1 ≤ os.length := List.length_pos_iff.2 hne
    have hy : os[os.length - 1]? = some y := by rw [← hlast, List.getLast?_eq_getElem?]
    have hc := hcells (os.length - 1) y hy
    have hcw : ∀ o, (w.alloc o).cell? ⟨g, os.length - 1, none⟩ = some (.int .u8 (y : Nat)) := fun o => (World.cell?_alloc_lt _ _ _ hgw).trans hc
    have HT := hide htake
    have b0 : decide ((os.length : Int) - 1 < 0) = false := by simp; omega
    have b1 : (0 : Int) ≤ (os.length : Int) - 1 := by omega
    have b2 : (os.length : Int) - 1 ≤ (cap : Int) := by omega
    have b3 : (os.length : Int) - 1 < (os.length : Int) := by omega
    by_cases h4 : y = 4
    · subst h4
      have HH : Hid (nestM os a 5 = .ok (os.dropLast ++ [5])) := by show nestM os a 5 = _; simp [nestM, hlast]
      have HOwn : Hid (∀ o1 o2, ((w.alloc o1).alloc o2).ownsRow 0 5 1 (.slice (some ⟨g, 0, none⟩) (os.length - 1) cap) (os.length - 1) (byteCells os.dropLast)) := fun o1 o2 => by
        have q := ((HT.out (os.length - 1) (by omega)).alloc o1).alloc o2
        have q2 := q.own
        rw [List.dropLast_eq_take]
        simpa using q2
      clear htake hr hcells hlast hy hne
      go_enter Tryz.func115, Tryz.ntmps115
      go_wp2_with (at_builtin; refine wpList_append_lies _ rfl _ _ 27 rfl 0 5 i0 (.int .u8 0) 1 1 Tryz.underlying27 hi0 hz0 hz1 hz2 rfl (by decide) _ _ _ rfl (HOwn.out _ _) ⟨w.heap.size + 1, 0, none⟩ 1 1 [_] rfl rfl (cells_at (by simp) rfl) ?c2 (by omega) ?c3 ?c4 (Nat.zero_le _) (w.heap.size + 1 + 1) (by simp) ?_)
      case c2 => intro u hu; simp at hu; subst hu; rfl
      case c3 => unfold maxLen; omega
      case c4 => omega
      intro gg cap2 w3 hown3 hgrow hat hlt3
      have hk : Kept (fun k => (Value.slice (some ⟨g, 0, none⟩) os.length cap).ownBlock = some k) w w3 := (((Kept.refl _ _).alloc _).alloc _).trans (Kept.of_grown hgrow)
      have HO3 := hide hown3
      have HA := hide hat
      clear hown3 hat hgrow
      go_wp2
      go_ret
      refine NestOut.ok_mk HH.out hk ⟨?_, fun g2 hg => ?_⟩
      · have e1 : os.length - 1 + 1 = os.length := by omega
        have := HO3.out
        simpa [byteCells, e1] using this
      · simp [Value.ownBlock] at hg
        subst hg
        rcases HA.out with hh | hh
        · simp [Value.ownBlock] at hh; subst hh; exact .inl hokg
        · exact .inr (by omega)
    · have t4 : ((y : Int) != 4) = true := by rw [bne_iff_ne]; omega
      have HH : Hid (nestM os a 5 = .error (2, a)) := by show nestM os a 5 = _; simp [nestM, hlast, h4]
      clear htake hr hcells hlast hy hne
      go_enter Tryz.func115, Tryz.ntmps115
      go_wp2_with fail
      refine (refuse_any _ _).mono ?_
      rintro e w3 ⟨rfl, rfl⟩
      exact ⟨rfl, NestOut.err_mk HH.out ((Kept.refl _ _).alloc _)⟩

theorem nest_any {ok : Nat → Prop} {w : World} {v : Value} {os : List Nat} {a x : Nat} {c1 c3 c4 c5 c6 c7 c8 c9 : Value} (hr : isOpen ok os w v) (hl : os.length ≤ 50) (he : x = 11 → os ≠ []) :
    Calls Tryz.prog 115 #[v, .agg #[.int .i64 (a : Nat), c1, .int .u8 (x : Nat), c3, c4, c5, c6, c7, c8, c9]] w (NestOut ok w v (nestM os a x)) := by
  by_cases h1 : x = 2 ∨ x = 3 ∨ x = 4
  · exact nest_open hr hl h1
  by_cases h5 : x = 5
  · subst h5; exact nest_else hr hl
  by_cases h11 : x = 11
  · subst h11; exact nest_end hr hl (he rfl)
  exact nest_other hr hl (by omega) (by omega) (by omega) h5 h11

end Go.Proofs.YtgkpkngchploiaaGreat
/-
  The instructions of a code, one by one, in plain words; what who goes through them promises.
-/
namespace Go.Proofs.YtgkpkngchploiaaGreat
open Go.RowKit

/-- From place j on, with the blocks os open: where the code ends. -/
def insGo (s : ByteArray) (n : Nat) : Nat → List Nat → Nat → Except Err Nat
  | 0, _, _ => .error (2, n)
  | fuel + 1, os, j =>
    match byteM s n j with
    | .error e => .error e
    | .ok (x, j1) =>
      match (if x = 11 ∧ os = [] then .ok os else nestM os j x) with
      | .error e => .error e
      | .ok os' =>
        match behM j x s n j1 with
        | .error e => .error e
        | .ok (_, e) => if x = 11 ∧ os = [] then .ok e else insGo s n fuel os' e

def insM (s : ByteArray) (n i : Nat) : Except Err Nat := insGo s n (n - i) [] i

/-- What is open behind an instruction x at place j: nothing more, behind the code's own end. -/
def Turns (os : List Nat) (o' : Option (List Nat)) (j x : Nat) : Prop := x = 11 ∧ os = [] ∧ o' = none ∨ ¬ (x = 11 ∧ os = []) ∧ ∃ os', nestM os j x = .ok os' ∧ o' = some os'

/-- Who goes through a code's instructions: J, its own state of the world (between two instructions, with the blocks os open, at place j; none: behind the last), which hangs on the blocks of F alone; l, its loop. -/
structure Goes (P : Program) (m l : Nat) (s : ByteArray) (n : Nat) (Bad : Nat → Nat → World → Prop) (J : Option (List Nat) → Nat → (Nat → Prop) → World → Prop) : Prop where
  still : ∀ o j F W W' S, J o j F W → Kept S W W' → (∀ k, k < W.heap.size → S k → ¬ F k) → J o j F W'
  lt : ∀ o j F W k, J o j F W → F k → k < W.heap.size
  round : ∀ os o' j F W e x y gv lv hand, J (some os) j F W → e ≤ n → j < e → os.length ≤ 50 → Turns os o' j x → x = bt s j → j < n → behM j x s n (j + 1) = .ok (y, e) →
    isKinds hand y.gives W gv → isRow 62 2 numCells hand y.labels W lv → (∀ k, hand k → k < W.heap.size ∧ ¬ F k) →
    ∃ f tmps assign body, (Instr.yield l #[.agg (insCells j e x y gv lv).toArray]).run P W = .ok (.round l f tmps assign body) W ∧
      RoundIn Fence.wide m P l f tmps assign body W fun ε W' =>
        (ε = .returned (.bool true) ∧ ∃ F', J o' e F' W' ∧ Kept F W W' ∧ ∀ k, F' k → F k ∨ hand k ∨ W.heap.size ≤ k) ∨
        (∃ q p : Nat, ε = gaveUp q p ∧ Bad q p W' ∧ Kept F W W')

/-- How the iterator ends. -/
structure IterPost (s : ByteArray) (n i : Nat) (Bad : Nat → Nat → World → Prop) (J : Option (List Nat) → Nat → (Nat → Prop) → World → Prop) (F0 : Nat → Prop) (W0 : World) (ε : Ending) (W' : World) : Prop where
  kept : Kept F0 W0 W'
  how : (∃ j F', insM s n i = .ok j ∧ ε = .returned (.tuple #[]) ∧ J none j F' W' ∧ ∀ k, F' k → k < W0.heap.size → F0 k) ∨
    (∃ q p : Nat, insM s n i = .error (q, p) ∧ ε = gaveUp q p ∧ ∃ o j F', J o j F' W') ∨ (∃ q p : Nat, Bad q p W' ∧ ε = gaveUp q p)

/-- Where a reader stands. -/
def rdPos (w : World) (b : Nat) : Nat := match w.cell? ⟨b, 1, none⟩ with | some (.int _ q) => q.toNat | _ => 0

theorem rdPos_of {w : World} {b : Nat} {s : ByteArray} {i n : Nat} (h : Rd w b s i n) : rdPos w b = i := by unfold rdPos; rw [h.c1]; simp

theorem insGo_byte {s : ByteArray} {n fuel j : Nat} {os : List Nat} (hf : n - j ≤ fuel) (h : ¬ j < n) : insGo s n fuel os j = .error (2, n) := by
  cases fuel with
  | zero => rfl
  | succ f => simp [insGo, byteM_end h]

theorem insGo_nest {s : ByteArray} {n fuel j : Nat} {os : List Nat} {e : Err} (hf : n - j ≤ fuel) (h : j < n) (hl : ¬ (bt s j = 11 ∧ os = [])) (hn : nestM os j (bt s j) = .error e) : insGo s n fuel os j = .error e := by
  cases fuel with
  | zero => omega
  | succ f => simp only [insGo, byteM_more h, if_neg hl, hn]

theorem insGo_beh {s : ByteArray} {n fuel j : Nat} {os os' : List Nat} {e : Err} (hf : n - j ≤ fuel) (h : j < n) (hl : bt s j = 11 ∧ os = [] ∧ os' = [] ∨ ¬ (bt s j = 11 ∧ os = []) ∧ nestM os j (bt s j) = .ok os') (hb : behM j (bt s j) s n (j + 1) = .error e) :
    insGo s n fuel os j = .error e := by
  cases fuel with
  | zero => omega
  | succ f =>
    rcases hl with ⟨h1, h2, h3⟩ | ⟨h1, h2⟩
    · simp only [insGo, byteM_more h, if_pos (And.intro h1 h2), hb]
    · simp only [insGo, byteM_more h, if_neg h1, h2, hb]

theorem insGo_last {s : ByteArray} {n fuel j e : Nat} {os : List Nat} {y : Beh} (hf : n - j ≤ fuel) (h : j < n) (hl : bt s j = 11 ∧ os = []) (hb : behM j (bt s j) s n (j + 1) = .ok (y, e)) : insGo s n fuel os j = .ok e := by
  cases fuel with
  | zero => omega
  | succ f => simp only [insGo, byteM_more h, if_pos hl, hb]

theorem insGo_more {s : ByteArray} {n fuel j e : Nat} {os os' : List Nat} {y : Beh} (hf : n - j ≤ fuel) (h : j < n) (hl : ¬ (bt s j = 11 ∧ os = [])) (hn : nestM os j (bt s j) = .ok os') (hb : behM j (bt s j) s n (j + 1) = .ok (y, e)) :
    insGo s n fuel os j = insGo s n (fuel - 1) os' e := by
  cases fuel with
  | zero => omega
  | succ f => simp only [insGo, byteM_more h, if_neg hl, hn, hb, Nat.add_sub_cancel]

end Go.Proofs.YtgkpkngchploiaaGreat
/-
  A reader never goes back.
-/
namespace Go.Proofs.YtgkpkngchploiaaGreat
open Go.RowKit

theorem sGo_facts {K room : Nat} {s : ByteArray} {n : Nat} : ∀ (m k : Nat) (z : Int) (j : Nat) {v : Int} {j' : Nat}, sGo K room s n m k z j = .ok (v, j') → j < j' ∧ j' ≤ n := by
  intro m
  induction m with
  | zero => intro k z j v j' h; simp [sGo] at h
  | succ m ih =>
    intro k z j v j' h
    unfold sGo at h
    by_cases hj : j < n
    · rw [byteM_more hj] at h
      simp only at h
      split at h
      · cases h
      · split at h
        · cases h; omega
        · have := ih _ _ _ h; omega
    · rw [byteM_end hj] at h; simp at h

theorem sM_facts {K room : Nat} {s : ByteArray} {n i : Nat} {v : Int} {j : Nat} (h : sM K room s n i = .ok (v, j)) : i < j ∧ j ≤ n := sGo_facts _ _ _ _ h

theorem listGo_facts {α : Type} {tM : ByteArray → Nat → Nat → Except Err (α × Nat)} {s : ByteArray} {n : Nat} (ht : ∀ i x j, tM s n i = .ok (x, j) → i ≤ j) :
    ∀ (k : Nat) (acc : List α) (j : Nat) {xs : List α} {j' : Nat}, listGo tM s n k acc j = .ok (xs, j') → j ≤ j' := by
  intro k
  induction k with
  | zero => intro acc j xs j' h; simp [listGo] at h; omega
  | succ k ih =>
    intro acc j xs j' h
    unfold listGo at h
    cases ho : tM s n j with
    | error e => rw [ho] at h; cases h
    | ok x =>
      obtain ⟨x, j2⟩ := x
      rw [ho] at h
      have h1 := ht _ _ _ ho
      have h2 := ih _ _ h
      omega

theorem listM_facts {α : Type} {most : Nat} {tM : ByteArray → Nat → Nat → Except Err (α × Nat)} {s : ByteArray} {n i : Nat} {xs : List α} {j : Nat} (ht : ∀ i x j, tM s n i = .ok (x, j) → i ≤ j) (h : listM most tM s n i = .ok (xs, j)) : i < j := by
  unfold listM at h
  cases ho : countM most s n i with
  | error e => rw [ho] at h; cases h
  | ok x =>
    obtain ⟨k, j2⟩ := x
    rw [ho] at h
    have h1 := countM_facts ho
    have h2 := listGo_facts ht _ _ _ h
    omega

theorem uM_le {s : ByteArray} {n : Nat} : ∀ i x j, uM s n i = .ok (x, j) → i ≤ j := fun i x j h => by
  obtain ⟨v, a⟩ := x
  have := uM_facts h
  omega

theorem blockM_le {s : ByteArray} {n i : Nat} {y : Beh} {e : Nat} (h : blockM s n i = .ok (y, e)) : i ≤ e := by
  unfold blockM at h
  cases hp : peekM s n i with
  | error q => rw [hp] at h; cases h
  | ok x =>
    obtain ⟨x, j⟩ := x
    rw [hp] at h
    simp only at h
    split at h
    · cases h; omega
    · split at h
      · cases h; omega
      · cases hs : sM 4 5 s n i with
        | error q => rw [hs] at h; cases h
        | ok v =>
          obtain ⟨v, j2⟩ := v
          rw [hs] at h
          simp only at h
          have := sM_facts hs
          split at h
          · cases h
          · cases h; omega

theorem behM_le {a x : Nat} {s : ByteArray} {n i : Nat} {y : Beh} {e : Nat} (h : behM a x s n i = .ok (y, e)) : i ≤ e := by
  unfold behM at h
  split at h
  · exact blockM_le h
  split at h
  · cases ho : listM 20 uM s n i with
    | error q => rw [ho] at h; cases h
    | ok v =>
      obtain ⟨v, j⟩ := v
      rw [ho] at h
      simp only at h
      cases hu : uM s n j with
      | error q => rw [hu] at h; cases h
      | ok u =>
        obtain ⟨u, j2⟩ := u
        rw [hu] at h
        cases h
        have := listM_facts uM_le ho
        have := uM_le _ _ _ hu
        omega
  split at h
  · cases ho : uM s n i with
    | error q => rw [ho] at h; cases h
    | ok v =>
      obtain ⟨v, j⟩ := v
      rw [ho] at h
      simp only at h
      cases hu : uM s n j with
      | error q => rw [hu] at h; cases h
      | ok u =>
        obtain ⟨u, j2⟩ := u
        rw [hu] at h
        cases h
        have := uM_le _ _ _ ho
        have := uM_le _ _ _ hu
        omega
  split at h
  · cases ho : uM s n i with
    | error q => rw [ho] at h; cases h
    | ok v =>
      obtain ⟨v, j⟩ := v
      rw [ho] at h
      cases h
      exact uM_le _ _ _ ho
  split at h
  · cases ho : uM s n i with
    | error q => rw [ho] at h; cases h
    | ok v =>
      obtain ⟨v, j⟩ := v
      rw [ho] at h
      simp only at h
      cases hu : oneM [0] s n j with
      | error q => rw [hu] at h; cases h
      | ok u =>
        obtain ⟨u, j2⟩ := u
        rw [hu] at h
        cases h
        have := uM_le _ _ _ ho
        have := oneM_facts hu
        omega
  split at h
  · cases ho : oneM [0] s n i with
    | error q => rw [ho] at h; cases h
    | ok v =>
      obtain ⟨v, j⟩ := v
      rw [ho] at h
      cases h
      have := oneM_facts ho
      omega
  split at h
  · cases ho : sM 4 4 s n i with
    | error q => rw [ho] at h; cases h
    | ok v =>
      obtain ⟨v, j⟩ := v
      rw [ho] at h
      cases h
      have := sM_facts ho
      omega
  split at h
  · cases ho : sM 9 1 s n i with
    | error q => rw [ho] at h; cases h
    | ok v =>
      obtain ⟨v, j⟩ := v
      rw [ho] at h
      cases h
      have := sM_facts ho
      omega
  split at h
  · cases h; omega
  · cases h

end Go.Proofs.YtgkpkngchploiaaGreat
