/-
  Part 8 of the proof: Code8, ModAt, Codes, Names1, Names2, Names3, Names4.
-/
import Derived.Test.YtgkpkngchploiaaGreatPart07
import Derived.Deep.AppendLies
import Derived.RegionDies
import Derived.Deep.RegionLaw
import Derived.Deep.QuietTactic
import Derived.BigQuiet
import Derived.Test.YtgkpkngchploiaaGreatPart05
/-
  takeCode.
-/
namespace Go.Proofs.YtgkpkngchploiaaGreat
open Go.RowKit

def codeM (s : ByteArray) (n i : Nat) : Except Err ((List Nat × Nat × Nat) × Nat) := withinM codeInM s n i

/-- A code in memory: its locals, the reader at its instructions. -/
def isCode (ok : Nat → Prop) (s : ByteArray) (x : List Nat × Nat × Nat) (w : World) (v : Value) : Prop :=
  ∃ lv fv, v = .agg #[lv, fv] ∧ isKinds ok x.1 w lv ∧ isIter ok s x.2.1 x.2.2 w fv

theorem enters_takeCodeIn : Enters 99 := enters_of Tryz.func99 (by kernel_rfl) (by kernel_rfl)

theorem Blk.oneC {w : World} {g : Nat} {a : Value} (h : Blk w g [a]) : w.cell? ⟨g, 0, none⟩ = some a ∧ w.frozen? ⟨g, 0, none⟩ = false := h 0 (by simp)

set_option maxRecDepth 100000 in
set_option maxHeartbeats 1600000 in
theorem takeCode_any {w : World} {b : Nat} {s : ByteArray} {i n : Nat} (h : Rd w b s i n) :
    Calls Tryz.prog 74 #[.pointer (some ⟨b, 0, none⟩)] w (Out w b s n (isCode (fun g => w.heap.size ≤ g) s) (codeM s n i)) := by
  have hmf : ∀ (fn : Fn) (first cap : Array Value) (w : World), (Instr.makeFunc fn first cap).run Tryz.prog w = .ok (.func fn first cap) w := fun _ _ _ _ => rfl
  have hbw := h.lt
  go_enter Tryz.func74, Tryz.ntmps74
  go_wp2_with fail
  have hr0 := ((OB.new (b := b) (g := w.heap.size) (c := #[.pointer (some ⟨b, 0, none⟩)]) (t := 57) hbw rfl).alloc (.cells #[.slice none 0 0, .nilFunc] 92)).alloc (.cells #[.slice none 0 0, .nilFunc] 92)
  have hR0 := (OB.new (w := w.alloc (.cells #[.pointer (some ⟨b, 0, none⟩)] 57)) (b := b) (g := w.heap.size + 1) (c := #[.slice none 0 0, .nilFunc]) (t := 92) (by simp; omega) (by simp)).alloc (.cells #[.slice none 0 0, .nilFunc] 92)
  have hc0 := OB.new (w := (w.alloc (.cells #[.pointer (some ⟨b, 0, none⟩)] 57)).alloc (.cells #[.slice none 0 0, .nilFunc] 92)) (b := b) (g := w.heap.size + 1 + 1) (c := #[.slice none 0 0, .nilFunc]) (t := 92) (by simp; omega) (by simp)
  refine (within_any (S := three b (w.heap.size + 1 + 1) w.heap.size) (cap := #[.pointer (some ⟨w.heap.size, 0, none⟩), .pointer (some ⟨w.heap.size + 1 + 1, 0, none⟩)]) codeInM
    (fun W => OB W b w.heap.size [.pointer (some ⟨b, 0, none⟩)] ∧ ∃ c0 c1, OB W b (w.heap.size + 1 + 1) [c0, c1])
    (isCodeVar (fun g => w.heap.size + 1 + 1 < g) s b (w.heap.size + 1 + 1)) (((h.alloc _).alloc _).alloc _) ⟨hr0, _, _, hc0⟩ enters_takeCodeIn (.inl rfl) ?_ ?_ ?_).mono ?_
  · rintro W W' ⟨h1, c0, c1, h2⟩ hk
    exact ⟨h1.call hk, c0, c1, h2.call hk⟩
  · rintro x W W' ⟨lv, fv, h1, h2, h3⟩ hk
    exact ⟨lv, fv, h1.call hk, Row.call h2 hk (fun k hk0 => by omega), h3.kept hk (fun g _ hg (e : g = b) => by omega)⟩
  · rintro W j n' hrd ⟨h1, c0, c1, h2⟩ hsz
    refine (takeCodeIn_any hrd h1 h2 (by omega)).mono ?_
    rintro e W' ⟨hk, hok, herr⟩
    refine ⟨hk, fun x j hx => ?_, herr⟩
    obtain ⟨v, hv1, ⟨hv2, lv, fv, hv3, hv4, hv6⟩, hv5⟩ := hok x j hx
    exact ⟨v, hv1, ⟨hv2, lv, fv, hv3, Row.mono hv4 (fun g _ hg => by simp at hsz; omega), hv6.mono (fun g _ hg => by simp at hsz; omega)⟩, hv5⟩
  rintro e w1 ⟨hx1, hok, herr⟩
  have hk1 : Kept (only b) w w1 := ((((Kept.refl (only b) w).alloc _).alloc _).alloc _).fresh hx1 (fun k hk hh => hh.elim id (fun hh => hh.elim (fun e => by omega) (fun e => by omega)))
  have hR1 := hR0.kept hx1 (fun hh => hh.elim (fun e => hR0.ne e) (fun hh => hh.elim (fun e => by omega) (fun e => by omega)))
  clear hr0 hR0 hc0 hx1
  cases ho : withinM codeInM s n i with
  | error qp =>
    obtain ⟨q, p⟩ := qp
    have he := herr _ _ ho
    subst he
    exact ⟨rfl, Out.err_mk ho hk1⟩
  | ok xj =>
    obtain ⟨x, j⟩ := xj
    obtain ⟨u, rfl, ⟨rfl, lv, fv, oc1, hlv, hfv⟩, hrd1⟩ := hok _ _ ho
    obtain ⟨pl, cl, rfl⟩ := Row.shape hlv
    have HFV := hide hfv
    obtain ⟨fb, rfl, -, -⟩ := hfv
    have HO := hide ho
    have HLV := hide hlv
    clear hok herr ho hlv
    obtain ⟨⟨C0, D0⟩, ⟨C1, D1⟩⟩ := oc1.blk.two
    obtain ⟨⟨R0, Q0⟩, ⟨R1, Q1⟩⟩ := hR1.blk.two
    go_wp2
    refine bodyPost_ret (v := .agg #[.slice pl x.1.length cl, .func (.func 114) #[] #[.pointer (some ⟨fb, 0, none⟩)]]) ?_ rfl (Out.ok_mk HO.out ((hk1.new (by omega) _).new (by omega) _) ⟨_, _, rfl, ?_, ?_⟩ ((hrd1.set_other hR1.ne _).set_other hR1.ne _))
    · simp [results, Tryz.results74, go_sem, R0, R1]
    · exact Row.mono (Row.other (Row.other HLV.out (g := w.heap.size + 1) (o := 0) (fun k hk => by omega) _) (g := w.heap.size + 1) (o := 1) (fun k hk => by omega) _) (fun g _ hg => by omega)
    · exact ((HFV.out.kept (S := only (w.heap.size + 1)) ((Kept.refl _ _).own _) (fun g _ hg (e : g = w.heap.size + 1) => by omega)).kept (S := only (w.heap.size + 1)) ((Kept.refl _ _).own _) (fun g _ hg (e : g = w.heap.size + 1) => by omega)).mono (fun g _ hg => by omega)

end Go.Proofs.YtgkpkngchploiaaGreat
/-
  A module: in plain words, and in memory.
-/
namespace Go.Proofs.YtgkpkngchploiaaGreat
open Go.RowKit

abbrev Cod := List Nat × Nat × Nat
abbrev Nam := Nat × ByteArray

structure Mdl where
  types : List Ty
  funcs : List (Int × Nat)
  tables : List Lim
  mems : List Lim
  globals : List Glb
  exports : List Exp
  starts : List (Int × Nat)
  elems : List Elm
  codes : List Cod
  data : List Dat
  nfuncs : List Nam
  nlocals : List (Nat × List Nam)

def Mdl.new : Mdl := ⟨[], [], [], [], [], [], [], [], [], [], [], []⟩

def namCells (x : Nam) : List Value := [.int .i64 (x.1 : Nat), .string x.2]

def elCode (s : ByteArray) (ok : Nat → Prop) (x : Cod) (w : World) (cs : List Value) : Prop :=
  ∃ lv fv, cs = [lv, fv] ∧ isKinds ok x.1 w lv ∧ isIter ok s x.2.1 x.2.2 w fv

def elNames (ok : Nat → Prop) (x : Nat × List Nam) (w : World) (cs : List Value) : Prop :=
  ∃ lv, cs = [.int .i64 (x.1 : Nat), lv] ∧ isRow 156 2 namCells ok x.2 w lv

/-- The values of a module's twelve fields. -/
structure Fields where
  v0 : Value
  v1 : Value
  v2 : Value
  v3 : Value
  v4 : Value
  v5 : Value
  v6 : Value
  v7 : Value
  v8 : Value
  v9 : Value
  v10 : Value
  v11 : Value

def Fields.cells (f : Fields) : List Value := [f.v0, f.v1, f.v2, f.v3, f.v4, f.v5, f.v6, f.v7, f.v8, f.v9, f.v10, f.v11]

/-- What the fields hold. -/
structure Holds12 (s : ByteArray) (ok : Nat → Prop) (w : World) (f : Fields) (m : Mdl) : Prop where
  h0 : isLst 85 2 elTy ok m.types w f.v0
  h1 : isRow 62 2 numCells ok m.funcs w f.v1
  h2 : isRow 73 4 Lim.cells ok m.tables w f.v2
  h3 : isRow 73 4 Lim.cells ok m.mems w f.v3
  h4 : isRow 78 5 Glb.cells ok m.globals w f.v4
  h5 : isRow 81 5 Exp.cells ok m.exports w f.v5
  h6 : isRow 62 2 numCells ok m.starts w f.v6
  h7 : isLst 88 5 elElm ok m.elems w f.v7
  h8 : isLst 92 2 (elCode s) ok m.codes w f.v8
  h9 : isRow 103 5 Dat.cells ok m.data w f.v9
  h10 : isRow 156 2 namCells ok m.nfuncs w f.v10
  h11 : isLst 159 2 elNames ok m.nlocals w f.v11
  nil6 : m.starts = [] → f.v6 = .slice none 0 0
  nil8 : m.codes = [] → f.v8 = .slice none 0 0
  nil11 : m.nlocals = [] → f.v11 = .slice none 0 0

theorem isLst.kept {α : Type} {E : TypeId} {size : Nat} {El : (Nat → Prop) → α → World → List Value → Prop} {S ok : Nat → Prop} {xs : List α} {w w' : World} {v : Value} (h : isLst E size El ok xs w v) (hk : Kept S w w') (hs : ∀ g, g < w.heap.size → ok g → ¬ S g)
    (he : ∀ x cs, El ok x w cs → El ok x w' cs) : isLst E size El ok xs w' v := by
  obtain ⟨css, h1, h2⟩ := h
  exact ⟨css, h1.kept hk hs, h2.to (fun x cs hh => ⟨he x cs hh.1, hh.2⟩)⟩

theorem elCode.kept {s : ByteArray} {S ok : Nat → Prop} {w w' : World} {x : Cod} {cs : List Value} (h : elCode s ok x w cs) (hk : Kept S w w') (hs : ∀ g, g < w.heap.size → ok g → ¬ S g) : elCode s ok x w' cs := by
  obtain ⟨lv, fv, e, a, c⟩ := h
  exact ⟨lv, fv, e, Row.kept a hk hs, c.kept hk hs⟩

theorem elNames.kept {S ok : Nat → Prop} {w w' : World} {x : Nat × List Nam} {cs : List Value} (h : elNames ok x w cs) (hk : Kept S w w') (hs : ∀ g, g < w.heap.size → ok g → ¬ S g) : elNames ok x w' cs := by
  obtain ⟨lv, e, a⟩ := h
  exact ⟨lv, e, Row.kept a hk hs⟩

theorem Holds12.kept {s : ByteArray} {S ok : Nat → Prop} {w w' : World} {f : Fields} {m : Mdl} (h : Holds12 s ok w f m) (hk : Kept S w w') (hs : ∀ g, g < w.heap.size → ok g → ¬ S g) : Holds12 s ok w' f m :=
  ⟨h.h0.kept hk hs (fun _ _ e => e.kept hk hs), Row.kept h.h1 hk hs, Row.kept h.h2 hk hs, Row.kept h.h3 hk hs, Row.kept h.h4 hk hs, Row.kept h.h5 hk hs, Row.kept h.h6 hk hs,
   h.h7.kept hk hs (fun _ _ e => e.kept hk hs), h.h8.kept hk hs (fun _ _ e => e.kept hk hs), Row.kept h.h9 hk hs, Row.kept h.h10 hk hs, h.h11.kept hk hs (fun _ _ e => e.kept hk hs), h.nil6, h.nil8, h.nil11⟩

/-- A module lies at block mb, beside the reader's block b. -/
def ModAt (s : ByteArray) (ok : Nat → Prop) (w : World) (b mb : Nat) (m : Mdl) : Prop := ∃ f : Fields, OB w b mb f.cells ∧ Holds12 s ok w f m

theorem ModAt.call {s : ByteArray} {ok : Nat → Prop} {w w' : World} {b mb : Nat} {m : Mdl} (h : ModAt s ok w b mb m) (hk : Kept (only b) w w') (hb : ¬ ok b) : ModAt s ok w' b mb m := by
  obtain ⟨f, h1, h2⟩ := h
  exact ⟨f, h1.call hk, h2.kept hk (fun g _ hg (e : g = b) => hb (e ▸ hg))⟩

section
variable {w : World} {g : Nat} {a b c d e a' b' c' d' e' x y : Value}
theorem Blk.twelve (h : Blk w g [a, b, c, d, e, a', b', c', d', e', x, y]) :
    ((w.cell? ⟨g, 0, none⟩ = some a ∧ w.frozen? ⟨g, 0, none⟩ = false) ∧ (w.cell? ⟨g, 1, none⟩ = some b ∧ w.frozen? ⟨g, 1, none⟩ = false) ∧ (w.cell? ⟨g, 2, none⟩ = some c ∧ w.frozen? ⟨g, 2, none⟩ = false) ∧
    (w.cell? ⟨g, 3, none⟩ = some d ∧ w.frozen? ⟨g, 3, none⟩ = false) ∧ (w.cell? ⟨g, 4, none⟩ = some e ∧ w.frozen? ⟨g, 4, none⟩ = false) ∧ (w.cell? ⟨g, 5, none⟩ = some a' ∧ w.frozen? ⟨g, 5, none⟩ = false)) ∧
    ((w.cell? ⟨g, 6, none⟩ = some b' ∧ w.frozen? ⟨g, 6, none⟩ = false) ∧ (w.cell? ⟨g, 7, none⟩ = some c' ∧ w.frozen? ⟨g, 7, none⟩ = false) ∧ (w.cell? ⟨g, 8, none⟩ = some d' ∧ w.frozen? ⟨g, 8, none⟩ = false) ∧
    (w.cell? ⟨g, 9, none⟩ = some e' ∧ w.frozen? ⟨g, 9, none⟩ = false) ∧ (w.cell? ⟨g, 10, none⟩ = some x ∧ w.frozen? ⟨g, 10, none⟩ = false) ∧ (w.cell? ⟨g, 11, none⟩ = some y ∧ w.frozen? ⟨g, 11, none⟩ = false)) :=
  ⟨⟨h 0 (by simp), h 1 (by simp), h 2 (by simp), h 3 (by simp), h 4 (by simp), h 5 (by simp)⟩, h 6 (by simp), h 7 (by simp), h 8 (by simp), h 9 (by simp), h 10 (by simp), h 11 (by simp)⟩
end

/-- Behind an append to a slice of another element type. -/
theorem isLst.grown {α : Type} {E E' : TypeId} {size size' n B : Nat} {El : (Nat → Prop) → α → World → List Value → Prop} {ok : Nat → Prop} {xs : List α} {w w' : World} {v v' : Value} {ys : List Value} (h : isLst E' size' El ok xs w v') (ho : w.ownsRow B E size v n ys) (hne : E' ≠ E) (hg : w.grownBy w' v.ownBlock)
    (he : ∀ x cs, El ok x w cs → El ok x w' cs) : isLst E' size' El ok xs w' v' := by
  obtain ⟨css, h1, h2⟩ := h
  exact ⟨css, h1.grown ho hne hg, h2.to (fun x cs hh => ⟨he x cs hh.1, hh.2⟩)⟩

theorem elTy.grownT {E : TypeId} {ok : Nat → Prop} {w w' : World} {t : Ty} {cs : List Value} {size n B : Nat} {v : Value} {xs : List Value} (h : elTy ok t w cs) (ho : w.ownsRow B E size v n xs) (hE : 74 ≠ E) (hg : w.grownBy w' v.ownBlock) : elTy ok t w' cs := by
  obtain ⟨vi, vo, e, a, c⟩ := h
  exact ⟨vi, vo, e, Row.grown a ho hE hg, Row.grown c ho hE hg⟩

theorem elElm.grownT {E : TypeId} {ok : Nat → Prop} {w w' : World} {t : Elm} {cs : List Value} {size n B : Nat} {v : Value} {xs : List Value} (h : elElm ok t w cs) (ho : w.ownsRow B E size v n xs) (hE : 62 ≠ E) (hg : w.grownBy w' v.ownBlock) : elElm ok t w' cs := by
  obtain ⟨vl, e, a⟩ := h
  exact ⟨vl, e, Row.grown a ho hE hg⟩

theorem elCode.grownT {s : ByteArray} {E : TypeId} {ok : Nat → Prop} {w w' : World} {t : Cod} {cs : List Value} {size n B : Nat} {v : Value} {xs : List Value} (h : elCode s ok t w cs) (ho : w.ownsRow B E size v n xs) (hE : 74 ≠ E) (hR : 39 ≠ E) (hg : w.grownBy w' v.ownBlock) : elCode s ok t w' cs := by
  obtain ⟨vl, fv, e, a, c⟩ := h
  exact ⟨vl, fv, e, Row.grown a ho hE hg, c.grown ho hR hg⟩

theorem elNames.grownT {E : TypeId} {ok : Nat → Prop} {w w' : World} {t : Nat × List Nam} {cs : List Value} {size n B : Nat} {v : Value} {xs : List Value} (h : elNames ok t w cs) (ho : w.ownsRow B E size v n xs) (hE : 156 ≠ E) (hg : w.grownBy w' v.ownBlock) : elNames ok t w' cs := by
  obtain ⟨vl, e, a⟩ := h
  exact ⟨vl, e, Row.grown a ho hE hg⟩

end Go.Proofs.YtgkpkngchploiaaGreat
/-
  takeCodes.
-/
namespace Go.Proofs.YtgkpkngchploiaaGreat
open Go.RowKit

/-- As many codes as there are functions. -/
def codesM (m : Mdl) (s : ByteArray) (n i : Nat) : Except Err (Mdl × Nat) :=
  match uM s n i with
  | .error e => .error e
  | .ok ((v, a), j) =>
    if v = (m.funcs.length : Int) then
      match listGo codeM s n m.funcs.length [] j with
      | .error e => .error e
      | .ok (cs, j2) => .ok ({ m with codes := cs }, j2)
    else .error (2, a)

theorem code_ok {w : World} {b : Nat} {s : ByteArray} {i n : Nat} {x : Cod} {j : Nat} (h : Rd w b s i n) (hu : codeM s n i = .ok (x, j)) :
    Calls Tryz.prog 74 #[.pointer (some ⟨b, 0, none⟩)] w fun e w' => (∃ p c fb, e = .returned (.agg #[.slice p x.1.length c, .func (.func 114) #[] #[.pointer (some ⟨fb, 0, none⟩)]]) ∧ isKinds (fun g => w.heap.size ≤ g) x.1 w' (.slice p x.1.length c) ∧ isIter (fun g => w.heap.size ≤ g) s x.2.1 x.2.2 w' (.func (.func 114) #[] #[.pointer (some ⟨fb, 0, none⟩)])) ∧ Rd w' b s j n ∧ Kept (only b) w w' := by
  refine (takeCode_any h).mono ?_
  rintro e w1 ⟨hk, hok, herr⟩
  obtain ⟨u, rfl, ⟨lv, fv, rfl, hlv, hfv⟩, hrd⟩ := hok _ _ hu
  obtain ⟨p, c, rfl⟩ := Row.shape hlv
  have hfv' := hfv
  obtain ⟨fb, rfl, -, -⟩ := hfv
  exact ⟨⟨p, c, fb, rfl, hlv, hfv'⟩, hrd, hk⟩

theorem code_err {w : World} {b : Nat} {s : ByteArray} {i n : Nat} {q p : Nat} (h : Rd w b s i n) (hu : codeM s n i = .error (q, p)) :
    Calls Tryz.prog 74 #[.pointer (some ⟨b, 0, none⟩)] w fun e w' => e = gaveUp q p ∧ Kept (only b) w w' := by
  refine (takeCode_any h).mono ?_
  rintro e w1 ⟨hk, hok, herr⟩
  exact ⟨herr _ _ hu, hk⟩

theorem Tryz.info92 : (Tryz.prog.info? 92).map (fun i => (i.zero, i.size, i.bytes)) = some (some (.agg #[.slice none 0 0, .nilFunc]), 2, 32) := by kernel_rfl

def isMod (s : ByteArray) (B b mb : Nat) (m : Mdl) (w : World) (v : Value) : Prop := v = .tuple #[] ∧ ModAt s (fun g => B ≤ g) w b mb m

theorem elCode.mono {s : ByteArray} {ok ok' : Nat → Prop} {w : World} {x : Cod} {cs : List Value} (h : elCode s ok x w cs) (hm : ∀ g, g < w.heap.size → ok g → ok' g) : elCode s ok' x w cs := by
  obtain ⟨lv, fv, e, a, c⟩ := h
  exact ⟨lv, fv, e, Row.mono a hm, c.mono hm⟩

set_option maxRecDepth 100000 in
set_option maxHeartbeats 3200000 in
theorem takeCodes_any {w : World} {b mb B : Nat} {s : ByteArray} {i n : Nat} {m : Mdl} (h : Rd w b s i n) (hm : ModAt s (fun g => B ≤ g) w b mb m) (hb : b < B) (hmb : mb < B) (hB : B ≤ w.heap.size) (hnf : m.funcs.length ≤ 20) (hcl : m.codes = []) :
    Calls Tryz.prog 55 #[.pointer (some ⟨mb, 0, none⟩), .pointer (some ⟨b, 0, none⟩)] w (OutS (both b mb) w b s n (isMod s B b mb) (codesM m s n i)) := by
  obtain ⟨i0, hi0, hz0, hz1, hz2⟩ := info_parts Tryz.info92
  go_enter Tryz.func55, Tryz.ntmps55
  go_wp2_with fail
  refine (u_any h).mono ?_
  rintro e w1 ⟨hx1, hok, herr⟩
  have hk1 : Kept (both b mb) w w1 := hx1.both_of
  cases ho : uM s n i with
  | error qp =>
    obtain ⟨q, p⟩ := qp
    have he := herr _ _ ho
    subst he
    exact ⟨rfl, OutS.err_mk (by simp [codesM, ho]) hk1⟩
  | ok xj =>
    obtain ⟨⟨v, a⟩, j0⟩ := xj
    obtain ⟨u, rfl, hv, hrd⟩ := hok _ _ ho
    have hv : u = .agg #[.int .u32 v, .int .i64 (a : Nat)] := hv
    subst hv
    obtain ⟨v0, v1, -, -, -⟩ := uM_facts ho
    obtain ⟨f, oM0, hH⟩ := hm
    have oM := oM0.call hx1
    have HH := hide hH
    have HM1 := hide oM
    have hnil : f.v8 = .slice none 0 0 := hH.nil8 hcl
    obtain ⟨p1, c1, hf1⟩ := Row.shape hH.h1
    obtain ⟨⟨F0, G0⟩, ⟨F1, G1⟩, -⟩ := oM.blk.twelve.1
    rw [hf1] at F1
    have hmw := oM.lt
    have hsz1 := hx1.size
    have HO := hide ho
    clear hok herr ho hx1 F0 G0 hH oM oM0
    by_cases hne : v = (m.funcs.length : Int)
    · subst hne
      have t1 : (((m.funcs.length : Int)) != (m.funcs.length : Int)) = false := by simp
      go_wp2
      go_quiet (fail)
      go_wp2
      go_loopw [25] (fun q wr => ∃ (k j : Nat) (cs : List Cod) (lv : Value), k ≤ m.funcs.length ∧ cs.length = k ∧ q = .int .i64 k ∧ Rd wr b s j n ∧ Kept (both b mb) w wr ∧ OB wr b mb ({ f with v8 := lv } : Fields).cells ∧
          isLst 92 2 (elCode s) (fun g => w.heap.size ≤ g) cs wr lv ∧ (cs = [] → lv = .slice none 0 0) ∧ listGo codeM s n m.funcs.length [] j0 = listGo codeM s n (m.funcs.length - k) cs j) (fun q _ => m.funcs.length - (intOf q).toNat)
      case atStart =>
        refine ⟨0, j0, [], .slice none 0 0, Nat.zero_le _, rfl, rfl, (hrd.alloc _).drewN _, (hk1.alloc _).drewN _, ?_, ⟨[], Row.nil _ _ _ _, trivial⟩, fun _ => rfl, rfl⟩
        have := ((HM1.out).alloc (.cells #[.int .u32 m.funcs.length, .int .i64 a] 62)).drewN nq
        rw [← hnil]
        exact this
      case round =>
        obtain ⟨k, j, ks, lv, hk, hl, rfl, hrd, hkp, hIr, hlst, hnl, hme⟩ := hrel
        subst hl
        have HE := hide hme
        clear hme
        obtain ⟨css, hrow, heach⟩ := hlst
        obtain ⟨pl, cl, rfl⟩ := Row.shape hrow
        obtain ⟨I8, J8⟩ := hIr.blk.twelve.2.2.2.1
        have HEA := hide heach
        clear heach
        have HNL := hide hnl
        clear hnl
        by_cases hlt : ks.length < m.funcs.length
        · have hlt' : (ks.length : Int) < (m.funcs.length : Int) := by omega
          cases hu : codeM s n j with
          | error qp =>
            obtain ⟨q, p⟩ := qp
            have HU := hide hu
            clear hu
            go_wp2_with fail
            refine (code_err hrd HU.out).mono ?_
            rintro e w2 ⟨rfl, hx2⟩
            exact ⟨rfl, OutS.err_mk (by simp [codesM, HO.out, HE.out, listGo_err (tM := codeM) (show 0 < m.funcs.length - ks.length by omega) HU.out]) (hkp.trans hx2.both_of)⟩
          | ok xj =>
            obtain ⟨x, j2⟩ := xj
            have HU := hide hu
            clear hu
            go_wp2_with fail
            refine (code_ok hrd HU.out).mono ?_
            rintro e w2 ⟨⟨px, cx, fx, rfl, hnew, hnit⟩, hrd2, hx2⟩
            have hbw := hrd.lt
            have hmbw : mb < w.heap.size := by omega
            have hne : mb ≠ b := hIr.ne
            have hmr : mb < wr.heap.size := hIr.lt
            have hrs := hx2.size
            obtain ⟨w4, hw4⟩ : ∃ w4, w4 = w2.alloc (.cells #[.slice px x.1.length cx, .func (.func 114) #[] #[.pointer (some ⟨fx, 0, none⟩)]] 92) := ⟨_, rfl⟩
            have ha4 : Kept (fun _ => False) w2 w4 := by rw [hw4]; exact (Kept.refl _ _).alloc _
            have hI4 : OB w4 b mb ({ f with v8 := .slice pl ks.length cl } : Fields).cells := by rw [hw4]; exact (hIr.call hx2).alloc _
            have hrd4 : Rd w4 b s j2 n := by rw [hw4]; exact hrd2.alloc _
            have hk4 : Kept (both b mb) w w4 := by rw [hw4]; exact (hkp.trans hx2.both_of).alloc _
            have hrow4 : Row (fun g => w.heap.size ≤ g) w4 92 2 (.slice pl ks.length cl) ks.length css.flatten := Row.kept (Row.kept hrow hx2 (fun g _ hg (e : g = b) => by have := h.lt; omega)) ha4 (fun _ _ _ c => c)
            have hs4 : w4.heap.size = w2.heap.size + 1 := by rw [hw4]; simp
            have hlt5 : w2.heap.size < w4.heap.size := by omega
            have c50 : w4.cell? ⟨w2.heap.size, 0, none⟩ = some (.slice px x.1.length cx) := by rw [hw4, World.cell?_alloc_new]; rfl
            have c51 : w4.cell? ⟨w2.heap.size, 1, none⟩ = some (.func (.func 114) #[] #[.pointer (some ⟨fx, 0, none⟩)]) := by rw [hw4, World.cell?_alloc_new]; rfl
            have hcw2 : mb < w4.heap.size := by omega
            have q8 : w4.cell? ⟨mb, 8, none⟩ = some (.slice pl ks.length cl) := by
              rw [hw4, World.cell?_alloc_lt _ _ _ (by simp only; omega)]
              exact (hx2.other hmr hne).trans I8
            have f8 : w4.frozen? ⟨mb, 8, none⟩ = false := by
              rw [hw4, World.frozen?_alloc_old _ _ _ (by simp only; omega)]
              exact (hx2.other_frozen hmr hne).trans J8
            have HEA2 : Hid (Each (fun y cs => elCode s (fun g => w.heap.size ≤ g) y w4 cs ∧ cs.length = 2) ks css) := HEA.out.to (fun y cs hh => ⟨(hh.1.kept hx2 (fun g _ hg (e : g = b) => by have := h.lt; omega)).kept ha4 (fun _ _ _ c => c), hh.2⟩)
            have hnew2 : Hid (elCode s (fun g => w.heap.size ≤ g) x w4 [.slice px x.1.length cx, .func (.func 114) #[] #[.pointer (some ⟨fx, 0, none⟩)]]) := elCode.kept ⟨_, _, rfl, Row.mono hnew (fun g _ hg => Nat.le_trans hkp.size hg), hnit.mono (fun g _ hg => Nat.le_trans hkp.size hg)⟩ ha4 (fun _ _ _ c => c)
            have hown : Hid ((w4.alloc (.cells #[.slice px x.1.length cx, .func (.func 114) #[] #[.pointer (some ⟨fx, 0, none⟩)]] 92)).drew.ownsRow w.heap.size 92 2 (.slice pl ks.length cl) ks.length css.flatten) := (Row.kept hrow4 (S := fun _ => False) (w' := (w4.alloc (.cells #[.slice px x.1.length cx, .func (.func 114) #[] #[.pointer (some ⟨fx, 0, none⟩)]] 92)).drew) (((Kept.refl _ _).alloc _).drew) (fun _ _ _ c => c)).toBase (fun g hg => hg)
            have q8a : (w4.alloc (.cells #[.slice px x.1.length cx, .func (.func 114) #[] #[.pointer (some ⟨fx, 0, none⟩)]] 92)).cell? ⟨mb, 8, none⟩ = some (.slice pl ks.length cl) := (World.cell?_alloc_lt _ _ _ hcw2).trans q8
            have f8a : (w4.alloc (.cells #[.slice px x.1.length cx, .func (.func 114) #[] #[.pointer (some ⟨fx, 0, none⟩)]] 92)).frozen? ⟨mb, 8, none⟩ = false := (World.frozen?_alloc_old _ _ _ (by simp only; omega)).trans f8
            clear hnew hnit HEA hrow hx2 hrd I8 J8 hrow4 ha4 hs4
            go_wp2_with fail
            rw [← hw4]
            clear hw4
            go_region_law (refine step_append_lies _ (by rfl) _ _ _ (by rfl) w.heap.size 92 i0 _ 2 32 Tryz.underlying48 hi0 hz0 hz1 hz2 rfl (by omega) (.slice pl ks.length cl) ks.length css.flatten (by rfl) hown.out ⟨w4.heap.size, 0, none⟩ 1 1 [.slice px x.1.length cx, .func (.func 114) #[] #[.pointer (some ⟨fx, 0, none⟩)]] (by rfl) (by rfl) (World.news_of_block (cs := #[.slice px x.1.length cx, .func (.func 114) #[] #[.pointer (some ⟨fx, 0, none⟩)]]) (t := 92) (fr := (0, 0)) (heap_alloc_new w4 _)) (by simp [Value.oneCell']) (by omega) (by unfold maxLen; omega) (by omega) (by have := hk4.size; simp at *; omega) (w4.heap.size + 1) (by simp) ?_; intro gg cap w3 hown3 hgrow hat hlt3; have hfar : some mb ≠ (Value.slice pl ks.length cl).ownBlock := fun e => absurd (hown.out.lt mb e.symm).1 (by omega); have q83 : w3.cell? ⟨mb, 8, none⟩ = some (.slice pl ks.length cl) := (hgrow.cell_far ⟨mb, 8, none⟩ (by simp; omega) hfar).trans q8a; have f83 : w3.frozen? ⟨mb, 8, none⟩ = false := (hgrow.frozen_far ⟨mb, 8, none⟩ (by simp; omega) hfar).trans f8a)
            all_goals
              have ho2 := hown.out
              have hrd3 := (grown_rd (hrd4.alloc _).drew ho2 h.lt hgrow).set_other (o := 8) hne (.slice (some ⟨gg, 0, none⟩) (ks.length + 1) cap)
              have hk3 := (grown_kept (hk4.alloc _).drew ho2 (Nat.le_refl _) hgrow).own2 (o := 8) (.slice (some ⟨gg, 0, none⟩) (ks.length + 1) cap)
              have hI3 := ((hI4.alloc (.cells #[.slice px x.1.length cx, .func (.func 114) #[] #[.pointer (some ⟨fx, 0, none⟩)]] 92)).drew.kept (Kept.of_grown hgrow) (fun e => hfar e.symm)).set 8 (.slice (some ⟨gg, 0, none⟩) (ks.length + 1) cap)
              have hlst3 : isLst 92 2 (elCode s) (fun g => w.heap.size ≤ g) (ks ++ [x]) (w3.setCell ⟨mb, 8, none⟩ (.slice (some ⟨gg, 0, none⟩) (ks.length + 1) cap)) (.slice (some ⟨gg, 0, none⟩) (ks.length + 1) cap) := by
                have hel : ∀ y cs, elCode s (fun g => w.heap.size ≤ g) y w4 cs → elCode s (fun g => w.heap.size ≤ g) y (w3.setCell ⟨mb, 8, none⟩ (.slice (some ⟨gg, 0, none⟩) (ks.length + 1) cap)) cs := fun y cs hy =>
                  ((hy.kept (((Kept.refl (fun _ => False) w4).alloc _).drew) (fun _ _ _ c => c)).grownT ho2 (by decide) (by decide) hgrow).kept (S := only mb) ((Kept.refl _ _).own _) (fun g _ hg (e : g = mb) => by omega)
                refine ⟨css ++ [[.slice px x.1.length cx, .func (.func 114) #[] #[.pointer (some ⟨fx, 0, none⟩)]]], ?_, ?_⟩
                · have q := Row.other (Row.ofBase (ok := fun g => w.heap.size ≤ g) hown3 (fun g hg _ => hg)) (g := mb) (o := 8) (fun k hk => by omega) (.slice (some ⟨gg, 0, none⟩) (ks.length + 1) cap)
                  simpa using q
                · exact Each.snoc (HEA2.out.to (fun y cs hh => ⟨hel y cs hh.1, hh.2⟩)) ⟨hel _ _ hnew2.out, rfl⟩
              have HH2 : Hid (listGo codeM s n m.funcs.length [] j0 = listGo codeM s n (m.funcs.length - (ks.length + 1)) (ks ++ [x]) j2) := HE.out.trans (listGo_ok (by omega) HU.out)
              have HR := hide hlst3
              have HI3 := hide hI3
              clear hlst3 hown3 hgrow hat hlt3 q83 f83 q8 f8 q8a f8a ho2 hI3 hrd2 hown
              go_wp2
              go_roundw
              case rel => exact ⟨ks.length + 1, j2, ks ++ [x], .slice (some ⟨gg, 0, none⟩) (ks.length + 1) cap, by omega, by simp, by go_num, hrd3, hk3, HI3.out, HR.out, fun e => by simp at e, HH2.out⟩
              case measure => simp [intOf]; omega
        · have HHH : Hid (listGo codeM s n m.funcs.length [] j0 = .ok (ks, j)) := by show _ = _; rw [HE.out, show m.funcs.length - ks.length = 0 by omega]; rfl
          go_wp2
          go_end0
          have hk0 := HH.out.kept hkp (fun g _ hg hh => hh.elim (fun e => by omega) (fun e => by omega))
          refine OutS.ok_mk (x := { m with codes := ks }) (j := j) (by simp [codesM, HO.out, HHH.out]) hkp ⟨rfl, { f with v8 := .slice pl ks.length cl }, hIr, ?_⟩ hrd
          exact ⟨hk0.h0, hk0.h1, hk0.h2, hk0.h3, hk0.h4, hk0.h5, hk0.h6, hk0.h7, ⟨css, Row.mono hrow (fun g _ hg => by omega), HEA.out.to (fun y cs hh => ⟨hh.1.mono (fun g _ hg => by omega), hh.2⟩)⟩, hk0.h9, hk0.h10, hk0.h11, hk0.nil6, HNL.out, hk0.nil11⟩
    · have t1 : (v != (m.funcs.length : Int)) = true := by simpa using hne
      have HN := hide hne
      clear hne
      go_wp2
      go_quiet (fail)
      go_wp2_with fail
      refine (refuse_any _ _).mono ?_
      rintro e w3 ⟨rfl, rfl⟩
      exact ⟨rfl, OutS.err_mk (by simp [codesM, HO.out, HN.out]) ((hk1.alloc _).drewN _)⟩

end Go.Proofs.YtgkpkngchploiaaGreat
/-
  inName, nameable, takeIndex, named.
-/
namespace Go.Proofs.YtgkpkngchploiaaGreat
open Go.RowKit

/-- May a byte be in a name? -/
def inNameB (x : Nat) : Bool := (decide (97 ≤ x) && decide (x ≤ 122)) || (decide (65 ≤ x) && decide (x ≤ 90)) || (decide (48 ≤ x) && decide (x ≤ 57)) || x == 95 || x == 46

set_option maxHeartbeats 800000 in
theorem inName_any (x : Nat) (w : World) : Calls Tryz.prog 117 #[.int .u8 (x : Nat)] w fun e w' => e = .returned (.bool (inNameB x)) ∧ w' = w := by
  have e1 : decide ((97 : Int) ≤ (x : Int)) = decide (97 ≤ x) := decide_eq_decide.2 (by omega)
  have e2 : decide ((x : Int) ≤ (122 : Int)) = decide (x ≤ 122) := decide_eq_decide.2 (by omega)
  have e3 : decide ((65 : Int) ≤ (x : Int)) = decide (65 ≤ x) := decide_eq_decide.2 (by omega)
  have e4 : decide ((x : Int) ≤ (90 : Int)) = decide (x ≤ 90) := decide_eq_decide.2 (by omega)
  have e5 : decide ((48 : Int) ≤ (x : Int)) = decide (48 ≤ x) := decide_eq_decide.2 (by omega)
  have e6 : decide ((x : Int) ≤ (57 : Int)) = decide (x ≤ 57) := decide_eq_decide.2 (by omega)
  have e7 : ((x : Int) == 95) = (x == 95) := by rw [Bool.eq_iff_iff]; simp; omega
  have e8 : ((x : Int) == 46) = (x == 46) := by rw [Bool.eq_iff_iff]; simp; omega
  have HH : Hid (inNameB x = ((decide ((97 : Int) ≤ (x : Int)) && decide ((x : Int) ≤ (122 : Int))) || (decide ((65 : Int) ≤ (x : Int)) && decide ((x : Int) ≤ (90 : Int))) || (decide ((48 : Int) ≤ (x : Int)) && decide ((x : Int) ≤ (57 : Int))) || (x : Int) == 95 || (x : Int) == 46)) := by
    show _ = _
    rw [e1, e2, e3, e4, e5, e6, e7, e8]; rfl
  clear e1 e2 e3 e4 e5 e6 e7 e8
  generalize (x : Int) = z at *
  cases t1 : decide ((97 : Int) ≤ z) <;> cases t2 : decide (z ≤ (122 : Int)) <;> cases t3 : decide ((65 : Int) ≤ z) <;> cases t4 : decide (z ≤ (90 : Int)) <;> cases t5 : decide ((48 : Int) ≤ z) <;> cases t6 : decide (z ≤ (57 : Int)) <;> cases t7 : (z == 95)
  all_goals first
    | (exfalso; simp at t1 t2 t3 t4 t5 t6 t7; omega)
    | skip
  all_goals
    have HV := hide (HH.out.trans (by rw [t1, t2, t3, t4, t5, t6, t7]))
    clear HH
    go_enter Tryz.func117, Tryz.ntmps117
    go_wp2
    go_ret
    exact ⟨by rw [HV.out]; rfl, rfl⟩

end Go.Proofs.YtgkpkngchploiaaGreat
/-
  Name, takeIndex, IndexOf.
-/
namespace Go.Proofs.YtgkpkngchploiaaGreat
open Go.RowKit

/-- May a text be a name? -/
def nameableB (t : ByteArray) : Bool := (tl t 0).all inNameB && t.size != 0

theorem all_yes {t : ByteArray} {k : Nat} (h : k < t.size) (hx : inNameB t[k].toNat = true) : (tl t k).all inNameB = (tl t (k + 1)).all inNameB := by
  rw [tl_cons h]; simp [hx]

theorem all_no {t : ByteArray} {k : Nat} (h : k < t.size) (hx : inNameB t[k].toNat = false) : (tl t k).all inNameB = false := by
  rw [tl_cons h]; simp [hx]

set_option maxHeartbeats 800000 in
theorem nameable_any (t : ByteArray) (w : World) (ht : t.size ≤ 20) : Calls Tryz.prog 106 #[.string t] w fun e w' => e = .returned (.bool (nameableB t)) ∧ w' = w := by
  have hnot : ∀ (x : Bool) (w : World), (Op.unary .not (.bool x)).run Tryz.prog w = .ok (.bool (!x)) w := fun _ _ => rfl
  have hle : (t.size : Int) ≤ 20 := by omega
  go_enter Tryz.func106, Tryz.ntmps106
  go_wp2
  go_loop [3, 6] (fun _ q => ∃ k : Nat, k ≤ t.size ∧ q = .int .i64 k ∧ (tl t 0).all inNameB = (tl t k).all inNameB) (fun _ q => t.size - (intOf q).toNat)
  case atStart => exact ⟨0, Nat.zero_le _, rfl, rfl⟩
  case round =>
    obtain ⟨k, hk, rfl, ha⟩ := hrel
    have HA := hide ha
    clear ha
    by_cases hlt : k < t.size
    · have hlt' : (k : Int) < (t.size : Int) := by omega
      cases hx : inNameB t[k].toNat with
      | true =>
        have HN := hide (HA.out.trans (all_yes hlt hx))
        have HX := hide hx
        clear hx
        go_wp2_with fail
        refine (inName_any _ _).mono ?_
        rintro e w3 ⟨rfl, rfl⟩
        rw [HX.out]
        go_wp2
        go_round
        case rel => exact ⟨k + 1, by omega, by go_num, HN.out⟩
        case measure => simp [intOf]; omega
      | false =>
        have HN := hide (HA.out.trans (all_no hlt hx))
        have HX := hide hx
        clear hx
        go_wp2_with fail
        refine (inName_any _ _).mono ?_
        rintro e w3 ⟨rfl, rfl⟩
        rw [HX.out]
        go_wp2
        go_ret
        exact ⟨by simp [nameableB, HN.out], rfl⟩
    · have HN : Hid ((tl t 0).all inNameB = true) := HA.out.trans (by rw [tl_end (by omega)]; rfl)
      by_cases h0 : t.size = 0
      · have HB : Hid (nameableB t = false) := by show _ = _; simp [nameableB, h0]
        have e0 : t = { data := #[] } := by
          have : t.data.size = 0 := h0
          cases t; rename_i d; congr; exact Array.eq_empty_of_size_eq_zero this
        subst e0
        go_wp2
        go_ret
        exact ⟨by rw [HB.out]; rfl, rfl⟩
      · have HB : Hid (nameableB t = true) := by show _ = _; unfold nameableB; rw [HN.out]; simpa using h0
        have hne : (t.toList.isEmpty) = false := by
          rw [ByteArray.toList_eq]
          cases hd : t.data.toList with
          | nil => exact absurd (show t.data.size = 0 by rw [← Array.length_toList, hd]; rfl) h0
          | cons a l => rfl
        go_wp2
        go_ret
        exact ⟨by rw [HB.out]; rfl, rfl⟩

/-- An index from least on, below end_. -/
def indexM (least end_ : Nat) (s : ByteArray) (n i : Nat) : Except Err (Nat × Nat) :=
  match uM s n i with
  | .error e => .error e
  | .ok ((v, a), j) => if v < (least : Int) ∨ (end_ : Int) ≤ v then .error (2, a) else .ok (v.toNat, j)

set_option maxHeartbeats 800000 in
theorem takeIndex_any {w : World} {b : Nat} {s : ByteArray} {i n : Nat} (least end_ : Nat) {z : Int} (hz : z = (least : Int)) (h : Rd w b s i n) (_hl : least ≤ 5000) (_he : end_ ≤ 5000) :
    Calls Tryz.prog 104 #[.pointer (some ⟨b, 0, none⟩), .int .i64 z, .int .i64 (end_ : Nat)] w (Out w b s n isInt (indexM least end_ s n i)) := by
  subst hz
  go_enter Tryz.func104, Tryz.ntmps104
  go_wp2_with fail
  refine (u_any h).mono ?_
  rintro e w1 ⟨hk, hok, herr⟩
  cases ho : uM s n i with
  | error qp =>
    obtain ⟨q, p⟩ := qp
    have hh := herr _ _ ho
    subst hh
    exact ⟨rfl, Out.err_mk (by simp [indexM, ho]) hk⟩
  | ok xj =>
    obtain ⟨⟨v, a⟩, j⟩ := xj
    obtain ⟨u, rfl, hv, hrd⟩ := hok _ _ ho
    have hv : u = .agg #[.int .u32 v, .int .i64 (a : Nat)] := hv
    subst hv
    obtain ⟨v0, v1, -, -, -⟩ := uM_facts ho
    clear hok herr
    by_cases h1 : v < (least : Int)
    · have t1 : decide (v < (least : Int)) = true := by simpa using h1
      have HH : Hid (indexM least end_ s n i = .error (2, a)) := by show _ = _; simp [indexM, ho, h1]
      clear ho h1
      go_wp2_with fail
      refine (refuse_any _ _).mono ?_
      rintro e w3 ⟨rfl, rfl⟩
      exact ⟨rfl, Out.err_mk HH.out (hk.alloc _)⟩
    · have t1 : decide (v < (least : Int)) = false := by simpa using h1
      by_cases h2 : (end_ : Int) ≤ v
      · have t2 : decide ((end_ : Int) ≤ v) = true := by simpa using h2
        have HH : Hid (indexM least end_ s n i = .error (2, a)) := by show _ = _; simp [indexM, ho, h2]
        clear ho h1
        go_wp2_with fail
        refine (refuse_any _ _).mono ?_
        rintro e w3 ⟨rfl, rfl⟩
        exact ⟨rfl, Out.err_mk HH.out (hk.alloc _)⟩
      · have t2 : decide ((end_ : Int) ≤ v) = false := by simpa using h2
        have HH : Hid (indexM least end_ s n i = .ok (v.toNat, j)) := by show _ = _; simp [indexM, ho, h1, h2]
        clear ho h1
        go_wp2
        go_ret
        exact Out.ok_mk HH.out (hk.alloc _) (by show Value.int _ _ = Value.int _ _; congr 1; omega) (hrd.alloc _)

theorem Tryz.info156 : (Tryz.prog.info? 156).map (fun i => (i.zero, i.size, i.bytes)) = some (some (.agg #[.int .i64 0, .string { data := #[] }]), 2, 24) := by kernel_rfl

def namedB (ns : List Nam) (t : ByteArray) : Bool := ns.any fun x => x.2.toList == t.toList

theorem Row.cells {ok : Nat → Prop} {w : World} {E : TypeId} {size : Nat} {v : Value} {n : Nat} {xs : List Value} (h : Row ok w E size v n xs) (hn : 0 < n) :
    ∃ g cap, v = .slice (some ⟨g, 0, none⟩) n cap ∧ ok g ∧ g < w.heap.size ∧ n ≤ cap ∧ ∀ i, i < n * size → w.cell? ⟨g, i, none⟩ = xs[i]? := by
  rcases h.own.2 with ⟨_, hz⟩ | ⟨g, cap, cur, rfl, _, hb, h1, h2, h3, h4⟩
  · omega
  · refine ⟨g, cap, rfl, h.at_ g rfl, (Array.getElem?_eq_some_iff.1 hb).1, h1, fun i hi => ?_⟩
    rw [← h4, List.getElem?_take_of_lt hi, Array.getElem?_toList]
    simp [World.cell?, hb]

theorem flat_get {α : Type} {f : α → List Value} {m : Nat} (hf : ∀ x, (f x).length = m) : ∀ {xs : List α} {k o : Nat} {x : α}, xs[k]? = some x → o < m → (xs.flatMap f)[k * m + o]? = (f x)[o]?
  | [], k, o, x, h, _ => by simp at h
  | y :: ys, 0, o, x, h, ho => by
    simp at h; subst h
    simp only [List.flatMap_cons]
    rw [List.getElem?_append_left (by rw [hf]; omega)]; simp
  | y :: ys, k + 1, o, x, h, ho => by
    simp at h
    simp only [List.flatMap_cons]
    rw [List.getElem?_append_right (by rw [hf, Nat.add_mul]; omega), hf, show (k + 1) * m + o - m = k * m + o by rw [Nat.add_mul]; omega]
    exact flat_get hf h ho

set_option maxHeartbeats 800000 in
theorem indexOf_any {w : World} {ok : Nat → Prop} {ns : List Nam} {v : Value} (t : ByteArray) (hr : isRow 156 2 namCells ok ns w v) (hn : ns.length ≤ 5000) : Calls Tryz.prog 105 #[v, .string t] w fun e w' => (∃ z : Int, e = .returned (.tuple #[.int .i64 z, .bool (namedB ns t)])) ∧ Kept (fun _ => False) w w' := by
  obtain ⟨p, c, rfl⟩ := Row.shape hr
  go_enter Tryz.func105, Tryz.ntmps105
  go_wp2
  go_loopw [10] (fun q wr => ∃ k : Nat, k ≤ ns.length ∧ q = .int .i64 k ∧ Kept (fun _ => False) w wr ∧ namedB ns t = namedB (ns.drop k) t) (fun q _ => ns.length - (intOf q).toNat)
  case atStart => exact ⟨0, Nat.zero_le _, rfl, Kept.refl _ _, rfl⟩
  case round =>
    obtain ⟨k, hk, rfl, hkp, ha⟩ := hrel
    have HA := hide ha
    clear ha
    by_cases hlt : k < ns.length
    · have hlt' : (k : Int) < (ns.length : Int) := by omega
      have hrr : isRow 156 2 namCells ok ns wr (.slice p ns.length c) := Row.kept hr hkp (fun _ _ _ hc => hc)
      obtain ⟨g, cap, hv, -, hgl, hcap, hcell⟩ := Row.cells hrr (by omega)
      cases hv
      have hx : ns[k]? = some ns[k] := List.getElem?_eq_getElem hlt
      have c0 : wr.cell? ⟨g, k * 2, none⟩ = some (.int .i64 (ns[k].1 : Nat)) := (hcell (k * 2) (by omega)).trans (flat_get (m := 2) (o := 0) (fun _ => rfl) hx (by omega))
      have c1 : wr.cell? ⟨g, k * 2 + 1, none⟩ = some (.string ns[k].2) := (hcell (k * 2 + 1) (by omega)).trans (flat_get (m := 2) (o := 1) (fun _ => rfl) hx (by omega))
      have hd : namedB (ns.drop k) t = (ns[k].2.toList == t.toList || namedB (ns.drop (k + 1)) t) := by rw [List.drop_eq_getElem_cons hlt]; rfl
      have HD := hide hd
      clear hcell hrr hr hx hd
      generalize ns[k] = x at *
      cases hx : (x.2.toList == t.toList) with
      | true =>
        have HN : Hid (namedB ns t = true) := HA.out.trans (HD.out.trans (by rw [hx]; rfl))
        go_wp2
        go_ret2
        exact ⟨⟨_, by rw [HN.out]; rfl⟩, hkp.alloc _⟩
      | false =>
        have HN : Hid (namedB ns t = namedB (ns.drop (k + 1)) t) := HA.out.trans (HD.out.trans (by rw [hx]; rfl))
        go_wp2
        go_roundw
        case rel => exact ⟨k + 1, by omega, by go_num, hkp.alloc _, HN.out⟩
        case measure => simp [intOf]; omega
    · have HN : Hid (namedB ns t = false) := HA.out.trans (by rw [List.drop_eq_nil_of_le (by omega)]; rfl)
      go_wp2
      go_ret2
      exact ⟨⟨_, by rw [HN.out]; rfl⟩, hkp⟩

end Go.Proofs.YtgkpkngchploiaaGreat
/-
  takeNamesOf.
-/
namespace Go.Proofs.YtgkpkngchploiaaGreat
open Go.RowKit

/-- One name: its index, its text. -/
def nameM (ns : List Nam) (least many : Nat) (s : ByteArray) (n i : Nat) : Except Err (Nam × Nat) :=
  match indexM least many s n i with
  | .error e => .error e
  | .ok (ix, j) =>
    match countM 20 s n j with
    | .error e => .error e
    | .ok (k, j2) =>
      match textM k s n j2 with
      | .error e => .error e
      | .ok (t, j3) => if nameableB t && !namedB ns t then .ok ((ix, t), j3) else .error (2, j)

def namesGo (many : Nat) (s : ByteArray) (n : Nat) : Nat → Nat → List Nam → Nat → Except Err (List Nam × Nat)
  | 0, _, acc, j => .ok (acc, j)
  | k + 1, least, acc, j => match nameM acc least many s n j with
    | .error e => .error e
    | .ok (x, j') => namesGo many s n k (x.1 + 1) (acc ++ [x]) j'

/-- Names of some of so many things. -/
def namesOfM (many : Nat) (s : ByteArray) (n i : Nat) : Except Err (List Nam × Nat) :=
  match countM many s n i with
  | .error e => .error e
  | .ok (k, j) => namesGo many s n k 0 [] j

theorem namesGo_err {many : Nat} {s : ByteArray} {n k least j : Nat} {acc : List Nam} {e : Err} (hk : 0 < k) (h : nameM acc least many s n j = .error e) : namesGo many s n k least acc j = .error e := by
  obtain ⟨m, rfl⟩ : ∃ m, k = m + 1 := ⟨k - 1, by omega⟩
  simp [namesGo, h]

theorem namesGo_ok {many : Nat} {s : ByteArray} {n k least j j' : Nat} {acc : List Nam} {x : Nam} (hk : 0 < k) (h : nameM acc least many s n j = .ok (x, j')) : namesGo many s n k least acc j = namesGo many s n (k - 1) (x.1 + 1) (acc ++ [x]) j' := by
  obtain ⟨m, rfl⟩ : ∃ m, k = m + 1 := ⟨k - 1, by omega⟩
  simp [namesGo, h]

theorem indexM_facts {least end_ : Nat} {s : ByteArray} {n i x j : Nat} (h : indexM least end_ s n i = .ok (x, j)) : least ≤ x ∧ x < end_ ∧ i < j ∧ j ≤ n := by
  unfold indexM at h
  cases ho : uM s n i with
  | error e => rw [ho] at h; cases h
  | ok xj =>
    obtain ⟨⟨v, a⟩, j2⟩ := xj
    rw [ho] at h
    have := uM_facts ho
    simp only at h
    split at h
    · cases h
    · cases h; omega

theorem textM_size {k : Nat} {s : ByteArray} {n i j : Nat} {t : ByteArray} (h : textM k s n i = .ok (t, j)) : t.size ≤ k := by
  unfold textM at h
  split at h
  · cases h
  · cases h; simp; omega

set_option maxRecDepth 100000 in
set_option maxHeartbeats 1600000 in
theorem takeNamesOf_any {w : World} {b : Nat} {s : ByteArray} {i n : Nat} (many : Nat) (h : Rd w b s i n) (hm : many ≤ 1000) :
    Calls Tryz.prog 77 #[.pointer (some ⟨b, 0, none⟩), .int .i64 (many : Nat)] w (Out w b s n (isRow 156 2 namCells (fun g => w.heap.size ≤ g)) (namesOfM many s n i)) := by
  obtain ⟨i0, hi0, hz0, hz1, hz2⟩ := info_parts Tryz.info156
  have hnot : ∀ (x : Bool) (w : World), (Op.unary .not (.bool x)).run Tryz.prog w = .ok (.bool (!x)) w := fun _ _ => rfl
  go_enter Tryz.func77, Tryz.ntmps77
  go_wp2_with fail
  refine (count_any many h (by omega)).mono ?_
  rintro e w1 ⟨hk1, hok, herr⟩
  cases ho : countM many s n i with
  | error qp =>
    obtain ⟨q, p⟩ := qp
    have he := herr _ _ ho
    subst he
    exact ⟨rfl, Out.err_mk (by simp [namesOfM, ho]) hk1⟩
  | ok xj =>
    obtain ⟨cnt, j0⟩ := xj
    obtain ⟨u, rfl, hv, hrd⟩ := hok _ _ ho
    have hv : u = .int .i64 (cnt : Nat) := hv
    subst hv
    have hcnt := (countM_facts ho).1
    have HM : Hid (namesOfM many s n i = namesGo many s n cnt 0 [] j0) := by show _ = _; simp [namesOfM, ho]
    clear hok herr ho
    go_wp2
    go_loopw [5, 6, 15] (fun v z q wr => ∃ (k j least : Nat) (ks : List Nam), k ≤ cnt ∧ ks.length = k ∧ least ≤ many ∧ z = .int .i64 (least : Nat) ∧ q = .int .i64 k ∧ Rd wr b s j n ∧ Kept (only b) w wr ∧ isRow 156 2 namCells (fun g => w.heap.size ≤ g) ks wr v ∧ namesOfM many s n i = namesGo many s n (cnt - k) least ks j) (fun _ _ q _ => cnt - (intOf q).toNat)
    case atStart => exact ⟨0, j0, 0, [], Nat.zero_le _, rfl, Nat.zero_le _, rfl, rfl, hrd, hk1, Row.nil _ _ _ _, HM.out⟩
    case round =>
      obtain ⟨k, j, least, ks, hk, hl, hle, rfl, rfl, hrd, hkp, hrow, hme⟩ := hrel
      subst hl
      obtain ⟨pl, cl, rfl⟩ := Row.shape hrow
      have HE := hide hme
      clear hme HM hk1
      by_cases hlt : ks.length < cnt
      · have hlt' : (ks.length : Int) < (cnt : Int) := by omega
        have HRow := hide hrow
        clear hrow
        go_wp2_with fail
        refine (takeIndex_any least many rfl hrd (by omega) (by omega)).mono ?_
        rintro e w2 ⟨hk2, hok, herr⟩
        have hk3 := hkp.trans hk2
        have HR2 := hide (Row.call HRow.out hk2 (fun k hk => by have := h.lt; omega))
        clear hk2 hkp HRow
        cases ho : indexM least many s n j with
        | error qp =>
          obtain ⟨q, p⟩ := qp
          have he := herr _ _ ho
          subst he
          exact ⟨rfl, Out.err_mk (HE.out.trans (namesGo_err (by omega) (by simp [nameM, ho]))) hk3⟩
        | ok xj =>
          obtain ⟨ix, j2⟩ := xj
          obtain ⟨u, rfl, hv, hrd2⟩ := hok _ _ ho
          have hv : u = .int .i64 (ix : Nat) := hv
          subst hv
          obtain ⟨hi1, hi2, -, -⟩ := indexM_facts ho
          have HO1 := hide ho
          clear hok herr ho hrd
          go_wp2_with fail
          refine (at_any hrd2).mono ?_
          rintro e w0 ⟨rfl, rfl⟩
          go_wp2_with fail
          refine (count_any 20 hrd2 (by omega)).mono ?_
          rintro e w3 ⟨hk4, hok, herr⟩
          have hk5 := hk3.trans hk4
          have HR3 := hide (Row.call HR2.out hk4 (fun k hk => by have := h.lt; omega))
          clear hk4 hk3 HR2
          cases ho : countM 20 s n j2 with
          | error qp =>
            obtain ⟨q, p⟩ := qp
            have he := herr _ _ ho
            subst he
            exact ⟨rfl, Out.err_mk (HE.out.trans (namesGo_err (by omega) (by simp [nameM, HO1.out, ho]))) hk5⟩
          | ok xj =>
            obtain ⟨kn, j3⟩ := xj
            obtain ⟨u, rfl, hv, hrd3⟩ := hok _ _ ho
            have hv : u = .int .i64 (kn : Nat) := hv
            subst hv
            have hkn := (countM_facts ho).1
            have HO2 := hide ho
            clear hok herr ho hrd2
            go_wp2_with fail
            refine (text_any kn hrd3 (by omega)).mono ?_
            rintro e w4 ⟨hk6, hok, herr⟩
            have hk7 := hk5.trans hk6
            have HR4 := hide (Row.call HR3.out hk6 (fun k hk => by have := h.lt; omega))
            clear hk6 hk5 HR3
            cases ho : textM kn s n j3 with
            | error qp =>
              obtain ⟨q, p⟩ := qp
              have he := herr _ _ ho
              subst he
              exact ⟨rfl, Out.err_mk (HE.out.trans (namesGo_err (by omega) (by simp [nameM, HO1.out, HO2.out, ho]))) hk7⟩
            | ok xj =>
              obtain ⟨t, j4⟩ := xj
              obtain ⟨u, rfl, hv, hrd4⟩ := hok _ _ ho
              have hv : u = .string t := hv
              subst hv
              have htz : t.size ≤ kn := textM_size ho
              have HO3 := hide ho
              clear hok herr ho hrd3
              go_wp2_with fail
              refine (indexOf_any t HR4.out (by omega)).mono ?_
              rintro e w5 ⟨⟨zi, rfl⟩, hk8⟩
              have hk9 := hk7.trans (hk8.mono (fun _ _ hc => hc.elim))
              have hrd5 := hrd4.kept hk8 (fun hc => hc)
              have hrow5 : isRow 156 2 namCells (fun g => w.heap.size ≤ g) ks w5 (.slice pl ks.length cl) := Row.kept HR4.out hk8 (fun _ _ _ hc => hc)
              clear hk8 hk7 HR4 hrd4
              cases hnd : namedB ks t with
              | true =>
                have HND := hide hnd
                go_wp2_with fail
                refine (refuse_any _ _).mono ?_
                rintro e w6 ⟨rfl, rfl⟩
                exact ⟨rfl, Out.err_mk (HE.out.trans (namesGo_err (by omega) (by simp [nameM, HO1.out, HO2.out, HO3.out, HND.out]))) hk9⟩
              | false =>
                have HND := hide hnd
                clear hnd
                have HRW := hide hrow5
                clear hrow5
                go_wp2_with fail
                refine (nameable_any t _ (by omega)).mono ?_
                rintro e w6 ⟨rfl, hw6⟩
                obtain rfl := hw6.symm
                cases hna : nameableB t with
                | false =>
                  have HNA := hide hna
                  clear hna
                  go_wp2_with fail
                  refine (refuse_any _ _).mono ?_
                  rintro e w6 ⟨rfl, rfl⟩
                  exact ⟨rfl, Out.err_mk (HE.out.trans (namesGo_err (by omega) (by simp [nameM, HO1.out, HO2.out, HO3.out, HNA.out]))) hk9⟩
                | true =>
                  have HNA := hide hna
                  clear hna
                  have hrow5 := HRW.out
                  have HH : Hid (namesOfM many s n i = namesGo many s n (cnt - (ks.length + 1)) (ix + 1) (ks ++ [(ix, t)]) j4) := HE.out.trans (namesGo_ok (by omega) (show nameM ks least many s n j = .ok ((ix, t), j4) by simp [nameM, HO1.out, HO2.out, HO3.out, HNA.out, HND.out]))
                  have hown := (hrow5.toBase (fun g hg => hg)).alloc (.cells #[.int .i64 (ix : Nat), .string t] 156)
                  have HW := hide hown
                  have hsz := hk9.size
                  clear hown hrow5
                  go_wp2_with (at_builtin; refine wpList_append_own _ rfl _ _ 50 rfl w.heap.size 156 i0 (.agg #[.int .i64 0, .string { data := #[] }]) 2 24 Tryz.underlying50 hi0 hz0 hz1 hz2 rfl (by decide) _ _ _ rfl HW.out ⟨w5.heap.size, 0, none⟩ 1 1 [.int .i64 (ix : Nat), .string t] rfl rfl ?c1 ?c2 ?c3 ?c4 ?c5 ?_)
                  case c1 => exact cells_at rfl rfl
                  case c2 => intro u hu; simp at hu; rcases hu with rfl | rfl <;> rfl
                  case c3 => unfold maxLen; omega
                  case c4 => omega
                  case c5 => simp; omega
                  intro v' w6 hown' hgrow _
                  have hk10 := grown_kept (hk9.alloc _) HW.out (Nat.le_refl _) hgrow
                  have hrd6 := grown_rd (hrd5.alloc _) HW.out h.lt hgrow
                  have hrow6 : isRow 156 2 namCells (fun g => w.heap.size ≤ g) (ks ++ [(ix, t)]) w6 v' := by
                    have := Row.ofBase (ok := fun g => w.heap.size ≤ g) hown' (fun g hg _ => hg)
                    simpa [isRow, namCells] using this
                  have HR := hide hrow6
                  clear hown' hgrow hrow6 HW
                  go_wp2
                  go_roundw
                  case rel => exact ⟨ks.length + 1, j4, ix + 1, ks ++ [(ix, t)], by omega, by simp, by omega, by go_num, by go_num, hrd6, hk10, HR.out, HH.out⟩
                  case measure => simp [intOf]; omega
      · have HH : Hid (namesOfM many s n i = .ok (ks, j)) := by show _ = _; rw [HE.out, show cnt - ks.length = 0 by omega]; rfl
        go_wp2
        go_ret
        exact Out.ok_mk HH.out hkp hrow hrd

end Go.Proofs.YtgkpkngchploiaaGreat
/-
  Params, takeLocalNames.
-/
namespace Go.Proofs.YtgkpkngchploiaaGreat
open Go.RowKit

/-- The kinds that go into a function. -/
def Mdl.params (m : Mdl) (f : Nat) : List Nat :=
  match m.funcs[f]? with
  | none => []
  | some x => match m.types[x.1.toNat]? with
    | none => []
    | some t => t.ins

theorem Each.flat {α : Type} {P : α → List Value → Prop} {m : Nat} : ∀ {xs : List α} {css : List (List Value)} {k o : Nat} {cs : List Value}, Each (fun x c => P x c ∧ c.length = m) xs css → css[k]? = some cs → o < m → css.flatten[k * m + o]? = cs[o]?
  | [], [], k, o, cs, _, h, _ => by simp at h
  | _ :: _, y :: ys, 0, o, cs, he, h, ho => by
    simp at h; subst h
    simp only [List.flatten_cons]
    rw [List.getElem?_append_left (by rw [he.1.2]; omega)]; simp
  | _ :: _, y :: ys, k + 1, o, cs, he, h, ho => by
    simp at h
    simp only [List.flatten_cons]
    rw [List.getElem?_append_right (by rw [he.1.2, Nat.add_mul]; omega), he.1.2, show (k + 1) * m + o - m = k * m + o by rw [Nat.add_mul]; omega]
    exact Each.flat he.2 h ho
  | [], _ :: _, _, _, _, h, _, _ => h.elim
  | _ :: _, [], _, _, _, h, _, _ => h.elim

set_option maxRecDepth 100000 in
set_option maxHeartbeats 1600000 in
theorem params_any {w : World} {b mb : Nat} {s : ByteArray} {ok : Nat → Prop} {m : Mdl} (f : Nat) (hm : ModAt s ok w b mb m) (hf : f < m.funcs.length) (hu : ∀ x ∈ m.funcs, 0 ≤ x.1 ∧ x.1 ≤ 4294967295) (ht : m.types.length ≤ 20) (hfl : m.funcs.length ≤ 20) :
    Calls Tryz.prog 107 #[.pointer (some ⟨mb, 0, none⟩), .int .i64 (f : Nat)] w fun e w' => ∃ v, e = .returned v ∧ isKinds ok (m.params f) w v ∧ w' = w := by
  obtain ⟨F, oM, hH⟩ := hm
  obtain ⟨g1, c1, hv1, -, hg1, hc1, hcell1⟩ := Row.cells hH.h1 (by omega)
  obtain ⟨⟨F0, G0⟩, ⟨F1, G1⟩, -⟩ := oM.blk.twelve.1
  have hx : m.funcs[f]? = some m.funcs[f] := List.getElem?_eq_getElem hf
  have d0 : w.cell? ⟨g1, f * 2, none⟩ = some (.int .u32 m.funcs[f].1) := (hcell1 (f * 2) (by omega)).trans (flat_get (m := 2) (o := 0) (fun _ => rfl) hx (by omega))
  have hfi : (f : Int) < (m.funcs.length : Int) := by omega
  obtain ⟨u0, u1⟩ := hu m.funcs[f] (List.getElem_mem hf)
  have hpar : m.params f = (match m.types[m.funcs[f].1.toNat]? with | none => [] | some t => t.ins) := by simp [Mdl.params, hx]
  have HP := hide hpar
  rw [hv1] at F1
  generalize m.funcs[f].1 = ix at *
  have H0 := hide hH.h0
  obtain ⟨css, hrow0, heach⟩ := hH.h0
  obtain ⟨p0, c0, hv0⟩ := Row.shape hrow0
  rw [hv0] at F0 hrow0
  clear hcell1 hH hpar hx oM hv1
  have HEA := hide heach
  clear heach
  obtain ⟨kx, rfl⟩ : ∃ kx : Nat, ix = (kx : Int) := ⟨ix.toNat, by omega⟩
  by_cases hlt : (kx : Int) < (m.types.length : Int)
  · obtain ⟨g0, c0', hv, -, hg0, hc0, hcell0⟩ := Row.cells hrow0 (by omega)
    cases hv
    have hk : kx < m.types.length := by omega
    have hy : m.types[kx]? = some m.types[kx] := List.getElem?_eq_getElem hk
    obtain ⟨cs, hcs, ⟨⟨vi, vo, hvv, hki, hko⟩, hl2⟩⟩ := HEA.out.get hy
    subst hvv
    obtain ⟨pi, ci, rfl⟩ := Row.shape hki
    have e0 : w.cell? ⟨g0, kx * 2, none⟩ = some (.slice pi m.types[kx].ins.length ci) := (hcell0 (kx * 2) (by omega)).trans (Each.flat (o := 0) HEA.out hcs (by omega))
    have HK : Hid (isKinds ok (m.params f) w (.slice pi m.types[kx].ins.length ci)) := by show isKinds _ _ _ _; rw [HP.out]; simp [hy]; exact hki
    clear hcell0 hki hko hrow0 HEA HP hcs hy H0 hu
    generalize m.types[kx].ins.length = nn at *
    go_enter Tryz.func107, Tryz.ntmps107
    go_wp2
    go_ret
    exact ⟨_, rfl, HK.out, rfl⟩
  · have HK : Hid (isKinds ok (m.params f) w (.slice none 0 0)) := by
      show isKinds _ _ _ _
      rw [HP.out, List.getElem?_eq_none (by simp; omega)]
      exact Row.nil _ _ _ _
    clear HEA HP H0 hu hrow0
    go_enter Tryz.func107, Tryz.ntmps107
    go_wp2
    go_ret
    exact ⟨_, rfl, HK.out, rfl⟩

def manyOf (m : Mdl) (f : Nat) : Nat := (m.params f).length + ((m.codes[f]?).map (fun c => c.1.length)).getD 0

/-- The names of one function's params and locals. -/
def locM (m : Mdl) (least : Nat) (s : ByteArray) (n i : Nat) : Except Err ((Nat × List Nam) × Nat) :=
  match indexM least m.funcs.length s n i with
  | .error e => .error e
  | .ok (f, j) =>
    match namesOfM (manyOf m f) s n j with
    | .error e => .error e
    | .ok (ns, j2) => .ok ((f, ns), j2)

def locGo (m : Mdl) (s : ByteArray) (n : Nat) : Nat → Nat → List (Nat × List Nam) → Nat → Except Err (List (Nat × List Nam) × Nat)
  | 0, _, acc, j => .ok (acc, j)
  | k + 1, least, acc, j => match locM m least s n j with
    | .error e => .error e
    | .ok (x, j') => locGo m s n k (x.1 + 1) (acc ++ [x]) j'

def localNamesM (m : Mdl) (s : ByteArray) (n i : Nat) : Except Err (Mdl × Nat) :=
  match countM m.funcs.length s n i with
  | .error e => .error e
  | .ok (k, j) =>
    match locGo m s n k 0 [] j with
    | .error e => .error e
    | .ok (xs, j2) => .ok ({ m with nlocals := xs }, j2)

theorem locGo_err {m : Mdl} {s : ByteArray} {n k least j : Nat} {acc : List (Nat × List Nam)} {e : Err} (hk : 0 < k) (h : locM m least s n j = .error e) : locGo m s n k least acc j = .error e := by
  obtain ⟨m, rfl⟩ : ∃ m, k = m + 1 := ⟨k - 1, by omega⟩
  simp [locGo, h]

theorem locGo_ok {m : Mdl} {s : ByteArray} {n k least j j' : Nat} {acc : List (Nat × List Nam)} {x : Nat × List Nam} (hk : 0 < k) (h : locM m least s n j = .ok (x, j')) : locGo m s n k least acc j = locGo m s n (k - 1) (x.1 + 1) (acc ++ [x]) j' := by
  obtain ⟨m, rfl⟩ : ∃ m, k = m + 1 := ⟨k - 1, by omega⟩
  simp [locGo, h]

theorem namesOf_ok {w : World} {b : Nat} {s : ByteArray} {i n : Nat} {z : Int} {x : List Nam} {j : Nat} (many : Nat) (hz : z = (many : Int)) (h : Rd w b s i n) (hm : many ≤ 1000) (hu : namesOfM many s n i = .ok (x, j)) :
    Calls Tryz.prog 77 #[.pointer (some ⟨b, 0, none⟩), .int .i64 z] w fun e w' => (∃ p c, e = .returned (.slice p x.length c) ∧ isRow 156 2 namCells (fun g => w.heap.size ≤ g) x w' (.slice p x.length c)) ∧ Rd w' b s j n ∧ Kept (only b) w w' := by
  subst hz
  refine (takeNamesOf_any many h hm).mono ?_
  rintro e w1 ⟨hk, hok, herr⟩
  obtain ⟨u, rfl, hlv, hrd⟩ := hok _ _ hu
  obtain ⟨p, c, rfl⟩ := Row.shape hlv
  exact ⟨⟨p, c, rfl, hlv⟩, hrd, hk⟩

theorem namesOf_err {w : World} {b : Nat} {s : ByteArray} {i n : Nat} {z : Int} {q p : Nat} (many : Nat) (hz : z = (many : Int)) (h : Rd w b s i n) (hm : many ≤ 1000) (hu : namesOfM many s n i = .error (q, p)) :
    Calls Tryz.prog 77 #[.pointer (some ⟨b, 0, none⟩), .int .i64 z] w fun e w' => e = gaveUp q p ∧ Kept (only b) w w' := by
  subst hz
  refine (takeNamesOf_any many h hm).mono ?_
  rintro e w1 ⟨hk, hok, herr⟩
  exact ⟨herr _ _ hu, hk⟩

theorem Tryz.info159 : (Tryz.prog.info? 159).map (fun i => (i.zero, i.size, i.bytes)) = some (some (.agg #[.int .i64 0, .slice none 0 0]), 2, 32) := by kernel_rfl

end Go.Proofs.YtgkpkngchploiaaGreat
