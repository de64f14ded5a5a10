import Derived.Test.YtdebefkekkjilaaGreatDoorKA
import Derived.Test.YtdebefkekkjilaaGreatDoorKB
import Derived.Test.YtdebefkekkjilaaGreatDoorKC0
import Derived.Test.YtdebefkekkjilaaGreatDoorKC1
import Derived.Test.YtdebefkekkjilaaGreatDoorKC2
import Derived.Test.YtdebefkekkjilaaGreatDoorKC3
import Derived.Test.YtdebefkekkjilaaGreatDoorKC4
import Derived.Test.YtdebefkekkjilaaGreatDoorKC5
import Derived.Test.YtdebefkekkjilaaGreatDoorKC6
import Derived.Test.YtdebefkekkjilaaGreatDoorKC7
import Derived.Test.YtdebefkekkjilaaGreatDoorKC8
import Derived.Test.YtdebefkekkjilaaGreatDoorKC9
import Derived.Test.YtdebefkekkjilaaGreatDoorKC10
import Derived.Test.YtdebefkekkjilaaGreatDoorKC11
import Derived.Test.YtdebefkekkjilaaGreatDoorKC12
import Derived.Test.YtdebefkekkjilaaGreatDoorKC13
import Derived.Test.YtdebefkekkjilaaGreatDoorKC14
import Derived.Test.YtdebefkekkjilaaGreatDoorKC15
import Derived.Test.YtdebefkekkjilaaGreatDoorKC16
import Derived.Test.YtdebefkekkjilaaGreatDoorKC17
import Derived.Test.YtdebefkekkjilaaGreatDoorKC18
import Derived.Test.YtdebefkekkjilaaGreatDoorKC19
import Derived.Test.YtdebefkekkjilaaGreatDoorKC20
import Derived.Test.YtdebefkekkjilaaGreatDoorB3
import Derived.Test.YtdebefkekkjilaaGreatDoorB2
import Derived.Test.YtdebefkekkjilaaGreatDoorB4
import Derived.KernelRfl
namespace Go.Proofs.YtdebefkekkjilaaGreatDoor
open Go.Deep Go.Lib Go.Proofs Go.Proofs.YtdebefkekkjilaaGreatDoor


theorem of_true {p : Prop} (h : p = True) : p := by rw [h]; trivial
theorem cs_mem {a n p : Nat} (h : a ≤ p ∧ p < a + n) : [(13, Value.int .i64 (Int.ofNat p))] ∈ csOf a n := List.mem_map.2 ⟨p, List.mem_range'_1.2 h, rfl⟩
theorem cs_all {a n : Nat} {Y : Cx} : ∀ q ∈ csOf a n, ∀ x ∈ q, x.1 < 188 ∧ ∃ u, VR Y x.2 u := by
  intro q hq x hx
  obtain ⟨p, _, rfl⟩ := List.mem_map.1 hq
  rw [List.mem_singleton] at hx
  subst hx
  exact ⟨(show 13 < 188 by decide), _, rfl⟩

section
variable {P : Program} {T : Tab} {e : Env} {X0 Y : Cx} {s0 s : AS} {W w : World} {a : Act}
theorem tail_ok {fn : Func} {rt : TV} {c : Code} {p lo n : Nat} (hE : EnvOK P Y.ρ T e none) (hR : Rel Y s w) (hX : Ext X0 s0 W Y s w) (ha : AAR Y ⟨rt, 188, []⟩ a) (h13 : a.tmps[13]? = some (.int .i64 (Int.ofNat p))) (h : cases (csOf lo n) c fn P T e rt 188 s) (hp : lo ≤ p ∧ p < lo + n) :
    c.wpIn (Fw none) 0 P (bodyPost P fn (Good X0 s0 W)) a w := by
  have := cases_ok (fn := fn) hE hR ha (p := [(13, .int .i64 (Int.ofNat p))]) (fun q hq => by rw [List.mem_singleton] at hq; subst hq; exact ⟨_, h13, rfl⟩) h cs_all (cs_mem hp)
  have hmono : ∀ (e : Ending) (w2 : World), Good Y s w e w2 → Good X0 s0 W e w2 := fun e w2 ⟨g1, Z, s2, g2⟩ => ⟨g1, Z, s2, hX.trans g2⟩
  exact Code.wpIn_mono (fun x a2 w2 h2 => by
    cases x <;> first
      | exact h2.elim
      | exact ⟨h2.1, h2.2.choose, h2.2.choose_spec.1, hmono _ _ h2.2.choose_spec.2⟩
      | exact ⟨h2.1, hmono _ _ h2.2⟩
      | exact hmono _ _ h2) this
end

theorem prog_ok : ProgOK Tryz.prog := ⟨by kernel_rfl, fun f fn h => by
  have hall : (Tryz.prog.funcs.toList.all fun fn => !(fn.name == "runtime.NumGoroutine")) = true := by kernel_rfl
  rw [List.all_eq_true] at hall
  have := hall fn (by simpa using Array.mem_of_getElem? h)
  simpa using this⟩

def gOf (at_ grow : Int) : Nat → Int
  | 1 => at_
  | 2 => grow
  | 4 => pickv grow 4
  | 5 => pickv at_ 138
  | 6 => pickv at_ 202
  | 7 => pickv at_ 266
  | _ => 0

theorem envS_ok {n at_ grow : Int} (hn : -9223372036854775808 ≤ n ∧ n < 9223372036854775808) (h1 : -9223372036854775808 ≤ at_) (h2 : -9223372036854775808 ≤ grow) : EnvOK Tryz.prog (rhoD n (gOf at_ grow)) dT envS none := by
  have hT : TabOK Tryz.prog (rhoD n (gOf at_ grow)) dT := dT_ok hn
  have hg := go_ok prog_ok hT noop_ok 60
  refine ⟨prog_ok, hT, orc_ok hg.1 (picks_ok prog_ok noop_ok pick_run) (fun e he => ?_), hg.2, rfl⟩
  simp only [dPicks, List.mem_cons, List.not_mem_nil, or_false] at he
  have l3 : ∀ i, num (rhoD n (gOf at_ grow)) .i64 (rhoD n (gOf at_ grow) i) (L3 i) := fun i => .inr ⟨.f64, 3, i, rfl, rfl, rfl⟩
  rcases he with rfl | rfl | rfl | rfl
  · exact ⟨by decide, grow, h2, l3 2, l3 4⟩
  · exact ⟨by decide, at_, h1, l3 1, l3 5⟩
  · exact ⟨by decide, at_, h1, l3 1, l3 6⟩
  · exact ⟨by decide, at_, h1, l3 1, l3 7⟩

theorem pickv_lt (c : Int) (m : Nat) (hm : 0 < m) : ∃ p : Nat, p < m ∧ pickv c m = Int.ofNat p := by
  unfold pickv
  have h0 : 0 ≤ (if c < 0 then -(c + 1) else c) := by split <;> omega
  rw [Int.tmod_eq_emod_of_nonneg h0]
  refine ⟨((if c < 0 then -(c + 1) else c) % m).toNat, ?_, ?_⟩
  · have := Int.emod_lt_of_pos (if c < 0 then -(c + 1) else c) (show (0 : Int) < m by omega)
    have := Int.emod_nonneg (if c < 0 then -(c + 1) else c) (show (m : Int) ≠ 0 by omega)
    omega
  · have := Int.emod_nonneg (if c < 0 then -(c + 1) else c) (show (m : Int) ≠ 0 by omega)
    exact (Int.toNat_of_nonneg this).symm

theorem mem_hA {ty : Nat → TypeId} {id : Nat} {b : AB} (h : getT (hA ty) id = some b) : getT (h0 ty) id = some b ∨ (id, b) ∈ blA := by
  have hm := getT_mem h
  have hL : toL (hA ty) = [(0, (hb0 ty)), (1, (hb1 ty)), (7, (hb7 ty)), (3599, aA3599), (3591, aA3591), (4135, aA4135), (4151, aA4151), (3575, aA3575), (4131, aA4131), (5, (hb5 ty)), (3997, aA3997), (2, (hb2 ty)), (4, (hb4 ty)), (8, (hb8 ty)), (4064, aA4064), (4040, aA4040), (4108, aA4108), (3596, aA3596), (4156, aA4156), (3580, aA3580), (6, (hb6 ty)), (4098, aA4098), (3562, aA3562), (4074, aA4074), (4154, aA4154), (4030, aA4030)] := rfl
  rw [hL] at hm
  simp only [List.mem_cons, List.not_mem_nil, or_false, Prod.mk.injEq] at hm
  rcases hm with ⟨rfl, rfl⟩ | ⟨rfl, rfl⟩ | ⟨rfl, rfl⟩ | ⟨rfl, rfl⟩ | ⟨rfl, rfl⟩ | ⟨rfl, rfl⟩ | ⟨rfl, rfl⟩ | ⟨rfl, rfl⟩ | ⟨rfl, rfl⟩ | ⟨rfl, rfl⟩ | ⟨rfl, rfl⟩ | ⟨rfl, rfl⟩ | ⟨rfl, rfl⟩ | ⟨rfl, rfl⟩ | ⟨rfl, rfl⟩ | ⟨rfl, rfl⟩ | ⟨rfl, rfl⟩ | ⟨rfl, rfl⟩ | ⟨rfl, rfl⟩ | ⟨rfl, rfl⟩ | ⟨rfl, rfl⟩ | ⟨rfl, rfl⟩ | ⟨rfl, rfl⟩ | ⟨rfl, rfl⟩ | ⟨rfl, rfl⟩ | ⟨rfl, rfl⟩
  · exact .inl rfl
  · exact .inl rfl
  · exact .inl rfl
  · exact .inr (List.mem_of_getElem? (i := 1) rfl)
  · exact .inr (List.mem_of_getElem? (i := 9) rfl)
  · exact .inr (List.mem_of_getElem? (i := 2) rfl)
  · exact .inr (List.mem_of_getElem? (i := 3) rfl)
  · exact .inr (List.mem_of_getElem? (i := 8) rfl)
  · exact .inr (List.mem_of_getElem? (i := 11) rfl)
  · exact .inl rfl
  · exact .inr (List.mem_of_getElem? (i := 10) rfl)
  · exact .inl rfl
  · exact .inl rfl
  · exact .inl rfl
  · exact .inr (List.mem_of_getElem? (i := 12) rfl)
  · exact .inr (List.mem_of_getElem? (i := 15) rfl)
  · exact .inr (List.mem_of_getElem? (i := 16) rfl)
  · exact .inr (List.mem_of_getElem? (i := 7) rfl)
  · exact .inr (List.mem_of_getElem? (i := 0) rfl)
  · exact .inr (List.mem_of_getElem? (i := 6) rfl)
  · exact .inl rfl
  · exact .inr (List.mem_of_getElem? (i := 17) rfl)
  · exact .inr (List.mem_of_getElem? (i := 5) rfl)
  · exact .inr (List.mem_of_getElem? (i := 13) rfl)
  · exact .inr (List.mem_of_getElem? (i := 4) rfl)
  · exact .inr (List.mem_of_getElem? (i := 14) rfl)
theorem mem_hB0 {ty : Nat → TypeId} {id : Nat} {b : AB} (h : getT (hB0 ty) id = some b) : getT (h0 ty) id = some b ∨ (id, b) ∈ blB0 := by
  have hm := getT_mem h
  have hL : toL (hB0 ty) = [(0, (hb0 ty)), (1, (hb1 ty)), (7, (hb7 ty)), (3599, aB03599), (3591, aB03591), (4135, aB04135), (4151, aB04151), (3575, aB03575), (4131, aB04131), (5, (hb5 ty)), (3997, aB03997), (4157, aB04157), (2, (hb2 ty)), (4, (hb4 ty)), (8, (hb8 ty)), (4064, aB04064), (4040, aB04040), (4108, aB04108), (3596, aB03596), (4156, aB04156), (3580, aB03580), (6, (hb6 ty)), (4098, aB04098), (3562, aB03562), (4074, aB04074), (4154, aB04154), (4030, aB04030)] := rfl
  rw [hL] at hm
  simp only [List.mem_cons, List.not_mem_nil, or_false, Prod.mk.injEq] at hm
  rcases hm with ⟨rfl, rfl⟩ | ⟨rfl, rfl⟩ | ⟨rfl, rfl⟩ | ⟨rfl, rfl⟩ | ⟨rfl, rfl⟩ | ⟨rfl, rfl⟩ | ⟨rfl, rfl⟩ | ⟨rfl, rfl⟩ | ⟨rfl, rfl⟩ | ⟨rfl, rfl⟩ | ⟨rfl, rfl⟩ | ⟨rfl, rfl⟩ | ⟨rfl, rfl⟩ | ⟨rfl, rfl⟩ | ⟨rfl, rfl⟩ | ⟨rfl, rfl⟩ | ⟨rfl, rfl⟩ | ⟨rfl, rfl⟩ | ⟨rfl, rfl⟩ | ⟨rfl, rfl⟩ | ⟨rfl, rfl⟩ | ⟨rfl, rfl⟩ | ⟨rfl, rfl⟩ | ⟨rfl, rfl⟩ | ⟨rfl, rfl⟩ | ⟨rfl, rfl⟩ | ⟨rfl, rfl⟩
  · exact .inl rfl
  · exact .inl rfl
  · exact .inl rfl
  · exact .inr (List.mem_of_getElem? (i := 2) rfl)
  · exact .inr (List.mem_of_getElem? (i := 10) rfl)
  · exact .inr (List.mem_of_getElem? (i := 3) rfl)
  · exact .inr (List.mem_of_getElem? (i := 4) rfl)
  · exact .inr (List.mem_of_getElem? (i := 9) rfl)
  · exact .inr (List.mem_of_getElem? (i := 12) rfl)
  · exact .inl rfl
  · exact .inr (List.mem_of_getElem? (i := 11) rfl)
  · exact .inr (List.mem_of_getElem? (i := 0) rfl)
  · exact .inl rfl
  · exact .inl rfl
  · exact .inl rfl
  · exact .inr (List.mem_of_getElem? (i := 13) rfl)
  · exact .inr (List.mem_of_getElem? (i := 16) rfl)
  · exact .inr (List.mem_of_getElem? (i := 17) rfl)
  · exact .inr (List.mem_of_getElem? (i := 8) rfl)
  · exact .inr (List.mem_of_getElem? (i := 1) rfl)
  · exact .inr (List.mem_of_getElem? (i := 7) rfl)
  · exact .inl rfl
  · exact .inr (List.mem_of_getElem? (i := 18) rfl)
  · exact .inr (List.mem_of_getElem? (i := 6) rfl)
  · exact .inr (List.mem_of_getElem? (i := 14) rfl)
  · exact .inr (List.mem_of_getElem? (i := 5) rfl)
  · exact .inr (List.mem_of_getElem? (i := 15) rfl)
theorem mem_hB1 {ty : Nat → TypeId} {id : Nat} {b : AB} (h : getT (hB1 ty) id = some b) : getT (h0 ty) id = some b ∨ (id, b) ∈ blB1 := by
  have hm := getT_mem h
  have hL : toL (hB1 ty) = [(0, (hb0 ty)), (1, (hb1 ty)), (7, (hb7 ty)), (3599, aB13599), (4175, aB14175), (3591, aB13591), (4135, aB14135), (4151, aB14151), (3575, aB13575), (4131, aB14131), (5, (hb5 ty)), (3997, aB13997), (4157, aB14157), (2, (hb2 ty)), (4, (hb4 ty)), (8, (hb8 ty)), (4064, aB14064), (4040, aB14040), (4108, aB14108), (3596, aB13596), (4156, aB14156), (3580, aB13580), (6, (hb6 ty)), (4098, aB14098), (3562, aB13562), (4074, aB14074), (4030, aB14030)] := rfl
  rw [hL] at hm
  simp only [List.mem_cons, List.not_mem_nil, or_false, Prod.mk.injEq] at hm
  rcases hm with ⟨rfl, rfl⟩ | ⟨rfl, rfl⟩ | ⟨rfl, rfl⟩ | ⟨rfl, rfl⟩ | ⟨rfl, rfl⟩ | ⟨rfl, rfl⟩ | ⟨rfl, rfl⟩ | ⟨rfl, rfl⟩ | ⟨rfl, rfl⟩ | ⟨rfl, rfl⟩ | ⟨rfl, rfl⟩ | ⟨rfl, rfl⟩ | ⟨rfl, rfl⟩ | ⟨rfl, rfl⟩ | ⟨rfl, rfl⟩ | ⟨rfl, rfl⟩ | ⟨rfl, rfl⟩ | ⟨rfl, rfl⟩ | ⟨rfl, rfl⟩ | ⟨rfl, rfl⟩ | ⟨rfl, rfl⟩ | ⟨rfl, rfl⟩ | ⟨rfl, rfl⟩ | ⟨rfl, rfl⟩ | ⟨rfl, rfl⟩ | ⟨rfl, rfl⟩ | ⟨rfl, rfl⟩
  · exact .inl rfl
  · exact .inl rfl
  · exact .inl rfl
  · exact .inr (List.mem_of_getElem? (i := 2) rfl)
  · exact .inr (List.mem_of_getElem? (i := 5) rfl)
  · exact .inr (List.mem_of_getElem? (i := 10) rfl)
  · exact .inr (List.mem_of_getElem? (i := 3) rfl)
  · exact .inr (List.mem_of_getElem? (i := 4) rfl)
  · exact .inr (List.mem_of_getElem? (i := 9) rfl)
  · exact .inr (List.mem_of_getElem? (i := 12) rfl)
  · exact .inl rfl
  · exact .inr (List.mem_of_getElem? (i := 11) rfl)
  · exact .inr (List.mem_of_getElem? (i := 0) rfl)
  · exact .inl rfl
  · exact .inl rfl
  · exact .inl rfl
  · exact .inr (List.mem_of_getElem? (i := 13) rfl)
  · exact .inr (List.mem_of_getElem? (i := 16) rfl)
  · exact .inr (List.mem_of_getElem? (i := 17) rfl)
  · exact .inr (List.mem_of_getElem? (i := 8) rfl)
  · exact .inr (List.mem_of_getElem? (i := 1) rfl)
  · exact .inr (List.mem_of_getElem? (i := 7) rfl)
  · exact .inl rfl
  · exact .inr (List.mem_of_getElem? (i := 18) rfl)
  · exact .inr (List.mem_of_getElem? (i := 6) rfl)
  · exact .inr (List.mem_of_getElem? (i := 14) rfl)
  · exact .inr (List.mem_of_getElem? (i := 15) rfl)
theorem mem_hB2 {ty : Nat → TypeId} {id : Nat} {b : AB} (h : getT (hB2 ty) id = some b) : getT (h0 ty) id = some b ∨ (id, b) ∈ blB2 := by
  have hm := getT_mem h
  have hL : toL (hB2 ty) = [(0, (hb0 ty)), (1, (hb1 ty)), (7, (hb7 ty)), (3599, aB23599), (4175, aB24175), (3591, aB23591), (4135, aB24135), (4151, aB24151), (3575, aB23575), (4131, aB24131), (5, (hb5 ty)), (3997, aB23997), (4157, aB24157), (2, (hb2 ty)), (4, (hb4 ty)), (8, (hb8 ty)), (4064, aB24064), (4040, aB24040), (4108, aB24108), (3596, aB23596), (4156, aB24156), (3580, aB23580), (6, (hb6 ty)), (4098, aB24098), (3562, aB23562), (4074, aB24074), (4030, aB24030)] := rfl
  rw [hL] at hm
  simp only [List.mem_cons, List.not_mem_nil, or_false, Prod.mk.injEq] at hm
  rcases hm with ⟨rfl, rfl⟩ | ⟨rfl, rfl⟩ | ⟨rfl, rfl⟩ | ⟨rfl, rfl⟩ | ⟨rfl, rfl⟩ | ⟨rfl, rfl⟩ | ⟨rfl, rfl⟩ | ⟨rfl, rfl⟩ | ⟨rfl, rfl⟩ | ⟨rfl, rfl⟩ | ⟨rfl, rfl⟩ | ⟨rfl, rfl⟩ | ⟨rfl, rfl⟩ | ⟨rfl, rfl⟩ | ⟨rfl, rfl⟩ | ⟨rfl, rfl⟩ | ⟨rfl, rfl⟩ | ⟨rfl, rfl⟩ | ⟨rfl, rfl⟩ | ⟨rfl, rfl⟩ | ⟨rfl, rfl⟩ | ⟨rfl, rfl⟩ | ⟨rfl, rfl⟩ | ⟨rfl, rfl⟩ | ⟨rfl, rfl⟩ | ⟨rfl, rfl⟩ | ⟨rfl, rfl⟩
  · exact .inl rfl
  · exact .inl rfl
  · exact .inl rfl
  · exact .inr (List.mem_of_getElem? (i := 2) rfl)
  · exact .inr (List.mem_of_getElem? (i := 5) rfl)
  · exact .inr (List.mem_of_getElem? (i := 10) rfl)
  · exact .inr (List.mem_of_getElem? (i := 3) rfl)
  · exact .inr (List.mem_of_getElem? (i := 4) rfl)
  · exact .inr (List.mem_of_getElem? (i := 9) rfl)
  · exact .inr (List.mem_of_getElem? (i := 12) rfl)
  · exact .inl rfl
  · exact .inr (List.mem_of_getElem? (i := 11) rfl)
  · exact .inr (List.mem_of_getElem? (i := 0) rfl)
  · exact .inl rfl
  · exact .inl rfl
  · exact .inl rfl
  · exact .inr (List.mem_of_getElem? (i := 13) rfl)
  · exact .inr (List.mem_of_getElem? (i := 16) rfl)
  · exact .inr (List.mem_of_getElem? (i := 17) rfl)
  · exact .inr (List.mem_of_getElem? (i := 8) rfl)
  · exact .inr (List.mem_of_getElem? (i := 1) rfl)
  · exact .inr (List.mem_of_getElem? (i := 7) rfl)
  · exact .inl rfl
  · exact .inr (List.mem_of_getElem? (i := 18) rfl)
  · exact .inr (List.mem_of_getElem? (i := 6) rfl)
  · exact .inr (List.mem_of_getElem? (i := 14) rfl)
  · exact .inr (List.mem_of_getElem? (i := 15) rfl)
theorem mem_hB3 {ty : Nat → TypeId} {id : Nat} {b : AB} (h : getT (hB3 ty) id = some b) : getT (h0 ty) id = some b ∨ (id, b) ∈ blB3 := by
  have hm := getT_mem h
  have hL : toL (hB3 ty) = [(0, (hb0 ty)), (1, (hb1 ty)), (7, (hb7 ty)), (3599, aB33599), (3591, aB33591), (4135, aB34135), (4151, aB34151), (3575, aB33575), (4131, aB34131), (5, (hb5 ty)), (3997, aB33997), (4157, aB34157), (2, (hb2 ty)), (4, (hb4 ty)), (8, (hb8 ty)), (4064, aB34064), (4040, aB34040), (4108, aB34108), (3596, aB33596), (4156, aB34156), (3580, aB33580), (6, (hb6 ty)), (4098, aB34098), (3562, aB33562), (4074, aB34074), (4154, aB34154), (4030, aB34030)] := rfl
  rw [hL] at hm
  simp only [List.mem_cons, List.not_mem_nil, or_false, Prod.mk.injEq] at hm
  rcases hm with ⟨rfl, rfl⟩ | ⟨rfl, rfl⟩ | ⟨rfl, rfl⟩ | ⟨rfl, rfl⟩ | ⟨rfl, rfl⟩ | ⟨rfl, rfl⟩ | ⟨rfl, rfl⟩ | ⟨rfl, rfl⟩ | ⟨rfl, rfl⟩ | ⟨rfl, rfl⟩ | ⟨rfl, rfl⟩ | ⟨rfl, rfl⟩ | ⟨rfl, rfl⟩ | ⟨rfl, rfl⟩ | ⟨rfl, rfl⟩ | ⟨rfl, rfl⟩ | ⟨rfl, rfl⟩ | ⟨rfl, rfl⟩ | ⟨rfl, rfl⟩ | ⟨rfl, rfl⟩ | ⟨rfl, rfl⟩ | ⟨rfl, rfl⟩ | ⟨rfl, rfl⟩ | ⟨rfl, rfl⟩ | ⟨rfl, rfl⟩ | ⟨rfl, rfl⟩ | ⟨rfl, rfl⟩
  · exact .inl rfl
  · exact .inl rfl
  · exact .inl rfl
  · exact .inr (List.mem_of_getElem? (i := 2) rfl)
  · exact .inr (List.mem_of_getElem? (i := 10) rfl)
  · exact .inr (List.mem_of_getElem? (i := 3) rfl)
  · exact .inr (List.mem_of_getElem? (i := 4) rfl)
  · exact .inr (List.mem_of_getElem? (i := 9) rfl)
  · exact .inr (List.mem_of_getElem? (i := 12) rfl)
  · exact .inl rfl
  · exact .inr (List.mem_of_getElem? (i := 11) rfl)
  · exact .inr (List.mem_of_getElem? (i := 0) rfl)
  · exact .inl rfl
  · exact .inl rfl
  · exact .inl rfl
  · exact .inr (List.mem_of_getElem? (i := 13) rfl)
  · exact .inr (List.mem_of_getElem? (i := 16) rfl)
  · exact .inr (List.mem_of_getElem? (i := 17) rfl)
  · exact .inr (List.mem_of_getElem? (i := 8) rfl)
  · exact .inr (List.mem_of_getElem? (i := 1) rfl)
  · exact .inr (List.mem_of_getElem? (i := 7) rfl)
  · exact .inl rfl
  · exact .inr (List.mem_of_getElem? (i := 18) rfl)
  · exact .inr (List.mem_of_getElem? (i := 6) rfl)
  · exact .inr (List.mem_of_getElem? (i := 14) rfl)
  · exact .inr (List.mem_of_getElem? (i := 5) rfl)
  · exact .inr (List.mem_of_getElem? (i := 15) rfl)

theorem reg_of {Y : Cx} {a : Act} {l : List (Nat × Value)} (h : ∀ p ∈ l, ∃ u, a.tmps[p.1]? = some u ∧ VR Y p.2 u) {r : Nat} {v : Value} (hm : (r, v) ∈ l) : ∃ u, a.tmps[r]? = some u ∧ VR Y v u := h _ hm

set_option maxRecDepth 100000 in
theorem stored_wp {n at_ grow : Int} (hn : -9223372036854775808 ≤ n ∧ n < 9223372036854775808) (h1 : -9223372036854775808 ≤ at_) (h2 : -9223372036854775808 ≤ grow) {W : World} {X : Cx} {ty : Nat → TypeId} (hX : X.ρ = rhoD n (gOf at_ grow)) (hR : Rel X ⟨h0 ty, 11⟩ W) {c : Code} (hb : Tryz.f3.body = some c) {a : Act} {t : TV} (ha : AAR X ⟨t, 188, []⟩ a)
    (hA : evCode (preC 6 c) Tryz.prog dT envS ⟨t, 188, []⟩ ⟨h0 ty, 11⟩ (atSeg 188 nxA rgA blA) (fun _ _ _ => False)) : c.wpIn (Fw none) 0 Tryz.prog (bodyPost Tryz.prog Tryz.f3 (Good X ⟨h0 ty, 11⟩ W)) a W := by
  have hE : ∀ Y : Cx, Y.ρ = X.ρ → EnvOK Tryz.prog Y.ρ dT envS none := fun Y hY => by rw [hY, hX]; exact envS_ok hn h1 h2
  refine seg_ok (k := 6) (X0 := X) (s0 := ⟨h0 ty, 11⟩) (W := W) (hE X rfl) hR (fun b => start_fr b) hA hR (Ext.refl _ _ _) ha (fun id b h => mem_hA h) (fun Y a1 w1 e1 k1 k2 k3 k4 k5 => ?_)
  obtain ⟨g, hg, hg'⟩ := pickv_lt grow 4 (by decide)
  have r10 : a1.tmps[10]? = some (.int .i64 (Int.ofNat g)) := by
    obtain ⟨u, q1, q2⟩ := reg_of k3 (r := 10) (v := .complex .f64 3 4) (List.mem_of_getElem? (i := 4) rfl)
    rw [q1, VR_complex.1 q2, e1, hX]
    exact congrArg (fun z => some (Value.int .i64 z)) hg'
  have hcase : g = 0 ∨ g = 1 ∨ g = 2 ∨ g = 3 := by omega
  rcases hcase with rfl | rfl | rfl | rfl
  · have aA : AAR Y ⟨rtA0, 188, []⟩ a1 := regs_AAR k4 k5 (fun p hp => by
      have hL : toL rtA0 = [(0, (.complex .f64 3 0)), (1, (.complex .f64 3 1)), (9, (.int .i64 (.ofNat 128))), (8, (.pointer (some ⟨4156, 0, none⟩))), (10, (.int .i64 0))] := rfl
      rw [hL] at hp
      simp only [List.mem_cons, List.not_mem_nil, or_false] at hp
      rcases hp with rfl | rfl | rfl | rfl | rfl
      · exact k3 _ (List.mem_of_getElem? (i := 0) rfl)
      · exact k3 _ (List.mem_of_getElem? (i := 1) rfl)
      · exact k3 _ (List.mem_of_getElem? (i := 3) rfl)
      · exact k3 _ (List.mem_of_getElem? (i := 2) rfl)
      · exact ⟨_, r10, rfl⟩)
    obtain ⟨c', hb', kb⟩ := ok_ex (of_true (kB0 ty))
    rw [hb] at hb'
    cases hb'
    refine seg_ok (k := 3) (X0 := X) (s0 := ⟨h0 ty, 11⟩) (W := W) (hE Y e1) hR (fun b => start_fr b) kb k1 k2 aA (fun id b h => mem_hB0 h) (fun Z a2 w2 e2 q1 q2 q3 q4 q5 => ?_)
    obtain ⟨p, hp, hp'⟩ := pickv_lt at_ 138 (by decide)
    have r13 : a2.tmps[13]? = some (.int .i64 (Int.ofNat p)) := by
      obtain ⟨u, y1, y2⟩ := reg_of q3 (r := 13) (v := .complex .f64 3 5) (List.mem_of_getElem? (i := 4) rfl)
      rw [y1, VR_complex.1 y2, e2, e1, hX]
      exact congrArg (fun z => some (Value.int .i64 z)) hp'
    have aB : AAR Z ⟨rtB0, 188, []⟩ a2 := regs_AAR q4 q5 (fun p hp => by
      have hL : toL rtB0 = [(0, (.complex .f64 3 0)), (9, (.int .i64 (.ofNat 128))), (13, (.complex .f64 3 5)), (8, (.pointer (some ⟨4156, 0, none⟩))), (12, (.bool true))] := rfl
      rw [hL] at hp
      simp only [List.mem_cons, List.not_mem_nil, or_false] at hp
      rcases hp with rfl | rfl | rfl | rfl | rfl
      · exact q3 _ (List.mem_of_getElem? (i := 0) rfl)
      · exact q3 _ (List.mem_of_getElem? (i := 2) rfl)
      · exact q3 _ (List.mem_of_getElem? (i := 4) rfl)
      · exact q3 _ (List.mem_of_getElem? (i := 1) rfl)
      · exact q3 _ (List.mem_of_getElem? (i := 3) rfl))
    have hEZ := hE Z (e2.trans e1)
    by_cases hc0 : p < 40
    · obtain ⟨c', hb', kc⟩ := ok_ex (of_true (kC0 ty)); rw [hb] at hb'; cases hb'; exact tail_ok (lo := 0) (n := 40) hEZ q1 q2 aB r13 kc (by omega)
    by_cases hc1 : p < 80
    · obtain ⟨c', hb', kc⟩ := ok_ex (of_true (kC1 ty)); rw [hb] at hb'; cases hb'; exact tail_ok (lo := 40) (n := 40) hEZ q1 q2 aB r13 kc (by omega)
    by_cases hc2 : p < 120
    · obtain ⟨c', hb', kc⟩ := ok_ex (of_true (kC2 ty)); rw [hb] at hb'; cases hb'; exact tail_ok (lo := 80) (n := 40) hEZ q1 q2 aB r13 kc (by omega)
    obtain ⟨c', hb', kc⟩ := ok_ex (of_true (kC3 ty)); rw [hb] at hb'; cases hb'; exact tail_ok (lo := 120) (n := 18) hEZ q1 q2 aB r13 kc (by omega)
  · have aA : AAR Y ⟨rtA1, 188, []⟩ a1 := regs_AAR k4 k5 (fun p hp => by
      have hL : toL rtA1 = [(0, (.complex .f64 3 0)), (1, (.complex .f64 3 1)), (9, (.int .i64 (.ofNat 128))), (8, (.pointer (some ⟨4156, 0, none⟩))), (10, (.int .i64 1))] := rfl
      rw [hL] at hp
      simp only [List.mem_cons, List.not_mem_nil, or_false] at hp
      rcases hp with rfl | rfl | rfl | rfl | rfl
      · exact k3 _ (List.mem_of_getElem? (i := 0) rfl)
      · exact k3 _ (List.mem_of_getElem? (i := 1) rfl)
      · exact k3 _ (List.mem_of_getElem? (i := 3) rfl)
      · exact k3 _ (List.mem_of_getElem? (i := 2) rfl)
      · exact ⟨_, r10, rfl⟩)
    obtain ⟨c', hb', kb⟩ := ok_ex (of_true (kB1 ty))
    rw [hb] at hb'
    cases hb'
    refine seg_ok (k := 3) (X0 := X) (s0 := ⟨h0 ty, 11⟩) (W := W) (hE Y e1) hR (fun b => start_fr b) kb k1 k2 aA (fun id b h => mem_hB1 h) (fun Z a2 w2 e2 q1 q2 q3 q4 q5 => ?_)
    obtain ⟨p, hp, hp'⟩ := pickv_lt at_ 202 (by decide)
    have r13 : a2.tmps[13]? = some (.int .i64 (Int.ofNat p)) := by
      obtain ⟨u, y1, y2⟩ := reg_of q3 (r := 13) (v := .complex .f64 3 6) (List.mem_of_getElem? (i := 4) rfl)
      rw [y1, VR_complex.1 y2, e2, e1, hX]
      exact congrArg (fun z => some (Value.int .i64 z)) hp'
    have aB : AAR Z ⟨rtB1, 188, []⟩ a2 := regs_AAR q4 q5 (fun p hp => by
      have hL : toL rtB1 = [(0, (.complex .f64 3 0)), (9, (.int .i64 (.ofNat 192))), (13, (.complex .f64 3 6)), (8, (.pointer (some ⟨4156, 0, none⟩))), (12, (.bool true))] := rfl
      rw [hL] at hp
      simp only [List.mem_cons, List.not_mem_nil, or_false] at hp
      rcases hp with rfl | rfl | rfl | rfl | rfl
      · exact q3 _ (List.mem_of_getElem? (i := 0) rfl)
      · exact q3 _ (List.mem_of_getElem? (i := 2) rfl)
      · exact q3 _ (List.mem_of_getElem? (i := 4) rfl)
      · exact q3 _ (List.mem_of_getElem? (i := 1) rfl)
      · exact q3 _ (List.mem_of_getElem? (i := 3) rfl))
    have hEZ := hE Z (e2.trans e1)
    by_cases hc0 : p < 40
    · obtain ⟨c', hb', kc⟩ := ok_ex (of_true (kC4 ty)); rw [hb] at hb'; cases hb'; exact tail_ok (lo := 0) (n := 40) hEZ q1 q2 aB r13 kc (by omega)
    by_cases hc1 : p < 80
    · obtain ⟨c', hb', kc⟩ := ok_ex (of_true (kC5 ty)); rw [hb] at hb'; cases hb'; exact tail_ok (lo := 40) (n := 40) hEZ q1 q2 aB r13 kc (by omega)
    by_cases hc2 : p < 120
    · obtain ⟨c', hb', kc⟩ := ok_ex (of_true (kC6 ty)); rw [hb] at hb'; cases hb'; exact tail_ok (lo := 80) (n := 40) hEZ q1 q2 aB r13 kc (by omega)
    by_cases hc3 : p < 160
    · obtain ⟨c', hb', kc⟩ := ok_ex (of_true (kC7 ty)); rw [hb] at hb'; cases hb'; exact tail_ok (lo := 120) (n := 40) hEZ q1 q2 aB r13 kc (by omega)
    by_cases hc4 : p < 200
    · obtain ⟨c', hb', kc⟩ := ok_ex (of_true (kC8 ty)); rw [hb] at hb'; cases hb'; exact tail_ok (lo := 160) (n := 40) hEZ q1 q2 aB r13 kc (by omega)
    obtain ⟨c', hb', kc⟩ := ok_ex (of_true (kC9 ty)); rw [hb] at hb'; cases hb'; exact tail_ok (lo := 200) (n := 2) hEZ q1 q2 aB r13 kc (by omega)
  · have aA : AAR Y ⟨rtA2, 188, []⟩ a1 := regs_AAR k4 k5 (fun p hp => by
      have hL : toL rtA2 = [(0, (.complex .f64 3 0)), (1, (.complex .f64 3 1)), (9, (.int .i64 (.ofNat 128))), (8, (.pointer (some ⟨4156, 0, none⟩))), (10, (.int .i64 2))] := rfl
      rw [hL] at hp
      simp only [List.mem_cons, List.not_mem_nil, or_false] at hp
      rcases hp with rfl | rfl | rfl | rfl | rfl
      · exact k3 _ (List.mem_of_getElem? (i := 0) rfl)
      · exact k3 _ (List.mem_of_getElem? (i := 1) rfl)
      · exact k3 _ (List.mem_of_getElem? (i := 3) rfl)
      · exact k3 _ (List.mem_of_getElem? (i := 2) rfl)
      · exact ⟨_, r10, rfl⟩)
    obtain ⟨c', hb', kb⟩ := ok_ex (of_true (kB2 ty))
    rw [hb] at hb'
    cases hb'
    refine seg_ok (k := 3) (X0 := X) (s0 := ⟨h0 ty, 11⟩) (W := W) (hE Y e1) hR (fun b => start_fr b) kb k1 k2 aA (fun id b h => mem_hB2 h) (fun Z a2 w2 e2 q1 q2 q3 q4 q5 => ?_)
    obtain ⟨p, hp, hp'⟩ := pickv_lt at_ 266 (by decide)
    have r13 : a2.tmps[13]? = some (.int .i64 (Int.ofNat p)) := by
      obtain ⟨u, y1, y2⟩ := reg_of q3 (r := 13) (v := .complex .f64 3 7) (List.mem_of_getElem? (i := 4) rfl)
      rw [y1, VR_complex.1 y2, e2, e1, hX]
      exact congrArg (fun z => some (Value.int .i64 z)) hp'
    have aB : AAR Z ⟨rtB2, 188, []⟩ a2 := regs_AAR q4 q5 (fun p hp => by
      have hL : toL rtB2 = [(0, (.complex .f64 3 0)), (9, (.int .i64 (.ofNat 256))), (13, (.complex .f64 3 7)), (8, (.pointer (some ⟨4156, 0, none⟩))), (12, (.bool true))] := rfl
      rw [hL] at hp
      simp only [List.mem_cons, List.not_mem_nil, or_false] at hp
      rcases hp with rfl | rfl | rfl | rfl | rfl
      · exact q3 _ (List.mem_of_getElem? (i := 0) rfl)
      · exact q3 _ (List.mem_of_getElem? (i := 2) rfl)
      · exact q3 _ (List.mem_of_getElem? (i := 4) rfl)
      · exact q3 _ (List.mem_of_getElem? (i := 1) rfl)
      · exact q3 _ (List.mem_of_getElem? (i := 3) rfl))
    have hEZ := hE Z (e2.trans e1)
    by_cases hc0 : p < 40
    · obtain ⟨c', hb', kc⟩ := ok_ex (of_true (kC10 ty)); rw [hb] at hb'; cases hb'; exact tail_ok (lo := 0) (n := 40) hEZ q1 q2 aB r13 kc (by omega)
    by_cases hc1 : p < 80
    · obtain ⟨c', hb', kc⟩ := ok_ex (of_true (kC11 ty)); rw [hb] at hb'; cases hb'; exact tail_ok (lo := 40) (n := 40) hEZ q1 q2 aB r13 kc (by omega)
    by_cases hc2 : p < 120
    · obtain ⟨c', hb', kc⟩ := ok_ex (of_true (kC12 ty)); rw [hb] at hb'; cases hb'; exact tail_ok (lo := 80) (n := 40) hEZ q1 q2 aB r13 kc (by omega)
    by_cases hc3 : p < 160
    · obtain ⟨c', hb', kc⟩ := ok_ex (of_true (kC13 ty)); rw [hb] at hb'; cases hb'; exact tail_ok (lo := 120) (n := 40) hEZ q1 q2 aB r13 kc (by omega)
    by_cases hc4 : p < 200
    · obtain ⟨c', hb', kc⟩ := ok_ex (of_true (kC14 ty)); rw [hb] at hb'; cases hb'; exact tail_ok (lo := 160) (n := 40) hEZ q1 q2 aB r13 kc (by omega)
    by_cases hc5 : p < 240
    · obtain ⟨c', hb', kc⟩ := ok_ex (of_true (kC15 ty)); rw [hb] at hb'; cases hb'; exact tail_ok (lo := 200) (n := 40) hEZ q1 q2 aB r13 kc (by omega)
    obtain ⟨c', hb', kc⟩ := ok_ex (of_true (kC16 ty)); rw [hb] at hb'; cases hb'; exact tail_ok (lo := 240) (n := 26) hEZ q1 q2 aB r13 kc (by omega)
  · have aA : AAR Y ⟨rtA3, 188, []⟩ a1 := regs_AAR k4 k5 (fun p hp => by
      have hL : toL rtA3 = [(0, (.complex .f64 3 0)), (1, (.complex .f64 3 1)), (9, (.int .i64 (.ofNat 128))), (8, (.pointer (some ⟨4156, 0, none⟩))), (10, (.int .i64 3))] := rfl
      rw [hL] at hp
      simp only [List.mem_cons, List.not_mem_nil, or_false] at hp
      rcases hp with rfl | rfl | rfl | rfl | rfl
      · exact k3 _ (List.mem_of_getElem? (i := 0) rfl)
      · exact k3 _ (List.mem_of_getElem? (i := 1) rfl)
      · exact k3 _ (List.mem_of_getElem? (i := 3) rfl)
      · exact k3 _ (List.mem_of_getElem? (i := 2) rfl)
      · exact ⟨_, r10, rfl⟩)
    obtain ⟨c', hb', kb⟩ := ok_ex (of_true (kB3 ty))
    rw [hb] at hb'
    cases hb'
    refine seg_ok (k := 3) (X0 := X) (s0 := ⟨h0 ty, 11⟩) (W := W) (hE Y e1) hR (fun b => start_fr b) kb k1 k2 aA (fun id b h => mem_hB3 h) (fun Z a2 w2 e2 q1 q2 q3 q4 q5 => ?_)
    obtain ⟨p, hp, hp'⟩ := pickv_lt at_ 138 (by decide)
    have r13 : a2.tmps[13]? = some (.int .i64 (Int.ofNat p)) := by
      obtain ⟨u, y1, y2⟩ := reg_of q3 (r := 13) (v := .complex .f64 3 5) (List.mem_of_getElem? (i := 4) rfl)
      rw [y1, VR_complex.1 y2, e2, e1, hX]
      exact congrArg (fun z => some (Value.int .i64 z)) hp'
    have aB : AAR Z ⟨rtB3, 188, []⟩ a2 := regs_AAR q4 q5 (fun p hp => by
      have hL : toL rtB3 = [(0, (.complex .f64 3 0)), (9, (.int .i64 (.ofNat 128))), (13, (.complex .f64 3 5)), (8, (.pointer (some ⟨4156, 0, none⟩))), (12, (.bool true))] := rfl
      rw [hL] at hp
      simp only [List.mem_cons, List.not_mem_nil, or_false] at hp
      rcases hp with rfl | rfl | rfl | rfl | rfl
      · exact q3 _ (List.mem_of_getElem? (i := 0) rfl)
      · exact q3 _ (List.mem_of_getElem? (i := 2) rfl)
      · exact q3 _ (List.mem_of_getElem? (i := 4) rfl)
      · exact q3 _ (List.mem_of_getElem? (i := 1) rfl)
      · exact q3 _ (List.mem_of_getElem? (i := 3) rfl))
    have hEZ := hE Z (e2.trans e1)
    by_cases hc0 : p < 40
    · obtain ⟨c', hb', kc⟩ := ok_ex (of_true (kC17 ty)); rw [hb] at hb'; cases hb'; exact tail_ok (lo := 0) (n := 40) hEZ q1 q2 aB r13 kc (by omega)
    by_cases hc1 : p < 80
    · obtain ⟨c', hb', kc⟩ := ok_ex (of_true (kC18 ty)); rw [hb] at hb'; cases hb'; exact tail_ok (lo := 40) (n := 40) hEZ q1 q2 aB r13 kc (by omega)
    by_cases hc2 : p < 120
    · obtain ⟨c', hb', kc⟩ := ok_ex (of_true (kC19 ty)); rw [hb] at hb'; cases hb'; exact tail_ok (lo := 80) (n := 40) hEZ q1 q2 aB r13 kc (by omega)
    obtain ⟨c', hb', kc⟩ := ok_ex (of_true (kC20 ty)); rw [hb] at hb'; cases hb'; exact tail_ok (lo := 120) (n := 18) hEZ q1 q2 aB r13 kc (by omega)
end Go.Proofs.YtdebefkekkjilaaGreatDoor
