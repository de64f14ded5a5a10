import Derived.Test.YtiflgmdblkapgaaGreatDoorK1
import Derived.Test.YtiflgmdblkapgaaGreatDoorK2
import Derived.Test.YtiflgmdblkapgaaGreatDoorK3
import Derived.Test.YtiflgmdblkapgaaGreatDoorK4
import Derived.Test.YtiflgmdblkapgaaGreatDoorK5
import Derived.Test.YtiflgmdblkapgaaGreatDoorK60
import Derived.Test.YtiflgmdblkapgaaGreatDoorK61
import Derived.Test.YtiflgmdblkapgaaGreatDoorK62
import Derived.Test.YtiflgmdblkapgaaGreatDoorK63
import Derived.Test.YtiflgmdblkapgaaGreatDoorK64
import Derived.Test.YtiflgmdblkapgaaGreatDoorK70
import Derived.Test.YtiflgmdblkapgaaGreatDoorK71
import Derived.Test.YtiflgmdblkapgaaGreatDoorK72
import Derived.Test.YtiflgmdblkapgaaGreatDoorK73
import Derived.Test.YtiflgmdblkapgaaGreatDoorK74
import Derived.Test.YtiflgmdblkapgaaGreatDoorK75
import Derived.Test.YtiflgmdblkapgaaGreatDoorB3
import Derived.Test.YtiflgmdblkapgaaGreatDoorT2
import Derived.KernelRfl
namespace Go.Proofs.YtiflgmdblkapgaaGreatDoor
open Go.Deep Go.Lib Go.Proofs Go.Proofs.YtiflgmdblkapgaaGreatDoor

theorem of_true {p : Prop} (h : p = True) : p := by rw [h]; trivial
theorem prog_ok : ProgOK Tryz.prog := ⟨by kernel_rfl, fun f fn h => by
  have hall : (Tryz.prog.funcs.toList.all fun fn => !(fn.name == "runtime.NumGoroutine")) = true := by kernel_rfl
  rw [List.all_eq_true] at hall
  have := hall fn (by simpa using Array.mem_of_getElem? h)
  simpa using this⟩

set_option maxRecDepth 100000 in
theorem envR_ok {a b : Int} {T : Tab} (hT : TabOK Tryz.prog (rhoR a b) T) : EnvOK Tryz.prog (rhoR a b) T (envR T) none := ⟨prog_ok, hT, (go_ok prog_ok hT noop_ok 60).1, (go_ok prog_ok hT noop_ok 60).2, rfl⟩

theorem mem_hR1 {ty : Nat → TypeId} {id : Nat} {b : AB} (h : getT (hR1 ty) id = some b) : getT (h0 ty) id = some b ∨ (id, b) ∈ blR1 := by
  have hm := getT_mem h
  have hL : toL (hR1 ty) = [(0, (hb0 ty)), (1, (hb1 ty)), (7, (hb7 ty)), (8799, aR18799), (8871, aR18871), (9127, aR19127), (8963, aR18963), (9035, aR19035), (5, (hb5 ty)), (7761, aR17761), (8881, aR18881), (8953, aR18953), (8789, aR18789), (9045, aR19045), (9117, aR19117), (2, (hb2 ty)), (4, (hb4 ty)), (8, (hb8 ty)), (8912, aR18912), (8840, aR18840), (7764, aR17764), (9076, aR19076), (9204, aR19204), (7756, aR17756), (9004, aR19004), (6, (hb6 ty)), (8994, aR18994), (9202, aR19202), (9162, aR19162), (8922, aR18922), (9158, aR19158), (8758, aR18758), (8830, aR18830), (9086, aR19086)] := rfl
  rw [hL] at hm
  simp only [List.mem_cons, List.not_mem_nil, or_false, Prod.mk.injEq] at hm
  rcases hm with ⟨rfl, rfl⟩ | ⟨rfl, rfl⟩ | ⟨rfl, rfl⟩ | ⟨rfl, rfl⟩ | ⟨rfl, rfl⟩ | ⟨rfl, rfl⟩ | ⟨rfl, rfl⟩ | ⟨rfl, rfl⟩ | ⟨rfl, rfl⟩ | ⟨rfl, rfl⟩ | ⟨rfl, rfl⟩ | ⟨rfl, rfl⟩ | ⟨rfl, rfl⟩ | ⟨rfl, rfl⟩ | ⟨rfl, rfl⟩ | ⟨rfl, rfl⟩ | ⟨rfl, rfl⟩ | ⟨rfl, rfl⟩ | ⟨rfl, rfl⟩ | ⟨rfl, rfl⟩ | ⟨rfl, rfl⟩ | ⟨rfl, rfl⟩ | ⟨rfl, rfl⟩ | ⟨rfl, rfl⟩ | ⟨rfl, rfl⟩ | ⟨rfl, rfl⟩ | ⟨rfl, rfl⟩ | ⟨rfl, rfl⟩ | ⟨rfl, rfl⟩ | ⟨rfl, rfl⟩ | ⟨rfl, rfl⟩ | ⟨rfl, rfl⟩ | ⟨rfl, rfl⟩ | ⟨rfl, rfl⟩
  · exact .inl rfl
  · exact .inl rfl
  · exact .inl rfl
  · exact .inr (List.mem_of_getElem? (i := 17) rfl)
  · exact .inr (List.mem_of_getElem? (i := 24) rfl)
  · exact .inr (List.mem_of_getElem? (i := 18) rfl)
  · exact .inr (List.mem_of_getElem? (i := 20) rfl)
  · exact .inr (List.mem_of_getElem? (i := 23) rfl)
  · exact .inl rfl
  · exact .inr (List.mem_of_getElem? (i := 5) rfl)
  · exact .inr (List.mem_of_getElem? (i := 22) rfl)
  · exact .inr (List.mem_of_getElem? (i := 19) rfl)
  · exact .inr (List.mem_of_getElem? (i := 16) rfl)
  · exact .inr (List.mem_of_getElem? (i := 25) rfl)
  · exact .inr (List.mem_of_getElem? (i := 21) rfl)
  · exact .inl rfl
  · exact .inl rfl
  · exact .inl rfl
  · exact .inr (List.mem_of_getElem? (i := 9) rfl)
  · exact .inr (List.mem_of_getElem? (i := 14) rfl)
  · exact .inr (List.mem_of_getElem? (i := 1) rfl)
  · exact .inr (List.mem_of_getElem? (i := 8) rfl)
  · exact .inr (List.mem_of_getElem? (i := 0) rfl)
  · exact .inr (List.mem_of_getElem? (i := 4) rfl)
  · exact .inr (List.mem_of_getElem? (i := 12) rfl)
  · exact .inl rfl
  · exact .inr (List.mem_of_getElem? (i := 15) rfl)
  · exact .inr (List.mem_of_getElem? (i := 3) rfl)
  · exact .inr (List.mem_of_getElem? (i := 2) rfl)
  · exact .inr (List.mem_of_getElem? (i := 7) rfl)
  · exact .inr (List.mem_of_getElem? (i := 13) rfl)
  · exact .inr (List.mem_of_getElem? (i := 6) rfl)
  · exact .inr (List.mem_of_getElem? (i := 11) rfl)
  · exact .inr (List.mem_of_getElem? (i := 10) rfl)
theorem mem_hR2 {ty : Nat → TypeId} {id : Nat} {b : AB} (h : getT (hR2 ty) id = some b) : getT (h0 ty) id = some b ∨ (id, b) ∈ blR2 := by
  have hm := getT_mem h
  have hL : toL (hR2 ty) = [(0, (hb0 ty)), (1, (hb1 ty)), (7, (hb7 ty)), (17471, aR217471), (17215, aR217215), (8799, aR28799), (17543, aR217543), (8871, aR28871), (9127, aR29127), (8963, aR28963), (17379, aR217379), (9035, aR29035), (17307, aR217307), (16187, aR216187), (5, (hb5 ty)), (17553, aR217553), (17297, aR217297), (7761, aR27761), (8881, aR28881), (17225, aR217225), (8953, aR28953), (8789, aR28789), (9045, aR29045), (17461, aR217461), (17389, aR217389), (9117, aR29117), (2, (hb2 ty)), (4, (hb4 ty)), (8, (hb8 ty)), (17184, aR217184), (8912, aR28912), (17584, aR217584), (8840, aR28840), (17512, aR217512), (17256, aR217256), (17348, aR217348), (7764, aR27764), (17588, aR217588), (9076, aR29076), (9204, aR29204), (17420, aR217420), (7756, aR27756), (9004, aR29004), (17628, aR217628), (6, (hb6 ty)), (8994, aR28994), (17266, aR217266), (9202, aR29202), (9162, aR29162), (8922, aR28922), (17338, aR217338), (9158, aR29158), (17430, aR217430), (8758, aR28758), (16182, aR216182), (17502, aR217502), (17630, aR217630), (16190, aR216190), (8830, aR28830), (9086, aR29086)] := rfl
  rw [hL] at hm
  simp only [List.mem_cons, List.not_mem_nil, or_false, Prod.mk.injEq] at hm
  rcases hm with ⟨rfl, rfl⟩ | ⟨rfl, rfl⟩ | ⟨rfl, rfl⟩ | ⟨rfl, rfl⟩ | ⟨rfl, rfl⟩ | ⟨rfl, rfl⟩ | ⟨rfl, rfl⟩ | ⟨rfl, rfl⟩ | ⟨rfl, rfl⟩ | ⟨rfl, rfl⟩ | ⟨rfl, rfl⟩ | ⟨rfl, rfl⟩ | ⟨rfl, rfl⟩ | ⟨rfl, rfl⟩ | ⟨rfl, rfl⟩ | ⟨rfl, rfl⟩ | ⟨rfl, rfl⟩ | ⟨rfl, rfl⟩ | ⟨rfl, rfl⟩ | ⟨rfl, rfl⟩ | ⟨rfl, rfl⟩ | ⟨rfl, rfl⟩ | ⟨rfl, rfl⟩ | ⟨rfl, rfl⟩ | ⟨rfl, rfl⟩ | ⟨rfl, rfl⟩ | ⟨rfl, rfl⟩ | ⟨rfl, rfl⟩ | ⟨rfl, rfl⟩ | ⟨rfl, rfl⟩ | ⟨rfl, rfl⟩ | ⟨rfl, rfl⟩ | ⟨rfl, rfl⟩ | ⟨rfl, rfl⟩ | ⟨rfl, rfl⟩ | ⟨rfl, rfl⟩ | ⟨rfl, rfl⟩ | ⟨rfl, rfl⟩ | ⟨rfl, rfl⟩ | ⟨rfl, rfl⟩ | ⟨rfl, rfl⟩ | ⟨rfl, rfl⟩ | ⟨rfl, rfl⟩ | ⟨rfl, rfl⟩ | ⟨rfl, rfl⟩ | ⟨rfl, rfl⟩ | ⟨rfl, rfl⟩ | ⟨rfl, rfl⟩ | ⟨rfl, rfl⟩ | ⟨rfl, rfl⟩ | ⟨rfl, rfl⟩ | ⟨rfl, rfl⟩ | ⟨rfl, rfl⟩ | ⟨rfl, rfl⟩ | ⟨rfl, rfl⟩ | ⟨rfl, rfl⟩ | ⟨rfl, rfl⟩ | ⟨rfl, rfl⟩ | ⟨rfl, rfl⟩ | ⟨rfl, rfl⟩
  · exact .inl rfl
  · exact .inl rfl
  · exact .inl rfl
  · exact .inr (List.mem_of_getElem? (i := 29) rfl)
  · exact .inr (List.mem_of_getElem? (i := 20) rfl)
  · exact .inr (List.mem_of_getElem? (i := 43) rfl)
  · exact .inr (List.mem_of_getElem? (i := 25) rfl)
  · exact .inr (List.mem_of_getElem? (i := 50) rfl)
  · exact .inr (List.mem_of_getElem? (i := 44) rfl)
  · exact .inr (List.mem_of_getElem? (i := 46) rfl)
  · exact .inr (List.mem_of_getElem? (i := 23) rfl)
  · exact .inr (List.mem_of_getElem? (i := 49) rfl)
  · exact .inr (List.mem_of_getElem? (i := 26) rfl)
  · exact .inr (List.mem_of_getElem? (i := 9) rfl)
  · exact .inl rfl
  · exact .inr (List.mem_of_getElem? (i := 22) rfl)
  · exact .inr (List.mem_of_getElem? (i := 28) rfl)
  · exact .inr (List.mem_of_getElem? (i := 31) rfl)
  · exact .inr (List.mem_of_getElem? (i := 48) rfl)
  · exact .inr (List.mem_of_getElem? (i := 21) rfl)
  · exact .inr (List.mem_of_getElem? (i := 45) rfl)
  · exact .inr (List.mem_of_getElem? (i := 42) rfl)
  · exact .inr (List.mem_of_getElem? (i := 51) rfl)
  · exact .inr (List.mem_of_getElem? (i := 27) rfl)
  · exact .inr (List.mem_of_getElem? (i := 24) rfl)
  · exact .inr (List.mem_of_getElem? (i := 47) rfl)
  · exact .inl rfl
  · exact .inl rfl
  · exact .inl rfl
  · exact .inr (List.mem_of_getElem? (i := 10) rfl)
  · exact .inr (List.mem_of_getElem? (i := 35) rfl)
  · exact .inr (List.mem_of_getElem? (i := 17) rfl)
  · exact .inr (List.mem_of_getElem? (i := 40) rfl)
  · exact .inr (List.mem_of_getElem? (i := 14) rfl)
  · exact .inr (List.mem_of_getElem? (i := 15) rfl)
  · exact .inr (List.mem_of_getElem? (i := 11) rfl)
  · exact .inr (List.mem_of_getElem? (i := 5) rfl)
  · exact .inr (List.mem_of_getElem? (i := 3) rfl)
  · exact .inr (List.mem_of_getElem? (i := 34) rfl)
  · exact .inr (List.mem_of_getElem? (i := 1) rfl)
  · exact .inr (List.mem_of_getElem? (i := 19) rfl)
  · exact .inr (List.mem_of_getElem? (i := 30) rfl)
  · exact .inr (List.mem_of_getElem? (i := 38) rfl)
  · exact .inr (List.mem_of_getElem? (i := 4) rfl)
  · exact .inl rfl
  · exact .inr (List.mem_of_getElem? (i := 41) rfl)
  · exact .inr (List.mem_of_getElem? (i := 18) rfl)
  · exact .inr (List.mem_of_getElem? (i := 7) rfl)
  · exact .inr (List.mem_of_getElem? (i := 6) rfl)
  · exact .inr (List.mem_of_getElem? (i := 33) rfl)
  · exact .inr (List.mem_of_getElem? (i := 13) rfl)
  · exact .inr (List.mem_of_getElem? (i := 39) rfl)
  · exact .inr (List.mem_of_getElem? (i := 16) rfl)
  · exact .inr (List.mem_of_getElem? (i := 32) rfl)
  · exact .inr (List.mem_of_getElem? (i := 8) rfl)
  · exact .inr (List.mem_of_getElem? (i := 12) rfl)
  · exact .inr (List.mem_of_getElem? (i := 0) rfl)
  · exact .inr (List.mem_of_getElem? (i := 2) rfl)
  · exact .inr (List.mem_of_getElem? (i := 37) rfl)
  · exact .inr (List.mem_of_getElem? (i := 36) rfl)
theorem mem_hR3 {ty : Nat → TypeId} {id : Nat} {b : AB} (h : getT (hR3 ty) id = some b) : getT (h0 ty) id = some b ∨ (id, b) ∈ blR3 := by
  have hm := getT_mem h
  have hL : toL (hR3 ty) = [(0, (hb0 ty)), (1, (hb1 ty)), (7, (hb7 ty)), (25727, aR325727), (25983, aR325983), (17471, aR317471), (17215, aR317215), (8799, aR38799), (17543, aR317543), (8871, aR38871), (9127, aR39127), (25655, aR325655), (8963, aR38963), (25891, aR325891), (17379, aR317379), (9035, aR39035), (17307, aR317307), (25819, aR325819), (16187, aR316187), (5, (hb5 ty)), (17553, aR317553), (17297, aR317297), (7761, aR37761), (25809, aR325809), (8881, aR38881), (25737, aR325737), (17225, aR317225), (24617, aR324617), (8953, aR38953), (8789, aR38789), (9045, aR39045), (17461, aR317461), (25973, aR325973), (25645, aR325645), (25901, aR325901), (17389, aR317389), (9117, aR39117), (2, (hb2 ty)), (4, (hb4 ty)), (8, (hb8 ty)), (17184, aR317184), (25696, aR325696), (8912, aR38912), (17584, aR317584), (8840, aR38840), (25768, aR325768), (17512, aR317512), (17256, aR317256), (25860, aR325860), (17348, aR317348), (24612, aR324612), (7764, aR37764), (17588, aR317588), (9076, aR39076), (9204, aR39204), (17420, aR317420), (7756, aR37756), (25932, aR325932), (26060, aR326060), (24620, aR324620), (9004, aR39004), (17628, aR317628), (6, (hb6 ty)), (8994, aR38994), (26018, aR326018), (25778, aR325778), (17266, aR317266), (9202, aR39202), (26058, aR326058), (9162, aR39162), (8922, aR38922), (17338, aR317338), (25850, aR325850), (9158, aR39158), (17430, aR317430), (25686, aR325686), (25942, aR325942), (8758, aR38758), (16182, aR316182), (25614, aR325614), (26014, aR326014), (17502, aR317502), (17630, aR317630), (16190, aR316190), (8830, aR38830), (9086, aR39086)] := rfl
  rw [hL] at hm
  simp only [List.mem_cons, List.not_mem_nil, or_false, Prod.mk.injEq] at hm
  rcases hm with ⟨rfl, rfl⟩ | ⟨rfl, rfl⟩ | ⟨rfl, rfl⟩ | ⟨rfl, rfl⟩ | ⟨rfl, rfl⟩ | ⟨rfl, rfl⟩ | ⟨rfl, rfl⟩ | ⟨rfl, rfl⟩ | ⟨rfl, rfl⟩ | ⟨rfl, rfl⟩ | ⟨rfl, rfl⟩ | ⟨rfl, rfl⟩ | ⟨rfl, rfl⟩ | ⟨rfl, rfl⟩ | ⟨rfl, rfl⟩ | ⟨rfl, rfl⟩ | ⟨rfl, rfl⟩ | ⟨rfl, rfl⟩ | ⟨rfl, rfl⟩ | ⟨rfl, rfl⟩ | ⟨rfl, rfl⟩ | ⟨rfl, rfl⟩ | ⟨rfl, rfl⟩ | ⟨rfl, rfl⟩ | ⟨rfl, rfl⟩ | ⟨rfl, rfl⟩ | ⟨rfl, rfl⟩ | ⟨rfl, rfl⟩ | ⟨rfl, rfl⟩ | ⟨rfl, rfl⟩ | ⟨rfl, rfl⟩ | ⟨rfl, rfl⟩ | ⟨rfl, rfl⟩ | ⟨rfl, rfl⟩ | ⟨rfl, rfl⟩ | ⟨rfl, rfl⟩ | ⟨rfl, rfl⟩ | ⟨rfl, rfl⟩ | ⟨rfl, rfl⟩ | ⟨rfl, rfl⟩ | ⟨rfl, rfl⟩ | ⟨rfl, rfl⟩ | ⟨rfl, rfl⟩ | ⟨rfl, rfl⟩ | ⟨rfl, rfl⟩ | ⟨rfl, rfl⟩ | ⟨rfl, rfl⟩ | ⟨rfl, rfl⟩ | ⟨rfl, rfl⟩ | ⟨rfl, rfl⟩ | ⟨rfl, rfl⟩ | ⟨rfl, rfl⟩ | ⟨rfl, rfl⟩ | ⟨rfl, rfl⟩ | ⟨rfl, rfl⟩ | ⟨rfl, rfl⟩ | ⟨rfl, rfl⟩ | ⟨rfl, rfl⟩ | ⟨rfl, rfl⟩ | ⟨rfl, rfl⟩ | ⟨rfl, rfl⟩ | ⟨rfl, rfl⟩ | ⟨rfl, rfl⟩ | ⟨rfl, rfl⟩ | ⟨rfl, rfl⟩ | ⟨rfl, rfl⟩ | ⟨rfl, rfl⟩ | ⟨rfl, rfl⟩ | ⟨rfl, rfl⟩ | ⟨rfl, rfl⟩ | ⟨rfl, rfl⟩ | ⟨rfl, rfl⟩ | ⟨rfl, rfl⟩ | ⟨rfl, rfl⟩ | ⟨rfl, rfl⟩ | ⟨rfl, rfl⟩ | ⟨rfl, rfl⟩ | ⟨rfl, rfl⟩ | ⟨rfl, rfl⟩ | ⟨rfl, rfl⟩ | ⟨rfl, rfl⟩ | ⟨rfl, rfl⟩ | ⟨rfl, rfl⟩ | ⟨rfl, rfl⟩ | ⟨rfl, rfl⟩ | ⟨rfl, rfl⟩
  · exact .inl rfl
  · exact .inl rfl
  · exact .inl rfl
  · exact .inr (List.mem_of_getElem? (i := 54) rfl)
  · exact .inr (List.mem_of_getElem? (i := 48) rfl)
  · exact .inr (List.mem_of_getElem? (i := 33) rfl)
  · exact .inr (List.mem_of_getElem? (i := 24) rfl)
  · exact .inr (List.mem_of_getElem? (i := 69) rfl)
  · exact .inr (List.mem_of_getElem? (i := 29) rfl)
  · exact .inr (List.mem_of_getElem? (i := 76) rfl)
  · exact .inr (List.mem_of_getElem? (i := 70) rfl)
  · exact .inr (List.mem_of_getElem? (i := 47) rfl)
  · exact .inr (List.mem_of_getElem? (i := 72) rfl)
  · exact .inr (List.mem_of_getElem? (i := 53) rfl)
  · exact .inr (List.mem_of_getElem? (i := 27) rfl)
  · exact .inr (List.mem_of_getElem? (i := 75) rfl)
  · exact .inr (List.mem_of_getElem? (i := 30) rfl)
  · exact .inr (List.mem_of_getElem? (i := 50) rfl)
  · exact .inr (List.mem_of_getElem? (i := 13) rfl)
  · exact .inl rfl
  · exact .inr (List.mem_of_getElem? (i := 26) rfl)
  · exact .inr (List.mem_of_getElem? (i := 32) rfl)
  · exact .inr (List.mem_of_getElem? (i := 57) rfl)
  · exact .inr (List.mem_of_getElem? (i := 49) rfl)
  · exact .inr (List.mem_of_getElem? (i := 74) rfl)
  · exact .inr (List.mem_of_getElem? (i := 52) rfl)
  · exact .inr (List.mem_of_getElem? (i := 25) rfl)
  · exact .inr (List.mem_of_getElem? (i := 35) rfl)
  · exact .inr (List.mem_of_getElem? (i := 71) rfl)
  · exact .inr (List.mem_of_getElem? (i := 68) rfl)
  · exact .inr (List.mem_of_getElem? (i := 77) rfl)
  · exact .inr (List.mem_of_getElem? (i := 31) rfl)
  · exact .inr (List.mem_of_getElem? (i := 51) rfl)
  · exact .inr (List.mem_of_getElem? (i := 46) rfl)
  · exact .inr (List.mem_of_getElem? (i := 55) rfl)
  · exact .inr (List.mem_of_getElem? (i := 28) rfl)
  · exact .inr (List.mem_of_getElem? (i := 73) rfl)
  · exact .inl rfl
  · exact .inl rfl
  · exact .inl rfl
  · exact .inr (List.mem_of_getElem? (i := 14) rfl)
  · exact .inr (List.mem_of_getElem? (i := 44) rfl)
  · exact .inr (List.mem_of_getElem? (i := 61) rfl)
  · exact .inr (List.mem_of_getElem? (i := 21) rfl)
  · exact .inr (List.mem_of_getElem? (i := 66) rfl)
  · exact .inr (List.mem_of_getElem? (i := 39) rfl)
  · exact .inr (List.mem_of_getElem? (i := 18) rfl)
  · exact .inr (List.mem_of_getElem? (i := 19) rfl)
  · exact .inr (List.mem_of_getElem? (i := 42) rfl)
  · exact .inr (List.mem_of_getElem? (i := 15) rfl)
  · exact .inr (List.mem_of_getElem? (i := 34) rfl)
  · exact .inr (List.mem_of_getElem? (i := 9) rfl)
  · exact .inr (List.mem_of_getElem? (i := 4) rfl)
  · exact .inr (List.mem_of_getElem? (i := 60) rfl)
  · exact .inr (List.mem_of_getElem? (i := 2) rfl)
  · exact .inr (List.mem_of_getElem? (i := 23) rfl)
  · exact .inr (List.mem_of_getElem? (i := 56) rfl)
  · exact .inr (List.mem_of_getElem? (i := 38) rfl)
  · exact .inr (List.mem_of_getElem? (i := 1) rfl)
  · exact .inr (List.mem_of_getElem? (i := 6) rfl)
  · exact .inr (List.mem_of_getElem? (i := 64) rfl)
  · exact .inr (List.mem_of_getElem? (i := 5) rfl)
  · exact .inl rfl
  · exact .inr (List.mem_of_getElem? (i := 67) rfl)
  · exact .inr (List.mem_of_getElem? (i := 7) rfl)
  · exact .inr (List.mem_of_getElem? (i := 37) rfl)
  · exact .inr (List.mem_of_getElem? (i := 22) rfl)
  · exact .inr (List.mem_of_getElem? (i := 11) rfl)
  · exact .inr (List.mem_of_getElem? (i := 8) rfl)
  · exact .inr (List.mem_of_getElem? (i := 10) rfl)
  · exact .inr (List.mem_of_getElem? (i := 59) rfl)
  · exact .inr (List.mem_of_getElem? (i := 17) rfl)
  · exact .inr (List.mem_of_getElem? (i := 45) rfl)
  · exact .inr (List.mem_of_getElem? (i := 65) rfl)
  · exact .inr (List.mem_of_getElem? (i := 20) rfl)
  · exact .inr (List.mem_of_getElem? (i := 41) rfl)
  · exact .inr (List.mem_of_getElem? (i := 40) rfl)
  · exact .inr (List.mem_of_getElem? (i := 58) rfl)
  · exact .inr (List.mem_of_getElem? (i := 12) rfl)
  · exact .inr (List.mem_of_getElem? (i := 36) rfl)
  · exact .inr (List.mem_of_getElem? (i := 43) rfl)
  · exact .inr (List.mem_of_getElem? (i := 16) rfl)
  · exact .inr (List.mem_of_getElem? (i := 0) rfl)
  · exact .inr (List.mem_of_getElem? (i := 3) rfl)
  · exact .inr (List.mem_of_getElem? (i := 63) rfl)
  · exact .inr (List.mem_of_getElem? (i := 62) rfl)
theorem mem_hR4 {ty : Nat → TypeId} {id : Nat} {b : AB} (h : getT (hR4 ty) id = some b) : getT (h0 ty) id = some b ∨ (id, b) ∈ blR4 := by
  have hm := getT_mem h
  have hL : toL (hR4 ty) = [(0, (hb0 ty)), (1, (hb1 ty)), (7, (hb7 ty)), (25727, aR425727), (25983, aR425983), (17471, aR417471), (17215, aR417215), (17543, aR417543), (25655, aR425655), (25891, aR425891), (17379, aR417379), (17307, aR417307), (25819, aR425819), (16187, aR416187), (5, (hb5 ty)), (17553, aR417553), (17297, aR417297), (25809, aR425809), (25737, aR425737), (17225, aR417225), (24617, aR424617), (17461, aR417461), (25973, aR425973), (25645, aR425645), (25901, aR425901), (17389, aR417389), (2, (hb2 ty)), (4, (hb4 ty)), (8, (hb8 ty)), (17184, aR417184), (25696, aR425696), (17584, aR417584), (25768, aR425768), (17512, aR417512), (17256, aR417256), (25860, aR425860), (17348, aR417348), (24612, aR424612), (17588, aR417588), (17420, aR417420), (25932, aR425932), (26060, aR426060), (24620, aR424620), (17628, aR417628), (6, (hb6 ty)), (26018, aR426018), (25778, aR425778), (17266, aR417266), (26058, aR426058), (17338, aR417338), (25850, aR425850), (17430, aR417430), (25686, aR425686), (25942, aR425942), (16182, aR416182), (25614, aR425614), (26014, aR426014), (17502, aR417502), (17630, aR417630), (16190, aR416190)] := rfl
  rw [hL] at hm
  simp only [List.mem_cons, List.not_mem_nil, or_false, Prod.mk.injEq] at hm
  rcases hm with ⟨rfl, rfl⟩ | ⟨rfl, rfl⟩ | ⟨rfl, rfl⟩ | ⟨rfl, rfl⟩ | ⟨rfl, rfl⟩ | ⟨rfl, rfl⟩ | ⟨rfl, rfl⟩ | ⟨rfl, rfl⟩ | ⟨rfl, rfl⟩ | ⟨rfl, rfl⟩ | ⟨rfl, rfl⟩ | ⟨rfl, rfl⟩ | ⟨rfl, rfl⟩ | ⟨rfl, rfl⟩ | ⟨rfl, rfl⟩ | ⟨rfl, rfl⟩ | ⟨rfl, rfl⟩ | ⟨rfl, rfl⟩ | ⟨rfl, rfl⟩ | ⟨rfl, rfl⟩ | ⟨rfl, rfl⟩ | ⟨rfl, rfl⟩ | ⟨rfl, rfl⟩ | ⟨rfl, rfl⟩ | ⟨rfl, rfl⟩ | ⟨rfl, rfl⟩ | ⟨rfl, rfl⟩ | ⟨rfl, rfl⟩ | ⟨rfl, rfl⟩ | ⟨rfl, rfl⟩ | ⟨rfl, rfl⟩ | ⟨rfl, rfl⟩ | ⟨rfl, rfl⟩ | ⟨rfl, rfl⟩ | ⟨rfl, rfl⟩ | ⟨rfl, rfl⟩ | ⟨rfl, rfl⟩ | ⟨rfl, rfl⟩ | ⟨rfl, rfl⟩ | ⟨rfl, rfl⟩ | ⟨rfl, rfl⟩ | ⟨rfl, rfl⟩ | ⟨rfl, rfl⟩ | ⟨rfl, rfl⟩ | ⟨rfl, rfl⟩ | ⟨rfl, rfl⟩ | ⟨rfl, rfl⟩ | ⟨rfl, rfl⟩ | ⟨rfl, rfl⟩ | ⟨rfl, rfl⟩ | ⟨rfl, rfl⟩ | ⟨rfl, rfl⟩ | ⟨rfl, rfl⟩ | ⟨rfl, rfl⟩ | ⟨rfl, rfl⟩ | ⟨rfl, rfl⟩ | ⟨rfl, rfl⟩ | ⟨rfl, rfl⟩ | ⟨rfl, rfl⟩ | ⟨rfl, rfl⟩
  · exact .inl rfl
  · exact .inl rfl
  · exact .inl rfl
  · exact .inr (List.mem_of_getElem? (i := 50) rfl)
  · exact .inr (List.mem_of_getElem? (i := 44) rfl)
  · exact .inr (List.mem_of_getElem? (i := 29) rfl)
  · exact .inr (List.mem_of_getElem? (i := 20) rfl)
  · exact .inr (List.mem_of_getElem? (i := 25) rfl)
  · exact .inr (List.mem_of_getElem? (i := 43) rfl)
  · exact .inr (List.mem_of_getElem? (i := 49) rfl)
  · exact .inr (List.mem_of_getElem? (i := 23) rfl)
  · exact .inr (List.mem_of_getElem? (i := 26) rfl)
  · exact .inr (List.mem_of_getElem? (i := 46) rfl)
  · exact .inr (List.mem_of_getElem? (i := 9) rfl)
  · exact .inl rfl
  · exact .inr (List.mem_of_getElem? (i := 22) rfl)
  · exact .inr (List.mem_of_getElem? (i := 28) rfl)
  · exact .inr (List.mem_of_getElem? (i := 45) rfl)
  · exact .inr (List.mem_of_getElem? (i := 48) rfl)
  · exact .inr (List.mem_of_getElem? (i := 21) rfl)
  · exact .inr (List.mem_of_getElem? (i := 31) rfl)
  · exact .inr (List.mem_of_getElem? (i := 27) rfl)
  · exact .inr (List.mem_of_getElem? (i := 47) rfl)
  · exact .inr (List.mem_of_getElem? (i := 42) rfl)
  · exact .inr (List.mem_of_getElem? (i := 51) rfl)
  · exact .inr (List.mem_of_getElem? (i := 24) rfl)
  · exact .inl rfl
  · exact .inl rfl
  · exact .inl rfl
  · exact .inr (List.mem_of_getElem? (i := 10) rfl)
  · exact .inr (List.mem_of_getElem? (i := 40) rfl)
  · exact .inr (List.mem_of_getElem? (i := 17) rfl)
  · exact .inr (List.mem_of_getElem? (i := 35) rfl)
  · exact .inr (List.mem_of_getElem? (i := 14) rfl)
  · exact .inr (List.mem_of_getElem? (i := 15) rfl)
  · exact .inr (List.mem_of_getElem? (i := 38) rfl)
  · exact .inr (List.mem_of_getElem? (i := 11) rfl)
  · exact .inr (List.mem_of_getElem? (i := 30) rfl)
  · exact .inr (List.mem_of_getElem? (i := 3) rfl)
  · exact .inr (List.mem_of_getElem? (i := 19) rfl)
  · exact .inr (List.mem_of_getElem? (i := 34) rfl)
  · exact .inr (List.mem_of_getElem? (i := 1) rfl)
  · exact .inr (List.mem_of_getElem? (i := 5) rfl)
  · exact .inr (List.mem_of_getElem? (i := 4) rfl)
  · exact .inl rfl
  · exact .inr (List.mem_of_getElem? (i := 6) rfl)
  · exact .inr (List.mem_of_getElem? (i := 33) rfl)
  · exact .inr (List.mem_of_getElem? (i := 18) rfl)
  · exact .inr (List.mem_of_getElem? (i := 7) rfl)
  · exact .inr (List.mem_of_getElem? (i := 13) rfl)
  · exact .inr (List.mem_of_getElem? (i := 41) rfl)
  · exact .inr (List.mem_of_getElem? (i := 16) rfl)
  · exact .inr (List.mem_of_getElem? (i := 37) rfl)
  · exact .inr (List.mem_of_getElem? (i := 36) rfl)
  · exact .inr (List.mem_of_getElem? (i := 8) rfl)
  · exact .inr (List.mem_of_getElem? (i := 32) rfl)
  · exact .inr (List.mem_of_getElem? (i := 39) rfl)
  · exact .inr (List.mem_of_getElem? (i := 12) rfl)
  · exact .inr (List.mem_of_getElem? (i := 0) rfl)
  · exact .inr (List.mem_of_getElem? (i := 2) rfl)
theorem mem_hR5 {ty : Nat → TypeId} {id : Nat} {b : AB} (h : getT (hR5 ty) id = some b) : getT (h0 ty) id = some b ∨ (id, b) ∈ blR5 := by
  have hm := getT_mem h
  have hL : toL (hR5 ty) = [(0, (hb0 ty)), (1, (hb1 ty)), (7, (hb7 ty)), (25727, aR525727), (25983, aR525983), (25655, aR525655), (25891, aR525891), (25819, aR525819), (5, (hb5 ty)), (25809, aR525809), (25737, aR525737), (24617, aR524617), (25973, aR525973), (25645, aR525645), (25901, aR525901), (2, (hb2 ty)), (4, (hb4 ty)), (8, (hb8 ty)), (25696, aR525696), (25768, aR525768), (25860, aR525860), (24612, aR524612), (25932, aR525932), (26060, aR526060), (24620, aR524620), (6, (hb6 ty)), (26018, aR526018), (25778, aR525778), (26058, aR526058), (25850, aR525850), (25686, aR525686), (25942, aR525942), (25614, aR525614), (26014, aR526014)] := rfl
  rw [hL] at hm
  simp only [List.mem_cons, List.not_mem_nil, or_false, Prod.mk.injEq] at hm
  rcases hm with ⟨rfl, rfl⟩ | ⟨rfl, rfl⟩ | ⟨rfl, rfl⟩ | ⟨rfl, rfl⟩ | ⟨rfl, rfl⟩ | ⟨rfl, rfl⟩ | ⟨rfl, rfl⟩ | ⟨rfl, rfl⟩ | ⟨rfl, rfl⟩ | ⟨rfl, rfl⟩ | ⟨rfl, rfl⟩ | ⟨rfl, rfl⟩ | ⟨rfl, rfl⟩ | ⟨rfl, rfl⟩ | ⟨rfl, rfl⟩ | ⟨rfl, rfl⟩ | ⟨rfl, rfl⟩ | ⟨rfl, rfl⟩ | ⟨rfl, rfl⟩ | ⟨rfl, rfl⟩ | ⟨rfl, rfl⟩ | ⟨rfl, rfl⟩ | ⟨rfl, rfl⟩ | ⟨rfl, rfl⟩ | ⟨rfl, rfl⟩ | ⟨rfl, rfl⟩ | ⟨rfl, rfl⟩ | ⟨rfl, rfl⟩ | ⟨rfl, rfl⟩ | ⟨rfl, rfl⟩ | ⟨rfl, rfl⟩ | ⟨rfl, rfl⟩ | ⟨rfl, rfl⟩ | ⟨rfl, rfl⟩
  · exact .inl rfl
  · exact .inl rfl
  · exact .inl rfl
  · exact .inr (List.mem_of_getElem? (i := 24) rfl)
  · exact .inr (List.mem_of_getElem? (i := 18) rfl)
  · exact .inr (List.mem_of_getElem? (i := 17) rfl)
  · exact .inr (List.mem_of_getElem? (i := 23) rfl)
  · exact .inr (List.mem_of_getElem? (i := 20) rfl)
  · exact .inl rfl
  · exact .inr (List.mem_of_getElem? (i := 19) rfl)
  · exact .inr (List.mem_of_getElem? (i := 22) rfl)
  · exact .inr (List.mem_of_getElem? (i := 5) rfl)
  · exact .inr (List.mem_of_getElem? (i := 21) rfl)
  · exact .inr (List.mem_of_getElem? (i := 16) rfl)
  · exact .inr (List.mem_of_getElem? (i := 25) rfl)
  · exact .inl rfl
  · exact .inl rfl
  · exact .inl rfl
  · exact .inr (List.mem_of_getElem? (i := 14) rfl)
  · exact .inr (List.mem_of_getElem? (i := 9) rfl)
  · exact .inr (List.mem_of_getElem? (i := 12) rfl)
  · exact .inr (List.mem_of_getElem? (i := 4) rfl)
  · exact .inr (List.mem_of_getElem? (i := 8) rfl)
  · exact .inr (List.mem_of_getElem? (i := 0) rfl)
  · exact .inr (List.mem_of_getElem? (i := 1) rfl)
  · exact .inl rfl
  · exact .inr (List.mem_of_getElem? (i := 2) rfl)
  · exact .inr (List.mem_of_getElem? (i := 7) rfl)
  · exact .inr (List.mem_of_getElem? (i := 3) rfl)
  · exact .inr (List.mem_of_getElem? (i := 15) rfl)
  · exact .inr (List.mem_of_getElem? (i := 11) rfl)
  · exact .inr (List.mem_of_getElem? (i := 10) rfl)
  · exact .inr (List.mem_of_getElem? (i := 6) rfl)
  · exact .inr (List.mem_of_getElem? (i := 13) rfl)
theorem mem_hR6 {ty : Nat → TypeId} {id : Nat} {b : AB} (h : getT (hR6 ty) id = some b) : getT (h0 ty) id = some b ∨ (id, b) ∈ blR6 := by
  have hm := getT_mem h
  have hL : toL (hR6 ty) = [(0, (hb0 ty)), (1, (hb1 ty)), (7, (hb7 ty)), (5, (hb5 ty)), (2, (hb2 ty)), (4, (hb4 ty)), (8, (hb8 ty)), (6, (hb6 ty))] := rfl
  rw [hL] at hm
  simp only [List.mem_cons, List.not_mem_nil, or_false, Prod.mk.injEq] at hm
  rcases hm with ⟨rfl, rfl⟩ | ⟨rfl, rfl⟩ | ⟨rfl, rfl⟩ | ⟨rfl, rfl⟩ | ⟨rfl, rfl⟩ | ⟨rfl, rfl⟩ | ⟨rfl, rfl⟩ | ⟨rfl, rfl⟩
  · exact .inl rfl
  · exact .inl rfl
  · exact .inl rfl
  · exact .inl rfl
  · exact .inl rfl
  · exact .inl rfl
  · exact .inl rfl
  · exact .inl rfl
theorem aar1 {Y : Cx} {a1 : Act} (k3 : ∀ p ∈ rgR1, ∃ u, a1.tmps[p.1]? = some u ∧ VR Y p.2 u) (k4 : 279 ≤ a1.tmps.size) (k5 : a1.defers = []) : AAR Y ⟨rtR1, 279, []⟩ a1 := regs_AAR k4 k5 (fun p hp => by
  have hL : toL rtR1 = [(0, (.complex .f64 3 0)), (1, (.complex .f64 3 1)), (5, (.bool true)), (6, (.pointer (some ⟨9204, 0, none⟩)))] := rfl
  rw [hL] at hp
  simp only [List.mem_cons, List.not_mem_nil, or_false] at hp
  rcases hp with rfl | rfl | rfl | rfl
  · exact k3 _ (List.mem_of_getElem? (i := 0) rfl)
  · exact k3 _ (List.mem_of_getElem? (i := 1) rfl)
  · exact k3 _ (List.mem_of_getElem? (i := 2) rfl)
  · exact k3 _ (List.mem_of_getElem? (i := 3) rfl))
theorem aar2 {Y : Cx} {a1 : Act} (k3 : ∀ p ∈ rgR2, ∃ u, a1.tmps[p.1]? = some u ∧ VR Y p.2 u) (k4 : 279 ≤ a1.tmps.size) (k5 : a1.defers = []) : AAR Y ⟨rtR2, 279, []⟩ a1 := regs_AAR k4 k5 (fun p hp => by
  have hL : toL rtR2 = [(0, (.complex .f64 3 0)), (1, (.complex .f64 3 1)), (7, (.pointer (some ⟨17630, 0, none⟩))), (5, (.bool true)), (6, (.pointer (some ⟨9204, 0, none⟩)))] := rfl
  rw [hL] at hp
  simp only [List.mem_cons, List.not_mem_nil, or_false] at hp
  rcases hp with rfl | rfl | rfl | rfl | rfl
  · exact k3 _ (List.mem_of_getElem? (i := 0) rfl)
  · exact k3 _ (List.mem_of_getElem? (i := 1) rfl)
  · exact k3 _ (List.mem_of_getElem? (i := 4) rfl)
  · exact k3 _ (List.mem_of_getElem? (i := 2) rfl)
  · exact k3 _ (List.mem_of_getElem? (i := 3) rfl))
theorem aar3 {Y : Cx} {a1 : Act} (k3 : ∀ p ∈ rgR3, ∃ u, a1.tmps[p.1]? = some u ∧ VR Y p.2 u) (k4 : 279 ≤ a1.tmps.size) (k5 : a1.defers = []) : AAR Y ⟨rtR3, 279, []⟩ a1 := regs_AAR k4 k5 (fun p hp => by
  have hL : toL rtR3 = [(0, (.complex .f64 3 0)), (1, (.complex .f64 3 1)), (7, (.pointer (some ⟨17630, 0, none⟩))), (8, (.pointer (some ⟨26060, 0, none⟩))), (6, (.pointer (some ⟨9204, 0, none⟩)))] := rfl
  rw [hL] at hp
  simp only [List.mem_cons, List.not_mem_nil, or_false] at hp
  rcases hp with rfl | rfl | rfl | rfl | rfl
  · exact k3 _ (List.mem_of_getElem? (i := 0) rfl)
  · exact k3 _ (List.mem_of_getElem? (i := 1) rfl)
  · exact k3 _ (List.mem_of_getElem? (i := 3) rfl)
  · exact k3 _ (List.mem_of_getElem? (i := 4) rfl)
  · exact k3 _ (List.mem_of_getElem? (i := 2) rfl))
theorem aar4 {Y : Cx} {a1 : Act} (k3 : ∀ p ∈ rgR4, ∃ u, a1.tmps[p.1]? = some u ∧ VR Y p.2 u) (k4 : 279 ≤ a1.tmps.size) (k5 : a1.defers = []) : AAR Y ⟨rtR4, 279, []⟩ a1 := regs_AAR k4 k5 (fun p hp => by
  have hL : toL rtR4 = [(0, (.complex .f64 3 0)), (1, (.complex .f64 3 1)), (7, (.pointer (some ⟨17630, 0, none⟩))), (8, (.pointer (some ⟨26060, 0, none⟩)))] := rfl
  rw [hL] at hp
  simp only [List.mem_cons, List.not_mem_nil, or_false] at hp
  rcases hp with rfl | rfl | rfl | rfl
  · exact k3 _ (List.mem_of_getElem? (i := 0) rfl)
  · exact k3 _ (List.mem_of_getElem? (i := 1) rfl)
  · exact k3 _ (List.mem_of_getElem? (i := 2) rfl)
  · exact k3 _ (List.mem_of_getElem? (i := 3) rfl))
theorem aar5 {Y : Cx} {a1 : Act} (k3 : ∀ p ∈ rgR5, ∃ u, a1.tmps[p.1]? = some u ∧ VR Y p.2 u) (k4 : 279 ≤ a1.tmps.size) (k5 : a1.defers = []) : AAR Y ⟨rtR5, 279, []⟩ a1 := regs_AAR k4 k5 (fun p hp => by
  have hL : toL rtR5 = [(0, (.complex .f64 3 0)), (1, (.complex .f64 3 1)), (17, (.complex .f64 2 129)), (8, (.pointer (some ⟨26060, 0, none⟩))), (16, (.complex .f64 2 128)), (18, (.complex .f64 6 133))] := rfl
  rw [hL] at hp
  simp only [List.mem_cons, List.not_mem_nil, or_false] at hp
  rcases hp with rfl | rfl | rfl | rfl | rfl | rfl
  · exact k3 _ (List.mem_of_getElem? (i := 0) rfl)
  · exact k3 _ (List.mem_of_getElem? (i := 1) rfl)
  · exact k3 _ (List.mem_of_getElem? (i := 4) rfl)
  · exact k3 _ (List.mem_of_getElem? (i := 2) rfl)
  · exact k3 _ (List.mem_of_getElem? (i := 3) rfl)
  · exact k3 _ (List.mem_of_getElem? (i := 5) rfl))
theorem aar6 {Y : Cx} {a1 : Act} (k3 : ∀ p ∈ rgR6, ∃ u, a1.tmps[p.1]? = some u ∧ VR Y p.2 u) (k4 : 279 ≤ a1.tmps.size) (k5 : a1.defers = []) : AAR Y ⟨rtR6, 279, []⟩ a1 := regs_AAR k4 k5 (fun p hp => by
  have hL : toL rtR6 = [(17, (.complex .f64 2 129)), (16, (.complex .f64 2 128))] := rfl
  rw [hL] at hp
  simp only [List.mem_cons, List.not_mem_nil, or_false] at hp
  rcases hp with rfl | rfl
  · exact k3 _ (List.mem_of_getElem? (i := 1) rfl)
  · exact k3 _ (List.mem_of_getElem? (i := 0) rfl))

section
variable {a b : Int} {W : World} {X : Cx} {ty : Nat → TypeId} {c : Code}

set_option maxRecDepth 100000 in
/-- What is divided, and the end. -/
theorem end7 {T : Tab} {Y : Cx} {w : World} {t : Act} (hY : Y.ρ = rhoR a b) (hT : TabOK Tryz.prog (rhoR a b) T) (hb : Tryz.f3.body = some c) (hk : ok Tryz.f3.body (fun c => cases [[]] (postC 4 (postC 7 (postC 5 (postC 2 (postC 1 (postC 3 c)))))) Tryz.f3 Tryz.prog T (envR T) rtR6 279 ⟨hR6 ty, nxR6⟩) = True)
    (hR : Rel Y ⟨hR6 ty, nxR6⟩ w) (hX : Ext X ⟨h0 ty, 11⟩ W Y ⟨hR6 ty, nxR6⟩ w) (ha : AAR Y ⟨rtR6, 279, []⟩ t) : (postC 4 (postC 7 (postC 5 (postC 2 (postC 1 (postC 3 c)))))).wpIn (Fw none) 0 Tryz.prog (bodyPost Tryz.prog Tryz.f3 (Good X ⟨h0 ty, 11⟩ W)) t w := by
  obtain ⟨c', hb', h⟩ := ok_ex (of_true hk)
  rw [hb] at hb'
  cases hb'
  have := cases_ok (fn := Tryz.f3) (by rw [hY]; exact envR_ok hT) hR ha (p := []) (fun q hq => by cases hq) h (fun q hq x hx => by rw [List.mem_singleton] at hq; subst hq; cases hx) (by simp)
  have hmono : ∀ (e : Ending) (w2 : World), Good Y ⟨hR6 ty, nxR6⟩ w e w2 → Good X ⟨h0 ty, 11⟩ W e w2 := fun e w2 ⟨g1, Z, s2, g2⟩ => ⟨g1, Z, s2, hX.trans g2⟩
  exact Code.wpIn_mono (fun x a2 w2 h2 => by
    cases x <;> first
      | exact h2.elim
      | exact ⟨h2.1, h2.2.choose, h2.2.choose_spec.1, hmono _ _ h2.2.choose_spec.2⟩
      | exact ⟨h2.1, hmono _ _ h2.2⟩
      | exact hmono _ _ h2) this

theorem div7 {Y : Cx} {w : World} {t : Act} (hY : Y.ρ = rhoR a b) (hb : Tryz.f3.body = some c) (hR : Rel Y ⟨hR6 ty, nxR6⟩ w) (hX : Ext X ⟨h0 ty, 11⟩ W Y ⟨hR6 ty, nxR6⟩ w) (ha : AAR Y ⟨rtR6, 279, []⟩ t) :
    (postC 4 (postC 7 (postC 5 (postC 2 (postC 1 (postC 3 c)))))).wpIn (Fw none) 0 Tryz.prog (bodyPost Tryz.prog Tryz.f3 (Good X ⟨h0 ty, 11⟩ W)) t w := by
  by_cases p0 : v128 a b = -2147483648
  · by_cases q0 : v129 a b = 0
    · exact end7 hY (rT71_ok q0 p0) hb (k71 ty) hR hX ha
    · by_cases q1 : v129 a b = -1
      · exact end7 hY (rT73_ok q1 p0) hb (k73 ty) hR hX ha
      · exact end7 hY (rT75_ok ⟨q0, q1⟩ p0) hb (k75 ty) hR hX ha
  · by_cases q0 : v129 a b = 0
    · exact end7 hY (rT70_ok q0 p0) hb (k70 ty) hR hX ha
    · by_cases q1 : v129 a b = -1
      · exact end7 hY (rT72_ok q1 p0) hb (k72 ty) hR hX ha
      · exact end7 hY (rT74_ok ⟨q0, q1⟩ p0) hb (k74 ty) hR hX ha

set_option maxRecDepth 100000 in
/-- The comparisons. -/
theorem seg6 {T : Tab} {Y : Cx} {w : World} {t : Act} (hX0 : X.ρ = rhoR a b) (hY : Y.ρ = X.ρ) (hT : TabOK Tryz.prog (rhoR a b) T) (hb : Tryz.f3.body = some c) (hR0 : Rel X ⟨h0 ty, 11⟩ W)
    (hk : ok Tryz.f3.body (fun c => evCode (preC 4 (postC 7 (postC 5 (postC 2 (postC 1 (postC 3 c)))))) Tryz.prog T (envR T) ⟨rtR5, 279, []⟩ ⟨hR5 ty, nxR5⟩ (atSeg 279 nxR6 rgR6 blR6) (fun _ _ _ => False)) = True)
    (hR : Rel Y ⟨hR5 ty, nxR5⟩ w) (hX : Ext X ⟨h0 ty, 11⟩ W Y ⟨hR5 ty, nxR5⟩ w) (ha : AAR Y ⟨rtR5, 279, []⟩ t) : (postC 7 (postC 5 (postC 2 (postC 1 (postC 3 c))))).wpIn (Fw none) 0 Tryz.prog (bodyPost Tryz.prog Tryz.f3 (Good X ⟨h0 ty, 11⟩ W)) t w := by
  obtain ⟨c', hb', h⟩ := ok_ex (of_true hk)
  rw [hb] at hb'
  cases hb'
  exact seg_ok (k := 4) (X0 := X) (s0 := ⟨h0 ty, 11⟩) (W := W) (by rw [hY, hX0]; exact envR_ok hT) hR0 (fun b => start_fr b) h hR hX ha (fun id b h => mem_hR6 h) (fun Z a2 w2 e2 q1 q2 q3 q4 q5 => div7 (e2.trans (hY.trans hX0)) hb q1 q2 (aar6 q3 q4 q5))

theorem cmp6 {Y : Cx} {w : World} {t : Act} (hX0 : X.ρ = rhoR a b) (hY : Y.ρ = X.ρ) (hb : Tryz.f3.body = some c) (hR0 : Rel X ⟨h0 ty, 11⟩ W)
    (hR : Rel Y ⟨hR5 ty, nxR5⟩ w) (hX : Ext X ⟨h0 ty, 11⟩ W Y ⟨hR5 ty, nxR5⟩ w) (ha : AAR Y ⟨rtR5, 279, []⟩ t) : (postC 7 (postC 5 (postC 2 (postC 1 (postC 3 c))))).wpIn (Fw none) 0 Tryz.prog (bodyPost Tryz.prog Tryz.f3 (Good X ⟨h0 ty, 11⟩ W)) t w := by
  have q1 := r128 a b
  have q2 := r129 a b
  have q3 := e130 a b
  have q4 := e133 a b
  by_cases h0 : v128 a b = v129 a b
  · exact seg6 hX0 hY (rT60_ok h0) hb hR0 (k60 ty) hR hX ha
  by_cases h1 : v128 a b < v129 a b
  · by_cases h2 : v133 a b < v130 a b
    · exact seg6 hX0 hY (rT61_ok h1 h2) hb hR0 (k61 ty) hR hX ha
    · exact seg6 hX0 hY (rT62_ok h1 (by omega)) hb hR0 (k62 ty) hR hX ha
  · by_cases h2 : v133 a b < v130 a b
    · exact seg6 hX0 hY (rT63_ok (by omega) h2) hb hR0 (k63 ty) hR hX ha
    · exact seg6 hX0 hY (rT64_ok (by omega) (by omega)) hb hR0 (k64 ty) hR hX ha
end

set_option maxRecDepth 100000 in
theorem reckoned_wp {a b : Int} (ha : -9223372036854775808 ≤ a ∧ a < 9223372036854775808) {W : World} {X : Cx} {ty : Nat → TypeId} (hX : X.ρ = rhoR a b) (hR : Rel X ⟨h0 ty, 11⟩ W) {c : Code} (hb : Tryz.f3.body = some c) {act : Act} {t : TV} (hact : AAR X ⟨t, 279, []⟩ act)
    (hA : evCode (preC 3 c) Tryz.prog rT (envR rT) ⟨t, 279, []⟩ ⟨h0 ty, 11⟩ (atSeg 279 nxR1 rgR1 blR1) (fun _ _ _ => False)) : c.wpIn (Fw none) 0 Tryz.prog (bodyPost Tryz.prog Tryz.f3 (Good X ⟨h0 ty, 11⟩ W)) act W := by
  have hE : ∀ Y : Cx, Y.ρ = X.ρ → EnvOK Tryz.prog Y.ρ rT (envR rT) none := fun Y hY => by rw [hY, hX]; exact envR_ok (rT_ok ha)
  have hk : ∀ {p : Code → Prop}, ok Tryz.f3.body p = True → p c := fun h => by
    obtain ⟨c', hb', h⟩ := ok_ex (of_true h)
    rw [hb] at hb'
    cases hb'
    exact h
  refine seg_ok (k := 3) (X0 := X) (s0 := ⟨h0 ty, 11⟩) (W := W) (hE X rfl) hR (fun b => start_fr b) hA hR (Ext.refl _ _ _) hact (fun id b h => mem_hR1 h) (fun Y1 a1 w1 e1 k1' k2' k3' k4' k5' => ?_)
  refine seg_ok (k := 1) (X0 := X) (s0 := ⟨h0 ty, 11⟩) (W := W) (hE Y1 e1) hR (fun b => start_fr b) (hk (k2 ty)) k1' k2' (aar1 k3' k4' k5') (fun id b h => mem_hR2 h) (fun Y2 a2 w2 e' k1' k2' k3' k4' k5' => ?_)
  have e2 := e'.trans e1
  refine seg_ok (k := 2) (X0 := X) (s0 := ⟨h0 ty, 11⟩) (W := W) (hE Y2 e2) hR (fun b => start_fr b) (hk (k3 ty)) k1' k2' (aar2 k3' k4' k5') (fun id b h => mem_hR3 h) (fun Y3 a3 w3 e' k1' k2' k3' k4' k5' => ?_)
  have e3 := e'.trans e2
  refine seg_ok (k := 5) (X0 := X) (s0 := ⟨h0 ty, 11⟩) (W := W) (hE Y3 e3) hR (fun b => start_fr b) (hk (k4 ty)) k1' k2' (aar3 k3' k4' k5') (fun id b h => mem_hR4 h) (fun Y4 a4 w4 e' k1' k2' k3' k4' k5' => ?_)
  have e4 := e'.trans e3
  refine seg_ok (k := 7) (X0 := X) (s0 := ⟨h0 ty, 11⟩) (W := W) (hE Y4 e4) hR (fun b => start_fr b) (hk (k5 ty)) k1' k2' (aar4 k3' k4' k5') (fun id b h => mem_hR5 h) (fun Y5 a5 w5 e' k1' k2' k3' k4' k5' => ?_)
  have e5 := e'.trans e4
  exact cmp6 hX e5 hb hR k1' k2' (aar5 k3' k4' k5')
end Go.Proofs.YtiflgmdblkapgaaGreatDoor
