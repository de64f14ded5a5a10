/-
  Part 17 of the proof: Body6, Th, Body6a, Body6d, Body7a, Body7d, Body8, Body9, Body10, Body11.
-/
import Derived.Test.YtgkpkngchploiaaGreatPart15
import Derived.Deep.RegionHeld3
import Derived.RegionDies
import Derived.BigRegion
import Derived.Test.YtgkpkngchploiaaGreatPart16
/-
  An index that must be there; typeOf, typeAt.
-/
namespace Go.Proofs.YtgkpkngchploiaaGreat
open Go.RowKit

set_option maxHeartbeats 400000 in
theorem there_ok {v : Int} {a many : Nat} (w : World) (h : v < (many : Int)) (h0 : 0 ≤ v) (h1 : v ≤ 4294967295) :
    Calls Tryz.prog 19 #[.agg #[.int .u32 v, .int .i64 (a : Nat)], .int .i64 (many : Nat)] w fun e w' => e = .returned (.int .i64 v) ∧ w' = w.alloc (.cells #[.int .u32 v, .int .i64 (a : Nat)] 62) := by
  go_enter Tryz.func19, Tryz.ntmps19
  go_wp2
  go_ret
  exact ⟨rfl, rfl⟩

set_option maxHeartbeats 400000 in
theorem there_bad {v : Int} {a many : Nat} (w : World) (hge : (many : Int) ≤ v) (h0 : 0 ≤ v) (h1 : v ≤ 4294967295) :
    Calls Tryz.prog 19 #[.agg #[.int .u32 v, .int .i64 (a : Nat)], .int .i64 (many : Nat)] w fun e w' => e = gaveUp 3 a ∧ w' = w.alloc (.cells #[.int .u32 v, .int .i64 (a : Nat)] 62) := by
  go_enter Tryz.func19, Tryz.ntmps19
  go_wp2_with fail
  refine (giveUp_any _ _ _).mono ?_
  rintro e w3 ⟨rfl, rfl⟩
  exact ⟨rfl, rfl, rfl⟩

/-- A module that lies at block mb, and is only read: it and all its lists lie in blocks of K. -/
def MV (s : ByteArray) (K : Nat → Prop) (w : World) (mb : Nat) (m : Mdl) : Prop := K mb ∧ ∃ f : Fields, Blk w mb f.cells ∧ Holds12 s K w f m

theorem MV.lt {s : ByteArray} {K : Nat → Prop} {w : World} {mb : Nat} {m : Mdl} (h : MV s K w mb m) : mb < w.heap.size := by
  obtain ⟨-, f, h1, -⟩ := h
  exact h1.lt

theorem MV.kept {s : ByteArray} {K S : Nat → Prop} {w w' : World} {mb : Nat} {m : Mdl} (h : MV s K w mb m) (hk : Kept S w w') (hs : ∀ k, k < w.heap.size → K k → ¬ S k) : MV s K w' mb m := by
  have hl := h.lt
  obtain ⟨h0, f, h1, h2⟩ := h
  exact ⟨h0, f, h1.kept hk hl (hs mb hl h0), h2.kept hk hs⟩

/-- A type of the module, by its index. -/
theorem types_cell {K : Nat → Prop} {w : World} {ts : List Ty} {v : Value} (h : isLst 85 2 elTy K ts w v) {k : Nat} (hk : k < ts.length) :
    ∃ g cap vi vo, v = .slice (some ⟨g, 0, none⟩) ts.length cap ∧ g < w.heap.size ∧ ts.length ≤ cap ∧ isKinds K ts[k].ins w vi ∧ isKinds K ts[k].outs w vo ∧ w.cell? ⟨g, k * 2, none⟩ = some vi ∧ w.cell? ⟨g, k * 2 + 1, none⟩ = some vo := by
  obtain ⟨css, hrow, hea⟩ := h
  obtain ⟨g, cap, hv, -, hg, hc, hcell⟩ := Row.cells hrow (by omega)
  have hy : ts[k]? = some ts[k] := List.getElem?_eq_getElem hk
  obtain ⟨cs, hcs, ⟨⟨vi, vo, rfl, h1, h2⟩, -⟩⟩ := hea.get hy
  exact ⟨g, cap, vi, vo, hv, hg, hc, h1, h2, (hcell (k * 2) (by omega)).trans (Each.flat (o := 0) hea hcs (by omega)), (hcell (k * 2 + 1) (by omega)).trans (Each.flat (o := 1) hea hcs (by omega))⟩

theorem cell3 {w : World} {p : Addr} (h : p.block < w.heap.size) (o1 o2 o3 : Obj) : (((w.alloc o1).alloc o2).alloc o3).drew.cell? p = w.cell? p :=
  ((((Kept.refl (fun _ => False) w).alloc o1).alloc o2).alloc o3).drew.cell h (fun c => c)

theorem cell3' {w : World} {g i : Nat} {c : Array Value} {t : TypeId} {v : Value} (h : g = w.heap.size) (o2 o3 : Obj) (hv : c[i]? = some v) : (((w.alloc (.cells c t)).alloc o2).alloc o3).drew.cell? ⟨g, i, none⟩ = some v := by
  subst h
  have hk : Kept (fun _ => False) (w.alloc (.cells c t)) ((((w.alloc (.cells c t)).alloc o2).alloc o3).drew) := (((Kept.refl _ _).alloc _).alloc _).drew
  rw [hk.cell (p := ⟨w.heap.size, i, none⟩) (by simp) (fun c => c), World.cell?_alloc_new]
  exact hv

/-- A type comes back. -/
def isTypeOf (K : Nat → Prop) (t : Ty) (w : World) (v : Value) : Prop := ∃ vi vo, v = .agg #[vi, vo] ∧ isKinds K t.ins w vi ∧ isKinds K t.outs w vo

end Go.Proofs.YtgkpkngchploiaaGreat
/-
  A take of a drawn region in few words (a predicate of the world is held).
-/
namespace Go.Proofs.YtgkpkngchploiaaGreat
open Go.RowKit

section
variable {P : Program} {md : Region.Mode} {Q : Exit → Act → World → Prop} {S : World → Prop}

theorem tkh {l : List Oper} {oi : Oper} {v : Value} {fuel : Nat} {listed : Array Bool} {a a' : Act} {w : World} (i : Nat) (hS : S w)
    (hi : l[i]? = some oi := by rfl) (hs : Region.noSelect l.toArray = true := by kernel_rfl) (hf : Region.free md l.toArray listed i = true := by kernel_rfl) (hr : (Region.ready md l.toArray listed).contains i = true := by kernel_rfl)
    (hQ : ∀ c a w, Q (.panic c) (a.put oi.dst v) w → Q (.panic c) a w := by exact fun _ _ _ h => h) (hy : YieldsIf P l.toArray S oi v a := by (refine Or.inl ⟨by rfl, ?_⟩; intro w hSw; (try dsimp only at hSw); go_simp; try with_reducible rfl))
    (ha : a.put oi.dst v = a' := by (dsimp only [Act.put, List.setIfInBounds_toArray, List.set_cons_zero, List.set_cons_succ]))
    (h : wpAnyH P md l.toArray Q S fuel (listed.setIfInBounds i true) a' w) : wpAnyH P md l.toArray Q S (fuel + 1) listed a w :=
  wpAnyH_take (by simpa using hi) hs hf hr hQ hy hS (ha ▸ h)

end

end Go.Proofs.YtgkpkngchploiaaGreat
/-
  typeAt: the type is there.
-/
namespace Go.Proofs.YtgkpkngchploiaaGreat
open Go.RowKit

set_option maxRecDepth 100000 in
set_option maxHeartbeats 3200000 in
theorem typeAt_ok {s : ByteArray} {K : Nat → Prop} {w : World} {bb mb : Nat} {lv sv bv z : Value} {m : Mdl} {x : Int × Nat} (hB : Blk w bb [.pointer (some ⟨mb, 0, none⟩), lv, sv, bv, z]) (hm : MV s K w mb m) (hx : 0 ≤ x.1 ∧ x.1 ≤ 4294967295) (hlt : x.1 < (m.types.length : Int)) :
    Calls Tryz.prog 90 #[.pointer (some ⟨bb, 0, none⟩), .agg #[.int .u32 x.1, .int .i64 (x.2 : Nat)]] w (Says (fun _ => False) w (typeAtM m x) (isTypeOf K)) := by
  obtain ⟨⟨I0, J0⟩, -, -, -, -⟩ := hB.five
  have hbw := hB.lt
  have hmw := hm.lt
  obtain ⟨hK, f, hM, hH⟩ := hm
  obtain ⟨F0, G0⟩ := hM.twelve.1.1
  obtain ⟨xv, xa⟩ := x
  simp only at hx hlt ⊢
  obtain ⟨h0, h1⟩ := hx
  obtain ⟨k, rfl⟩ : ∃ k : Nat, xv = (k : Int) := ⟨xv.toNat, by omega⟩
  obtain ⟨g, cap, vi, vo, hv, hg, hc, k1, k2, C0, C1⟩ := types_cell hH.h0 (show k < m.types.length by omega)
  obtain ⟨pi, ci, rfl⟩ := Row.shape k1
  obtain ⟨po, co, rfl⟩ := Row.shape k2
  rw [hv] at F0
  have HR : Hid (typeAtM m ((k : Int), xa) = .ok m.types[k]) := by
    show _ = _
    have hk : k < m.types.length := by omega
    simp [typeAtM, thereM, hk]
  have H1 := hide k1
  have H2 := hide k2
  clear k1 k2 hH hM hv G0 hB
  generalize m.types[k] = t at *
  have e1 := fun o1 o2 o3 => (cell3 (p := ⟨bb, 0, none⟩) hbw o1 o2 o3).trans I0
  have e2 := fun o1 o2 o3 => (cell3 (p := ⟨mb, 0, none⟩) hmw o1 o2 o3).trans F0
  have e3 := fun o1 o2 o3 => (cell3 (p := ⟨g, k * 2, none⟩) hg o1 o2 o3).trans C0
  have e4 := fun o1 o2 o3 => (cell3 (p := ⟨g, k * 2 + 1, none⟩) hg o1 o2 o3).trans C1
  have n1 := World.new_ne w _ I0
  have n2 := World.new_ne w _ F0
  have n3 := World.new_ne w _ C0
  have n4 := World.new_ne w _ C1
  go_enter Tryz.func90, Tryz.ntmps90
  go_wp2_with fail
  go_region_held3 (fun w' => w'.cell? ⟨bb, 0, none⟩ = some (.pointer (some ⟨mb, 0, none⟩)) ∧ w'.cell? ⟨mb, 0, none⟩ = some (.slice (some ⟨g, 0, none⟩) m.types.length cap) ∧ w'.cell? ⟨w.heap.size, 0, none⟩ = some (.int .u32 (k : Int)) ∧ w'.cell? ⟨w.heap.size, 1, none⟩ = some (.int .i64 (xa : Nat)) ∧ w'.cell? ⟨g, k * 2, none⟩ = some (.slice pi t.ins.length ci) ∧ w'.cell? ⟨g, k * 2 + 1, none⟩ = some (.slice po t.outs.length co)) (go_keep) ((refine step_call (f := 19) (args := #[.agg #[.int .u32 (k : Int), .int .i64 (xa : Nat)], .int .i64 (m.types.length : Nat)]) (by rfl) (by go_simp) (there_ok _ hlt h0 h1) ?_; rintro e w' ⟨rfl, rfl⟩; refine ⟨_, rfl, ?_⟩))
  all_goals
    go_wp2
    refine bodyPost_ret (v := .agg #[.slice pi t.ins.length ci, .slice po t.outs.length co]) ?_ rfl ?_
    · simp [results, Tryz.results90, go_sem]
    · have hk := ((((Kept.refl (fun _ => False) w).alloc (.cells #[.int .u32 (k : Int), .int .i64 (xa : Nat)] 62)).alloc (.cells #[.slice pi t.ins.length ci, .slice po t.outs.length co] 85)).alloc (.cells #[.int .u32 (k : Int), .int .i64 (xa : Nat)] 62)).drew
      exact Says.ok_mk HR.out hk ⟨_, _, rfl, Row.kept H1.out hk (fun _ _ _ c => c), Row.kept H2.out hk (fun _ _ _ c => c)⟩

end Go.Proofs.YtgkpkngchploiaaGreat
/-
  typeAt: no such type.
-/
namespace Go.Proofs.YtgkpkngchploiaaGreat
open Go.RowKit

/-- A call that gives up, in a region that draws its order. -/
theorem wpOp_dies {P : Program} {ops : Array Oper} {Q : Exit → Act → World → Prop} {i : Nat} {K : Act → World → Prop} {a : Act} {w : World} {o : Oper} {f : FuncId} {args : Array Value} {R : Ending → World → Prop} (ho : ops[i]? = some o) (hgd : o.guard = none)
    (hex : (execOp a.eval o).run P w = .ok (.enter f args) w) (hc : Calls P f args w R) (h : ∀ e w', R e w' → ∃ chain, e = .panicked chain ∧ Q (.panic chain) a w') : wpOp P ops Q i K a w := by
  have hw : Region.wanted o (yielded ops a.tmps) = true := by simp [Region.wanted, hgd]
  unfold wpOp
  rw [ho]
  simp only [hw, if_true]
  unfold Oper.wp
  rw [hex]
  refine .inl (hc.mono ?_)
  intro e w' hr
  obtain ⟨chain, rfl, hq⟩ := h e w' hr
  exact hq

set_option maxRecDepth 100000 in
set_option maxHeartbeats 3200000 in
theorem typeAt_bad {s : ByteArray} {K : Nat → Prop} {w : World} {bb mb : Nat} {lv sv bv z : Value} {m : Mdl} {x : Int × Nat} (hB : Blk w bb [.pointer (some ⟨mb, 0, none⟩), lv, sv, bv, z]) (hm : MV s K w mb m) (hx : 0 ≤ x.1 ∧ x.1 ≤ 4294967295) (hlt : ¬ x.1 < (m.types.length : Int)) :
    Calls Tryz.prog 90 #[.pointer (some ⟨bb, 0, none⟩), .agg #[.int .u32 x.1, .int .i64 (x.2 : Nat)]] w (Says (fun _ => False) w (typeAtM m x) (isTypeOf K)) := by
  obtain ⟨⟨I0, J0⟩, -, -, -, -⟩ := hB.five
  have hbw := hB.lt
  have hmw := hm.lt
  obtain ⟨hK, f, hM, hH⟩ := hm
  obtain ⟨F0, G0⟩ := hM.twelve.1.1
  have hHH := hide hH
  obtain ⟨xv, xa⟩ := x
  simp only at hx hlt ⊢
  obtain ⟨h0, h1⟩ := hx
  have HR : Hid (typeAtM m (xv, xa) = .error (3, xa)) := by
    show _ = _
    simp [typeAtM, thereM, hlt]
  clear hH hM G0 hB
  obtain ⟨p0, c0, hv⟩ : ∃ p c, f.v0 = .slice p m.types.length c := by
    obtain ⟨css, hr, -⟩ := hHH.out.h0
    exact Row.shape hr
  rw [hv] at F0
  clear hv hHH hK
  go_enter Tryz.func90, Tryz.ntmps90
  go_wp2_with fail
  have hHeld : (fun w' : World => w'.cell? ⟨bb, 0, none⟩ = some (.pointer (some ⟨mb, 0, none⟩)) ∧ w'.cell? ⟨mb, 0, none⟩ = some (.slice p0 m.types.length c0) ∧ w'.cell? ⟨w.heap.size, 0, none⟩ = some (.int .u32 xv) ∧ w'.cell? ⟨w.heap.size, 1, none⟩ = some (.int .i64 (xa : Nat))) (((w.alloc (.cells #[.int .u32 xv, .int .i64 (xa : Nat)] 62)).alloc (.cells #[.slice none 0 0, .slice none 0 0] 85)).drew) := by
    dsimp only
    exact ⟨(((Kept.refl (fun _ => False) w).alloc _).alloc _).drew.cell hbw (fun c => c) |>.trans I0, (((Kept.refl (fun _ => False) w).alloc _).alloc _).drew.cell hmw (fun c => c) |>.trans F0, by simp, by simp⟩
  refine wp_region_held_drew (S := fun w' : World => w'.cell? ⟨bb, 0, none⟩ = some (.pointer (some ⟨mb, 0, none⟩)) ∧ w'.cell? ⟨mb, 0, none⟩ = some (.slice p0 m.types.length c0) ∧ w'.cell? ⟨w.heap.size, 0, none⟩ = some (.int .u32 xv) ∧ w'.cell? ⟨w.heap.size, 1, none⟩ = some (.int .i64 (xa : Nat))) (by kernel_rfl) hHeld (fun _ => ?_)
  refine tkh 0 hHeld (h := ?_)
  refine tkh 1 hHeld (h := ?_)
  refine tkh 2 hHeld (h := ?_)
  refine tkh 3 hHeld (h := ?_)
  refine tkh 4 hHeld (h := ?_)
  refine tkh 5 hHeld (h := ?_)
  refine tkh 6 hHeld (h := ?_)
  refine tkh 7 hHeld (h := ?_)
  refine tkh 8 hHeld (h := ?_)
  refine tkh 9 hHeld (h := ?_)
  refine tkh 10 hHeld (h := ?_)
  refine tkh 11 hHeld (h := ?_)
  refine tkh 12 hHeld (h := ?_)
  refine tkh 13 hHeld (h := ?_)
  refine tkh 14 hHeld (h := ?_)
  refine tkh 15 hHeld (h := ?_)
  refine wpAnyH_all (rs := [16]) (by kernel_rfl) (by simp) ?_
  intro i hi
  rw [List.mem_singleton] at hi
  subst hi
  refine wpOp_dies (f := 19) (args := #[.agg #[.int .u32 xv, .int .i64 (xa : Nat)], .int .i64 (m.types.length : Nat)]) rfl rfl (by kernel_rfl) (there_bad _ (by omega) h0 h1) ?_
  rintro e w2 ⟨rfl, rfl⟩
  refine ⟨_, rfl, ?_⟩
  refine ⟨rfl, Says.err_mk HR.out ?_⟩
  exact ((((Kept.refl _ _).alloc _).alloc _).drew.alloc _)

end Go.Proofs.YtgkpkngchploiaaGreat
/-
  global: it is there.
-/
namespace Go.Proofs.YtgkpkngchploiaaGreat
open Go.RowKit

/-- A global comes back. -/
def isGlobal (g : Glb) (_ : World) (v : Value) : Prop := v = .agg #[.int .u8 (g.kind : Nat), .bool g.set_, .int .i64 (g.first.at_ : Nat), .int .u8 (g.first.kind : Nat), .int .i64 g.first.val]

set_option maxRecDepth 100000 in
set_option maxHeartbeats 3200000 in
theorem global_ok {s : ByteArray} {K : Nat → Prop} {w : World} {bb mb : Nat} {lv sv bv z : Value} {m : Mdl} {x : Int × Nat} (hB : Blk w bb [.pointer (some ⟨mb, 0, none⟩), lv, sv, bv, z]) (hm : MV s K w mb m) (hx : 0 ≤ x.1 ∧ x.1 ≤ 4294967295) (hlt : x.1 < (m.globals.length : Int)) :
    Calls Tryz.prog 92 #[.pointer (some ⟨bb, 0, none⟩), .agg #[.int .u32 x.1, .int .i64 (x.2 : Nat)]] w (Says (fun _ => False) w (globalAtM m x) isGlobal) := by
  obtain ⟨⟨I0, J0⟩, -, -, -, -⟩ := hB.five
  have hbw := hB.lt
  have hmw := hm.lt
  obtain ⟨hK, f, hM, hH⟩ := hm
  obtain ⟨F0, G0⟩ := hM.twelve.1.2.2.2.2.1
  obtain ⟨xv, xa⟩ := x
  simp only at hx hlt ⊢
  obtain ⟨h0, h1⟩ := hx
  obtain ⟨k, rfl⟩ : ∃ k : Nat, xv = (k : Int) := ⟨xv.toNat, by omega⟩
  have hk : k < m.globals.length := by omega
  obtain ⟨g, cap, hv, -, hg, hc, hcell⟩ := Row.cells hH.h4 (by omega)
  have hy : m.globals[k]? = some m.globals[k] := List.getElem?_eq_getElem hk
  have C0 : w.cell? ⟨g, k * 5, none⟩ = some (.int .u8 (m.globals[k].kind : Nat)) := (hcell (k * 5) (by omega)).trans (flat_get (m := 5) (o := 0) (fun _ => rfl) hy (by omega))
  have C1 : w.cell? ⟨g, k * 5 + 1, none⟩ = some (.bool m.globals[k].set_) := (hcell (k * 5 + 1) (by omega)).trans (flat_get (m := 5) (o := 1) (fun _ => rfl) hy (by omega))
  have C2 : w.cell? ⟨g, k * 5 + 2, none⟩ = some (.int .i64 (m.globals[k].first.at_ : Nat)) := (hcell (k * 5 + 2) (by omega)).trans (flat_get (m := 5) (o := 2) (fun _ => rfl) hy (by omega))
  have C3 : w.cell? ⟨g, k * 5 + 3, none⟩ = some (.int .u8 (m.globals[k].first.kind : Nat)) := (hcell (k * 5 + 3) (by omega)).trans (flat_get (m := 5) (o := 3) (fun _ => rfl) hy (by omega))
  have C4 : w.cell? ⟨g, k * 5 + 4, none⟩ = some (.int .i64 m.globals[k].first.val) := (hcell (k * 5 + 4) (by omega)).trans (flat_get (m := 5) (o := 4) (fun _ => rfl) hy (by omega))
  rw [hv] at F0
  have HR : Hid (globalAtM m ((k : Int), xa) = .ok m.globals[k]) := by
    show _ = _
    simp [globalAtM, thereM, hk]
  clear hH hM hv G0 hB hcell hy
  generalize m.globals[k] = t at *
  have e1 := fun o1 o2 o3 => (cell3 (p := ⟨bb, 0, none⟩) hbw o1 o2 o3).trans I0
  have e2 := fun o1 o2 o3 => (cell3 (p := ⟨mb, 4, none⟩) hmw o1 o2 o3).trans F0
  have d0 := fun o1 o2 o3 => (cell3 (p := ⟨g, k * 5, none⟩) hg o1 o2 o3).trans C0
  have d1 := fun o1 o2 o3 => (cell3 (p := ⟨g, k * 5 + 1, none⟩) hg o1 o2 o3).trans C1
  have d2 := fun o1 o2 o3 => (cell3 (p := ⟨g, k * 5 + 2, none⟩) hg o1 o2 o3).trans C2
  have d3 := fun o1 o2 o3 => (cell3 (p := ⟨g, k * 5 + 3, none⟩) hg o1 o2 o3).trans C3
  have d4 := fun o1 o2 o3 => (cell3 (p := ⟨g, k * 5 + 4, none⟩) hg o1 o2 o3).trans C4
  have n1 := World.new_ne w _ I0
  have n2 := World.new_ne w _ F0
  have n3 := World.new_ne w _ C0
  go_enter Tryz.func92, Tryz.ntmps92
  go_wp2_with fail
  go_region_held3 (fun w' => w'.cell? ⟨bb, 0, none⟩ = some (.pointer (some ⟨mb, 0, none⟩)) ∧ w'.cell? ⟨mb, 4, none⟩ = some (.slice (some ⟨g, 0, none⟩) m.globals.length cap) ∧ w'.cell? ⟨w.heap.size, 0, none⟩ = some (.int .u32 (k : Int)) ∧ w'.cell? ⟨w.heap.size, 1, none⟩ = some (.int .i64 (xa : Nat)) ∧ w'.cell? ⟨g, k * 5, none⟩ = some (.int .u8 (t.kind : Nat)) ∧ w'.cell? ⟨g, k * 5 + 1, none⟩ = some (.bool t.set_) ∧ w'.cell? ⟨g, k * 5 + 2, none⟩ = some (.int .i64 (t.first.at_ : Nat)) ∧ w'.cell? ⟨g, k * 5 + 3, none⟩ = some (.int .u8 (t.first.kind : Nat)) ∧ w'.cell? ⟨g, k * 5 + 4, none⟩ = some (.int .i64 t.first.val)) (go_keep) ((refine step_call (f := 19) (args := #[.agg #[.int .u32 (k : Int), .int .i64 (xa : Nat)], .int .i64 (m.globals.length : Nat)]) (by rfl) (by go_simp) (there_ok _ hlt h0 h1) ?_; rintro e w' ⟨rfl, rfl⟩; refine ⟨_, rfl, ?_⟩))
  all_goals
    go_wp2
    refine bodyPost_ret (v := .agg #[.int .u8 (t.kind : Nat), .bool t.set_, .int .i64 (t.first.at_ : Nat), .int .u8 (t.first.kind : Nat), .int .i64 t.first.val]) ?_ rfl ?_
    · simp [results, Tryz.results92, go_sem]
    · have hk := ((((Kept.refl (fun _ => False) w).alloc (.cells #[.int .u32 (k : Int), .int .i64 (xa : Nat)] 62)).alloc (.cells #[.int .u8 (t.kind : Nat), .bool t.set_, .int .i64 (t.first.at_ : Nat), .int .u8 (t.first.kind : Nat), .int .i64 t.first.val] 78)).alloc (.cells #[.int .u32 (k : Int), .int .i64 (xa : Nat)] 62)).drew
      exact Says.ok_mk HR.out hk rfl

end Go.Proofs.YtgkpkngchploiaaGreat
/-
  global: there is none.
-/
namespace Go.Proofs.YtgkpkngchploiaaGreat
open Go.RowKit

set_option maxRecDepth 100000 in
set_option maxHeartbeats 3200000 in
theorem global_bad {s : ByteArray} {K : Nat → Prop} {w : World} {bb mb : Nat} {lv sv bv z : Value} {m : Mdl} {x : Int × Nat} (hB : Blk w bb [.pointer (some ⟨mb, 0, none⟩), lv, sv, bv, z]) (hm : MV s K w mb m) (hx : 0 ≤ x.1 ∧ x.1 ≤ 4294967295) (hlt : ¬ x.1 < (m.globals.length : Int)) :
    Calls Tryz.prog 92 #[.pointer (some ⟨bb, 0, none⟩), .agg #[.int .u32 x.1, .int .i64 (x.2 : Nat)]] w (Says (fun _ => False) w (globalAtM m x) isGlobal) := by
  obtain ⟨⟨I0, J0⟩, -, -, -, -⟩ := hB.five
  have hbw := hB.lt
  have hmw := hm.lt
  obtain ⟨hK, f, hM, hH⟩ := hm
  obtain ⟨F0, G0⟩ := hM.twelve.1.2.2.2.2.1
  obtain ⟨xv, xa⟩ := x
  simp only at hx hlt ⊢
  obtain ⟨h0, h1⟩ := hx
  have HR : Hid (globalAtM m (xv, xa) = .error (3, xa)) := by
    show _ = _
    simp [globalAtM, thereM, hlt]
  obtain ⟨p0, c0, hv⟩ : ∃ p c, f.v4 = .slice p m.globals.length c := Row.shape hH.h4
  rw [hv] at F0
  clear hv hK hH hM G0 hB
  go_enter Tryz.func92, Tryz.ntmps92
  go_wp2_with fail
  have hHeld : (fun w' : World => w'.cell? ⟨bb, 0, none⟩ = some (.pointer (some ⟨mb, 0, none⟩)) ∧ w'.cell? ⟨mb, 4, none⟩ = some (.slice p0 m.globals.length c0) ∧ w'.cell? ⟨w.heap.size, 0, none⟩ = some (.int .u32 xv) ∧ w'.cell? ⟨w.heap.size, 1, none⟩ = some (.int .i64 (xa : Nat))) (((w.alloc (.cells #[.int .u32 xv, .int .i64 (xa : Nat)] 62)).alloc (.cells #[.int .u8 0, .bool false, .int .i64 0, .int .u8 0, .int .i64 0] 78)).drew) := by
    dsimp only
    exact ⟨(((Kept.refl (fun _ => False) w).alloc _).alloc _).drew.cell hbw (fun c => c) |>.trans I0, (((Kept.refl (fun _ => False) w).alloc _).alloc _).drew.cell hmw (fun c => c) |>.trans F0, by simp, by simp⟩
  refine wp_region_held_drew (S := fun w' : World => w'.cell? ⟨bb, 0, none⟩ = some (.pointer (some ⟨mb, 0, none⟩)) ∧ w'.cell? ⟨mb, 4, none⟩ = some (.slice p0 m.globals.length c0) ∧ w'.cell? ⟨w.heap.size, 0, none⟩ = some (.int .u32 xv) ∧ w'.cell? ⟨w.heap.size, 1, none⟩ = some (.int .i64 (xa : Nat))) (by kernel_rfl) hHeld (fun _ => ?_)
  refine tkh 0 hHeld (h := ?_)
  refine tkh 1 hHeld (h := ?_)
  refine tkh 2 hHeld (h := ?_)
  refine tkh 3 hHeld (h := ?_)
  refine tkh 4 hHeld (h := ?_)
  refine tkh 5 hHeld (h := ?_)
  refine tkh 6 hHeld (h := ?_)
  refine tkh 7 hHeld (h := ?_)
  refine tkh 8 hHeld (h := ?_)
  refine tkh 9 hHeld (h := ?_)
  refine tkh 10 hHeld (h := ?_)
  refine tkh 11 hHeld (h := ?_)
  refine tkh 12 hHeld (h := ?_)
  refine tkh 13 hHeld (h := ?_)
  refine tkh 14 hHeld (h := ?_)
  refine tkh 15 hHeld (h := ?_)
  refine wpAnyH_all (rs := [16]) (by kernel_rfl) (by simp) ?_
  intro i hi
  rw [List.mem_singleton] at hi
  subst hi
  refine wpOp_dies (f := 19) (args := #[.agg #[.int .u32 xv, .int .i64 (xa : Nat)], .int .i64 (m.globals.length : Nat)]) rfl rfl (by kernel_rfl) (there_bad _ (by omega) h0 h1) ?_
  rintro e w2 ⟨rfl, rfl⟩
  refine ⟨_, rfl, ?_⟩
  refine ⟨rfl, Says.err_mk HR.out ?_⟩
  exact ((((Kept.refl _ _).alloc _).alloc _).drew.alloc _)

end Go.Proofs.YtgkpkngchploiaaGreat
/-
  typeOf, need, label.
-/
namespace Go.Proofs.YtgkpkngchploiaaGreat
open Go.RowKit

set_option maxHeartbeats 400000 in
theorem need_any {w : World} {bb a : Nat} {mp lv sv bv : Value} (many : Nat) (h : Blk w bb [mp, lv, sv, bv, .int .i64 (a : Nat)]) :
    Calls Tryz.prog 89 #[.pointer (some ⟨bb, 0, none⟩), .int .i64 (many : Nat)] w fun e w' => w' = w ∧ e = (if many = 0 then gaveUp 3 a else .returned (.tuple #[])) := by
  obtain ⟨-, -, -, -, ⟨I4, J4⟩⟩ := h.five
  by_cases hz : many = 0
  · subst hz
    go_enter Tryz.func89, Tryz.ntmps89
    go_wp2_with fail
    refine (giveUp_any _ _ _).mono ?_
    rintro e w3 ⟨rfl, rfl⟩
    exact ⟨rfl, rfl, rfl⟩
  · have tz : ((many : Int) == 0) = false := beq_eq_false_iff_ne.2 (by omega)
    rw [if_neg hz]
    clear hz
    go_enter Tryz.func89, Tryz.ntmps89
    go_wp2
    go_end0
    exact ⟨rfl, rfl⟩

set_option maxRecDepth 100000 in
set_option maxHeartbeats 3200000 in
theorem typeOf_any {s : ByteArray} {K : Nat → Prop} {w : World} {mb : Nat} {m : Mdl} (fn : Nat) (hm : MV s K w mb m) (hf : fn < m.funcs.length) (hx : 0 ≤ (m.funcs[fn]).1 ∧ (m.funcs[fn]).1 < (m.types.length : Int)) :
    Calls Tryz.prog 37 #[.pointer (some ⟨mb, 0, none⟩), .int .i64 (fn : Nat)] w fun e w' => Kept (fun _ => False) w w' ∧ ∃ v, e = .returned v ∧ isTypeOf K (typeOfM m fn) w' v := by
  have hmw := hm.lt
  obtain ⟨hK, f, hM, hH⟩ := hm
  obtain ⟨⟨F0, G0⟩, ⟨F1, G1⟩, -⟩ := hM.twelve.1
  obtain ⟨g1, c1, hv1, -, hg1, hc1, hcell1⟩ := Row.cells hH.h1 (by omega)
  have hy1 : m.funcs[fn]? = some m.funcs[fn] := List.getElem?_eq_getElem hf
  have D0 : w.cell? ⟨g1, fn * 2, none⟩ = some (.int .u32 m.funcs[fn].1) := (hcell1 (fn * 2) (by omega)).trans (flat_get (m := 2) (o := 0) (fun _ => rfl) hy1 (by omega))
  have HT0 : Hid (typeOfM m fn = m.types.getD (m.funcs[fn]).1.toNat ⟨[], []⟩) := by show _ = _; simp [typeOfM, hy1]
  rw [hv1] at F1
  generalize m.funcs[fn].1 = ix at *
  obtain ⟨k, rfl⟩ : ∃ k : Nat, ix = (k : Int) := ⟨ix.toNat, by omega⟩
  have hk : k < m.types.length := by omega
  obtain ⟨g, cap, vi, vo, hv, hg, hc, k1, k2, C0, C1⟩ := types_cell hH.h0 hk
  obtain ⟨pi, ci, rfl⟩ := Row.shape k1
  obtain ⟨po, co, rfl⟩ := Row.shape k2
  rw [hv] at F0
  have HT : Hid (typeOfM m fn = m.types[k]) := by show _ = _; rw [HT0.out]; simp [hk]
  have H1 := hide k1
  have H2 := hide k2
  have hki : (k : Int) < (m.types.length : Int) := by omega
  have hfi : (fn : Int) < (m.funcs.length : Int) := by omega
  clear k1 k2 hH hM hv G0 G1 hcell1 hy1 hv1 HT0 hx
  generalize m.types[k] = t at *
  go_enter Tryz.func37, Tryz.ntmps37
  go_wp2_with fail
  go_region
  all_goals
    go_wp2
    refine bodyPost_ret (v := .agg #[.slice pi t.ins.length ci, .slice po t.outs.length co]) ?_ rfl ?_
    · simp [results, Tryz.results37, go_sem]
    · have hk := ((Kept.refl (fun _ => False) w).alloc (.cells #[.slice pi t.ins.length ci, .slice po t.outs.length co] 85)).drew
      rw [HT.out]
      exact ⟨hk, _, rfl, _, _, rfl, Row.kept H1.out hk (fun _ _ _ c => c), Row.kept H2.out hk (fun _ _ _ c => c)⟩

set_option maxRecDepth 100000 in
set_option maxHeartbeats 3200000 in
theorem label_any {K O : Nat → Prop} {w : World} {bb : Nat} {mp lv sv bv : Value} {st : Bd} {x : Int × Nat} (h : BodyV K O w bb mp lv sv bv st) (hx : 0 ≤ x.1 ∧ x.1 ≤ 4294967295) (hl : st.blocks.length ≤ 60) :
    Calls Tryz.prog 86 #[.pointer (some ⟨bb, 0, none⟩), .agg #[.int .u32 x.1, .int .i64 (x.2 : Nat)]] w (Says (fun _ => False) w (labelM st x) (fun ks w' v => isKinds K ks w' v)) := by
  obtain ⟨-, -, -, ⟨I3, J3⟩, -⟩ := h.blk.five
  have hbw := h.lt
  obtain ⟨xv, xa⟩ := x
  simp only at hx ⊢
  obtain ⟨h0, h1⟩ := hx
  by_cases hlt : xv < (st.blocks.length : Int)
  · obtain ⟨k, rfl⟩ : ∃ k : Nat, xv = (k : Int) := ⟨xv.toNat, by omega⟩
    have hk : k < st.blocks.length := by omega
    obtain ⟨g, cap, tv, gv, rfl, hok, hg, hcap, kt, kg, C0, C1, C2, C3, C4⟩ := blocks_cell h.bls hk
    obtain ⟨pt, ct, rfl⟩ := Row.shape kt
    obtain ⟨pg, cg, rfl⟩ := Row.shape kg
    have HR : Hid (labelM st ((k : Int), xa) = .ok (labelTakesM st.blocks[k])) := by show _ = _; simp [labelM, thereM, hk]
    have HT := hide kt
    have HG := hide kg
    clear kt kg h
    generalize st.blocks[k] = b at *
    obtain ⟨pl, cl, hlv, hlk⟩ : ∃ pl cl, (if b.word = 3 then Value.slice pt b.takes.length ct else Value.slice pg b.gives.length cg) = Value.slice pl (labelTakesM b).length cl ∧ isKinds K (labelTakesM b) w (.slice pl (labelTakesM b).length cl) := by
      unfold labelTakesM
      by_cases h3 : b.word = 3
      · rw [if_pos h3, if_pos h3]; exact ⟨pt, ct, rfl, HT.out⟩
      · rw [if_neg h3, if_neg h3]; exact ⟨pg, cg, rfl, HG.out⟩
    have HLV := hide hlv
    have HLK := hide hlk
    clear hlv hlk HT HG
    have HC : Hid (∀ W : World, Calls Tryz.prog 109 #[.agg #[.int .u8 (b.word : Nat), .slice pt b.takes.length ct, .slice pg b.gives.length cg, .int .i64 (b.floor : Nat), .bool b.cut]] W fun e w' => e = .returned (.slice pl (labelTakesM b).length cl) ∧ w' = W.alloc (.cells #[.int .u8 (b.word : Nat), .slice pt b.takes.length ct, .slice pg b.gives.length cg, .int .i64 (b.floor : Nat), .bool b.cut] 125)) := fun W => by
      rw [← HLV.out]
      exact labelTakes_any b pt pg b.takes.length b.gives.length ct cg W
    generalize labelTakesM b = ls at *
    generalize st.blocks.length = n at *
    have b1 : (0 : Int) ≤ (n : Int) - 1 - (k : Int) := by omega
    have b2 : (n : Int) - 1 - (k : Int) < (n : Int) := by omega
    have w1 : IntKind.i64.wrap ((n : Int) - 1) = (n : Int) - 1 := IntWalk.i64_in _ (by omega)
    have w2 : IntKind.i64.wrap ((n : Int) - 1 - (k : Int)) = (n : Int) - 1 - (k : Int) := IntWalk.i64_in _ (by omega)
    have b5 : (k : Int) ≤ (n : Int) - 1 := by omega
    have n1 := World.new_ne w _ I3
    have n2 := World.new_ne w _ C0
    go_enter Tryz.func86, Tryz.ntmps86
    go_wp2_with fail
    go_region_held3 (fun w' => w'.cell? ⟨bb, 3, none⟩ = some (.slice (some ⟨g, 0, none⟩) n cap) ∧ w'.cell? ⟨w.heap.size, 0, none⟩ = some (.int .u32 (k : Int)) ∧ w'.cell? ⟨w.heap.size, 1, none⟩ = some (.int .i64 (xa : Nat))) (go_keep) ((refine step_call (f := 19) (args := #[.agg #[.int .u32 (k : Int), .int .i64 (xa : Nat)], .int .i64 (n : Nat)]) (by rfl) (by go_simp) (there_ok _ hlt h0 h1) ?_; rintro e w' ⟨rfl, rfl⟩; refine ⟨_, rfl, ?_⟩))
    all_goals
      go_wp2_with fail
      go_region_law (refine step_call (f := 109) (args := #[.agg #[.int .u8 (b.word : Nat), .slice pt b.takes.length ct, .slice pg b.gives.length cg, .int .i64 (b.floor : Nat), .bool b.cut]]) (by rfl) (by go_simp) (HC.out _) ?_; rintro e w' ⟨rfl, rfl⟩; refine ⟨_, rfl, ?_⟩)
      all_goals
        go_wp2
        go_ret
        have hk := ((((Kept.refl (fun _ => False) w).alloc (.cells #[.int .u32 (k : Int), .int .i64 (xa : Nat)] 62)).alloc (.cells #[.int .u32 (k : Int), .int .i64 (xa : Nat)] 62)).alloc (.cells #[.int .u8 (b.word : Nat), .slice pt b.takes.length ct, .slice pg b.gives.length cg, .int .i64 (b.floor : Nat), .bool b.cut] 125)).drewN 2
        exact Says.ok_mk HR.out hk (Row.kept HLK.out hk (fun _ _ _ c => c))
  · obtain ⟨css, hrow, -⟩ := h.bls
    rw [List.length_reverse] at hrow
    obtain ⟨pb, cb, rfl⟩ := Row.shape hrow
    have HR : Hid (labelM st (xv, xa) = .error (3, xa)) := by show _ = _; simp [labelM, thereM, hlt]
    clear hrow h
    go_enter Tryz.func86, Tryz.ntmps86
    go_wp2_with fail
    go_region_dies
    all_goals
      refine (there_bad _ (by omega) h0 h1).mono ?_
      rintro e w2 ⟨rfl, rfl⟩
      refine ⟨rfl, Says.err_mk HR.out ?_⟩
      exact (((Kept.refl _ _).alloc _).drew.alloc _)

end Go.Proofs.YtgkpkngchploiaaGreat
/-
  One call after the other, on a body: what is owned, what is kept.
-/
namespace Go.Proofs.YtgkpkngchploiaaGreat
open Go.RowKit

/-- A body at hand: where its calls began (w), what has been kept since, and where it is now (W); all that it owns lies in blocks of N. -/
structure At (K O : Nat → Prop) (w W : World) (N : Nat → Prop) (bb : Nat) (mp lv : Value) (st : Bd) : Prop where
  kept : Kept O w W
  body : BodyAt K (fun k => More O w k ∧ N k) W bb mp lv st
  kb : ∀ k, K k → k < w.heap.size
  dis : ∀ k, O k → ¬ K k
  tidy : Tidy st
  bls : st.blocks.length ≤ 55
  stk : st.stack.length ≤ 800000

section
variable {K O N : Nat → Prop} {w W : World} {bb : Nat} {mp lv : Value} {st : Bd}

theorem BodyAt.dis (h : BodyAt K O w bb mp lv st) : ∀ k, O k → ¬ K k := by
  obtain ⟨sv, bv, h⟩ := h
  exact h.dis

theorem BodyAt.kb (h : BodyAt K O w bb mp lv st) : ∀ k, K k → k < w.heap.size := by
  obtain ⟨sv, bv, h⟩ := h
  exact h.kb

theorem BodyAt.own (h : BodyAt K O w bb mp lv st) : O bb := by
  obtain ⟨sv, bv, h⟩ := h
  exact h.own

theorem BodyAt.lt (h : BodyAt K O w bb mp lv st) : bb < w.heap.size := by
  obtain ⟨sv, bv, h⟩ := h
  exact h.lt

theorem BodyAt.alloc (h : BodyAt K O w bb mp lv st) (o : Obj) : BodyAt K O (w.alloc o) bb mp lv st := by
  obtain ⟨sv, bv, h⟩ := h
  exact ⟨sv, bv, h.alloc o⟩

theorem BodyAt.drewN (h : BodyAt K O w bb mp lv st) (k : Nat) : BodyAt K O (w.drewN k) bb mp lv st := by
  obtain ⟨sv, bv, h⟩ := h
  exact ⟨sv, bv, h.drewN k⟩

theorem At.apart (h : At K O w W N bb mp lv st) : ∀ k, More O w k → ¬ K k := fun k hk => hk.elim (h.dis k) (fun c e => by have := h.kb k e; omega)

theorem At.alloc (h : At K O w W N bb mp lv st) (o : Obj) : At K O w (W.alloc o) N bb mp lv st := ⟨h.kept.alloc o, h.body.alloc o, h.kb, h.dis, h.tidy, h.bls, h.stk⟩

theorem At.drewN (h : At K O w W N bb mp lv st) (k : Nat) : At K O w (W.drewN k) N bb mp lv st := ⟨h.kept.drewN k, h.body.drewN k, h.kb, h.dis, h.tidy, h.bls, h.stk⟩

theorem At.new (h : BodyAt K O w bb mp lv st) (ht : Tidy st) (hb : st.blocks.length ≤ 55) (hs : st.stack.length ≤ 800000) : At K O w w (fun k => k < w.heap.size) bb mp lv st := by
  obtain ⟨sv, bv, h⟩ := h
  refine ⟨Kept.refl _ _, ⟨sv, bv, ?_⟩, h.kb, h.dis, ht, hb, hs⟩
  have h' := h.narrow
  exact h'.more (fun k hk => ⟨.inl hk.1, hk.2⟩) (fun k hk => hk.1.elim (h.dis k) (fun c => by have := hk.2; omega))

/-- What is only read is as it was. -/
theorem At.kinds {ks : List Nat} {v : Value} (h : At K O w W N bb mp lv st) (hk : isKinds K ks w v) : isKinds K ks W v :=
  Row.kept hk h.kept (fun g _ hg c => h.dis g c hg)

theorem At.mv {s : ByteArray} {mb : Nat} {m : Mdl} (h : At K O w W N bb mp lv st) (hm : MV s K w mb m) : MV s K W mb m :=
  hm.kept h.kept (fun g _ hg c => h.dis g c hg)

/-- A call more: it has changed nothing but what the body owns. -/
theorem At.step {w' : World} {st' : Bd} (h : At K O w W N bb mp lv st) (hk : Kept (fun k => More O w k ∧ N k) W w') (hB : BodyAt K (More (fun k => More O w k ∧ N k) W) w' bb mp lv st') (ht : Tidy st') (hb : st'.blocks.length ≤ 55) (hs : st'.stack.length ≤ 800000) : At K O w w' (fun k => N k ∨ (W.heap.size ≤ k ∧ k < w'.heap.size)) bb mp lv st' := by
  have hsz := h.kept.size
  refine ⟨h.kept.fresh hk (fun k hk0 hh => hh.1.elim id (fun c => by omega)), ?_, h.kb, h.dis, ht, hb, hs⟩
  obtain ⟨sv, bv, hB⟩ := hB
  refine ⟨sv, bv, hB.narrow.more (fun k hk => ?_) (fun k hk => h.apart k hk.1)⟩
  rcases hk.1 with hh | hh
  · exact ⟨hh.1, .inl hh.2⟩
  · exact ⟨.inr (by omega), .inr ⟨hh, hk.2⟩⟩

theorem At.keptStep {w' : World} (h : At K O w W N bb mp lv st) (hk : Kept (fun k => More O w k ∧ N k) W w') : Kept O w w' := by
  have hsz := h.kept.size
  exact h.kept.fresh hk (fun k hk0 hh => hh.1.elim id (fun c => by omega))

theorem kinds_made (w : World) {g : Nat} (ks : List Nat) {c : Array Value} (hg : g = w.heap.size) (hc : c.toList = kindCells ks) (hl : ks.length ≤ 1000) : isKinds (fun k => k = w.heap.size) ks (w.alloc (.cells c 74)) (.slice (some ⟨g, 0, none⟩) ks.length ks.length) := by
  subst hg
  have hcs : c.size = ks.length := by rw [← Array.length_toList, hc]; simp [kindCells]
  refine ⟨⟨by simp [kindCells], .inr ⟨w.heap.size, ks.length, c, rfl, Nat.zero_le _, heap_alloc_new w _, Nat.le_refl _, by unfold maxLen; omega, by rw [hcs]; simp, ?_⟩⟩, fun k hk => by simp [Value.ownBlock] at hk; exact hk.symm⟩
  rw [hc, List.take_of_length_le (by simp [kindCells])]
end

/-- On with the body, or it gives up, as r says; what lies outside N is as it was. -/
structure Ends (K O : Nat → Prop) (w W : World) (N : Nat → Prop) (bb : Nat) (mp lv : Value) (r : Except Err Bd) (e : Ending) (w' : World) : Prop where
  ok : ∀ st', r = .ok st' → e = .returned (.tuple #[]) ∧ At K O w w' (fun k => N k ∨ (W.heap.size ≤ k ∧ k < w'.heap.size)) bb mp lv st'
  err : ∀ q p, r = .error (q, p) → e = gaveUp q p
  kept : Kept O w w'
  low : Kept (fun k => N k ∧ ¬ K k) W w'

section
variable {K O N ok : Nat → Prop} {w W W' : World} {bb : Nat} {mp lv kv : Value} {st : Bd} {ks : List Nat}

theorem At.up (h : At K O w W N bb mp lv st) : At K O w W (fun k => k < W.heap.size) bb mp lv st := by
  obtain ⟨sv, bv, hB⟩ := h.body
  exact ⟨h.kept, ⟨sv, bv, hB.narrow.more (fun k hk => ⟨hk.1.1, hk.2⟩) (fun k hk => h.apart k hk.1)⟩, h.kb, h.dis, h.tidy, h.bls, h.stk⟩

theorem At.low (h : At K O w W N bb mp lv st) : At K O w W (fun k => N k ∧ k < W.heap.size) bb mp lv st := by
  obtain ⟨sv, bv, hB⟩ := h.body
  exact ⟨h.kept, ⟨sv, bv, hB.narrow.more (fun k hk => ⟨hk.1.1, hk.1.2, hk.2⟩) (fun k hk => h.apart k hk.1)⟩, h.kb, h.dis, h.tidy, h.bls, h.stk⟩

theorem At.wide {N' : Nat → Prop} (h : At K O w W N bb mp lv st) (hn : ∀ k, N k → N' k) : At K O w W N' bb mp lv st := by
  obtain ⟨sv, bv, hB⟩ := h.body
  exact ⟨h.kept, ⟨sv, bv, hB.more (fun k hk => ⟨hk.1, hn k hk.2⟩) (fun k hk => h.apart k hk.1)⟩, h.kb, h.dis, h.tidy, h.bls, h.stk⟩

theorem Ends.ok_mk {M : Nat → Prop} {r : Except Err Bd} (hr : r = .ok st) (h : At K O w W' N bb mp lv st) (hl : Kept (fun k => M k ∧ ¬ K k) W W') (hn : ∀ k, N k → M k ∨ W.heap.size ≤ k := by intro k hk; omega) : Ends K O w W M bb mp lv r (.returned (.tuple #[])) W' :=
  ⟨fun st' h' => by rw [hr] at h'; cases h'; exact ⟨rfl, h.low.wide (fun k hk => (hn k hk.1).imp id (fun c => ⟨c, hk.2⟩))⟩, fun q p h' => by (rw [hr] at h'; cases h'), h.kept, hl⟩

theorem Ends.err_mk {r : Except Err Bd} {q p : Nat} (hr : r = .error (q, p)) (h : Kept O w W') (hl : Kept (fun k => N k ∧ ¬ K k) W W') : Ends K O w W N bb mp lv r (gaveUp q p) W' :=
  ⟨fun st' h' => by (rw [hr] at h'; cases h'), fun q' p' h' => by rw [hr] at h'; cases h'; rfl, h, hl⟩

/-- take, on a body at hand. -/
theorem take_at (h : At K O w W N bb mp lv st) (hb : st.blocks ≠ []) (hk : isKinds ok ks W kv) (hok : ¬ ok bb) (hkl : ks.length ≤ 50) :
    Calls Tryz.prog 60 #[.pointer (some ⟨bb, 0, none⟩), kv] W (Ends K O w W N bb mp lv (takeM st ks)) := by
  obtain ⟨sv, bv, hB⟩ := h.body
  obtain ⟨ps, cs, rfl⟩ := Row.shape hB.stk
  have hl := h.bls
  have hs := h.stk
  refine (take_any hB hk hok (fun _ => hb) (by omega) h.tidy.floor (by omega) hkl).mono ?_
  rintro e w' ⟨hk', hok', herr⟩
  have hkM : Kept (fun k => More O w k ∧ N k) W w' := hk'.mono (fun k _ (e : k = bb) => e ▸ hB.own)
  refine ⟨fun st' hst => ?_, herr, h.keptStep hkM, hkM.mono (fun k _ hh => ⟨hh.2, h.apart k hh.1⟩)⟩
  obtain ⟨v, rfl, rfl, hB'⟩ := hok' _ hst
  have hf := takeM_facts h.tidy.floor hst
  exact ⟨rfl, h.step hkM ⟨_, _, hB'.more (fun k hk => .inl hk) (fun k hk => hk.elim (hB.dis k) (fun c e => by have := hB.kb k e; omega))⟩ (h.tidy.take hst) (by rw [hf.1]; exact hl) (by omega)⟩

theorem put_at (h : At K O w W N bb mp lv st) (hk : isKinds ok ks W kv) (hkl : ks.length ≤ 50) (hs : st.stack.length + ks.length ≤ 800000) :
    Calls Tryz.prog 61 #[.pointer (some ⟨bb, 0, none⟩), kv] W (Ends K O w W N bb mp lv (.ok (putM st ks))) := by
  obtain ⟨sv, bv, hB⟩ := h.body
  have hs' := h.stk
  refine (put_any hB hk (by omega) hkl).mono ?_
  rintro e w' ⟨hk', hok', -⟩
  obtain ⟨v, rfl, rfl, hB'⟩ := hok' _ rfl
  exact Ends.ok_mk rfl (h.step hk' hB' (h.tidy.put ks) h.bls (by simp [putM]; omega)) (hk'.mono (fun k _ hh => ⟨hh.2, h.apart k hh.1⟩)) (fun _ hk => hk.imp id (fun c => c.1))

theorem cutOff_at (h : At K O w W N bb mp lv st) (hb : st.blocks ≠ []) :
    Calls Tryz.prog 82 #[.pointer (some ⟨bb, 0, none⟩)] W (Ends K O w W N bb mp lv (.ok (cutOffM st))) := by
  obtain ⟨sv, bv, hB⟩ := h.body
  obtain ⟨ps, cs, rfl⟩ := Row.shape hB.stk
  have hl := h.bls
  have hs := h.stk
  have hne : st.blocks.length ≠ 0 := by simpa using hb
  refine (cutOff_any hB hb (by omega) h.tidy.floor).mono ?_
  rintro e w' ⟨hk', hok', -⟩
  obtain ⟨v, rfl, rfl, hB'⟩ := hok' _ rfl
  exact Ends.ok_mk rfl (h.step hk' hB' (h.tidy.cutOff hb) (by simp [cutOffM]; omega) (by simp [cutOffM]; omega)) (hk'.mono (fun k _ hh => ⟨hh.2, h.apart k hh.1⟩)) (fun _ hk => hk.imp id (fun c => c.1))

theorem enter_at {vi vo : Value} {t : Ty} (word : Nat) (h : At K O w W N bb mp lv st) (hb : t.ins ≠ [] → st.blocks ≠ []) (hi : isKinds K t.ins W vi) (ho : isKinds K t.outs W vo) (h1 : t.ins.length ≤ 8) (h2 : t.outs.length ≤ 8) (hl : st.blocks.length ≤ 54) (hs : st.stack.length ≤ 799000) :
    Calls Tryz.prog 39 #[.pointer (some ⟨bb, 0, none⟩), .int .u8 (word : Nat), .agg #[vi, vo]] W (Ends K O w W N bb mp lv (enterM word t st)) := by
  obtain ⟨sv, bv, hB⟩ := h.body
  refine (enter_any word hB hi ho hb (by omega) h.tidy.floor (by omega) (by omega)).mono ?_
  rintro e w' ⟨hk', hok', herr⟩
  refine ⟨fun st' hst => ?_, herr, h.keptStep hk', hk'.mono (fun k _ hh => ⟨hh.2, h.apart k hh.1⟩)⟩
  obtain ⟨v, rfl, rfl, hB'⟩ := hok' _ hst
  have hst0 := hst
  unfold enterM at hst
  cases hm : takeM st t.ins with
  | error e => rw [hm] at hst; cases hst
  | ok st1 =>
    rw [hm] at hst
    cases hst
    have hf := takeM_facts h.tidy.floor hm
    have t1 := h.tidy.take hm
    refine ⟨rfl, h.step hk' hB' ⟨⟨by simp, t1.floors⟩, ?_⟩ (by simp [hf.1]; omega) (by simp; omega)⟩
    intro b hb
    simp at hb
    rcases hb with rfl | hb
    · exact ⟨h1, h2⟩
    · exact t1.short b hb

theorem takeAny_at (h : At K O w W N bb mp lv st) (hb : st.blocks ≠ []) :
    Calls Tryz.prog 80 #[.pointer (some ⟨bb, 0, none⟩)] W fun e w' => (∀ k st', takeTop st = .ok (k, st') → e = .returned (.int .u8 (k : Nat)) ∧ At K O w w' (fun k => N k ∨ (W.heap.size ≤ k ∧ k < w'.heap.size)) bb mp lv st' ∧ st'.blocks = st.blocks ∧ st'.at_ = st.at_ ∧ st'.stack.length ≤ st.stack.length) ∧ (∀ q p, takeTop st = .error (q, p) → e = gaveUp q p) ∧ Kept O w w' ∧ Kept (fun k => N k ∧ ¬ K k) W w' := by
  obtain ⟨sv, bv, hB⟩ := h.body
  obtain ⟨ps, cs, rfl⟩ := Row.shape hB.stk
  have hl := h.bls
  have hs := h.stk
  refine (takeAny_any hB hb (by omega) h.tidy.floor (by omega)).mono ?_
  rintro e w' ⟨hk', hok', herr⟩
  have hkM : Kept (fun k => More O w k ∧ N k) W w' := hk'.mono (fun k _ (e : k = bb) => e ▸ hB.own)
  refine ⟨fun k st' hst => ?_, herr, h.keptStep hkM, hkM.mono (fun k _ hh => ⟨hh.2, h.apart k hh.1⟩)⟩
  obtain ⟨v, rfl, hv, hB'⟩ := hok' _ hst
  have hv : v = .int .u8 (k : Nat) := hv
  subst hv
  have hf := takeTop_facts h.tidy.floor hst
  have hbk : st'.blocks = st.blocks := by rw [hf.1]
  have ht : Tidy st' := by
    obtain ⟨s0, bs, a0⟩ := st
    obtain ⟨s1, bs1, a1⟩ := st'
    simp only at hbk
    subst hbk
    cases bs1 with
    | nil => exact absurd rfl hb
    | cons b bs => exact ⟨⟨hf.2.1, h.tidy.floors.2⟩, h.tidy.short⟩
  exact ⟨rfl, h.step hkM ⟨_, _, hB'.more (fun k hk => .inl hk) (fun k hk => hk.elim (hB.dis k) (fun c e => by have := hB.kb k e; omega))⟩ ht (by rw [hbk]; exact hl) (by omega), hbk, by rw [hf.1], hf.2.2⟩

theorem leave_at (h : At K O w W N bb mp lv st) (hb : st.blocks ≠ []) :
    Calls Tryz.prog 84 #[.pointer (some ⟨bb, 0, none⟩)] W fun e w' => (∀ left st', leaveM st = .ok (left, st') → (∃ tv gv, e = .returned (.agg #[.int .u8 (left.word : Nat), tv, gv, .int .i64 (left.floor : Nat), .bool left.cut]) ∧ isKinds K left.takes w' tv ∧ isKinds K left.gives w' gv) ∧ At K O w w' (fun k => N k ∨ (W.heap.size ≤ k ∧ k < w'.heap.size)) bb mp lv st') ∧ (∀ q p, leaveM st = .error (q, p) → e = gaveUp q p) ∧ Kept O w w' ∧ Kept (fun k => N k ∧ ¬ K k) W w' := by
  obtain ⟨sv, bv, hB⟩ := h.body
  have hl := h.bls
  have hs := h.stk
  have hsh := h.tidy.short _ (inner_mem hb)
  refine (leave_any hB hb (by omega) h.tidy.floor (by omega) (by omega)).mono ?_
  rintro e w' ⟨hk', hok', herr⟩
  have hkM : Kept (fun k => More O w k ∧ N k) W w' := hk'.mono (fun k _ (e : k = bb) => e ▸ hB.own)
  refine ⟨fun left st' hst => ?_, herr, h.keptStep hkM, hkM.mono (fun k _ hh => ⟨hh.2, h.apart k hh.1⟩)⟩
  obtain ⟨v, rfl, tv, gv, rfl, k1, k2, sv', bv', hB'⟩ := hok' _ hst
  obtain ⟨-, t1, -, s1, e1, -, -⟩ := (leaveM_facts h.tidy hb).2 _ _ hst
  refine ⟨⟨tv, gv, rfl, k1, k2⟩, h.step hkM ⟨sv', bv', hB'.more (fun k hk => .inl hk) (fun k hk => hk.elim (hB.dis k) (fun c e => by have := hB.kb k e; omega))⟩ t1 (by rw [e1]; simp; omega) (by omega)⟩

theorem refuse_at (h : At K O w W N bb mp lv st) : Calls Tryz.prog 81 #[.pointer (some ⟨bb, 0, none⟩)] W fun e w' => e = gaveUp 4 st.at_ ∧ w' = W := by
  obtain ⟨sv, bv, hB⟩ := h.body
  exact refuseKinds_any hB.blk

/-- What is only read is as it was. -/
theorem Kept.kinds {W1 W2 : World} {v : Value} (hk : Kept (fun k => N k ∧ ¬ K k) W1 W2) (h : isKinds K ks W1 v) : isKinds K ks W2 v := Row.kept h hk (fun _ _ hg c => c.2 hg)

theorem Kept.mvs {s : ByteArray} {mb : Nat} {m : Mdl} {W1 W2 : World} (hk : Kept (fun k => N k ∧ ¬ K k) W1 W2) (h : MV s K W1 mb m) : MV s K W2 mb m := h.kept hk (fun _ _ hg c => c.2 hg)

/-- One after the other. -/
theorem Kept.lowTrans {W1 W2 W3 : World} (h1 : Kept (fun k => k < W1.heap.size ∧ ¬ K k) W1 W2) (h2 : Kept (fun k => N k ∧ ¬ K k) W2 W3) (_ : W1.heap.size = W1.heap.size) : Kept (fun k => k < W1.heap.size ∧ ¬ K k) W1 W3 :=
  h1.fresh h2 (fun _ hk c => ⟨hk, c.2⟩)

/-- A list of kinds that was just made is not the body's. -/
theorem At.ne (h : At K O w W N bb mp lv st) : ¬ (fun k => k = W.heap.size) bb := fun e => by
  have := h.body.lt
  omega
end

end Go.Proofs.YtgkpkngchploiaaGreat
/-
  call, compute, align, load, store.
-/
namespace Go.Proofs.YtgkpkngchploiaaGreat
open Go.RowKit

section
variable {K O N ok : Nat → Prop} {w W : World} {bb : Nat} {mp lv kv : Value} {st : Bd} {ks : List Nat}

set_option maxHeartbeats 800000 in
theorem call_at {vi vo : Value} {t : Ty} (h : At K O w W N bb mp lv st) (hb : st.blocks ≠ []) (hi : isKinds K t.ins W vi) (ho : isKinds K t.outs W vo) (hl1 : t.ins.length ≤ 8) (hl2 : t.outs.length ≤ 8) (hs : st.stack.length ≤ 799000) :
    Calls Tryz.prog 88 #[.pointer (some ⟨bb, 0, none⟩), .agg #[vi, vo]] W (Ends K O w W N bb mp lv (callM t st)) := by
  obtain ⟨pi, ci, rfl⟩ := Row.shape hi
  obtain ⟨po, co, rfl⟩ := Row.shape ho
  have hA := h.low
  have hKb : ¬ K bb := fun c => hA.body.dis bb hA.body.own c
  have HA := hide hA
  have HI := hide hi
  have HO := hide ho
  clear h hi ho hA
  go_enter Tryz.func88, Tryz.ntmps88
  go_wp2_with fail
  refine (take_at (HA.out.alloc _) hb (Row.alloc HI.out _) hKb (by omega)).mono ?_
  rintro e w1 ⟨hok1, herr1, hk1, hlow⟩
  have hlowW : Kept (fun k => N k ∧ ¬ K k) W w1 := ((Kept.refl _ _).alloc _).trans (hlow.mono (fun _ _ c => ⟨c.1.1, c.2⟩))
  have hT := (Blk.new W #[.slice pi t.ins.length ci, .slice po t.outs.length co] 85).kept hlow (by simp) (fun c => by have := c.1.2; omega)
  cases hm : takeM st t.ins with
  | error qp =>
    obtain ⟨q, p⟩ := qp
    have he := herr1 _ _ hm
    subst he
    exact ⟨rfl, Ends.err_mk (by simp [callM, hm]) hk1 hlowW⟩
  | ok st1 =>
    obtain ⟨rfl, hA1⟩ := hok1 _ hm
    have hf := takeM_facts HA.out.tidy.floor hm
    obtain ⟨⟨T0, -⟩, ⟨T1, -⟩⟩ := hT.two
    have HM : Hid (callM t st = .ok (putM st1 t.outs)) := by show _ = _; simp [callM, hm]
    have HA1 := hide hA1
    have hs1 : st1.stack.length ≤ 799000 := by omega
    have HKO := hide (hlowW.kinds HO.out)
    clear hok1 herr1 hm hA1 hf hT
    go_wp2_with fail
    refine (put_at HA1.out HKO.out (by omega) (by omega)).mono ?_
    rintro e w2 ⟨hok2, -, -, hlow2⟩
    obtain ⟨rfl, hA2⟩ := hok2 _ rfl
    have HA2 := hide hA2
    clear hok2 hA2
    go_wp2
    go_end0
    have hs9 := hlow.size
    refine Ends.ok_mk HM.out HA2.out (hlowW.fresh hlow2 (fun k hk c => ⟨?_, c.2⟩)) (fun k hk => ?_)
    · rcases c.1 with c1 | c1
      · exact c1.1
      · have := c1.1; simp at this; omega
    · rcases hk with (c1 | c1) | c1
      · exact .inl c1.1
      · exact .inr (by have := c1.1; simp at this; omega)
      · exact .inr (by have := c1.1; simp at hs9; omega)

set_option maxHeartbeats 800000 in
theorem compute_at (h : At K O w W N bb mp lv st) (hb : st.blocks ≠ []) (puts : Nat) (hk : isKinds ok ks W kv) (hok : ¬ ok bb) (hkl : ks.length ≤ 50) (hs : st.stack.length ≤ 799000) {z : Int} (hz : z = (puts : Int)) :
    Calls Tryz.prog 96 #[.pointer (some ⟨bb, 0, none⟩), .int .u8 z, kv] W (Ends K O w W (fun k => k < W.heap.size) bb mp lv (computeM puts ks st)) := by
  subst hz
  obtain ⟨pk, ck, rfl⟩ := Row.shape hk
  have HA := hide h.up
  have HK := hide hk
  clear h hk
  go_enter Tryz.func96, Tryz.ntmps96
  go_wp2_with fail
  refine (take_at HA.out hb HK.out hok hkl).mono ?_
  rintro e w1 ⟨hok1, herr1, hk1, hlow⟩
  cases hm : takeM st ks with
  | error qp =>
    obtain ⟨q, p⟩ := qp
    have he := herr1 _ _ hm
    subst he
    exact ⟨rfl, Ends.err_mk (by simp [computeM, hm]) hk1 hlow⟩
  | ok st1 =>
    obtain ⟨rfl, hA1⟩ := hok1 _ hm
    have hf := takeM_facts HA.out.tidy.floor hm
    have HM : Hid (computeM puts ks st = .ok (putM st1 [puts])) := by show _ = _; simp [computeM, hm]
    have HA1 := hide hA1
    have hs1 : st1.stack.length ≤ 799000 := by omega
    clear hok1 herr1 hm hA1 hf
    go_wp2_with fail
    refine (put_at (HA1.out.alloc _) (kinds_made w1 [puts] rfl rfl (by simp)) (by simp) (by simp; omega)).mono ?_
    rintro e w2 ⟨hok2, -, -, hlow2⟩
    obtain ⟨rfl, hA2⟩ := hok2 _ rfl
    have HA2 := hide hA2
    clear hok2 hA2
    go_wp2
    go_end0
    exact Ends.ok_mk HM.out HA2.out (hlow.lowTrans (((Kept.refl _ _).alloc _).trans hlow2) rfl)

set_option maxHeartbeats 800000 in
theorem usual_any (x : Nat) (w : World) : Calls Tryz.prog 118 #[.int .u8 (x : Nat)] w fun e w' => e = .returned (.int .u32 (usualM x)) ∧ w' = w := by
  have hx : x = 44 ∨ x = 45 ∨ x = 58 ∨ x = 41 ∨ x = 55 ∨ (x ≠ 44 ∧ x ≠ 45 ∧ x ≠ 58 ∧ x ≠ 41 ∧ x ≠ 55) := by omega
  rcases hx with rfl | rfl | rfl | rfl | rfl | ⟨h1, h2, h3, h4, h5⟩
  case inr.inr.inr.inr.inr =>
    have t1 : ((x : Int) == 44) = false := beq_eq_false_iff_ne.2 (by omega)
    have t2 : ((x : Int) == 45) = false := beq_eq_false_iff_ne.2 (by omega)
    have t3 : ((x : Int) == 58) = false := beq_eq_false_iff_ne.2 (by omega)
    have t4 : ((x : Int) == 41) = false := beq_eq_false_iff_ne.2 (by omega)
    have t5 : ((x : Int) == 55) = false := beq_eq_false_iff_ne.2 (by omega)
    have HU : Hid (usualM x = 2) := by show _ = _; simp [usualM, h1, h2, h3, h4, h5]
    clear h1 h2 h3 h4 h5
    go_enter Tryz.func118, Tryz.ntmps118
    go_wp2
    go_ret
    exact ⟨by rw [HU.out]; rfl, rfl⟩
  all_goals
    go_enter Tryz.func118, Tryz.ntmps118
    go_wp2
    go_ret
    exact ⟨rfl, rfl⟩
end

end Go.Proofs.YtgkpkngchploiaaGreat
/-
  align, load, store, select.
-/
namespace Go.Proofs.YtgkpkngchploiaaGreat
open Go.RowKit

/-- An instruction's cells. -/
abbrev yC (a e x : Int) (y : Beh) (gv lv : Value) : List Value := [.int .i64 a, .int .i64 e, .int .u8 x, .bool y.typed, gv, .int .u32 y.align, .int .u32 y.num.1, .int .i64 (y.num.2 : Nat), lv, .int .i64 y.val]

section
variable {K O N : Nat → Prop} {w W : World} {bb : Nat} {mp lv : Value} {st : Bd}

def alignM (x : Nat) (y : Beh) (st : Bd) : Except Err Bd := if usualM x < y.align then .error (4, st.at_) else .ok st

set_option maxHeartbeats 800000 in
theorem align_at (h : At K O w W N bb mp lv st) (a e x : Nat) (y : Beh) (pg pl : Option Addr) (ng cg nl cl : Nat) :
    Calls Tryz.prog 111 #[.pointer (some ⟨bb, 0, none⟩), .agg (yC a e x y (.slice pg ng cg) (.slice pl nl cl)).toArray] W (Ends K O w W (fun k => k < W.heap.size) bb mp lv (alignM x y st)) := by
  have HA := hide h.up
  clear h
  by_cases hal : usualM x < y.align
  · have HM : Hid (alignM x y st = .error (4, st.at_)) := by show _ = _; simp [alignM, hal]
    go_enter Tryz.func111, Tryz.ntmps111
    go_wp2
    go_quiet (exact Calls.quiet_of_same (usual_any x _))
    go_wp2_with fail
    refine (refuse_at ((HA.out.alloc _).drewN _)).mono ?_
    rintro e w1 ⟨rfl, rfl⟩
    exact ⟨rfl, Ends.err_mk HM.out ((HA.out.alloc _).drewN _).kept (((Kept.refl _ _).alloc _).drewN _)⟩
  · have HM : Hid (alignM x y st = .ok st) := by show _ = _; simp [alignM, hal]
    have hal2 : decide (usualM x < y.align) = false := by simpa using hal
    have hal3 : y.align ≤ usualM x := by omega
    go_enter Tryz.func111, Tryz.ntmps111
    go_wp2
    go_quiet (exact Calls.quiet_of_same (usual_any x _))
    go_wp2
    go_end0
    exact Ends.ok_mk HM.out ((HA.out.alloc _).drewN _) (((Kept.refl _ _).alloc _).drewN _)

set_option maxHeartbeats 800000 in
theorem load_at (h : At K O w W N bb mp lv st) (hb : st.blocks ≠ []) (a e x : Nat) (y : Beh) (pg pl : Option Addr) (ng cg nl cl : Nat) (k : Nat) (hs : st.stack.length ≤ 799000) {z : Int} (hz : z = (k : Int)) :
    Calls Tryz.prog 94 #[.pointer (some ⟨bb, 0, none⟩), .agg (yC a e x y (.slice pg ng cg) (.slice pl nl cl)).toArray, .int .u8 z] W (Ends K O w W (fun k => k < W.heap.size) bb mp lv (loadM x k y st)) := by
  subst hz
  have HA := hide h.up
  have hKb : ¬ K bb := fun c => h.body.dis bb h.body.own c
  clear h
  have HL : Hid (∀ st', alignM x y st = .ok st' → st' = st ∧ loadM x k y st = (match takeM st [127] with | .error e => .error e | .ok st1 => .ok (putM st1 [k]))) := by
    intro st' h
    unfold alignM at h
    unfold loadM
    split at h
    · cases h
    · rename_i hn; cases h; exact ⟨rfl, by rw [if_neg hn] <;> rfl⟩
  have HL2 : Hid (∀ q p, alignM x y st = .error (q, p) → loadM x k y st = .error (q, p)) := by
    intro q p h
    unfold alignM at h
    unfold loadM
    split at h
    · rename_i hn; cases h; rw [if_pos hn]
    · cases h
  go_enter Tryz.func94, Tryz.ntmps94
  go_wp2_with fail
  refine (align_at (HA.out.alloc _) a e x y pg pl ng cg nl cl).mono ?_
  rintro ee w1 ⟨hok1, herr1, hk1, hlow1⟩
  have hlowW : Kept (fun k => k < (W.alloc (.cells (yC a e x y (.slice pg ng cg) (.slice pl nl cl)).toArray 100)).heap.size ∧ ¬ K k) W w1 := ((Kept.refl _ _).alloc _).trans hlow1
  have hlowW2 : Kept (fun k => k < W.heap.size ∧ ¬ K k) W w1 := hlowW.mono (fun k hk c => ⟨hk, c.2⟩)
  cases hm : alignM x y st with
  | error qp =>
    obtain ⟨q, p⟩ := qp
    have he := herr1 _ _ hm
    subst he
    exact ⟨rfl, Ends.err_mk (HL2.out _ _ hm) hk1 hlowW2⟩
  | ok st0 =>
    obtain ⟨rfl, HLe⟩ := HL.out _ hm
    obtain ⟨rfl, hA1⟩ := hok1 _ hm
    have HA1 := hide hA1
    have HLE := hide HLe
    clear hok1 herr1 hm hA1 HLe HL HL2 hlow1 hlowW
    go_wp2_with fail
    refine (take_at (HA1.out.alloc _) hb (kinds_made w1 [127] rfl rfl (by simp)) HA1.out.ne (by simp)).mono ?_
    rintro ee w2 ⟨hok2, herr2, hk2, hlow2⟩
    have hlow12 : Kept (fun k => k < W.heap.size ∧ ¬ K k) W w2 := hlowW2.lowTrans (((Kept.refl _ _).alloc _).trans hlow2) rfl
    cases hm : takeM st0 [127] with
    | error qp =>
      obtain ⟨q, p⟩ := qp
      have he := herr2 _ _ hm
      subst he
      exact ⟨rfl, Ends.err_mk (by rw [HLE.out, hm]) hk2 hlow12⟩
    | ok st1 =>
      obtain ⟨rfl, hA2⟩ := hok2 _ hm
      have hf := takeM_facts HA.out.tidy.floor hm
      have hs1 : st1.stack.length ≤ 799000 := by omega
      have HM : Hid (loadM x k y st0 = .ok (putM st1 [k])) := by show _ = _; rw [HLE.out, hm]
      have HA2 := hide hA2
      clear hok2 herr2 hm hA2 HLE hf
      go_wp2_with fail
      refine (put_at (HA2.out.alloc _) (kinds_made w2 [k] rfl rfl (by simp)) (by simp) (by simp; omega)).mono ?_
      rintro ee w3 ⟨hok3, -, -, hlow3⟩
      obtain ⟨rfl, hA3⟩ := hok3 _ rfl
      have HA3 := hide hA3
      clear hok3 hA3
      go_wp2
      go_end0
      exact Ends.ok_mk HM.out HA3.out (hlow12.lowTrans (((Kept.refl _ _).alloc _).trans hlow3) rfl)

set_option maxHeartbeats 800000 in
theorem store_at (h : At K O w W N bb mp lv st) (hb : st.blocks ≠ []) (a e x : Nat) (y : Beh) (pg pl : Option Addr) (ng cg nl cl : Nat) (k : Nat) {z : Int} (hz : z = (k : Int)) :
    Calls Tryz.prog 95 #[.pointer (some ⟨bb, 0, none⟩), .agg (yC a e x y (.slice pg ng cg) (.slice pl nl cl)).toArray, .int .u8 z] W (Ends K O w W (fun k => k < W.heap.size) bb mp lv (storeM x k y st)) := by
  subst hz
  have HA := hide h.up
  clear h
  have HL : Hid (∀ st', alignM x y st = .ok st' → st' = st ∧ storeM x k y st = takeM st [127, k]) := by
    intro st' h
    unfold alignM at h
    unfold storeM
    split at h
    · cases h
    · rename_i hn; cases h; exact ⟨rfl, by rw [if_neg hn] <;> rfl⟩
  have HL2 : Hid (∀ q p, alignM x y st = .error (q, p) → storeM x k y st = .error (q, p)) := by
    intro q p h
    unfold alignM at h
    unfold storeM
    split at h
    · rename_i hn; cases h; rw [if_pos hn]
    · cases h
  go_enter Tryz.func95, Tryz.ntmps95
  go_wp2_with fail
  refine (align_at (HA.out.alloc _) a e x y pg pl ng cg nl cl).mono ?_
  rintro ee w1 ⟨hok1, herr1, hk1, hlow1⟩
  have hlowW2 : Kept (fun k => k < W.heap.size ∧ ¬ K k) W w1 := (((Kept.refl _ _).alloc _).trans hlow1).mono (fun k hk c => ⟨hk, c.2⟩)
  cases hm : alignM x y st with
  | error qp =>
    obtain ⟨q, p⟩ := qp
    have he := herr1 _ _ hm
    subst he
    exact ⟨rfl, Ends.err_mk (HL2.out _ _ hm) hk1 hlowW2⟩
  | ok st0 =>
    obtain ⟨rfl, HLe⟩ := HL.out _ hm
    obtain ⟨rfl, hA1⟩ := hok1 _ hm
    have HA1 := hide hA1
    have HLE := hide HLe
    clear hok1 herr1 hm hA1 HLe HL HL2 hlow1
    go_wp2_with fail
    refine (take_at (HA1.out.alloc _) hb (kinds_made w1 [127, k] rfl rfl (by simp)) HA1.out.ne (by simp)).mono ?_
    rintro ee w2 ⟨hok2, herr2, hk2, hlow2⟩
    have hlow12 : Kept (fun k => k < W.heap.size ∧ ¬ K k) W w2 := hlowW2.lowTrans (((Kept.refl _ _).alloc _).trans hlow2) rfl
    cases hm : takeM st0 [127, k] with
    | error qp =>
      obtain ⟨q, p⟩ := qp
      have he := herr2 _ _ hm
      subst he
      exact ⟨rfl, Ends.err_mk (by rw [HLE.out, hm]) hk2 hlow12⟩
    | ok st1 =>
      obtain ⟨rfl, hA2⟩ := hok2 _ hm
      have HM : Hid (storeM x k y st0 = .ok st1) := by show _ = _; rw [HLE.out, hm]
      have HA2 := hide hA2
      clear hok2 herr2 hm hA2 HLE
      go_wp2
      go_end0
      exact Ends.ok_mk HM.out HA2.out hlow12
end

end Go.Proofs.YtgkpkngchploiaaGreat
