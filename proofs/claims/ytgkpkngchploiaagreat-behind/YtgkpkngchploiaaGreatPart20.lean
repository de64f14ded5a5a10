/-
  Part 20 of the proof: Body20, Body21, Body22, Body23, Body24, Body25.
-/
import Derived.Test.YtgkpkngchploiaaGreatPart19
import Derived.Test.YtgkpkngchploiaaGreatPart17
import Derived.Test.YtgkpkngchploiaaGreatPart18
import Derived.Deep.AppendLies
import Derived.Lib.AppendZeros
/-
  A call.
-/
namespace Go.Proofs.YtgkpkngchploiaaGreat
open Go.RowKit

section
variable {K O N : Nat → Prop} {w W : World} {bb mb : Nat} {lv : Value} {st : Bd} {s : ByteArray} {m : Mdl}

theorem jump16 {y : Beh} : checkJumpM m 16 y st = match thereM y.num m.funcs.length with | .error e => .error e | .ok f => callM (typeOfM m f) st := rfl

set_option maxRecDepth 100000 in
set_option maxHeartbeats 6400000 in
theorem checkJump_callBad {pg pl : Option Addr} {ng cg nl cl : Nat} (h : At K O w W N bb (.pointer (some ⟨mb, 0, none⟩)) lv st) (a e : Nat) (y : Beh) (yn : Int) (ya : Nat) (hy : y.num = (yn, ya)) (h0 : 0 ≤ yn) (h1 : yn ≤ 4294967295) (hm : MV s K W mb m) (hlt : ¬ yn < (m.funcs.length : Int)) :
    Calls Tryz.prog 63 #[.pointer (some ⟨bb, 0, none⟩), .agg #[.int .i64 (a : Nat), .int .i64 (e : Nat), .int .u8 16, .bool y.typed, .slice pg ng cg, .int .u32 y.align, .int .u32 yn, .int .i64 (ya : Nat), .slice pl nl cl, .int .i64 y.val]] W (Ends K O w W (fun k => k < W.heap.size) bb (.pointer (some ⟨mb, 0, none⟩)) lv (checkJumpM m 16 y st)) := by
  have HA := hide h.up
  have hbw := h.body.lt
  have hmw := hm.lt
  obtain ⟨I0, p1, c1, F1⟩ := h.fns hm
  have HM : Hid (checkJumpM m 16 y st = .error (3, ya)) := by
    show _ = _
    rw [jump16, hy]
    simp [thereM, hlt]
  have hHeld : (fun w' : World => w'.cell? ⟨bb, 0, none⟩ = some (.pointer (some ⟨mb, 0, none⟩)) ∧ w'.cell? ⟨mb, 1, none⟩ = some (.slice p1 m.funcs.length c1) ∧ w'.cell? ⟨W.heap.size, 6, none⟩ = some (.int .u32 yn) ∧ w'.cell? ⟨W.heap.size, 7, none⟩ = some (.int .i64 (ya : Nat))) ((W.alloc (.cells #[.int .i64 (a : Nat), .int .i64 (e : Nat), .int .u8 16, .bool y.typed, .slice pg ng cg, .int .u32 y.align, .int .u32 yn, .int .i64 (ya : Nat), .slice pl nl cl, .int .i64 y.val] 100)).drew) := by
    dsimp only
    exact ⟨(((Kept.refl (fun _ => False) W).alloc _).drew.cell hbw (fun c => c)).trans I0, (((Kept.refl (fun _ => False) W).alloc _).drew.cell hmw (fun c => c)).trans F1, by simp, by simp⟩
  have HHeld := hide hHeld
  clear h hm hHeld hy
  go_enter Tryz.func63, Tryz.ntmps63
  go_wp2_with fail
  refine wp_region_held_drew (S := fun w' : World => w'.cell? ⟨bb, 0, none⟩ = some (.pointer (some ⟨mb, 0, none⟩)) ∧ w'.cell? ⟨mb, 1, none⟩ = some (.slice p1 m.funcs.length c1) ∧ w'.cell? ⟨W.heap.size, 6, none⟩ = some (.int .u32 yn) ∧ w'.cell? ⟨W.heap.size, 7, none⟩ = some (.int .i64 (ya : Nat))) (by kernel_rfl) HHeld.out (fun _ => ?_)
  refine tkh 0 HHeld.out (h := ?_)
  refine tkh 1 HHeld.out (h := ?_)
  refine tkh 2 HHeld.out (h := ?_)
  refine tkh 3 HHeld.out (h := ?_)
  refine tkh 4 HHeld.out (h := ?_)
  refine tkh 5 HHeld.out (h := ?_)
  refine tkh 6 HHeld.out (h := ?_)
  refine tkh 7 HHeld.out (h := ?_)
  refine tkh 8 HHeld.out (h := ?_)
  refine tkh 9 HHeld.out (h := ?_)
  refine tkh 10 HHeld.out (h := ?_)
  refine tkh 11 HHeld.out (h := ?_)
  refine tkh 12 HHeld.out (h := ?_)
  refine tkh 13 HHeld.out (h := ?_)
  refine tkh 14 HHeld.out (h := ?_)
  refine wpAnyH_all (rs := [15]) (by kernel_rfl) (by simp) ?_
  intro i hi
  rw [List.mem_singleton] at hi
  subst hi
  refine wpOp_dies (f := 19) (args := #[.agg #[.int .u32 yn, .int .i64 (ya : Nat)], .int .i64 (m.funcs.length : Nat)]) rfl rfl (by kernel_rfl) (there_bad _ (by omega) h0 h1) ?_
  rintro ee w2 ⟨rfl, rfl⟩
  refine ⟨_, rfl, ?_⟩
  exact ⟨rfl, Ends.err_mk HM.out ((((HA.out.alloc _).kept.drew).alloc _)) (((Kept.refl _ _).alloc _).drew.alloc _)⟩

set_option maxRecDepth 100000 in
set_option maxHeartbeats 6400000 in
theorem checkJump_callOk {pg pl : Option Addr} {ng cg nl cl : Nat} (h : At K O w W N bb (.pointer (some ⟨mb, 0, none⟩)) lv st) (hb : st.blocks ≠ []) (a e : Nat) (y : Beh) (f ya : Nat) (hy : y.num = ((f : Int), ya)) (h1 : (f : Int) ≤ 4294967295) (hm : MV s K W mb m) (hlt : (f : Int) < (m.funcs.length : Int)) (hfs : ∀ x ∈ m.funcs, 0 ≤ x.1 ∧ x.1 < (m.types.length : Int)) (hty : (typeOfM m f).ins.length ≤ 8 ∧ (typeOfM m f).outs.length ≤ 8) (hs : st.stack.length ≤ 798000) :
    Calls Tryz.prog 63 #[.pointer (some ⟨bb, 0, none⟩), .agg #[.int .i64 (a : Nat), .int .i64 (e : Nat), .int .u8 16, .bool y.typed, .slice pg ng cg, .int .u32 y.align, .int .u32 (f : Int), .int .i64 (ya : Nat), .slice pl nl cl, .int .i64 y.val]] W (Ends K O w W (fun k => k < W.heap.size) bb (.pointer (some ⟨mb, 0, none⟩)) lv (checkJumpM m 16 y st)) := by
  have HA := hide h.up
  have HMV := hide hm
  have hbw := h.body.lt
  have hmw := hm.lt
  have hmK : K mb := hm.1
  have hfl : f < m.funcs.length := by omega
  have HFS := hide (hfs _ (List.getElem_mem hfl))
  have h0 : (0 : Int) ≤ (f : Int) := by omega
  obtain ⟨I0, p1, c1, F1⟩ := h.fns hm
  have HM : Hid (checkJumpM m 16 y st = callM (typeOfM m f) st) := by
    show _ = _
    rw [jump16, hy]
    simp [thereM, hfl]
  have hHeld : (fun w' : World => w'.cell? ⟨bb, 0, none⟩ = some (.pointer (some ⟨mb, 0, none⟩)) ∧ w'.cell? ⟨mb, 1, none⟩ = some (.slice p1 m.funcs.length c1) ∧ w'.cell? ⟨W.heap.size, 6, none⟩ = some (.int .u32 (f : Int)) ∧ w'.cell? ⟨W.heap.size, 7, none⟩ = some (.int .i64 (ya : Nat))) ((W.alloc (.cells #[.int .i64 (a : Nat), .int .i64 (e : Nat), .int .u8 16, .bool y.typed, .slice pg ng cg, .int .u32 y.align, .int .u32 (f : Int), .int .i64 (ya : Nat), .slice pl nl cl, .int .i64 y.val] 100)).drew) := by
    dsimp only
    exact ⟨(((Kept.refl (fun _ => False) W).alloc _).drew.cell hbw (fun c => c)).trans I0, (((Kept.refl (fun _ => False) W).alloc _).drew.cell hmw (fun c => c)).trans F1, by simp, by simp⟩
  have HHeld := hide hHeld
  clear h hm hHeld hy hfs
  go_enter Tryz.func63, Tryz.ntmps63
  go_wp2_with fail
  refine wp_region_held_drew (S := fun w' : World => w'.cell? ⟨bb, 0, none⟩ = some (.pointer (some ⟨mb, 0, none⟩)) ∧ w'.cell? ⟨mb, 1, none⟩ = some (.slice p1 m.funcs.length c1) ∧ w'.cell? ⟨W.heap.size, 6, none⟩ = some (.int .u32 (f : Int)) ∧ w'.cell? ⟨W.heap.size, 7, none⟩ = some (.int .i64 (ya : Nat))) (by kernel_rfl) HHeld.out (fun _ => ?_)
  refine tkh 0 HHeld.out (h := ?_)
  refine tkh 1 HHeld.out (h := ?_)
  refine tkh 2 HHeld.out (h := ?_)
  refine tkh 3 HHeld.out (h := ?_)
  refine tkh 4 HHeld.out (h := ?_)
  refine tkh 5 HHeld.out (h := ?_)
  refine tkh 6 HHeld.out (h := ?_)
  refine tkh 7 HHeld.out (h := ?_)
  refine tkh 8 HHeld.out (h := ?_)
  refine tkh 9 HHeld.out (h := ?_)
  refine tkh 10 HHeld.out (h := ?_)
  refine tkh 11 HHeld.out (h := ?_)
  refine tkh 12 HHeld.out (h := ?_)
  refine tkh 13 HHeld.out (h := ?_)
  refine tkh 14 HHeld.out (h := ?_)
  refine wpAnyH_all (rs := [15]) (by kernel_rfl) (by simp) ?_
  intro i hi
  rw [List.mem_singleton] at hi
  subst hi
  refine wpOp_calls (f := 19) (args := #[.agg #[.int .u32 (f : Int), .int .i64 (ya : Nat)], .int .i64 (m.funcs.length : Nat)]) rfl rfl (by kernel_rfl) (there_ok _ hlt h0 h1) ?_
  rintro ee w2 ⟨rfl, rfl⟩
  have hA1 := ((HA.out.alloc (.cells #[.int .i64 (a : Nat), .int .i64 (e : Nat), .int .u8 16, .bool y.typed, .slice pg ng cg, .int .u32 y.align, .int .u32 (f : Int), .int .i64 (ya : Nat), .slice pl nl cl, .int .i64 y.val] 100)).drewN 1).alloc (.cells #[.int .u32 (f : Int), .int .i64 (ya : Nat)] 62)
  have HA1 := hide hA1
  have hl1 : Kept (fun _ => False) W (((W.alloc (.cells #[.int .i64 (a : Nat), .int .i64 (e : Nat), .int .u8 16, .bool y.typed, .slice pg ng cg, .int .u32 y.align, .int .u32 (f : Int), .int .i64 (ya : Nat), .slice pl nl cl, .int .i64 y.val] 100)).drew).alloc (.cells #[.int .u32 (f : Int), .int .i64 (ya : Nat)] 62)) := (((Kept.refl _ _).alloc _).drew).alloc _
  have HS1 : Hid ((fun w' : World => w'.cell? ⟨bb, 0, none⟩ = some (.pointer (some ⟨mb, 0, none⟩)) ∧ w'.cell? ⟨mb, 1, none⟩ = some (.slice p1 m.funcs.length c1) ∧ w'.cell? ⟨W.heap.size, 6, none⟩ = some (.int .u32 (f : Int)) ∧ w'.cell? ⟨W.heap.size, 7, none⟩ = some (.int .i64 (ya : Nat))) (((W.alloc (.cells #[.int .i64 (a : Nat), .int .i64 (e : Nat), .int .u8 16, .bool y.typed, .slice pg ng cg, .int .u32 y.align, .int .u32 (f : Int), .int .i64 (ya : Nat), .slice pl nl cl, .int .i64 y.val] 100)).drew).alloc (.cells #[.int .u32 (f : Int), .int .i64 (ya : Nat)] 62))) := by
    obtain ⟨q0, q1, q2, q3⟩ := HHeld.out
    exact ⟨(World.cell?_alloc_lt _ _ _ (by simp; omega)).trans q0, (World.cell?_alloc_lt _ _ _ (by simp; omega)).trans q1, (World.cell?_alloc_lt _ _ _ (by simp)).trans q2, (World.cell?_alloc_lt _ _ _ (by simp)).trans q3⟩
  clear hA1 HHeld
  refine .inl ⟨_, rfl, HS1.out, ?_⟩
  have hWs : W.heap.size < (((W.alloc (.cells #[.int .i64 (a : Nat), .int .i64 (e : Nat), .int .u8 16, .bool y.typed, .slice pg ng cg, .int .u32 y.align, .int .u32 (f : Int), .int .i64 (ya : Nat), .slice pl nl cl, .int .i64 y.val] 100)).drew).alloc (.cells #[.int .u32 (f : Int), .int .i64 (ya : Nat)] 62)).heap.size := by simp; omega
  refine wpAnyH_all (rs := [16]) (by kernel_rfl) (by simp) ?_
  intro i hi
  rw [List.mem_singleton] at hi
  subst hi
  refine wpOp_calls (f := 37) (args := #[(.pointer (some ⟨mb, 0, none⟩)), .int .i64 (f : Nat)]) rfl rfl (by kernel_rfl) (typeOf_any f (HMV.out.kept hl1 (fun _ _ _ c => c)) hfl HFS.out) ?_
  rintro ee w3 ⟨hk3, v, rfl, vi, vo, rfl, k1, k2⟩
  have hA3 := HA1.out.quiet hk3
  have hl3 : Kept (fun k => k < W.heap.size ∧ ¬ K k) W w3 := (hl1.trans hk3).mono (fun _ _ c => c.elim)
  have HS3 : Hid ((fun w' : World => w'.cell? ⟨bb, 0, none⟩ = some (.pointer (some ⟨mb, 0, none⟩)) ∧ w'.cell? ⟨mb, 1, none⟩ = some (.slice p1 m.funcs.length c1) ∧ w'.cell? ⟨W.heap.size, 6, none⟩ = some (.int .u32 (f : Int)) ∧ w'.cell? ⟨W.heap.size, 7, none⟩ = some (.int .i64 (ya : Nat))) w3) := by
    obtain ⟨q0, q1, q2, q3⟩ := HS1.out
    exact ⟨(hk3.cell (p := ⟨bb, 0, none⟩) (Nat.lt_trans hbw hWs) (fun c => c)).trans q0, (hk3.cell (p := ⟨mb, 1, none⟩) (Nat.lt_trans hmw hWs) (fun c => c)).trans q1, (hk3.cell (p := ⟨W.heap.size, 6, none⟩) hWs (fun c => c)).trans q2, (hk3.cell (p := ⟨W.heap.size, 7, none⟩) hWs (fun c => c)).trans q3⟩
  refine .inl ⟨_, rfl, HS3.out, ?_⟩
  refine wpAnyH_all (rs := [17]) (by kernel_rfl) (by simp) ?_
  intro i hi
  rw [List.mem_singleton] at hi
  subst hi
  refine wpOp_calls (f := 88) (args := #[.pointer (some ⟨bb, 0, none⟩), .agg #[vi, vo]]) rfl rfl (by kernel_rfl) (call_at hA3 hb k1 k2 hty.1 hty.2 (by omega)) ?_
  rintro ee w4 ⟨hok4, herr4, hk4, hlow4⟩
  have hl4 := hl3.lowTrans hlow4 rfl
  cases hm4 : callM (typeOfM m f) st with
  | error qp =>
    obtain ⟨q, p⟩ := qp
    have he := herr4 _ _ hm4
    subst he
    exact .inr ⟨_, rfl, rfl, Ends.err_mk (HM.out.trans hm4) hk4 hl4⟩
  | ok st4 =>
    obtain ⟨rfl, hA4⟩ := hok4 _ hm4
    refine .inl ⟨_, rfl, ?_, ?_⟩
    · obtain ⟨q0, q1, q2, q3⟩ := HS3.out
      have hw3 := hk3.size
      have hbx : W.heap.size < w3.heap.size := Nat.lt_of_lt_of_le hWs hw3
      exact ⟨hA4.mp, (hlow4.cell (p := ⟨mb, 1, none⟩) (Nat.lt_trans hmw hbx) (fun c => c.2 hmK)).trans q1, (hlow4.cell (p := ⟨W.heap.size, 6, none⟩) hbx (fun c => Nat.lt_irrefl _ c.1)).trans q2, (hlow4.cell (p := ⟨W.heap.size, 7, none⟩) hbx (fun c => Nat.lt_irrefl _ c.1)).trans q3⟩
    refine wpAnyH_done (by kernel_rfl) ?_ _
    go_end0
    exact Ends.ok_mk (HM.out.trans hm4) hA4 hl4
end

end Go.Proofs.YtgkpkngchploiaaGreat
/-
  A table of labels: the labels' kinds, one after the other.
-/
namespace Go.Proofs.YtgkpkngchploiaaGreat
open Go.RowKit

theorem Tryz.info83 : (Tryz.prog.info? 83).map (fun i => (i.zero, i.size, i.bytes)) = some (some (.slice none 0 0), 1, 24) := by kernel_rfl

section
variable {K O N : Nat → Prop} {w W : World} {bb mb : Nat} {lv : Value} {st : Bd} {s : ByteArray} {m : Mdl}

/-- What the call itself made has changed. -/
theorem At.aside {mp : Value} {S : Nat → Prop} {W' : World} (h : At K O w W N bb mp lv st) (hk : Kept S W W') (hs : ∀ k, S k → ¬ N k ∧ ¬ K k ∧ w.heap.size ≤ k) : At K O w W' N bb mp lv st := by
  obtain ⟨sv, bv, hB⟩ := h.body
  refine ⟨h.kept.fresh hk (fun k hk0 c => absurd (hs k c).2.2 (by omega)), ⟨sv, bv, hB.kept hk (fun k _ c => ⟨fun d => (hs k c).1 d.2, (hs k c).2.1⟩)⟩, h.kb, h.dis, h.tidy, h.bls, h.stk⟩

theorem lookFor_at {mp kv : Value} {ok : Nat → Prop} {ks : List Nat} (h : At K O w W N bb mp lv st) (hb : st.blocks ≠ []) (hk : isKinds ok ks W kv) (hok : ¬ ok bb) (hkl : ks.length ≤ 50) :
    Calls Tryz.prog 110 #[.pointer (some ⟨bb, 0, none⟩), kv] W fun e w' => (∀ u, lookForM st ks = .ok u → e = .returned (.tuple #[]) ∧ At K O w w' N bb mp lv st) ∧ (∀ q p, lookForM st ks = .error (q, p) → e = gaveUp q p) ∧ Kept O w w' ∧ Kept (fun k => N k ∧ ¬ K k) W w' := by
  obtain ⟨sv, bv, hB⟩ := h.body
  obtain ⟨ps, cs, rfl⟩ := Row.shape hB.stk
  have hl := h.bls
  have hs := h.stk
  refine (lookFor_any hB hk hok (fun _ => hb) (by omega) h.tidy.floor (by omega) hkl).mono ?_
  rintro e w' ⟨hk', hok', herr⟩
  have hkM : Kept (fun k => More O w k ∧ N k) W w' := hk'.mono (fun k _ (e : k = bb) => e ▸ hB.own)
  refine ⟨fun u hu => ?_, herr, h.keptStep hkM, hkM.mono (fun k _ hh => ⟨hh.2, h.apart k hh.1⟩)⟩
  obtain ⟨v, rfl, rfl, hB'⟩ := hok' _ hu
  exact ⟨rfl, ⟨h.keptStep hkM, ⟨_, _, hB'⟩, h.kb, h.dis, h.tidy, h.bls, h.stk⟩⟩

/-- The kinds of the labels that were looked up, in memory. -/
def isKindss (K : Nat → Prop) (ok : Nat → Prop) (kss : List (List Nat)) (w : World) (v : Value) : Prop :=
  ∃ vs : List Value, Row ok w 83 1 v kss.length vs ∧ Each (fun ks v => isKinds K ks w v) kss vs

theorem isKindss.kept {S ok : Nat → Prop} {kss : List (List Nat)} {W' : World} {v : Value} (h : isKindss K ok kss W v) (hk : Kept S W W') (h1 : ∀ g, g < W.heap.size → ok g → ¬ S g) (h2 : ∀ g, g < W.heap.size → K g → ¬ S g) : isKindss K ok kss W' v := by
  obtain ⟨vs, a, b⟩ := h
  exact ⟨vs, Row.kept a hk h1, b.to (fun _ _ c => Row.kept c hk h2)⟩

theorem labelsGo_bad {x : Int × Nat} {xs : List (Int × Nat)} {acc : List (List Nat)} {k : Nat} {e : Err} (hk : k < xs.length) (hx : xs[k] = x) (h : labelM st x = .error e) : labelsGo st (xs.drop k) acc = .error e := by
  rw [List.drop_eq_getElem_cons hk, hx]
  simp [labelsGo, h]

theorem labelsGo_ok {x : Int × Nat} {xs : List (Int × Nat)} {acc : List (List Nat)} {k : Nat} {ks : List Nat} (hk : k < xs.length) (hx : xs[k] = x) (h : labelM st x = .ok ks) : labelsGo st (xs.drop k) acc = labelsGo st (xs.drop (k + 1)) (acc ++ [ks]) := by
  rw [List.drop_eq_getElem_cons hk, hx]
  simp [labelsGo, h]

theorem lookGo_bad {last : List Nat} {kss : List (List Nat)} {k : Nat} {e : Err} (hk : k < kss.length) (hl : kss[k].length = last.length) (h : lookForM st kss[k] = .error e) : lookGo st last (kss.drop k) = .error e := by
  rw [List.drop_eq_getElem_cons hk]
  unfold lookGo
  rw [if_neg (by simp [hl])]
  unfold lookForM at h
  cases hm : takeM st kss[k] with
  | error e' => rw [hm] at h; cases h; rfl
  | ok u => rw [hm] at h; cases h

theorem lookGo_ok {last : List Nat} {kss : List (List Nat)} {k : Nat} {u : Unit} (hk : k < kss.length) (hl : kss[k].length = last.length) (h : lookForM st kss[k] = .ok u) : lookGo st last (kss.drop k) = lookGo st last (kss.drop (k + 1)) := by
  rw [List.drop_eq_getElem_cons hk]
  conv => lhs; unfold lookGo
  rw [if_neg (by simp [hl])]
  unfold lookForM at h
  cases hm : takeM st kss[k] with
  | error e' => rw [hm] at h; cases h
  | ok u => rfl

theorem lookGo_len {last : List Nat} {kss : List (List Nat)} {k : Nat} (hk : k < kss.length) (hl : kss[k].length ≠ last.length) : lookGo st last (kss.drop k) = .error (4, st.at_) := by
  rw [List.drop_eq_getElem_cons hk]
  unfold lookGo
  rw [if_pos hl]
end

end Go.Proofs.YtgkpkngchploiaaGreat
/-
  A table of labels.
-/
namespace Go.Proofs.YtgkpkngchploiaaGreat
open Go.RowKit

theorem isKindss.shape {K ok : Nat → Prop} {kss : List (List Nat)} {W : World} {v : Value} (h : isKindss K ok kss W v) : ∃ p c, v = .slice p kss.length c := by
  obtain ⟨vs, hr, -⟩ := h
  exact Row.shape hr

section
variable {K O N : Nat → Prop} {w W : World} {bb mb : Nat} {lv : Value} {st : Bd} {s : ByteArray} {m : Mdl}

set_option maxRecDepth 100000 in
set_option maxHeartbeats 6400000 in
theorem checkTable_at {pg pl : Option Addr} {ng cg cl : Nat} (h : At K O w W N bb (.pointer (some ⟨mb, 0, none⟩)) lv st) (hb : st.blocks ≠ []) (a e x : Nat) (y : Beh) (hx : 0 ≤ y.num.1 ∧ y.num.1 ≤ 4294967295) (hxs : ∀ z ∈ y.labels, 0 ≤ z.1 ∧ z.1 ≤ 4294967295) (hll : y.labels.length ≤ 20) (hlr : isRow 62 2 numCells K y.labels W (.slice pl y.labels.length cl)) :
    Calls Tryz.prog 87 #[.pointer (some ⟨bb, 0, none⟩), .agg (yC a e x y (.slice pg ng cg) (.slice pl y.labels.length cl)).toArray] W (Ends K O w W (fun k => k < W.heap.size) bb (.pointer (some ⟨mb, 0, none⟩)) lv (checkTableM y st)) := by
  obtain ⟨i0, hi0, hz0, hz1, hz2⟩ := info_parts Tryz.info83
  have HA := hide h.up
  have hKb : ¬ K bb := fun c => h.body.dis bb h.body.own c
  have hwW : w.heap.size ≤ W.heap.size := h.kept.size
  have hKw := h.kb
  have H0 : Hid (labelsGo st y.labels [] = labelsGo st (y.labels.drop 0) []) := by show _ = _; simp
  have HX := hide hxs
  clear h hxs
  go_enter Tryz.func87, Tryz.ntmps87
  go_wp2
  go_loopw [4, 13] (fun ov q wr => ∃ (k : Nat) (kss : List (List Nat)), k ≤ y.labels.length ∧ kss.length = k ∧ q = .int .i64 k ∧ At K O w wr (fun k => k < W.heap.size) bb (.pointer (some ⟨mb, 0, none⟩)) lv st ∧ Kept (fun _ => False) (W.alloc (.cells (yC a e x y (.slice pg ng cg) (.slice pl y.labels.length cl)).toArray 100)) wr ∧
      isKindss K (fun g => W.heap.size < g) kss wr ov ∧ (∀ ks ∈ kss, ks.length ≤ 8) ∧ labelsGo st y.labels [] = labelsGo st (y.labels.drop k) kss) (fun _ q _ => y.labels.length - (intOf q).toNat)
  case atStart => exact ⟨0, [], Nat.zero_le _, rfl, rfl, HA.out.alloc _, Kept.refl _ _, ⟨[], Row.nil _ _ _ _, trivial⟩, by simp, H0.out⟩
  case round =>
    obtain ⟨k, kss, hk, hkl, rfl, hA1, hkp, hks, hk8, hme⟩ := hrel
    obtain ⟨po, co, rfl⟩ := hks.shape
    have HE := hide hme
    have HA1 := hide hA1
    have HKS := hide hks
    have H8 := hide hk8
    have hbwr : bb < wr.heap.size := hA1.body.lt
    have hrr : isRow 62 2 numCells K y.labels wr (.slice pl y.labels.length cl) := Row.kept (Row.alloc hlr _) hkp (fun _ _ _ c => c)
    have hsz1 := hkp.size
    subst hkl
    clear hme H0 hA1 hks hk8
    by_cases hlt : kss.length < y.labels.length
    · have hlt' : (kss.length : Int) < (y.labels.length : Int) := by omega
      obtain ⟨g, cap, hv, -, hgl, hcap, hcell⟩ := Row.cells hrr (by omega)
      cases hv
      have hxx : y.labels[kss.length]? = some y.labels[kss.length] := List.getElem?_eq_getElem hlt
      have c0 : wr.cell? ⟨g, kss.length * 2, none⟩ = some (.int .u32 y.labels[kss.length].1) := (hcell (kss.length * 2) (by omega)).trans (flat_get (m := 2) (o := 0) (fun _ => rfl) hxx (by omega))
      have c1 : wr.cell? ⟨g, kss.length * 2 + 1, none⟩ = some (.int .i64 (y.labels[kss.length].2 : Nat)) := (hcell (kss.length * 2 + 1) (by omega)).trans (flat_get (m := 2) (o := 1) (fun _ => rfl) hxx (by omega))
      have hz := HX.out _ (List.getElem_mem hlt)
      have HB := hide (fun e he => labelsGo_bad (st := st) (acc := kss) (e := e) hlt rfl he)
      have HO := hide (fun ks he => labelsGo_ok (st := st) (acc := kss) (ks := ks) hlt rfl he)
      clear hcell hrr hxx hlr
      generalize y.labels[kss.length] = z at *
      go_wp2_with fail
      refine (label_at (HA1.out.alloc _) z hz).mono ?_
      rintro ee w2 ⟨hk2, hok2, herr2⟩
      have hA2 := (HA1.out.alloc (.cells #[.int .u32 z.1, .int .i64 (z.2 : Nat)] 62)).quiet hk2
      have hk02 : Kept (fun _ => False) wr w2 := ((Kept.refl _ _).alloc _).trans hk2
      have hlowE : Kept (fun k => k < W.heap.size ∧ ¬ K k) W w2 := (((Kept.refl _ _).alloc _).trans (hkp.mono (fun _ _ c => c.elim))).trans (hk02.mono (fun _ _ c => c.elim))
      cases hm2 : labelM st z with
      | error qp =>
        obtain ⟨q, p⟩ := qp
        have he := herr2 _ _ hm2
        subst he
        exact ⟨rfl, Ends.err_mk (by unfold checkTableM; rw [HE.out, HB.out _ hm2]) hA2.kept hlowE⟩
      | ok ks =>
        obtain ⟨v, rfl, k1⟩ := hok2 _ hm2
        have l1 := HA.out.short hz hm2
        obtain ⟨pk, ck, rfl⟩ := Row.shape k1
        have HN := hide (HE.out.trans (HO.out _ hm2))
        have HKS2 := hide (HKS.out.kept hk02 (fun _ _ _ c => c) (fun _ _ _ c => c))
        have HA2 := hide hA2
        have H1 := hide k1
        clear hok2 herr2 hm2 hA2 k1 HB HO HE c0 c1 HKS
        obtain ⟨vs, hrow, hea⟩ := HKS2.out
        have hrowA := hide (fun o => (Row.alloc hrow o).own)
        have HRow := hide hrow
        have HEA := hide hea
        have hsz2 := hk02.size
        clear hrow hea
        go_wp2_with (at_builtin; refine wpList_append_lies _ rfl _ _ 121 rfl 0 83 i0 (.slice none 0 0) 1 24 Tryz.underlying121 hi0 hz0 hz1 hz2 rfl (by decide) _ _ _ rfl (hrowA.out _) ⟨w2.heap.size, 0, none⟩ 1 1 [_] rfl rfl (cells_at (by simp) rfl) ?c2 (by omega) ?c3 ?c4 (Nat.zero_le _) (w2.heap.size + 1) (by simp) ?_)
        case c2 => intro u hu; simp at hu; subst hu; rfl
        case c3 => unfold maxLen; omega
        case c4 => omega
        intro gg cap3 w3 hown3 hgrow hat hlt3
        have hrowlt : ∀ g, (Value.slice po kss.length co).ownBlock = some g → W.heap.size < g := fun g hg => HRow.out.at_ g hg
        have hG := Kept.of_grown hgrow
        have hA3 := (HA2.out.alloc (.cells #[.slice pk ks.length ck] 83)).aside hG (fun g hg => ⟨fun c => by have := hrowlt g hg; omega, fun c => by have := hrowlt g hg; have := hKw g c; omega, by have := hrowlt g hg; omega⟩)
        have hkp3 := ((hkp.trans hk02).alloc (.cells #[.slice pk ks.length ck] 83)).fresh hG (fun g hg c => by have := hrowlt g c; simp at hg; omega)
        have hKg : ∀ g, K g → ¬ (Value.slice po kss.length co).ownBlock = some g := fun g hg c => by have := hrowlt g c; have := hKw g hg; omega
        have hks3 : isKindss K (fun g => W.heap.size < g) (kss ++ [ks]) w3 (.slice (some ⟨gg, 0, none⟩) (kss.length + 1) cap3) := by
          refine ⟨vs ++ [.slice pk ks.length ck], ⟨by simpa using hown3, fun g hg => ?_⟩, Each.snoc (HEA.out.to (fun _ _ c => Row.kept (Row.alloc c _) hG (fun g _ hg => hKg g hg))) (Row.kept (Row.alloc H1.out _) hG (fun g _ hg => hKg g hg))⟩
          simp [Value.ownBlock] at hg
          subst hg
          rcases hat with hh | hh
          · exact hrowlt _ hh
          · simp at hsz1; omega
        have h83 : ∀ z ∈ kss ++ [ks], z.length ≤ 8 := fun z hz => by
          rcases List.mem_append.1 hz with hh | hh
          · exact H8.out z hh
          · simp at hh; subst hh; exact l1
        have HA3 := hide hA3
        have HK3 := hide hkp3
        have HKS3 := hide hks3
        have H83 := hide h83
        clear hown3 hgrow hat hA3 hkp3 hks3 h83 hG hKg hrowlt HRow HEA hrowA H1 HA2 HKS2
        go_wp2
        go_roundw
        case rel => exact ⟨kss.length + 1, kss ++ [ks], by omega, by simp, by go_num, HA3.out, HK3.out, HKS3.out, H83.out, HN.out⟩
        case measure => simp [intOf]; omega
    · have HD : Hid (labelsGo st y.labels [] = .ok kss) := by
        show _ = _
        rw [HE.out, List.drop_eq_nil_of_le (by omega)]
        rfl
      have hX6 : wr.cell? ⟨W.heap.size, 6, none⟩ = some (.int .u32 y.num.1) := (hkp.cell (p := ⟨W.heap.size, 6, none⟩) (by simp) (fun c => c)).trans (by simp)
      have hX7 : wr.cell? ⟨W.heap.size, 7, none⟩ = some (.int .i64 (y.num.2 : Nat)) := (hkp.cell (p := ⟨W.heap.size, 7, none⟩) (by simp) (fun c => c)).trans (by simp)
      have hkW : Kept (fun k => k < W.heap.size ∧ ¬ K k) W wr := ((Kept.refl _ _).alloc _).trans (hkp.mono (fun _ _ c => c.elim))
      clear hrr hlr HE
      go_wp2_with fail
      refine (label_at HA1.out y.num hx).mono ?_
      rintro ee w2 ⟨hk2, hok2, herr2⟩
      have hA2 := HA1.out.quiet hk2
      have hl2 : Kept (fun k => k < W.heap.size ∧ ¬ K k) W w2 := hkW.trans (hk2.mono (fun _ _ c => c.elim))
      cases hm2 : labelM st y.num with
      | error qp =>
        obtain ⟨q, p⟩ := qp
        have he := herr2 _ _ hm2
        subst he
        exact ⟨rfl, Ends.err_mk (by unfold checkTableM; rw [HD.out]; simp only [hm2]) hA2.kept hl2⟩
      | ok last =>
        obtain ⟨v, rfl, k1⟩ := hok2 _ hm2
        have l1 := HA.out.short hx hm2
        obtain ⟨pk, ck, rfl⟩ := Row.shape k1
        have HKS2 := hide (HKS.out.kept hk2 (fun _ _ _ c => c) (fun _ _ _ c => c))
        have HA2 := hide hA2
        have H1 := hide k1
        have HL := hide hm2
        clear hok2 herr2 hm2 hA2 k1 HKS hX6 hX7
        go_wp2_with fail
        refine (take_at (HA2.out.alloc _) hb (kinds_made w2 [127] rfl rfl (by simp)) HA2.out.ne (by simp)).mono ?_
        rintro ee w3 ⟨hok3, herr3, hk3, hlow3⟩
        have hl3 := hl2.lowTrans (((Kept.refl _ _).alloc _).trans hlow3) rfl
        cases hm3 : takeM st [127] with
        | error qp =>
          obtain ⟨q, p⟩ := qp
          have he := herr3 _ _ hm3
          subst he
          exact ⟨rfl, Ends.err_mk (by unfold checkTableM; rw [HD.out]; simp only [HL.out, hm3]) hk3 hl3⟩
        | ok st3 =>
          obtain ⟨rfl, hA3⟩ := hok3 _ hm3
          have hf := takeM_facts HA.out.tidy.floor hm3
          have hb3 : st3.blocks ≠ [] := by rw [hf.1]; exact hb
          have HN : Hid (checkTableM y st = match lookGo st3 last kss with | .error e => .error e | .ok _ => match takeM st3 last with | .error e => .error e | .ok st2 => .ok (cutOffM st2)) := by
            show _ = _
            unfold checkTableM
            rw [HD.out]
            simp only [HL.out, hm3]
            rfl
          have HKS3 : Hid (isKindss K (fun g => W.heap.size < g ∧ g < w2.heap.size) kss w3 (.slice po kss.length co)) := by
            obtain ⟨vs, hr, hea⟩ := HKS2.out
            have h1 : isKindss K (fun g => W.heap.size < g ∧ g < w2.heap.size) kss w2 (.slice po kss.length co) := ⟨vs, Row.mono hr (fun g hg ho => ⟨ho, hg⟩), hea⟩
            exact (h1.kept ((Kept.refl (fun _ => False) _).alloc _) (fun _ _ _ c => c) (fun _ _ _ c => c)).kept hlow3 (fun g _ hg c => by have := c.1; omega) (fun g _ hg c => c.2 hg)
          have HL3 := hide (hlow3.kinds (Row.alloc H1.out _))
          have HA3 := hide hA3
          have hs3 := hlow3.size
          have hW3 : w2.heap.size < w3.heap.size := by simp at hs3; omega
          have H02 : Hid (lookGo st3 last kss = lookGo st3 last (kss.drop 0)) := by show _ = _; simp
          clear hok3 herr3 hm3 hA3 hf HKS2 H1 HL HD HA2
          go_wp2
          go_loopw [33] (fun q w4 => ∃ k : Nat, k ≤ kss.length ∧ q = .int .i64 k ∧ At K O w w4 (fun k => k < W.heap.size ∨ (w2.heap.size + 1 ≤ k ∧ k < w3.heap.size)) bb (.pointer (some ⟨mb, 0, none⟩)) lv st3 ∧ Kept (fun k => (k < W.heap.size ∨ (w2.heap.size + 1 ≤ k ∧ k < w3.heap.size)) ∧ ¬ K k) w3 w4 ∧ lookGo st3 last kss = lookGo st3 last (kss.drop k)) (fun q _ => kss.length - (intOf q).toNat)
          case atStart => exact ⟨0, Nat.zero_le _, rfl, by simpa using HA3.out, Kept.refl _ _, H02.out⟩
          case round =>
            obtain ⟨k2, hk2l, rfl, hA4, hk4, hme⟩ := hrel
            have HE := hide hme
            have HA4 := hide hA4
            have hks4 := HKS3.out.kept hk4 (fun g _ hg c => by have := c.1; omega) (fun g _ hg c => c.2 hg)
            have hl4 : Kept (fun k => k < W.heap.size ∧ ¬ K k) W _ := hl3.lowTrans hk4 rfl
            have HLast := hide (Row.kept HL3.out hk4 (fun g _ hg c => c.2 hg))
            clear hme hA4
            by_cases hlt2 : k2 < kss.length
            · have hlt2' : (k2 : Int) < (kss.length : Int) := by omega
              obtain ⟨vs, hr, hea⟩ := hks4
              obtain ⟨g, cap, hv, -, hgl, hcap, hcell⟩ := Row.cells hr (by omega)
              cases hv
              obtain ⟨v, hv, hkv⟩ := hea.get (List.getElem?_eq_getElem hlt2)
              obtain ⟨pv, cv, rfl⟩ := Row.shape hkv
              have c0 := (hcell k2 (by omega)).trans hv
              have l2 := H8.out _ (List.getElem_mem hlt2)
              have HKV := hide hkv
              clear hcell hr hea hv hkv
              by_cases hle : kss[k2].length = last.length
              · have tl : ((kss[k2].length : Int) != (last.length : Int)) = false := by rw [hle, bne_self_eq_false]
                have HB := hide (fun e he => lookGo_bad (st := st3) (last := last) (e := e) hlt2 hle he)
                have HO := hide (fun u he => lookGo_ok (st := st3) (last := last) (u := u) hlt2 hle he)
                clear hle
                generalize kss[k2] = ks at *
                go_wp2_with fail
                refine (lookFor_at HA4.out hb3 HKV.out hKb (by omega)).mono ?_
                rintro ee w5 ⟨hok5, herr5, hk5, hlow5⟩
                have hl5 := hl4.lowTrans hlow5 rfl
                cases hm5 : lookForM st3 ks with
                | error qp =>
                  obtain ⟨q, p⟩ := qp
                  have he := herr5 _ _ hm5
                  subst he
                  exact ⟨rfl, Ends.err_mk (by rw [HN.out, HE.out, HB.out _ hm5]) hk5 hl5⟩
                | ok u =>
                  obtain ⟨rfl, hA5⟩ := hok5 _ hm5
                  have HE2 := hide (HE.out.trans (HO.out _ hm5))
                  have HA5 := hide hA5
                  have hk35 := hk4.trans hlow5
                  clear hok5 herr5 hm5 hA5 HB HO HE c0
                  go_wp2
                  go_roundw
                  case rel => exact ⟨k2 + 1, by omega, by go_num, HA5.out, hk35, HE2.out⟩
                  case measure => simp [intOf]; omega
              · have tl : ((kss[k2].length : Int) != (last.length : Int)) = true := by rw [bne_iff_ne]; omega
                have HB : Hid (checkTableM y st = .error (4, st3.at_)) := by show _ = _; rw [HN.out, HE.out, lookGo_len hlt2 hle]
                clear hle
                generalize kss[k2] = ks at *
                go_wp2_with fail
                refine (refuse_at HA4.out).mono ?_
                rintro ee w5 ⟨rfl, rfl⟩
                exact ⟨rfl, Ends.err_mk HB.out HA4.out.kept hl4⟩
            · have HN2 : Hid (checkTableM y st = match takeM st3 last with | .error e => .error e | .ok st2 => .ok (cutOffM st2)) := by
                show _ = _
                rw [HN.out, HE.out, List.drop_eq_nil_of_le (by omega)]
                rfl
              clear hks4 HE HN
              go_wp2_with fail
              refine (take_at HA4.out hb3 HLast.out hKb (by omega)).mono ?_
              rintro ee w5 ⟨hok5, herr5, hk5, hlow5⟩
              have hl5 := hl4.lowTrans hlow5 rfl
              cases hm5 : takeM st3 last with
              | error qp =>
                obtain ⟨q, p⟩ := qp
                have he := herr5 _ _ hm5
                subst he
                exact ⟨rfl, Ends.err_mk (by rw [HN2.out, hm5]) hk5 hl5⟩
              | ok st5 =>
                obtain ⟨rfl, hA5⟩ := hok5 _ hm5
                have hf := takeM_facts HA4.out.tidy.floor hm5
                have hb5 : st5.blocks ≠ [] := by rw [hf.1]; exact hb3
                have HE : Hid (checkTableM y st = .ok (cutOffM st5)) := by show _ = _; rw [HN2.out, hm5]
                have HA5 := hide hA5
                clear hok5 herr5 hm5 hA5 hf HN2
                go_wp2_with fail
                refine (cutOff_at HA5.out hb5).mono ?_
                rintro ee w6 ⟨hok6, -, -, hlow6⟩
                obtain ⟨rfl, hA6⟩ := hok6 _ rfl
                have HA6 := hide hA6
                clear hok6 hA6
                go_wp2
                go_end0
                exact Ends.ok_mk HE.out HA6.out (hl5.lowTrans hlow6 rfl)
end

end Go.Proofs.YtgkpkngchploiaaGreat
/-
  One instruction.
-/
namespace Go.Proofs.YtgkpkngchploiaaGreat
open Go.RowKit

section
variable {K O N : Nat → Prop} {w W : World} {bb mb : Nat} {lv : Value} {st : Bd} {s : ByteArray} {m : Mdl}

theorem checkBlock_at {pg pl : Option Addr} {cg nl cl : Nat} (h : At K O w W N bb (.pointer (some ⟨mb, 0, none⟩)) lv st) (hb : st.blocks ≠ []) (hm : MV s K W mb m) (a e x : Nat) (y : Beh) (hx : 0 ≤ y.num.1 ∧ y.num.1 ≤ 4294967295) (hg : isKinds K y.gives W (.slice pg y.gives.length cg)) (hs : st.stack.length ≤ 798000) (hbl : st.blocks.length ≤ 54) (h5 : x = 5 → 2 ≤ st.blocks.length) (hty : ∀ t, blockTypeM m y = .ok t → t.ins.length ≤ 8 ∧ t.outs.length ≤ 8) :
    Calls Tryz.prog 62 #[.pointer (some ⟨bb, 0, none⟩), .agg (yC a e x y (.slice pg y.gives.length cg) (.slice pl nl cl)).toArray] W (Ends K O w W (fun k => k < W.heap.size) bb (.pointer (some ⟨mb, 0, none⟩)) lv (checkBlockM m x y st)) := by
  by_cases h0 : x = 0
  · subst h0; exact checkBlock_unreachable h hb a e y
  by_cases h23 : x = 2 ∨ x = 3
  · exact checkBlock_open h hb hm a e x y hx hg hs hbl hty h23
  by_cases h4 : x = 4
  · subst h4; exact checkBlock_if h hb hm a e y hx hg hs hbl hty
  by_cases he5 : x = 5
  · subst he5; exact checkBlock_else h hb a e y hs hbl (h5 rfl)
  by_cases h11 : x = 11
  · subst h11; exact checkBlock_end h hb a e y hs
  exact checkBlock_none h a e x y h0 (fun c => h23 (.inl c)) (fun c => h23 (.inr c)) h4 he5 h11

set_option maxRecDepth 100000 in
set_option maxHeartbeats 6400000 in
theorem checkJump_table {pg pl : Option Addr} {ng cg cl : Nat} (h : At K O w W N bb (.pointer (some ⟨mb, 0, none⟩)) lv st) (hb : st.blocks ≠ []) (a e : Nat) (y : Beh) (hx : 0 ≤ y.num.1 ∧ y.num.1 ≤ 4294967295) (hxs : ∀ z ∈ y.labels, 0 ≤ z.1 ∧ z.1 ≤ 4294967295) (hll : y.labels.length ≤ 20) (hlr : isRow 62 2 numCells K y.labels W (.slice pl y.labels.length cl)) :
    Calls Tryz.prog 63 #[.pointer (some ⟨bb, 0, none⟩), .agg #[.int .i64 (a : Nat), .int .i64 (e : Nat), .int .u8 14, .bool y.typed, .slice pg ng cg, .int .u32 y.align, .int .u32 y.num.1, .int .i64 (y.num.2 : Nat), .slice pl y.labels.length cl, .int .i64 y.val]] W (Ends K O w W (fun k => k < W.heap.size) bb (.pointer (some ⟨mb, 0, none⟩)) lv (checkJumpM m 14 y st)) := by
  have HA := hide h.up
  have HX := hide hxs
  have HR := hide hlr
  have HN : Hid (checkJumpM m 14 y st = checkTableM y st) := rfl
  clear h hxs hlr
  have HQ : Hid True := trivial
  · go_enter Tryz.func63, Tryz.ntmps63
    go_wp2_with fail
    refine (checkTable_at (HA.out.alloc _) hb a e 14 y hx HX.out hll (Row.kept HR.out ((Kept.refl (fun _ => False) _).alloc _) (fun _ _ _ c => c))).mono ?_
    rintro ee w2 ⟨hok2, herr2, hk2, hlow2⟩
    have hlow : Kept (fun k => k < W.heap.size ∧ ¬ K k) W w2 := (((Kept.refl _ _).alloc _).trans hlow2).mono (fun k hk c => ⟨hk, c.2⟩)
    cases hm2 : checkTableM y st with
    | error qp =>
      obtain ⟨q, p⟩ := qp
      have he := herr2 _ _ hm2
      subst he
      exact ⟨rfl, Ends.err_mk (HN.out.trans hm2) hk2 hlow⟩
    | ok st2 =>
      obtain ⟨rfl, hA2⟩ := hok2 _ hm2
      have HA2 := hide hA2
      have HE2 := hide (HN.out.trans hm2)
      clear hok2 herr2 hA2 hm2 HN
      go_wp2
      go_end0
      exact Ends.ok_mk HE2.out HA2.out hlow

set_option maxRecDepth 100000 in
set_option maxHeartbeats 6400000 in
theorem checkJump_none {pg pl : Option Addr} {ng cg nl cl : Nat} (h : At K O w W N bb (.pointer (some ⟨mb, 0, none⟩)) lv st) (a e x : Nat) (y : Beh) (h12 : x ≠ 12) (h13 : x ≠ 13) (h14 : x ≠ 14) (h15 : x ≠ 15) (h16 : x ≠ 16) (h17 : x ≠ 17) :
    Calls Tryz.prog 63 #[.pointer (some ⟨bb, 0, none⟩), .agg (yC a e x y (.slice pg ng cg) (.slice pl nl cl)).toArray] W (Ends K O w W (fun k => k < W.heap.size) bb (.pointer (some ⟨mb, 0, none⟩)) lv (checkJumpM m x y st)) := by
  have HA := hide h.up
  have HM : Hid (checkJumpM m x y st = .ok st) := by show _ = _; unfold checkJumpM; rw [if_neg h12, if_neg h13, if_neg h14, if_neg h15, if_neg h16, if_neg h17]
  have t12 : ((x : Int) == 12) = false := beq_eq_false_iff_ne.2 (by omega)
  have t13 : ((x : Int) == 13) = false := beq_eq_false_iff_ne.2 (by omega)
  have t14 : ((x : Int) == 14) = false := beq_eq_false_iff_ne.2 (by omega)
  have t15 : ((x : Int) == 15) = false := beq_eq_false_iff_ne.2 (by omega)
  have t16 : ((x : Int) == 16) = false := beq_eq_false_iff_ne.2 (by omega)
  have t17 : ((x : Int) == 17) = false := beq_eq_false_iff_ne.2 (by omega)
  clear h h12 h13 h14 h15 h16 h17
  go_enter Tryz.func63, Tryz.ntmps63
  go_wp2
  go_end0
  exact Ends.ok_mk HM.out (HA.out.alloc _) ((Kept.refl _ _).alloc _)

theorem checkJump_at {pg pl : Option Addr} {ng cg cl : Nat} (h : At K O w W N bb (.pointer (some ⟨mb, 0, none⟩)) lv st) (hb : st.blocks ≠ []) (hm : MV s K W mb m) (a e x : Nat) (y : Beh) (hx : 0 ≤ y.num.1 ∧ y.num.1 ≤ 4294967295) (hxs : ∀ z ∈ y.labels, 0 ≤ z.1 ∧ z.1 ≤ 4294967295) (hll : y.labels.length ≤ 20) (hlr : isRow 62 2 numCells K y.labels W (.slice pl y.labels.length cl)) (hs : st.stack.length ≤ 798000) (hfs : ∀ x ∈ m.funcs, 0 ≤ x.1 ∧ x.1 < (m.types.length : Int)) (hty : ∀ t, typeAtM m y.num = .ok t → t.ins.length ≤ 8 ∧ t.outs.length ≤ 8) (hto : ∀ f, (typeOfM m f).ins.length ≤ 8 ∧ (typeOfM m f).outs.length ≤ 8) :
    Calls Tryz.prog 63 #[.pointer (some ⟨bb, 0, none⟩), .agg (yC a e x y (.slice pg ng cg) (.slice pl y.labels.length cl)).toArray] W (Ends K O w W (fun k => k < W.heap.size) bb (.pointer (some ⟨mb, 0, none⟩)) lv (checkJumpM m x y st)) := by
  by_cases h12 : x = 12
  · subst h12; exact checkJump_br h hb a e y hx
  by_cases h13 : x = 13
  · subst h13; exact checkJump_brIf h hb a e y hx hs
  by_cases h14 : x = 14
  · subst h14; exact checkJump_table h hb a e y hx hxs hll hlr
  by_cases h15 : x = 15
  · subst h15; exact checkJump_return h hb a e y
  by_cases h16 : x = 16
  · subst h16
    by_cases hlt : y.num.1 < (m.funcs.length : Int)
    · obtain ⟨f, hf⟩ : ∃ f : Nat, y.num.1 = (f : Int) := ⟨y.num.1.toNat, by omega⟩
      have := checkJump_callOk (pg := pg) (pl := pl) (ng := ng) (cg := cg) (nl := y.labels.length) (cl := cl) h hb a e y f y.num.2 (by rw [← hf]) (by omega) hm (by omega) hfs (hto f) hs
      unfold yC; rw [hf]
      exact this
    · exact checkJump_callBad h a e y y.num.1 y.num.2 rfl hx.1 hx.2 hm hlt
  by_cases h17 : x = 17
  · subst h17; exact checkJump_indirect h hb a e y hx hs hm hty
  exact checkJump_none h a e x y h12 h13 h14 h15 h16 h17

set_option maxRecDepth 100000 in
set_option maxHeartbeats 6400000 in
theorem check_at {p0 : Option Addr} {c0 : Nat} {ls : List Nat} {pg pl : Option Addr} {cg cl : Nat} (h : At K O w W N bb (.pointer (some ⟨mb, 0, none⟩)) (.slice p0 ls.length c0) st) (hb : st.blocks ≠ []) (hm : MV s K W mb m) (hls : isKinds K ls W (.slice p0 ls.length c0)) (a e x : Nat) (y : Beh) (hx : 0 ≤ y.num.1 ∧ y.num.1 ≤ 4294967295) (hxs : ∀ z ∈ y.labels, 0 ≤ z.1 ∧ z.1 ≤ 4294967295) (hll : y.labels.length ≤ 20) (hlr : isRow 62 2 numCells K y.labels W (.slice pl y.labels.length cl)) (hg : isKinds K y.gives W (.slice pg y.gives.length cg)) (hs : st.stack.length ≤ 798000) (hbl : st.blocks.length ≤ 54) (h5 : x = 5 → 2 ≤ st.blocks.length) (hfs : ∀ x ∈ m.funcs, 0 ≤ x.1 ∧ x.1 < (m.types.length : Int)) (htb : ∀ t, blockTypeM m y = .ok t → t.ins.length ≤ 8 ∧ t.outs.length ≤ 8) (hty : ∀ t, typeAtM m y.num = .ok t → t.ins.length ≤ 8 ∧ t.outs.length ≤ 8) (hto : ∀ f, (typeOfM m f).ins.length ≤ 8 ∧ (typeOfM m f).outs.length ≤ 8) :
    Calls Tryz.prog 40 #[.pointer (some ⟨bb, 0, none⟩), .agg (yC a e x y (.slice pg y.gives.length cg) (.slice pl y.labels.length cl)).toArray] W (Ends K O w W (fun k => k < W.heap.size) bb (.pointer (some ⟨mb, 0, none⟩)) (.slice p0 ls.length c0) (checkM m ls x y st)) := by
  have HA := hide h.up
  have hbw := h.body.lt
  have K0 : ∀ o, Kept (fun _ => False) W (W.alloc o) := fun o => (Kept.refl (fun _ => False) _).alloc o
  have HMV : Hid ((MV s K (W.alloc (.cells (yC a e x y (.slice pg y.gives.length cg) (.slice pl y.labels.length cl)).toArray 100)) mb m) ∧ True) := ⟨hm.kept (K0 _) (fun _ _ _ c => c), trivial⟩
  have HLS : Hid (isKinds K ls (W.alloc (.cells (yC a e x y (.slice pg y.gives.length cg) (.slice pl y.labels.length cl)).toArray 100)) (.slice p0 ls.length c0)) := Row.kept hls (K0 _) (fun _ _ _ c => c)
  have HG : Hid (isKinds K y.gives (W.alloc (.cells (yC a e x y (.slice pg y.gives.length cg) (.slice pl y.labels.length cl)).toArray 100)) (.slice pg y.gives.length cg)) := Row.kept hg (K0 _) (fun _ _ _ c => c)
  have HR : Hid (isRow 62 2 numCells K y.labels (W.alloc (.cells (yC a e x y (.slice pg y.gives.length cg) (.slice pl y.labels.length cl)).toArray 100)) (.slice pl y.labels.length cl)) := Row.kept hlr (K0 _) (fun _ _ _ c => c)
  have HU := And.intro hx (And.intro hll hbl)
  clear HU
  have HX := hide hxs
  have H5 := hide h5
  have HFS := hide hfs
  have HTB := hide htb
  have HTY := hide hty
  have HTO := hide hto
  clear h hm hls hxs hlr hg h5 hfs htb hty hto K0
  by_cases h1 : x ≤ 11
  · have HN : Hid (checkM m ls x y st = checkBlockM m x y st) := by show _ = _; unfold checkM; rw [if_pos h1]
    have t0 : (x : Int) ≤ 11 := by omega
    clear h1
    go_enter Tryz.func40, Tryz.ntmps40
    go_wp2_with fail
    refine (checkBlock_at (HA.out.alloc _) hb HMV.out.1 a e x y hx HG.out hs hbl H5.out HTB.out).mono ?_
    rintro ee w2 ⟨hok2, herr2, hk2, hlow2⟩
    have hlow : Kept (fun k => k < W.heap.size ∧ ¬ K k) W w2 := (((Kept.refl _ _).alloc _).trans hlow2).mono (fun k hk c => ⟨hk, c.2⟩)
    cases hm2 : checkBlockM m x y st with
    | error qp =>
      obtain ⟨q, p⟩ := qp
      have he := herr2 _ _ hm2
      subst he
      exact ⟨rfl, Ends.err_mk (HN.out.trans hm2) hk2 hlow⟩
    | ok st2 =>
      obtain ⟨rfl, hA2⟩ := hok2 _ hm2
      have HA2 := hide hA2
      have HE2 := hide (HN.out.trans hm2)
      clear hok2 herr2 hA2 hm2 HN
      go_wp2
      go_end0
      exact Ends.ok_mk HE2.out HA2.out hlow
  have t0 : ¬ (x : Int) ≤ 11 := by omega
  by_cases h2 : x ≤ 17
  · have HN : Hid (checkM m ls x y st = checkJumpM m x y st) := by show _ = _; unfold checkM; rw [if_neg h1, if_pos h2]
    have t1 : (x : Int) ≤ 17 := by omega
    clear h1 h2
    go_enter Tryz.func40, Tryz.ntmps40
    go_wp2_with fail
    refine (checkJump_at (HA.out.alloc _) hb HMV.out.1 a e x y hx HX.out hll HR.out hs HFS.out HTY.out HTO.out).mono ?_
    rintro ee w2 ⟨hok2, herr2, hk2, hlow2⟩
    have hlow : Kept (fun k => k < W.heap.size ∧ ¬ K k) W w2 := (((Kept.refl _ _).alloc _).trans hlow2).mono (fun k hk c => ⟨hk, c.2⟩)
    cases hm2 : checkJumpM m x y st with
    | error qp =>
      obtain ⟨q, p⟩ := qp
      have he := herr2 _ _ hm2
      subst he
      exact ⟨rfl, Ends.err_mk (HN.out.trans hm2) hk2 hlow⟩
    | ok st2 =>
      obtain ⟨rfl, hA2⟩ := hok2 _ hm2
      have HA2 := hide hA2
      have HE2 := hide (HN.out.trans hm2)
      clear hok2 herr2 hA2 hm2 HN
      go_wp2
      go_end0
      exact Ends.ok_mk HE2.out HA2.out hlow
  have t1 : ¬ (x : Int) ≤ 17 := by omega
  by_cases h3 : x ≤ 36
  · have HN : Hid (checkM m ls x y st = checkVariableM m ls x y st) := by show _ = _; unfold checkM; rw [if_neg h1, if_neg h2, if_pos h3]
    have t2 : (x : Int) ≤ 36 := by omega
    clear h1 h2 h3
    go_enter Tryz.func40, Tryz.ntmps40
    go_wp2_with fail
    refine (checkVariable_at (HA.out.alloc _) hb HMV.out.1 HLS.out a e x y pg pl _ cg _ cl hx (by omega)).mono ?_
    rintro ee w2 ⟨hok2, herr2, hk2, hlow2⟩
    have hlow : Kept (fun k => k < W.heap.size ∧ ¬ K k) W w2 := (((Kept.refl _ _).alloc _).trans hlow2).mono (fun k hk c => ⟨hk, c.2⟩)
    cases hm2 : checkVariableM m ls x y st with
    | error qp =>
      obtain ⟨q, p⟩ := qp
      have he := herr2 _ _ hm2
      subst he
      exact ⟨rfl, Ends.err_mk (HN.out.trans hm2) hk2 hlow⟩
    | ok st2 =>
      obtain ⟨rfl, hA2⟩ := hok2 _ hm2
      have HA2 := hide hA2
      have HE2 := hide (HN.out.trans hm2)
      clear hok2 herr2 hA2 hm2 HN
      go_wp2
      go_end0
      exact Ends.ok_mk HE2.out HA2.out hlow
  have t2 : ¬ (x : Int) ≤ 36 := by omega
  by_cases h4 : x ≤ 64
  · have HN : Hid (checkM m ls x y st = checkMemoryM m x y st) := by show _ = _; unfold checkM; rw [if_neg h1, if_neg h2, if_neg h3, if_pos h4]
    have t3 : (x : Int) ≤ 64 := by omega
    clear h1 h2 h3 h4
    go_enter Tryz.func40, Tryz.ntmps40
    go_wp2_with fail
    refine (checkMemory_at (HA.out.alloc _) hb HMV.out.1 a e x y pg pl _ cg _ cl (by omega)).mono ?_
    rintro ee w2 ⟨hok2, herr2, hk2, hlow2⟩
    have hlow : Kept (fun k => k < W.heap.size ∧ ¬ K k) W w2 := (((Kept.refl _ _).alloc _).trans hlow2).mono (fun k hk c => ⟨hk, c.2⟩)
    cases hm2 : checkMemoryM m x y st with
    | error qp =>
      obtain ⟨q, p⟩ := qp
      have he := herr2 _ _ hm2
      subst he
      exact ⟨rfl, Ends.err_mk (HN.out.trans hm2) hk2 hlow⟩
    | ok st2 =>
      obtain ⟨rfl, hA2⟩ := hok2 _ hm2
      have HA2 := hide hA2
      have HE2 := hide (HN.out.trans hm2)
      clear hok2 herr2 hA2 hm2 HN
      go_wp2
      go_end0
      exact Ends.ok_mk HE2.out HA2.out hlow
  have t3 : ¬ (x : Int) ≤ 64 := by omega
  have HN : Hid (checkM m ls x y st = checkNumberM x st) := by show _ = _; unfold checkM; rw [if_neg h1, if_neg h2, if_neg h3, if_neg h4]
  clear h1 h2 h3 h4
  go_enter Tryz.func40, Tryz.ntmps40
  go_wp2_with fail
  refine (checkNumber_at (HA.out.alloc _) hb x (by omega)).mono ?_
  rintro ee w2 ⟨hok2, herr2, hk2, hlow2⟩
  have hlow : Kept (fun k => k < W.heap.size ∧ ¬ K k) W w2 := (((Kept.refl _ _).alloc _).trans hlow2).mono (fun k hk c => ⟨hk, c.2⟩)
  cases hm2 : checkNumberM x st with
  | error qp =>
    obtain ⟨q, p⟩ := qp
    have he := herr2 _ _ hm2
    subst he
    exact ⟨rfl, Ends.err_mk (HN.out.trans hm2) hk2 hlow⟩
  | ok st2 =>
    obtain ⟨rfl, hA2⟩ := hok2 _ hm2
    have HA2 := hide hA2
    have HE2 := hide (HN.out.trans hm2)
    clear hok2 herr2 hA2 hm2 HN
    go_wp2
    go_end0
    exact Ends.ok_mk HE2.out HA2.out hlow

end

end Go.Proofs.YtgkpkngchploiaaGreat
/-
  Two lists of kinds in one.
-/
namespace Go.Proofs.YtgkpkngchploiaaGreat
open Go.RowKit

theorem grow0_any (w : World) : Calls Tryz.prog 59 #[.slice none 0 0, .int .i64 0] w fun e w' => e = .returned (.slice none 0 0) ∧ w' = w := by
  go_enter Tryz.func59, Tryz.ntmps59
  go_wp2
  go_ret
  exact ⟨rfl, rfl⟩

set_option maxRecDepth 100000 in
set_option maxHeartbeats 1600000 in
theorem grow1_any (w : World) (n : Nat) (h0 : 0 < n) (hn : n ≤ 100) : Calls Tryz.prog 59 #[.slice none 0 0, .int .i64 (n : Nat)] w fun e w' => ∃ v, e = .returned v ∧ Kept (fun _ => False) w w' ∧ isKinds (fun g => w.heap.size ≤ g) [] w' v := by
  obtain ⟨i0, hi0, hz0, hz1, hz2⟩ := info_parts Tryz.info74
  have hcm : grownCap w n 0 74 ≤ maxLen := grownCap_le_maxLen w n 0 74 (by unfold maxLen; omega)
  have hge := grownCap_ge w n 0 74
  have HR := hide (Lib.run_append_nil_zeros (P := Tryz.prog) w 83 3 83 74 i0 (.int .u8 0) .i64 .i64 Tryz.underlying83 rfl hi0 hz0 n h0 (by omega) (by omega) (by rw [hz2]; omega))
  have HC := hide (And.intro hcm hge)
  clear hcm hge
  go_enter Tryz.func59, Tryz.ntmps59
  go_wp2_with (at_builtin; refine Lib.wpList_append_run _ rfl _ _ _ _ rfl _ _ rfl rfl _ _ HR.out ?_)
  go_ret
  refine ⟨_, rfl, ((Kept.refl _ _).alloc _).drew, ⟨⟨rfl, .inr ⟨_, _, _, rfl, Nat.zero_le _, heap_alloc_new w _, Nat.zero_le _, HC.out.1, ?_, by simp [kindCells]⟩⟩, fun g hg => ?_⟩⟩
  · have := HC.out.2
    simp [size_zeroCells]
    omega
  · simp [Value.ownBlock] at hg
    omega

theorem grow_any (w : World) (n : Nat) (hn : n ≤ 100) : Calls Tryz.prog 59 #[.slice none 0 0, .int .i64 (n : Nat)] w fun e w' => ∃ v, e = .returned v ∧ Kept (fun _ => False) w w' ∧ isKinds (fun g => w.heap.size ≤ g) [] w' v := by
  by_cases h0 : 0 < n
  · exact grow1_any w n h0 hn
  · obtain rfl : n = 0 := by omega
    refine (grow0_any w).mono ?_
    rintro e w' ⟨rfl, rfl⟩
    exact ⟨_, rfl, Kept.refl _ _, Row.nil _ _ _ _⟩

/-- append(v, xv...), both lists of kinds: whatever lies in them. -/
theorem wpList_append_kinds {w : World} {ops : Array Oper} {rest : List Oper} {o : Oper} {a : Act} {Q : Exit → Act → World → Prop} {B : Nat} {ok : Nat → Prop} {us ks : List Nat} {v xv : Value} (hgd : o.guard = none) (s x : Operand)
    (ho : o.op = .call { callee := .builtin .append, args := #[s, x], argTypes := #[83, 83] }) (hs : a.eval s = v) (hv : isKinds (fun g => B ≤ g) us w v) (hx : a.eval x = xv) (hk : isKinds ok ks w xv) (hl : us.length + ks.length ≤ 1000) (hB : B ≤ w.heap.size)
    (h : ∀ p c w', isKinds (fun g => B ≤ g) (us ++ ks) w' (.slice p (us.length + ks.length) c) → Kept (fun g => B ≤ g) w w' → wpList Tryz.prog ops Q rest (a.put o.dst (.slice p (us.length + ks.length) c)) w') : wpList Tryz.prog ops Q (o :: rest) a w := by
  obtain ⟨i0, hi0, hz0, hz1, hz2⟩ := info_parts Tryz.info74
  obtain ⟨ps, cs, rfl⟩ := Row.shape hv
  obtain ⟨pk, ck, rfl⟩ := Row.shape hk
  by_cases hz : ks = []
  · subst hz
    refine wpList_append_empty hgd _ _ 83 ho 0 74 i0 1 Tryz.underlying83 hi0 _ _ _ hs hv.own _ _ hx ?_
    exact h ps cs w (by simpa using hv) (Kept.refl _ _)
  · have hkp : 0 < ks.length := by
      have : ks.length ≠ 0 := by simpa using hz
      omega
    obtain ⟨gk, ck', hvk, -, hgk, hck, hcells⟩ := Row.cells hk hkp
    cases hvk
    have hnews : ∀ j u, (kindCells ks)[j]? = some u → w.cell? ((⟨gk, 0, none⟩ : Addr).add j) = some u := by
      intro j u hj
      have hjl : j < ks.length := by
        have := (List.getElem?_eq_some_iff.1 hj).1
        simpa [kindCells] using this
      have hadd : (⟨gk, 0, none⟩ : Addr).add j = ⟨gk, j, none⟩ := by unfold Addr.add; split <;> simp_all
      rw [hadd, hcells j (by omega)]
      exact hj
    have hone : ∀ u ∈ kindCells ks, u.oneCell' = true := by
      intro u hu
      simp [kindCells] at hu
      obtain ⟨x, -, rfl⟩ := hu
      rfl
    refine wpList_append_lies _ hgd _ _ 83 ho 0 74 i0 (.int .u8 0) 1 1 Tryz.underlying83 hi0 hz0 hz1 hz2 rfl (by decide) _ _ _ hs hv.own ⟨gk, 0, none⟩ ks.length ck (kindCells ks) hx (by simp [kindCells]) hnews hone hkp (by unfold maxLen; omega) (by omega) (Nat.zero_le _) w.heap.size rfl ?_
    intro gg cap w3 hown3 hgrow hat hlt3
    refine h _ _ _ ⟨?_, fun g hg => ?_⟩ ((Kept.of_grown hgrow).mono (fun k _ e => hv.at_ k e))
    · rw [kindCells_append, List.length_append]; exact hown3
    · simp [Value.ownBlock] at hg
      subst hg
      rcases hat with hh | hh
      · exact hv.at_ _ hh
      · omega

set_option maxRecDepth 100000 in
set_option maxHeartbeats 1600000 in
theorem concat_any {ok : Nat → Prop} {w : World} {sb : Nat} {us vs : List Nat} {pa pb : Option Addr} {ca cb : Nat} (h0 : w.cell? ⟨sb, 0, none⟩ = some (.slice pa us.length ca)) (h1 : w.cell? ⟨sb, 1, none⟩ = some (.slice pb vs.length cb)) (hs : sb < w.heap.size) (ha : isKinds ok us w (.slice pa us.length ca)) (hb : isKinds ok vs w (.slice pb vs.length cb)) (hu : us.length ≤ 50) (hv : vs.length ≤ 50) :
    Calls Tryz.prog 38 #[.slice (some ⟨sb, 0, none⟩) 2 2] w fun e w' => ∃ v, e = .returned v ∧ Kept (fun _ => False) w w' ∧ isKinds (fun g => w.heap.size ≤ g) (us ++ vs) w' v := by
  have HA := hide ha
  have HB := hide hb
  clear ha hb
  go_enter Tryz.func38, Tryz.ntmps38
  go_wp2
  go_loopw [3, 11] (fun z q wr => w = wr ∧ ((z = .int .i64 0 ∧ q = .int .i64 0) ∨ (z = .int .i64 (us.length : Nat) ∧ q = .int .i64 1) ∨ (z = .int .i64 ((us.length + vs.length : Nat) : Nat) ∧ q = .int .i64 2))) (fun _ q _ => 2 - (intOf q).toNat)
  case atStart => exact ⟨rfl, .inl ⟨rfl, rfl⟩⟩
  case round =>
    obtain ⟨rfl, ⟨rfl, rfl⟩ | ⟨rfl, rfl⟩ | ⟨rfl, rfl⟩⟩ := hrel
    · go_wp2
      go_roundw
      case rel => exact ⟨trivial, .inr (.inl ⟨by go_num, by go_num⟩)⟩
      case measure => simp [intOf]
    · go_wp2
      go_roundw
      case rel => exact ⟨trivial, .inr (.inr ⟨by go_num, by go_num⟩)⟩
      case measure => simp [intOf]
    · go_wp2_with fail
      refine (grow_any _ (us.length + vs.length) (by omega)).mono ?_
      rintro e w1 ⟨v1, rfl, hk1, hr1⟩
      obtain ⟨p1, c1, rfl⟩ := Row.shape hr1
      have HR1 := hide hr1
      have HK1 := hide hk1
      clear hr1 hk1
      go_wp2
      go_loopw [6, 27] (fun nv q w2 => Kept (fun _ => False) w w2 ∧ ((isKinds (fun g => w.heap.size ≤ g) [] w2 nv ∧ q = .int .i64 0) ∨ (isKinds (fun g => w.heap.size ≤ g) us w2 nv ∧ q = .int .i64 1) ∨ (isKinds (fun g => w.heap.size ≤ g) (us ++ vs) w2 nv ∧ q = .int .i64 2))) (fun _ q _ => 2 - (intOf q).toNat)
      case atStart => exact ⟨HK1.out, .inl ⟨HR1.out, rfl⟩⟩
      case round =>
        obtain ⟨hk2, ⟨hn, rfl⟩ | ⟨hn, rfl⟩ | ⟨hn, rfl⟩⟩ := hrel
        · have HK2 := hide hk2
          have c0 : wr.cell? ⟨sb, 0, none⟩ = some (.slice pa us.length ca) := (hk2.cell (p := ⟨sb, 0, none⟩) hs (fun c => c)).trans h0
          have c1 : wr.cell? ⟨sb, 1, none⟩ = some (.slice pb vs.length cb) := (hk2.cell (p := ⟨sb, 1, none⟩) hs (fun c => c)).trans h1
          have hsz := hk2.size
          have hA2 : isKinds ok us wr (.slice pa us.length ca) := Row.kept HA.out hk2 (fun _ _ _ c => c)
          have hB2 : isKinds ok vs wr (.slice pb vs.length cb) := Row.kept HB.out hk2 (fun _ _ _ c => c)
          obtain ⟨p2, c2, rfl⟩ := Row.shape hn
          have HN := hide hn
          have HA2 := hide hA2
          have HB2 := hide hB2
          clear hn hk2 hA2 hB2 HR1 HK1 h0 h1
          go_wp2_with (at_builtin; refine wpList_append_kinds rfl _ _ rfl rfl HN.out rfl HA2.out (by simp; omega) hsz ?_)
          intro p3 c3 w3 hr3 hk3
          have HR3 := hide hr3
          have HK3 : Hid (Kept (fun _ => False) w w3) := HK2.out.fresh hk3 (fun g hg c => by omega)
          clear hr3 hk3
          go_wp2
          go_roundw
          case rel => exact ⟨HK3.out, .inr (.inl ⟨by simpa using HR3.out, by go_num⟩)⟩
          case measure => simp [intOf]
        · have HK2 := hide hk2
          have c0 : wr.cell? ⟨sb, 0, none⟩ = some (.slice pa us.length ca) := (hk2.cell (p := ⟨sb, 0, none⟩) hs (fun c => c)).trans h0
          have c1 : wr.cell? ⟨sb, 1, none⟩ = some (.slice pb vs.length cb) := (hk2.cell (p := ⟨sb, 1, none⟩) hs (fun c => c)).trans h1
          have hsz := hk2.size
          have hA2 : isKinds ok us wr (.slice pa us.length ca) := Row.kept HA.out hk2 (fun _ _ _ c => c)
          have hB2 : isKinds ok vs wr (.slice pb vs.length cb) := Row.kept HB.out hk2 (fun _ _ _ c => c)
          obtain ⟨p2, c2, rfl⟩ := Row.shape hn
          have HN := hide hn
          have HA2 := hide hA2
          have HB2 := hide hB2
          clear hn hk2 hA2 hB2 HR1 HK1 h0 h1
          go_wp2_with (at_builtin; refine wpList_append_kinds rfl _ _ rfl rfl HN.out rfl HB2.out (by omega) hsz ?_)
          intro p3 c3 w3 hr3 hk3
          have HR3 := hide hr3
          have HK3 : Hid (Kept (fun _ => False) w w3) := HK2.out.fresh hk3 (fun g hg c => by omega)
          clear hr3 hk3
          go_wp2
          go_roundw
          case rel => exact ⟨HK3.out, .inr (.inr ⟨by simpa using HR3.out, by go_num⟩)⟩
          case measure => simp [intOf]
        · have HN := hide hn
          have HK2 := hide hk2
          clear hn hk2 HR1 HK1
          go_wp2
          go_ret
          exact ⟨_, rfl, HK2.out, HN.out⟩

end Go.Proofs.YtgkpkngchploiaaGreat
/-
  A code that is gone through: what stands between two instructions.
-/
namespace Go.Proofs.YtgkpkngchploiaaGreat
open Go.RowKit

/-- Between two instructions: what is still to be looked at, how much lies there; none: behind the last. -/
def Stands (m : Mdl) (ls : List Nat) (s : ByteArray) (n : Nat) (whole : Except Err Unit) (o : Option (List Nat)) (j : Nat) (st : Bd) : Prop :=
  match o with
  | none => whole = .ok ()
  | some os => st.blocks.length = os.length + 1 ∧ st.stack.length ≤ 16 * j ∧ ∃ f, n - j ≤ f ∧ whole = insFit m ls s n f os j st

theorem behM_ok {j x e n : Nat} {s : ByteArray} {y : Beh} (hj : j < n) (h : behM j x s n (j + 1) = .ok (y, e)) : behOk n y := ((beh_fine j x).ok (by omega) (by omega) h).2.2

/-- An instruction on. -/
theorem Stands.step {m : Mdl} {ls os : List Nat} {s : ByteArray} {n N j e x : Nat} {whole : Except Err Unit} {o' : Option (List Nat)} {st : Bd} {y : Beh} (hm : ModOk N m) (hN : n ≤ N) (h : Stands m ls s n whole (some os) j st) (ht : Tidy st)
    (hT : Turns os o' j x) (hx : x = bt s j) (hj : j < n) (he : j < e) (hb : behM j x s n (j + 1) = .ok (y, e)) :
    (∀ q p, checkM m ls x y { st with at_ := j } = .error (q, p) → whole = .error (q, p)) ∧ ∀ st', checkM m ls x y { st with at_ := j } = .ok st' → Stands m ls s n whole o' e st' ∧ Tidy st' := by
  obtain ⟨h1, h2, f0, hf0, h3⟩ := h
  obtain ⟨f, rfl⟩ : ∃ f, f0 = f + 1 := ⟨f0 - 1, by omega⟩
  have hy := behM_ok hj hb
  have hy' : behOk N y := ⟨⟨hy.1.1, hy.1.2.1, Nat.le_trans hy.1.2.2 hN⟩, hy.2.1, fun z hz => ⟨(hy.2.2.1 z hz).1, (hy.2.2.1 z hz).2.1, Nat.le_trans (hy.2.2.1 z hz).2.2 hN⟩, hy.2.2.2⟩
  have htm := check_tame (ls := ls) hm hy' x { st with at_ := j } ⟨ht.floors, ht.short⟩ (fun c => by simp at c; rw [c] at h1; simp at h1) (by simp; omega)
  unfold insFit at h3
  rw [byteM_more hj, ← hx] at h3
  simp only at h3
  rcases hT with ⟨a1, a2, a3⟩ | ⟨a1, os2, a2, a3⟩
  · subst a3
    rw [if_pos ⟨a1, a2⟩] at h3
    simp only [hb] at h3
    refine ⟨fun q p hc => ?_, fun st' hc => ⟨?_, (htm.2 st' hc).1⟩⟩
    · rw [h3, hc]
    · show whole = _
      rw [h3, hc]
      simp [a1, a2]
  · subst a3
    have ht2 := turns_some (os := os) (os' := os2) (j := j) (x := x) (.inr ⟨a1, os2, a2, rfl⟩)
    rw [if_neg a1, a2] at h3
    simp only [hb] at h3
    refine ⟨fun q p hc => ?_, fun st' hc => ⟨⟨?_, ?_, ?_⟩, (htm.2 st' hc).1⟩⟩
    · rw [h3, hc]
    · have := (htm.2 st' hc).2.2.2
      simp at this
      omega
    · have := (htm.2 st' hc).2.2.1
      simp at this
      omega
    · refine ⟨f, by omega, ?_⟩
      rw [h3, hc]
      simp only [if_neg a1]

end Go.Proofs.YtgkpkngchploiaaGreat
