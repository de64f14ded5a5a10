/-
  Part 24 of the proof: Fit7, Face1, Face2, Keep1, Keep2.
-/
import Derived.Test.YtdfmillbaabpiaaGreatPart15
import Derived.Test.YtdfmillbaabpiaaGreatPart22
import Derived.Test.YtdfmillbaabpiaaGreatPart23
import Derived.Test.YtdfmillbaabpiaaGreatPart03
import Derived.Test.YtdfmillbaabpiaaGreatPart02
import Derived.Defers
import Derived.Recover
import Derived.Laws.Pointers
import Derived.BigRegion
import Derived.Test.YtdfmillbaabpiaaGreatPart14
import Derived.Laws.BytesArg
/-
  fit.Check.
-/
namespace Go.Proofs.YtdfmillbaabpiaaGreat
open Go.RowKit

theorem eachM_all {α : Type} {f : α → Except Err Unit} : ∀ {xs : List α}, eachM f xs = .ok () → ∀ x ∈ xs, f x = .ok ()
  | [], _, x, hx => by simp at hx
  | y :: ys, h, x, hx => by
    simp only [eachM] at h
    cases hy : f y with
    | error e => rw [hy] at h; cases h
    | ok u =>
      rw [hy] at h
      rcases List.mem_cons.1 hx with rfl | hx
      · exact hy
      · exact eachM_all h x hx

section
variable {K : Nat → Prop} {w : World} {mb : Nat} {s : ByteArray} {m : Mdl}

/-- The rest of what fits, once the types of the functions are there. -/
def restFit (s : ByteArray) (m : Mdl) : Except Err Unit :=
  thenM (eachM (limFit 20) m.tables) <|
  thenM (eachM (limFit 16) m.mems) <|
  thenM (eachM (fun g => cstFit g.kind g.first) m.globals) <|
  thenM (eachM (exportFit m) (List.range m.exports.length)) <|
  thenM (eachM (startFit m) m.starts) <|
  thenM (eachM (elemFit m) m.elems) <|
  thenM (eachM (codeFit s m) (List.range m.codes.length)) <|
  eachM (dataFit m) m.data

theorem fitM_rest : fitM s m = thenM (eachM (thereU m.types.length) m.funcs) (restFit s m) := rfl

theorem thenM_bad {a b : Except Err Unit} {e : Err} (h : a = .error e) : thenM a b = .error e := by rw [h]; rfl
theorem thenM_good {a b : Except Err Unit} (h : a = .ok ()) : thenM a b = b := by rw [h]; rfl

theorem MV.modAt (h : MV s K w mb m) : ModAt s K w (mb + 1) mb m := by
  have hl := h.lt
  obtain ⟨-, f, h1, h2⟩ := h
  exact ⟨f, ⟨h1, hl, by omega⟩, h2⟩

/-- The lists that Check looks at itself. -/
theorem MV.lists (h : MV s K w mb m) : ∃ p0 c0 p1 c1 p2 c2 p3 c3 p8 c8, w.cell? ⟨mb, 0, none⟩ = some (.slice p0 m.types.length c0) ∧ w.cell? ⟨mb, 1, none⟩ = some (.slice p1 m.funcs.length c1) ∧ w.cell? ⟨mb, 2, none⟩ = some (.slice p2 m.tables.length c2) ∧ w.cell? ⟨mb, 3, none⟩ = some (.slice p3 m.mems.length c3) ∧ w.cell? ⟨mb, 8, none⟩ = some (.slice p8 m.codes.length c8) ∧
    isRow 62 2 numCells K m.funcs w (.slice p1 m.funcs.length c1) ∧ isRow 73 4 Lim.cells K m.tables w (.slice p2 m.tables.length c2) ∧ isRow 73 4 Lim.cells K m.mems w (.slice p3 m.mems.length c3) := by
  obtain ⟨-, f, hM, hH⟩ := h
  obtain ⟨⟨F0, -⟩, ⟨F1, -⟩, ⟨F2, -⟩, ⟨F3, -⟩, -, -⟩ := hM.twelve.1
  obtain ⟨F8, -⟩ := hM.twelve.2.2.2.1
  obtain ⟨css0, hr0, -⟩ := hH.h0
  obtain ⟨css8, hr8, -⟩ := hH.h8
  obtain ⟨p0, c0, e0⟩ := Row.shape hr0
  obtain ⟨p1, c1, e1⟩ := Row.shape hH.h1
  obtain ⟨p2, c2, e2⟩ := Row.shape hH.h2
  obtain ⟨p3, c3, e3⟩ := Row.shape hH.h3
  obtain ⟨p8, c8, e8⟩ := Row.shape hr8
  have r1 := hH.h1
  have r2 := hH.h2
  have r3 := hH.h3
  rw [e0] at F0
  rw [e1] at F1 r1
  rw [e2] at F2 r2
  rw [e3] at F3 r3
  rw [e8] at F8
  exact ⟨p0, c0, p1, c1, p2, c2, p3, c3, p8, c8, F0, F1, F2, F3, F8, r1, r2, r3⟩

set_option maxRecDepth 100000 in
set_option maxHeartbeats 6400000 in
theorem fitCheck_any (hm : MV s K w mb m) (ho : ModOk s.size m) (hs : s.size ≤ 5000) (hrd : AllRead s m) (hc : m.codes.length = m.funcs.length) :
    Calls Tryz.prog 11 #[.pointer (some ⟨mb, 0, none⟩)] w (Looks w (fitM s m)) := by
  have hmw := hm.lt
  have HMV := hide hm
  obtain ⟨p0, c0, p1, c1, p2, c2, p3, c3, p8, c8, F0, F1, F2, F3, F8, hr, r2, r3⟩ := hm.lists
  have HR2 := hide r2
  have HR3 := hide r3
  have HOK := hide ho
  have HRD := hide hrd
  have HLC := hide hc
  have hfl := ho.funcs.1
  have hcl : m.codes.length ≤ 20 := by omega
  have HX : Hid (∀ x ∈ m.funcs, 0 ≤ x.1 ∧ x.1 ≤ 4294967295) := fun x hx => ⟨(ho.funcs.2 x hx).1, (ho.funcs.2 x hx).2.1⟩
  clear hm r2 r3 ho hrd hc
  have H0 : Hid (eachM (thereU m.types.length) m.funcs = eachM (thereU m.types.length) (m.funcs.drop 0)) := by show _ = _; simp
  go_enter Tryz.func11, Tryz.ntmps11
  go_wp2
  go_loopw [10] (fun q wo => ∃ k : Nat, k ≤ m.funcs.length ∧ q = .int .i64 k ∧ Kept (fun _ => False) w wo ∧ eachM (thereU m.types.length) m.funcs = eachM (thereU m.types.length) (m.funcs.drop k)) (fun q _ => m.funcs.length - (intOf q).toNat)
  case atStart => exact ⟨0, Nat.zero_le _, rfl, Kept.refl _ _, H0.out⟩
  case round =>
    obtain ⟨k, hk, rfl, hkp, hme⟩ := hrel
    obtain ⟨wo, hwo⟩ : ∃ x, x = wr := ⟨wr, rfl⟩
    subst hwo
    have HE := hide hme
    clear hme H0
    by_cases hlt : k < m.funcs.length
    · have hlt' : (k : Int) < (m.funcs.length : Int) := by omega
      have hrr : isRow 62 2 numCells K m.funcs wo (.slice p1 m.funcs.length c1) := Row.kept hr hkp (fun _ _ _ hc => hc)
      obtain ⟨g, cap, hv, -, hgl, hcap, hcell⟩ := Row.cells hrr (by omega)
      cases hv
      have hy : m.funcs[k]? = some m.funcs[k] := List.getElem?_eq_getElem hlt
      have HB := hide (fun e => eachM_bad (f := thereU m.types.length) (e := e) hlt)
      have HO := hide (eachM_ok (f := thereU m.types.length) hlt)
      have d0 : wo.cell? ⟨g, k * 2, none⟩ = some (.int .u32 m.funcs[k].1) := (hcell (k * 2) (by omega)).trans (flat_get (m := 2) (o := 0) (fun _ => rfl) hy (by omega))
      have d1 : wo.cell? ⟨g, k * 2 + 1, none⟩ = some (.int .i64 (m.funcs[k].2 : Nat)) := (hcell (k * 2 + 1) (by omega)).trans (flat_get (m := 2) (o := 1) (fun _ => rfl) hy (by omega))
      have hxk := HX.out _ (List.getElem_mem hlt)
      have F0r := (hkp.cell (p := ⟨mb, 0, none⟩) hmw (fun c => c)).trans F0
      have hmr : mb < wo.heap.size := Nat.lt_of_lt_of_le hmw hkp.size
      clear hcell hrr hy
      generalize m.funcs[k] = x at *
      obtain ⟨xi, xp⟩ := x
      simp only at d0 d1 hxk HB HO
      obtain ⟨hx0, hx1⟩ := hxk
      have kp1 : Kept (fun _ => False) w ((wo.alloc (.cells #[.int .u32 xi, .int .i64 (xp : Nat)] 62)).drew) := (hkp.alloc _).drew
      have kr1 : Kept (fun _ => False) wo ((wo.alloc (.cells #[.int .u32 xi, .int .i64 (xp : Nat)] 62)).drew) := ((Kept.refl _ _).alloc _).drew
      have hsr : wo.heap.size < ((wo.alloc (.cells #[.int .u32 xi, .int .i64 (xp : Nat)] 62)).drew).heap.size := by simp
      have HS : Hid (∀ w', Kept (fun _ => False) ((wo.alloc (.cells #[.int .u32 xi, .int .i64 (xp : Nat)] 62)).drew) w' → (fun w' : World => w'.cell? ⟨wo.heap.size, 0, none⟩ = some (.int .u32 xi) ∧ w'.cell? ⟨wo.heap.size, 1, none⟩ = some (.int .i64 (xp : Nat)) ∧ w'.cell? ⟨mb, 0, none⟩ = some (.slice p0 m.types.length c0)) w') := fun w' hk => ⟨(hk.cell (p := ⟨wo.heap.size, 0, none⟩) hsr (fun c => c)).trans (by simp), (hk.cell (p := ⟨wo.heap.size, 1, none⟩) hsr (fun c => c)).trans (by simp), ((kr1.trans hk).cell (p := ⟨mb, 0, none⟩) hmr (fun c => c)).trans F0r⟩
      have HH0 := hide (HS.out _ (Kept.refl _ _))
      by_cases hth : xi < (m.types.length : Int)
      · have HN := hide (HE.out.trans (HO.out (by simp [thereU, hth])))
        clear HB HO HE
        go_wp2_with fail
        refine wp_region_held_drew (S := fun w' : World => w'.cell? ⟨wo.heap.size, 0, none⟩ = some (.int .u32 xi) ∧ w'.cell? ⟨wo.heap.size, 1, none⟩ = some (.int .i64 (xp : Nat)) ∧ w'.cell? ⟨mb, 0, none⟩ = some (.slice p0 m.types.length c0)) (by kernel_rfl) HH0.out (fun _ => ?_)
        refine wpAnyH_take (i := 0) (v := ?av0) rfl (by kernel_rfl) (by kernel_rfl) (by kernel_rfl) (fun _ _ _ h => h) (Or.inl ⟨by rfl, ?ay0⟩) HH0.out ?ar0
        case ay0 => (intro w hSw; (try dsimp only at hSw); go_simp; try with_reducible rfl)
        dsimp only [Act.put, List.setIfInBounds_toArray, List.set_cons_zero, List.set_cons_succ]
        refine wpAnyH_take (i := 1) (v := ?av1) rfl (by kernel_rfl) (by kernel_rfl) (by kernel_rfl) (fun _ _ _ h => h) (Or.inl ⟨by rfl, ?ay1⟩) HH0.out ?ar1
        case ay1 => (intro w hSw; (try dsimp only at hSw); go_simp; try with_reducible rfl)
        dsimp only [Act.put, List.setIfInBounds_toArray, List.set_cons_zero, List.set_cons_succ]
        refine wpAnyH_take (i := 2) (v := ?av2) rfl (by kernel_rfl) (by kernel_rfl) (by kernel_rfl) (fun _ _ _ h => h) (Or.inl ⟨by rfl, ?ay2⟩) HH0.out ?ar2
        case ay2 => (intro w hSw; (try dsimp only at hSw); go_simp; try with_reducible rfl)
        dsimp only [Act.put, List.setIfInBounds_toArray, List.set_cons_zero, List.set_cons_succ]
        refine wpAnyH_take (i := 3) (v := ?av3) rfl (by kernel_rfl) (by kernel_rfl) (by kernel_rfl) (fun _ _ _ h => h) (Or.inl ⟨by rfl, ?ay3⟩) HH0.out ?ar3
        case ay3 => (intro w hSw; (try dsimp only at hSw); go_simp; try with_reducible rfl)
        dsimp only [Act.put, List.setIfInBounds_toArray, List.set_cons_zero, List.set_cons_succ]
        refine wpAnyH_take (i := 4) (v := ?av4) rfl (by kernel_rfl) (by kernel_rfl) (by kernel_rfl) (fun _ _ _ h => h) (Or.inl ⟨by rfl, ?ay4⟩) HH0.out ?ar4
        case ay4 => (intro w hSw; (try dsimp only at hSw); go_simp; try with_reducible rfl)
        dsimp only [Act.put, List.setIfInBounds_toArray, List.set_cons_zero, List.set_cons_succ]
        refine wpAnyH_take (i := 5) (v := ?av5) rfl (by kernel_rfl) (by kernel_rfl) (by kernel_rfl) (fun _ _ _ h => h) (Or.inl ⟨by rfl, ?ay5⟩) HH0.out ?ar5
        case ay5 => (intro w hSw; (try dsimp only at hSw); go_simp; try with_reducible rfl)
        dsimp only [Act.put, List.setIfInBounds_toArray, List.set_cons_zero, List.set_cons_succ]
        refine wpAnyH_all (rs := [6]) (by kernel_rfl) (by simp) ?_
        intro i hi
        rw [List.mem_singleton] at hi
        subst hi
        refine wpOp_calls (f := 19) (args := #[.agg #[.int .u32 xi, .int .i64 (xp : Nat)], .int .i64 (m.types.length : Nat)]) rfl rfl (by kernel_rfl) (there_ok _ hth hx0 hx1) ?_
        rintro ee w2 ⟨rfl, rfl⟩
        refine .inl ⟨_, rfl, HS.out _ ((Kept.refl _ _).alloc _), ?_⟩
        refine wpAnyH_done (by kernel_rfl) ?_ _
        dsimp only [Act.put, List.setIfInBounds_toArray, List.set_cons_zero, List.set_cons_succ]
        clear HH0 HS
        go_wp2
        go_roundw
        case rel => exact ⟨k + 1, by omega, by go_num, kp1.alloc _, HN.out⟩
        case measure => simp [intOf]; omega
      · have HN := hide (fitM_rest.trans (thenM_bad (b := restFit s m) (HE.out.trans (HB.out (3, xp) (by simp [thereU, hth])))))
        have hge : (m.types.length : Int) ≤ xi := by omega
        clear HB HO HE
        go_wp2_with fail
        refine wp_region_held_drew (S := fun w' : World => w'.cell? ⟨wo.heap.size, 0, none⟩ = some (.int .u32 xi) ∧ w'.cell? ⟨wo.heap.size, 1, none⟩ = some (.int .i64 (xp : Nat)) ∧ w'.cell? ⟨mb, 0, none⟩ = some (.slice p0 m.types.length c0)) (by kernel_rfl) HH0.out (fun _ => ?_)
        refine wpAnyH_take (i := 0) (v := ?bv0) rfl (by kernel_rfl) (by kernel_rfl) (by kernel_rfl) (fun _ _ _ h => h) (Or.inl ⟨by rfl, ?by0⟩) HH0.out ?br0
        case by0 => (intro w hSw; (try dsimp only at hSw); go_simp; try with_reducible rfl)
        dsimp only [Act.put, List.setIfInBounds_toArray, List.set_cons_zero, List.set_cons_succ]
        refine wpAnyH_take (i := 1) (v := ?bv1) rfl (by kernel_rfl) (by kernel_rfl) (by kernel_rfl) (fun _ _ _ h => h) (Or.inl ⟨by rfl, ?by1⟩) HH0.out ?br1
        case by1 => (intro w hSw; (try dsimp only at hSw); go_simp; try with_reducible rfl)
        dsimp only [Act.put, List.setIfInBounds_toArray, List.set_cons_zero, List.set_cons_succ]
        refine wpAnyH_take (i := 2) (v := ?bv2) rfl (by kernel_rfl) (by kernel_rfl) (by kernel_rfl) (fun _ _ _ h => h) (Or.inl ⟨by rfl, ?by2⟩) HH0.out ?br2
        case by2 => (intro w hSw; (try dsimp only at hSw); go_simp; try with_reducible rfl)
        dsimp only [Act.put, List.setIfInBounds_toArray, List.set_cons_zero, List.set_cons_succ]
        refine wpAnyH_take (i := 3) (v := ?bv3) rfl (by kernel_rfl) (by kernel_rfl) (by kernel_rfl) (fun _ _ _ h => h) (Or.inl ⟨by rfl, ?by3⟩) HH0.out ?br3
        case by3 => (intro w hSw; (try dsimp only at hSw); go_simp; try with_reducible rfl)
        dsimp only [Act.put, List.setIfInBounds_toArray, List.set_cons_zero, List.set_cons_succ]
        refine wpAnyH_take (i := 4) (v := ?bv4) rfl (by kernel_rfl) (by kernel_rfl) (by kernel_rfl) (fun _ _ _ h => h) (Or.inl ⟨by rfl, ?by4⟩) HH0.out ?br4
        case by4 => (intro w hSw; (try dsimp only at hSw); go_simp; try with_reducible rfl)
        dsimp only [Act.put, List.setIfInBounds_toArray, List.set_cons_zero, List.set_cons_succ]
        refine wpAnyH_take (i := 5) (v := ?bv5) rfl (by kernel_rfl) (by kernel_rfl) (by kernel_rfl) (fun _ _ _ h => h) (Or.inl ⟨by rfl, ?by5⟩) HH0.out ?br5
        case by5 => (intro w hSw; (try dsimp only at hSw); go_simp; try with_reducible rfl)
        dsimp only [Act.put, List.setIfInBounds_toArray, List.set_cons_zero, List.set_cons_succ]
        refine wpAnyH_all (rs := [6]) (by kernel_rfl) (by simp) ?_
        intro i hi
        rw [List.mem_singleton] at hi
        subst hi
        refine wpOp_dies (f := 19) (args := #[.agg #[.int .u32 xi, .int .i64 (xp : Nat)], .int .i64 (m.types.length : Nat)]) rfl rfl (by kernel_rfl) (there_bad _ hge hx0 hx1) ?_
        rintro e w2 ⟨rfl, rfl⟩
        refine ⟨_, rfl, ?_⟩
        exact ⟨rfl, Says.err_mk HN.out (kp1.alloc _)⟩
    · have HN := HE.out.trans (eachM_done hlt)
      have HFS : Hid (∀ x ∈ m.funcs, 0 ≤ x.1 ∧ x.1 < (m.types.length : Int)) := fun x hx => ⟨(HX.out x hx).1, by
        have := eachM_all HN x hx
        unfold thereU at this
        split at this
        · assumption
        · cases this⟩
      have HE1 := hide (fitM_rest.trans (thenM_good (b := restFit s m) HN))
      clear HE HN hr
      -- the tables
      have F2r := (hkp.cell (p := ⟨mb, 2, none⟩) hmw (fun c => c)).trans F2
      have hmr : mb < wo.heap.size := Nat.lt_of_lt_of_le hmw hkp.size
      go_wp2_with fail
      refine (checkLimits_any 20 (Row.kept HR2.out hkp (fun _ _ _ c => c)) (by have := HOK.out.tables.1; omega)).mono ?_
      rintro e w1 ⟨hk1, hok, herr⟩
      have kp1 := hkp.trans hk1
      cases hq : eachM (limFit 20) m.tables with
      | error qp =>
        obtain ⟨q, p⟩ := qp
        have he := herr _ _ hq
        subst he
        exact ⟨rfl, Says.err_mk (HE1.out.trans (thenM_bad hq)) kp1⟩
      | ok u =>
      obtain ⟨v, rfl, rfl⟩ := hok u hq
      have HE2 := hide (HE1.out.trans (thenM_good hq))
      clear hok herr hq HE1 hk1
      -- the memories
      have F3r := (kp1.cell (p := ⟨mb, 3, none⟩) hmw (fun c => c)).trans F3
      have hmr1 : mb < w1.heap.size := Nat.lt_of_lt_of_le hmw kp1.size
      go_wp2_with fail
      refine (checkLimits_any 16 (Row.kept HR3.out kp1 (fun _ _ _ c => c)) (by have := HOK.out.mems.1; omega)).mono ?_
      rintro e w2 ⟨hk2, hok, herr⟩
      have kp2 := kp1.trans hk2
      cases hq : eachM (limFit 16) m.mems with
      | error qp =>
        obtain ⟨q, p⟩ := qp
        have he := herr _ _ hq
        subst he
        exact ⟨rfl, Says.err_mk (HE2.out.trans (thenM_bad hq)) kp2⟩
      | ok u =>
      obtain ⟨v, rfl, rfl⟩ := hok u hq
      have HE3 := hide (HE2.out.trans (thenM_good hq))
      clear hok herr hq HE2 hk2
      -- the globals
      go_wp2_with fail
      refine (checkGlobals_any (HMV.out.kept kp2 (fun _ _ _ c => c)).modAt (by have := HOK.out.globals.1; omega)).mono ?_
      rintro e w3 ⟨hk3, hok, herr⟩
      have kp3 := kp2.trans hk3
      cases hq : eachM (fun g => cstFit g.kind g.first) m.globals with
      | error qp =>
        obtain ⟨q, p⟩ := qp
        have he := herr _ _ hq
        subst he
        exact ⟨rfl, Says.err_mk (HE3.out.trans (thenM_bad hq)) kp3⟩
      | ok u =>
      obtain ⟨v, rfl, rfl⟩ := hok u hq
      have HE4 := hide (HE3.out.trans (thenM_good hq))
      clear hok herr hq HE3 hk3
      -- the exports
      go_wp2_with fail
      refine (checkExports_any (HMV.out.kept kp3 (fun _ _ _ c => c)) (by have := HOK.out.exports.1; omega) (fun x hx => ⟨(HOK.out.exports.2 x hx).2.1.1, (HOK.out.exports.2 x hx).2.1.2.1⟩)).mono ?_
      rintro e w4 ⟨hk4, hok, herr⟩
      have kp4 := kp3.trans hk4
      cases hq : eachM (exportFit m) (List.range m.exports.length) with
      | error qp =>
        obtain ⟨q, p⟩ := qp
        have he := herr _ _ hq
        subst he
        exact ⟨rfl, Says.err_mk (HE4.out.trans (thenM_bad hq)) kp4⟩
      | ok u =>
      obtain ⟨v, rfl, rfl⟩ := hok u hq
      have HE5 := hide (HE4.out.trans (thenM_good hq))
      clear hok herr hq HE4 hk4
      -- the start
      go_wp2_with fail
      refine (checkStart_any (HMV.out.kept kp4 (fun _ _ _ c => c)) (by have := HOK.out.starts.1; omega) (fun x hx => ⟨(HOK.out.starts.2 x hx).1, (HOK.out.starts.2 x hx).2.1⟩) HFS.out).mono ?_
      rintro e w5 ⟨hk5, hok, herr⟩
      have kp5 := kp4.trans hk5
      cases hq : eachM (startFit m) m.starts with
      | error qp =>
        obtain ⟨q, p⟩ := qp
        have he := herr _ _ hq
        subst he
        exact ⟨rfl, Says.err_mk (HE5.out.trans (thenM_bad hq)) kp5⟩
      | ok u =>
      obtain ⟨v, rfl, rfl⟩ := hok u hq
      have HE6 := hide (HE5.out.trans (thenM_good hq))
      clear hok herr hq HE5 hk5
      -- the elements
      go_wp2_with fail
      refine (checkElements_any (HMV.out.kept kp5 (fun _ _ _ c => c)) (by have := HOK.out.elems.1; omega) (fun x hx => HOK.out.elems.2 x hx)).mono ?_
      rintro e w6 ⟨hk6, hok, herr⟩
      have kp6 := kp5.trans hk6
      cases hq : eachM (elemFit m) m.elems with
      | error qp =>
        obtain ⟨q, p⟩ := qp
        have he := herr _ _ hq
        subst he
        exact ⟨rfl, Says.err_mk (HE6.out.trans (thenM_bad hq)) kp6⟩
      | ok u =>
      obtain ⟨v, rfl, rfl⟩ := hok u hq
      have HE7 := hide (HE6.out.trans (thenM_good hq))
      clear hok herr hq HE6 hk6
      -- the codes
      have F8r := (kp6.cell (p := ⟨mb, 8, none⟩) hmw (fun c => c)).trans F8
      have hmr6 : mb < w6.heap.size := Nat.lt_of_lt_of_le hmw kp6.size
      have H0 : Hid (eachM (codeFit s m) (List.range m.codes.length) = eachM (codeFit s m) ((List.range m.codes.length).drop 0)) := by show _ = _; simp
      go_wp2
      go_loopw [45] (fun q wr => ∃ k : Nat, k ≤ m.codes.length ∧ q = .int .i64 k ∧ Kept (fun _ => False) w wr ∧ eachM (codeFit s m) (List.range m.codes.length) = eachM (codeFit s m) ((List.range m.codes.length).drop k)) (fun q _ => m.codes.length - (intOf q).toNat)
      case atStart => exact ⟨0, Nat.zero_le _, rfl, kp6, H0.out⟩
      case round =>
        obtain ⟨k2, hk2, rfl, hkv, hme⟩ := hrel
        have HE := hide hme
        clear hme H0 F8r kp6 kp5 kp4 kp3 kp2 kp1 hkp
        by_cases hlt2 : k2 < m.codes.length
        · have hlt2' : (k2 : Int) < (m.codes.length : Int) := by omega
          have hrk : (List.range m.codes.length)[k2]'(by simpa using hlt2) = k2 := by simp
          have HB : Hid (∀ e, codeFit s m k2 = .error e → eachM (codeFit s m) (List.range m.codes.length) = .error e) := fun e he => HE.out.trans (eachM_bad (by simpa using hlt2) (by rw [hrk]; exact he))
          have HO : Hid (codeFit s m k2 = .ok () → eachM (codeFit s m) (List.range m.codes.length) = eachM (codeFit s m) ((List.range m.codes.length).drop (k2 + 1))) := fun he => HE.out.trans (eachM_ok (by simpa using hlt2) (by rw [hrk]; exact he))
          clear hrk HE
          go_wp2_with fail
          refine (checkCode_any (f := k2) (HMV.out.kept hkv (fun _ _ _ c => c)) HOK.out hs HRD.out HFS.out (by have := HLC.out; omega) HLC.out).mono ?_
          rintro e w7 ⟨hk7, hok, herr⟩
          have kp7 := hkv.trans hk7
          cases hq : codeFit s m k2 with
          | error qp =>
            obtain ⟨q, p⟩ := qp
            have he := herr _ _ hq
            subst he
            exact ⟨rfl, Says.err_mk (HE7.out.trans (thenM_bad (HB.out _ hq))) kp7⟩
          | ok u =>
            obtain ⟨v, rfl, rfl⟩ := hok u hq
            have HN := hide (HO.out hq)
            clear hok herr hq HO HB hk7 hkv
            go_wp2
            go_roundw
            case rel => exact ⟨k2 + 1, by omega, by go_num, kp7, HN.out⟩
            case measure => simp [intOf]; omega
        · have HE8 := hide (HE7.out.trans (thenM_good (HE.out.trans (eachM_done (by simpa using hlt2)))))
          clear HE HE7
          go_wp2_with fail
          refine (checkData_any (HMV.out.kept hkv (fun _ _ _ c => c)).modAt (by have := HOK.out.data.1; omega)).mono ?_
          rintro e w7 ⟨hk7, hok, herr⟩
          have kp7 := hkv.trans hk7
          cases hq : eachM (dataFit m) m.data with
          | error qp =>
            obtain ⟨q, p⟩ := qp
            have he := herr _ _ hq
            subst he
            exact ⟨rfl, Says.err_mk (HE8.out.trans hq) kp7⟩
          | ok u =>
            obtain ⟨v, rfl, rfl⟩ := hok u hq
            have HE9 := hide (HE8.out.trans hq)
            clear hok herr hq HE8 hk7 hkv
            go_wp2
            go_end0
            exact Says.ok_mk HE9.out kp7 rfl

end

end Go.Proofs.YtdfmillbaabpiaaGreat
/-
  givenUp: what was given up is caught.
-/
namespace Go.Proofs.YtdfmillbaabpiaaGreat
open Go.RowKit

theorem Blk.oneC' {w : World} {g : Nat} {a : Value} (h : Blk w g [a]) : w.cell? ⟨g, 0, none⟩ = some a ∧ w.frozen? ⟨g, 0, none⟩ = false := h 0 (by simp)

/-- Entered as a deferred call of a frame that returns: nothing is caught. -/
theorem catch_idle (p q : Addr) (w : World) :
    CallsD Tryz.prog 12 #[.pointer (some p), .pointer (some q)] .returning w fun e u' w' => e = .returned (.tuple #[]) ∧ u' = .returning ∧ w' = w := by
  refine callsD_of_wpS Tryz.func12 rfl fun c₀ cs hu => ?_
  apply wpS_seq
  apply wpS_region
  simp [wpOpsS, go_sem, recoverD, hu, Tryz.ntmps12, Exit.thenS]
  apply wpS_seq
  apply wpS_seq
  apply wpS_region
  simp [wpOpsS, go_sem, Exit.thenS]
  refine wpS_cond (t := true) (by simp [Act.eval, Array.replicate]) ?_
  simp only [if_true]
  refine wpS_of_wp (wp_ret ?_)
  cases c₀
  simp_all [bodyPostS, results, Tryz.results12, Exit.thenS]

set_option maxRecDepth 100000 in
set_option maxHeartbeats 1600000 in
/-- Of a frame that gives up: the error and the place are laid where they are told. -/
theorem catch_given (pe pa q p : Nat) (older : List PanicEntry) (w : World) (x y : Value) (hpe : Blk w pe [x]) (hpa : Blk w pa [y]) (hne : pe ≠ pa) :
    CallsD Tryz.prog 12 #[.pointer (some ⟨pe, 0, none⟩), .pointer (some ⟨pa, 0, none⟩)] (.panicking ({ v := .iface 36 (.agg #[.int .i64 (q : Nat), .int .i64 (p : Nat)]), recovered := false } :: older)) w fun e u' w' =>
      e = .returned (.tuple #[]) ∧ u' = .panicking ({ v := .iface 36 (.agg #[.int .i64 (q : Nat), .int .i64 (p : Nat)]), recovered := true } :: older) ∧ w'.cell? ⟨pe, 0, none⟩ = some (.int .i64 (q : Nat)) ∧ w'.cell? ⟨pa, 0, none⟩ = some (.int .i64 (p : Nat)) ∧ Kept (fun k => k = pe ∨ k = pa) w w' := by
  have hle := hpe.lt
  have hla := hpa.lt
  obtain ⟨E0, E1⟩ := hpe 0 (by simp)
  obtain ⟨A0, A1⟩ := hpa 0 (by simp)
  simp at E0 A0
  refine callsD_of_wpS Tryz.func12 rfl fun c₀ cs hu => ?_
  apply wpS_seq
  apply wpS_region
  simp [wpOpsS, go_sem, recoverD, hu, Tryz.ntmps12, Exit.thenS]
  apply wpS_seq
  apply wpS_seq
  apply wpS_region
  simp [wpOpsS, go_sem, Exit.thenS]
  refine wpS_cond (t := false) (by simp [Act.eval, Array.replicate]) ?_
  simp only [Bool.false_eq_true, if_false]
  refine wpS_of_wp (wp_skip ?_)
  simp only [Exit.thenS]
  simp only [Array.replicate_succ, Array.replicate_zero, List.push_toArray, List.append_toArray, List.nil_append, List.cons_append, List.setIfInBounds_toArray, List.set_cons_zero, List.set_cons_succ]
  refine wpS_of_wp ?_
  have HU := hide hu
  have hta : ∀ (w : World), (Instr.typeAssert (.iface 36 (.agg #[.int .i64 (q : Nat), .int .i64 (p : Nat)])) 20 36 true).run Tryz.prog w = .ok (.tuple #[.agg #[.int .i64 (q : Nat), .int .i64 (p : Nat)], .bool true]) w := fun _ => by kernel_rfl
  have hnot : ∀ (x : Bool) (w : World), (Op.unary .not (.bool x)).run Tryz.prog w = .ok (.bool (!x)) w := fun _ _ => rfl
  clear hu
  go_wp2_with fail
  have n1 : ¬ w.heap.size = pe := by omega
  have n2 : ¬ w.heap.size = pa := by omega
  have n3 : ¬ pa = pe := fun e => hne e.symm
  go_region
  have hk1 : ∀ (W : World) (o : Obj), Kept (fun _ => False) W (W.alloc o).drew := fun W o => ((Kept.refl _ _).alloc o).drew
  refine ⟨rfl, _, rfl, _, results_none rfl _ _ _, rfl, rfl, ?_, ?_, ?_⟩
  · rw [(hk1 _ _).cell (p := ⟨pe, 0, none⟩) (by simpa using hle) (fun c => c), World.cell?_setCell_other _ _ _ _ (fun c => hne (congrArg Addr.block c).symm)]
    exact World.cell?_setCell_same _ _ _ E0
  · rw [(hk1 _ _).cell (p := ⟨pa, 0, none⟩) (by simpa using hla) (fun c => c)]
    refine World.cell?_setCell_same _ _ _ (u := y) ?_
    rw [World.cell?_setCell_other _ _ _ _ (fun c => hne (congrArg Addr.block c))]
    exact A0
  · exact ((((Kept.refl _ w).setCell (p := ⟨pe, 0, none⟩) (fun _ => .inl rfl) _).setCell (p := ⟨pa, 0, none⟩) (fun _ => .inr rfl) _).alloc _).drew

set_option maxRecDepth 100000 in
set_option maxHeartbeats 1600000 in
/-- Whatever gives up, or does not. -/
theorem givenUp_any {F : Nat} {cap : Array Value} {w : World} {S : Nat → Prop} {V : World → Prop} {r : Except Err Unit} (he : Enters F) (hS : ∀ k, S k → k < w.heap.size)
    (hF : ∀ W, Kept (fun _ => False) w W → Calls Tryz.prog F cap W fun e W' => Kept S W W' ∧ V W' ∧ (∀ x, r = .ok x → e = .returned (.tuple #[])) ∧ ∀ q p, r = .error (q, p) → e = gaveUp q p)
    (hV : ∀ W W', V W → Kept (fun k => w.heap.size ≤ k) W W' → V W') :
    Calls Tryz.prog 8 #[.func (.func F) #[] cap] w fun e w' => Kept S w w' ∧ V w' ∧ (∀ x, r = .ok x → e = .returned (.tuple #[.int .i64 0, .int .i64 0])) ∧ ∀ q p : Nat, r = .error (q, p) → e = .returned (.tuple #[.int .i64 (q : Nat), .int .i64 (p : Nat)]) := by
  have hmf : ∀ (fn : Fn) (first cap : Array Value) (w : World), (Instr.makeFunc fn first cap).run Tryz.prog w = .ok (.func fn first cap) w := fun _ _ _ _ => rfl
  have he' : ∀ (args : Array Value) (w : World), (callFunc F args).run Tryz.prog w = .ok (.enter F args) w := he
  have hk0 : ∀ o1 o2, Kept (fun _ => False) w ((w.alloc o1).alloc o2) := fun _ _ => ((Kept.refl _ _).alloc _).alloc _
  have hB1 := Blk.new w #[.int .i64 0] 23
  have hB2 := Blk.new (w.alloc (.cells #[.int .i64 0] 23)) #[.int .i64 0] 3
  have hB1' := hB1.alloc (by simp) (.cells #[.int .i64 0] 3)
  rw [World.size_alloc] at hB2
  have HF := hide (hF _ (hk0 (.cells #[.int .i64 0] 23) (.cells #[.int .i64 0] 3)))
  have HV := hide hV
  have HB1 := hide hB1'
  have HB2 := hide hB2
  clear hF hV hB1 hB1' hB2
  go_enter_defers Tryz.func8, Tryz.ntmps8
  go_wp2_with fail
  refine HF.out.mono ?_
  rintro e W ⟨hk, hv, hok, herr⟩
  have hsz := hk.size
  simp at hsz
  have hkw : Kept S w W := ((hk0 _ _).mono (fun _ _ c => c.elim)).trans hk
  have n1 : ¬ S w.heap.size := fun c => Nat.lt_irrefl _ (hS _ c)
  have n2 : ¬ S (w.heap.size + 1) := fun c => by have := hS _ c; omega
  have W1 := HB1.out.kept hk (by simp; omega) n1
  have W2 := HB2.out.kept hk (by simp) n2
  cases hr : r with
  | error qp =>
    obtain ⟨q, p⟩ := qp
    have h := herr q p hr
    subst h
    refine leaves_cons (f := 12) (args := #[.pointer (some ⟨w.heap.size, 0, none⟩), .pointer (some ⟨w.heap.size + 1, 0, none⟩)]) (by simp) (by simp [go_sem]) ?_
    refine (catch_given w.heap.size (w.heap.size + 1) q p [] W _ _ W1 W2 (by omega)).mono ?_
    rintro e u' w'' ⟨rfl, rfl, c1, c2, hk2⟩
    have hkf : Kept S w w'' := hkw.fresh hk2 (fun i hi c => by omega)
    have hvf : V w'' := HV.out _ _ hv (hk2.mono (fun k _ c => by omega))
    simp [Leaves, settle, results, Tryz.results8, go_sem, c1, c2]
    exact ⟨hkf, hvf, fun x h => by (rw [hr] at h; cases h), fun q1 p1 h => by rw [hr] at h; cases h; exact ⟨rfl, rfl⟩⟩
  | ok x =>
    have h := hok x hr
    subst h
    obtain ⟨A1, A2⟩ := W1.oneC'
    obtain ⟨B1, B2⟩ := W2.oneC'
    have HR := hide hr
    have HV1 := hide hv
    have HKW := hide hkw
    clear hr hok herr hv hkw
    go_wp2
    refine leaves_cons (f := 12) (args := #[.pointer (some ⟨w.heap.size, 0, none⟩), .pointer (some ⟨w.heap.size + 1, 0, none⟩)]) (by simp) (by simp [go_sem]) ?_
    refine (catch_idle ⟨w.heap.size, 0, none⟩ ⟨w.heap.size + 1, 0, none⟩ _).mono ?_
    rintro e u' w'' ⟨rfl, rfl, rfl⟩
    have hk2 : Kept (fun k => w.heap.size ≤ k) W ((W.setCell ⟨w.heap.size, 0, none⟩ (.int .i64 0)).setCell ⟨w.heap.size + 1, 0, none⟩ (.int .i64 0)) := ((Kept.refl _ W).setCell (p := ⟨w.heap.size, 0, none⟩) (fun _ => Nat.le_refl _) _).setCell (p := ⟨w.heap.size + 1, 0, none⟩) (fun _ => Nat.le_succ _) _
    have hkf := HKW.out.fresh hk2 (fun i hi c => absurd c (by omega))
    have hvf := HV.out _ _ HV1.out hk2
    simp [Leaves, settle, results, Tryz.results8, go_sem, A1, B1]
    exact ⟨hkf, hvf, fun q1 p1 h => by (rw [HR.out] at h; cases h)⟩

end Go.Proofs.YtdfmillbaabpiaaGreat
/-
  fitting; Check.
-/
namespace Go.Proofs.YtdfmillbaabpiaaGreat
open Go.RowKit

theorem Holds12.mono {s : ByteArray} {K K' : Nat → Prop} {w : World} {f : Fields} {m : Mdl} (H : Holds12 s K w f m) (hm : ∀ g, g < w.heap.size → K g → K' g) : Holds12 s K' w f m := by
  refine ⟨H.h0.mono hm ?_, Row.mono H.h1 hm, Row.mono H.h2 hm, Row.mono H.h3 hm, Row.mono H.h4 hm, Row.mono H.h5 hm, Row.mono H.h6 hm, H.h7.mono hm ?_, H.h8.mono hm ?_, Row.mono H.h9 hm, Row.mono H.h10 hm, H.h11.mono hm ?_, H.nil6, H.nil8, H.nil11⟩
  · rintro x cs ⟨a, b, e, c, d⟩; exact ⟨a, b, e, Row.mono c hm, Row.mono d hm⟩
  · rintro x cs ⟨a, e, c⟩; exact ⟨a, e, Row.mono c hm⟩
  · rintro x cs ⟨a, b, e, c, d⟩; exact ⟨a, b, e, Row.mono c hm, d.mono hm⟩
  · rintro x cs ⟨a, e, c⟩; exact ⟨a, e, Row.mono c hm⟩

theorem checkAll_err {s : ByteArray} {e : Err} (h : readM s = .error e) : checkAll s = .error e := by simp [checkAll, h]

theorem checkAll_ok {s : ByteArray} {m : Mdl} {j : Nat} (h : readM s = .ok (m, j)) : checkAll s = fitM s m := by simp [checkAll, h]

set_option maxHeartbeats 1600000 in
theorem fittingIn_any {w : World} {bx mx : Nat} {s : ByteArray} {o : Option Addr} (hb : w.cell? ⟨bx, 0, none⟩ = some (.string s)) (hm : Blk w mx [.pointer o]) (hs : s.size ≤ 5000) :
    Calls Tryz.prog 9 #[.pointer (some ⟨bx, 0, none⟩), .pointer (some ⟨mx, 0, none⟩)] w fun e w' => Kept (only mx) w w' ∧ (∃ o, w'.cell? ⟨mx, 0, none⟩ = some (.pointer o)) ∧ (∀ x, checkAll s = .ok x → e = .returned (.tuple #[])) ∧ ∀ q p, checkAll s = .error (q, p) → e = gaveUp q p := by
  have hmw := hm.lt
  obtain ⟨M0, M1⟩ := hm.oneC'
  go_enter Tryz.func9, Tryz.ntmps9
  go_wp2_with fail
  refine (read_any s _ hs).mono ?_
  rintro e w1 ⟨hk1, hok, herr⟩
  cases hr : readM s with
  | error qp =>
    obtain ⟨q, p⟩ := qp
    have he := herr _ _ hr
    subst he
    exact ⟨rfl, hk1.mono (fun _ _ c => c.elim), ⟨o, (hk1.cell (p := ⟨mx, 0, none⟩) hmw (fun c => c)).trans M0⟩, fun x h => by (rw [checkAll_err hr] at h; cases h), fun q' p' h => by rw [checkAll_err hr] at h; cases h; rfl⟩
  | ok mj =>
    obtain ⟨m, j⟩ := mj
    obtain ⟨b, mb, B, rfl, h1, h2, h3, h4, f, oM, hH⟩ := hok _ _ hr
    obtain ⟨hOk, hlen⟩ := readM_ok hr
    have hRd := readM_reads hr
    have C0 := (hk1.cell (p := ⟨mx, 0, none⟩) hmw (fun c => c)).trans M0
    have C1 := (hk1.frozen (p := ⟨mx, 0, none⟩) hmw (fun c => c)).trans M1
    have hv1 : MV s (fun k => w.heap.size ≤ k) w1 mb m := ⟨h1, f, oM.blk, hH.mono (fun g _ hg => by omega)⟩
    have hv2 : MV s (fun k => w.heap.size ≤ k) (w1.setCell ⟨mx, 0, none⟩ (.pointer (some ⟨mb, 0, none⟩))) mb m := hv1.kept (S := only mx) ((Kept.refl _ _).own _) (fun g _ hg (e : g = mx) => by omega)
    have HV := hide hv2
    have HC := hide (checkAll_ok hr)
    have kp1 : Kept (only mx) w (w1.setCell ⟨mx, 0, none⟩ (.pointer (some ⟨mb, 0, none⟩))) := (hk1.mono (fun _ _ c => c.elim)).own _
    have C2 : (w1.setCell ⟨mx, 0, none⟩ (.pointer (some ⟨mb, 0, none⟩))).cell? ⟨mx, 0, none⟩ = some (.pointer (some ⟨mb, 0, none⟩)) := World.cell?_setCell_same _ _ _ C0
    have hl1 : mx < (w1.setCell ⟨mx, 0, none⟩ (.pointer (some ⟨mb, 0, none⟩))).heap.size := by simpa using Nat.lt_of_lt_of_le hmw hk1.size
    have HC2 := hide C2
    have HKP := hide kp1
    clear hok herr hr hH oM hv1 hv2 hk1 C2 kp1
    go_wp2_with fail
    refine (fitCheck_any HV.out hOk hs hRd hlen).mono ?_
    rintro e w2 ⟨hk2, hok, herr⟩
    have kp2 : Kept (only mx) w w2 := HKP.out.trans (hk2.mono (fun _ _ c => c.elim))
    have C3 := (hk2.cell (p := ⟨mx, 0, none⟩) hl1 (fun c => c)).trans HC2.out
    cases hq : fitM s m with
    | error qp =>
      obtain ⟨q, p⟩ := qp
      have he := herr _ _ hq
      subst he
      exact ⟨rfl, kp2, ⟨_, C3⟩, fun x h => by (rw [HC.out, hq] at h; cases h), fun q' p' h => by rw [HC.out, hq] at h; cases h; rfl⟩
    | ok u =>
      obtain ⟨v, rfl, rfl⟩ := hok u hq
      have HQ := hide (HC.out.trans hq)
      clear hok herr hq
      go_wp2
      go_end0
      exact ⟨kp2, ⟨_, C3⟩, fun _ _ => rfl, fun q' p' h => by (rw [HQ.out] at h; cases h)⟩

theorem enters_fittingIn : Enters 9 := enters_of Tryz.func9 (by kernel_rfl) (by kernel_rfl)

/-- What Check answers. -/
def checkAns (s : ByteArray) : Nat × Nat := if 5000 < s.size then (1, 0) else answer (checkAll s)

set_option maxHeartbeats 1600000 in
theorem fitting_any (s : ByteArray) (w : World) (hz : s.size ≤ 9223372036854775807) :
    Calls Tryz.prog 7 #[.string s] w fun e w' => (∃ o, e = .returned (.tuple #[.pointer o, .int .i64 ((checkAns s).1 : Nat), .int .i64 ((checkAns s).2 : Nat)])) ∧ Kept (fun _ => False) w w' := by
  have hmf : ∀ (fn : Fn) (first cap : Array Value) (w : World), (Instr.makeFunc fn first cap).run Tryz.prog w = .ok (.func fn first cap) w := fun _ _ _ _ => rfl
  by_cases hl : 5000 < s.size
  · have t1 : decide ((5000 : Int) < (s.size : Int)) = true := decide_eq_true (by omega)
    have HA : Hid (checkAns s = (1, 0)) := by show _ = _; simp [checkAns, hl]
    clear hl
    go_enter Tryz.func7, Tryz.ntmps7
    go_wp2
    go_ret3
    exact ⟨⟨none, by rw [HA.out]; rfl⟩, (Kept.refl _ _).alloc _⟩
  · have t1 : decide ((5000 : Int) < (s.size : Int)) = false := decide_eq_false (by omega)
    have HA : Hid (checkAns s = answer (checkAll s)) := by show _ = _; simp [checkAns, hl]
    have hs : s.size ≤ 5000 := by omega
    have HS := hide hs
    clear hl hs
    go_enter Tryz.func7, Tryz.ntmps7
    go_wp2_with fail
    refine (givenUp_any (S := only (w.heap.size + 1)) (V := fun W => w.heap.size + 1 < W.heap.size ∧ ∃ o, W.cell? ⟨w.heap.size + 1, 0, none⟩ = some (.pointer o)) (r := checkAll s) enters_fittingIn ?_ ?_ ?_).mono ?_
    · rintro k rfl; simp
    · intro W hk
      have hB := (Blk.new' (w := w.alloc (.cells #[.string s] 9)) (g := w.heap.size + 1) (c := #[.pointer none]) (t := 29) (by simp)).kept hk (by simp) (fun c => c)
      refine (fittingIn_any (bx := w.heap.size) (mx := w.heap.size + 1) (s := s) ?_ hB HS.out).mono ?_
      · exact (hk.cell (p := ⟨w.heap.size, 0, none⟩) (by simp; omega) (fun c => c)).trans (by simp [go_sem])
      · rintro e W' ⟨h1, h2, h3, h4⟩
        exact ⟨h1, ⟨Nat.lt_of_lt_of_le hB.lt h1.size, h2⟩, h3, h4⟩
    · rintro W W' ⟨hl, o, ho⟩ hk
      exact ⟨Nat.lt_of_lt_of_le hl hk.size, o, (hk.cell (p := ⟨w.heap.size + 1, 0, none⟩) hl (fun (c : _ ≤ _) => by simp at c; omega)).trans ho⟩
    rintro e w1 ⟨hk, ⟨hl, o, ho⟩, hok, herr⟩
    have kp : Kept (fun _ => False) w w1 := (((Kept.refl _ _).alloc _).alloc _).fresh hk (fun i hi (c : i = _) => by omega)
    cases hr : checkAll s with
    | error qp =>
      obtain ⟨q, p⟩ := qp
      have he := herr q p hr
      subst he
      have HB : Hid (checkAns s = (q, p)) := by show _ = _; rw [HA.out, hr]; rfl
      clear hok herr hr HA
      go_wp2
      go_ret3
      exact ⟨⟨o, by rw [HB.out]; rfl⟩, kp⟩
    | ok u =>
      have he := hok u hr
      subst he
      have HB : Hid (checkAns s = (0, 0)) := by show _ = _; rw [HA.out, hr]; rfl
      clear hok herr hr HA
      go_wp2
      go_ret3
      exact ⟨⟨o, by rw [HB.out]; rfl⟩, kp⟩

set_option maxHeartbeats 800000 in
theorem check_any (s : ByteArray) (w : World) (hz : s.size ≤ 9223372036854775807) :
    Calls Tryz.prog 5 #[.string s] w fun e w' => e = .returned (.tuple #[.int .i64 ((checkAns s).1 : Nat), .int .i64 ((checkAns s).2 : Nat)]) ∧ Kept (fun _ => False) w w' := by
  go_enter Tryz.func5, Tryz.ntmps5
  go_wp2_with fail
  refine (fitting_any s _ hz).mono ?_
  rintro e w1 ⟨⟨o, rfl⟩, hk⟩
  go_wp2
  go_ret2
  exact ⟨rfl, hk⟩

end Go.Proofs.YtdfmillbaabpiaaGreat
/-
  fits, pick.
-/
namespace Go.Proofs.YtdfmillbaabpiaaGreat
open Go.RowKit

theorem ans_ex : checkAns exBytes = (0, 0) := by
  unfold checkAns
  rw [if_neg (by decide), ex_fits]

theorem ans_other : checkAns exOther = (2, 8) := by
  unfold checkAns
  rw [if_neg (by decide), ex_other]

set_option maxRecDepth 100000 in
set_option maxHeartbeats 1600000 in
theorem fits_any (w : World) : Calls Tryz.prog 4 #[] w fun e w' => e = .returned (.bool true) ∧ Kept (fun _ => False) w w' := by
  go_enter Tryz.func4, Tryz.ntmps4
  go_wp2_with fail
  refine (check_any exBytes _ (by decide)).mono ?_
  rintro e w1 ⟨rfl, hk1⟩
  rw [ans_ex]
  go_wp2_with fail
  refine (check_any exOther _ (by decide)).mono ?_
  rintro e w2 ⟨rfl, hk2⟩
  rw [ans_other]
  go_wp2
  go_ret
  exact ⟨rfl, hk1.trans hk2⟩

set_option maxHeartbeats 800000 in
theorem pick_any (c : Int) (w : World) (h0 : -9223372036854775808 ≤ c) (h1 : c ≤ 9223372036854775807) : Calls Tryz.prog 6 #[.int .i64 c, .int .i64 256] w fun e w' => (∃ z : Int, e = .returned (.int .i64 z)) ∧ w' = w := by
  by_cases hc : c < 0
  · go_enter Tryz.func6, Tryz.ntmps6
    go_wp2
    go_ret
    exact ⟨⟨_, rfl⟩, rfl⟩
  · have hc' : ¬ c < 0 := hc
    go_enter Tryz.func6, Tryz.ntmps6
    go_wp2
    go_ret
    exact ⟨⟨_, rfl⟩, rfl⟩

end Go.Proofs.YtdfmillbaabpiaaGreat
/-
  Behind.
-/
namespace Go.Proofs.YtdfmillbaabpiaaGreat
open Go.RowKit

/-- What Check may answer: too long; something is wrong at a place among the bytes; or it fits. -/
theorem ans_facts (s : ByteArray) : (5000 < s.size ∧ checkAns s = (1, 0)) ∨ (s.size ≤ 5000 ∧ ∃ q p, checkAns s = (q, p) ∧ 2 ≤ q ∧ p ≤ s.size) ∨ (s.size ≤ 5000 ∧ checkAns s = (0, 0) ∧ ∃ m j, readM s = .ok (m, j)) := by
  unfold checkAns
  by_cases hl : 5000 < s.size
  · exact .inl ⟨hl, by rw [if_pos hl]⟩
  · rw [if_neg hl]
    refine .inr ?_
    cases hr : readM s with
    | error qp =>
      obtain ⟨q, p⟩ := qp
      have := readM_err hr
      exact .inl ⟨by omega, q, p, by rw [checkAll_err hr]; rfl, by omega, this.2⟩
    | ok mj =>
      obtain ⟨m, j⟩ := mj
      rw [checkAll_ok hr]
      cases hf : fitM s m with
      | error qp =>
        obtain ⟨q, p⟩ := qp
        have := fitM_err (readM_ok hr).1 hf
        exact .inl ⟨by omega, q, p, rfl, this.1, this.2.2⟩
      | ok u => exact .inr ⟨by omega, rfl, m, j, rfl⟩

/-- A byte more behind a module: refused there, or behind it. -/
theorem ans_behind {s s' : ByteArray} {m : Mdl} {j : Nat} (hl : s.size < 5000) (hz : s'.size = s.size + 1) (ha : Alike s.size s s') (h : readM s = .ok (m, j)) : checkAns s' = (2, s.size) ∨ checkAns s' = (2, s.size + 1) := by
  obtain ⟨p, hp, hq⟩ := readM_behind hz ha h
  unfold checkAns
  rw [if_neg (by omega), checkAll_err hp]
  rcases hq with rfl | rfl
  · exact .inl rfl
  · exact .inr rfl

theorem alike_push (s t : ByteArray) (_ : t.size = 1) : (s ++ t).size = s.size + t.size ∧ Alike s.size s (s ++ t) := by
  refine ⟨ByteArray.size_append, ⟨Nat.le_refl _, by rw [ByteArray.size_append]; omega, fun k hk => ?_⟩⟩
  rw [bt_eq hk, bt_eq (by rw [ByteArray.size_append]; omega)]
  congr 1
  exact (ByteArray.getElem_append_left hk).symm

set_option maxRecDepth 100000 in
set_option maxHeartbeats 3200000 in
theorem behind_any (s : ByteArray) (c : Int) (w : World) (hz : s.size ≤ 9223372036854775807) (h0 : -9223372036854775808 ≤ c) (h1 : c ≤ 9223372036854775807) :
    Calls Tryz.prog 3 #[.string s, .int .i64 c] w fun e w' => e = .returned (.bool true) ∧ Kept (fun _ => False) w w' := by
  have hnot : ∀ (x : Bool) (w : World), (Op.unary .not (.bool x)).run Tryz.prog w = .ok (.bool (!x)) w := fun _ _ => rfl
  have hcv : ∀ (W : World) (z : Int), (convert 27 9 (.slice (some ⟨W.heap.size, 0, none⟩) 1 1)).run Tryz.prog (W.alloc (.cells #[.int .u8 z] 5)) = .ok (.string (strOfNums [z])) (W.alloc (.cells #[.int .u8 z] 5)) := fun W z => by
    refine run_convert_bytes_arg (P := Tryz.prog) (W.alloc (.cells #[.int .u8 z] 5)) 27 5 Tryz.underlying27 Tryz.underlying5 W.heap.size 0 1 1 [z] rfl (fun i hi => ?_) 9 Tryz.underlying9
    obtain rfl : i = 0 := by omega
    simp
  go_enter Tryz.func3, Tryz.ntmps3
  go_wp2_with fail
  refine (fits_any _).mono ?_
  rintro e w1 ⟨rfl, hk1⟩
  go_wp2_with fail
  refine (check_any s _ (by omega)).mono ?_
  rintro e w2 ⟨rfl, hk2⟩
  rcases ans_facts s with ⟨hl, ha⟩ | ⟨hl, q, p, ha, hq, hp⟩ | ⟨hl, ha, m, j, hr⟩
  · rw [ha]
    clear hl ha
    go_wp2
    go_ret
    exact ⟨rfl, hk1.trans hk2⟩
  · rw [ha]
    have t1 : ((q : Int) == 0) = false := by simp; omega
    have t2 : ((q : Int) != 0) = true := by simp; omega
    have t3 : ((q : Int) != 1) = true := by simp; omega
    have t4 : decide (s.size < p) = false := decide_eq_false (by omega)
    have t5 : decide ((p : Int) < 0) = false := decide_eq_false (by omega)
    clear hl ha hq hp
    go_wp2
    go_ret
    exact ⟨rfl, hk1.trans hk2⟩
  · rw [ha]
    by_cases hm : s.size < 5000
    · have t1 : decide ((5000 : Int) ≤ (s.size : Int)) = false := decide_eq_false (by omega)
      have HM := hide hm
      have HR := hide hr
      clear hl ha hr hm
      go_wp2_with fail
      refine (pick_any c _ h0 h1).mono ?_
      rintro e w3 ⟨⟨z, rfl⟩, rfl⟩
      have hcat : ¬ 9223372036854775807 < s.size + (strOfNums [z % 256]).size := by rw [strOfNums_size]; have := HM.out; simp; omega
      go_wp2_with fail
      obtain ⟨hsz, hal⟩ := alike_push s (strOfNums [z % 256]) (strOfNums_size _)
      rw [strOfNums_size] at hsz
      refine (check_any (s ++ strOfNums [z % 256]) _ (by rw [hsz]; have := HM.out; simp; omega)).mono ?_
      rintro e w4 ⟨rfl, hk4⟩
      have hkf := (hk1.trans hk2).trans (((Kept.refl _ _).alloc _).trans hk4)
      rcases ans_behind HM.out hsz hal HR.out with ha | ha
      · rw [ha]
        clear ha hsz hal hcat hcv
        go_wp2
        go_ret
        exact ⟨rfl, hkf⟩
      · rw [ha]
        clear ha hsz hal hcat hcv
        have hw : wrap64 ((s.size : Int) + 1) = (s.size : Int) + 1 := by have := HM.out; unfold wrap64; omega
        go_wp2
        go_ret
        exact ⟨rfl, hkf⟩
    · have t1 : decide ((5000 : Int) ≤ (s.size : Int)) = true := decide_eq_true (by omega)
      clear hl ha hr hm
      go_wp2
      go_ret
      exact ⟨rfl, hk1.trans hk2⟩

end Go.Proofs.YtdfmillbaabpiaaGreat
