/-
  Part 7 of the proof: Locals, Round, Within, Code7.
-/
import Derived.Test.YtgkpkngchploiaaGreatPart05
import Derived.Test.YtgkpkngchploiaaGreatPart06
import Derived.RangeFuncLeaves
import Derived.RangeFuncRecord
import Derived.Test.YtgkpkngchploiaaGreatPart02
import Derived.Laws.EntriesVeiled
import Derived.RangeFuncCalls
/-
  takeLocals.
-/
namespace Go.Proofs.YtgkpkngchploiaaGreat
open Go.RowKit

def localsGo (s : ByteArray) (n : Nat) : Nat → List Nat → Nat → Except Err (List Nat × Nat)
  | 0, acc, j => .ok (acc, j)
  | k + 1, acc, j =>
    match countM (50 - acc.length) s n j with
    | .error e => .error e
    | .ok (m, j1) =>
      match kindM s n j1 with
      | .error e => .error e
      | .ok (kd, j2) => localsGo s n k (acc ++ List.replicate m kd) j2

/-- A code's locals, one by one. -/
def localsM (s : ByteArray) (n i : Nat) : Except Err (List Nat × Nat) :=
  match uM s n i with
  | .error e => .error e
  | .ok ((v, _), j) => localsGo s n v.toNat [] j

theorem localsGo_err1 {s : ByteArray} {n k j : Nat} {acc : List Nat} {e : Err} (hk : 0 < k) (h : countM (50 - acc.length) s n j = .error e) : localsGo s n k acc j = .error e := by
  obtain ⟨m, rfl⟩ : ∃ m, k = m + 1 := ⟨k - 1, by omega⟩
  simp [localsGo, h]

theorem localsGo_err2 {s : ByteArray} {n k j m j1 : Nat} {acc : List Nat} {e : Err} (hk : 0 < k) (h : countM (50 - acc.length) s n j = .ok (m, j1)) (h2 : kindM s n j1 = .error e) : localsGo s n k acc j = .error e := by
  obtain ⟨m, rfl⟩ : ∃ m, k = m + 1 := ⟨k - 1, by omega⟩
  simp [localsGo, h, h2]

theorem localsGo_ok {s : ByteArray} {n k j m j1 kd j2 : Nat} {acc : List Nat} (hk : 0 < k) (h : countM (50 - acc.length) s n j = .ok (m, j1)) (h2 : kindM s n j1 = .ok (kd, j2)) : localsGo s n k acc j = localsGo s n (k - 1) (acc ++ List.replicate m kd) j2 := by
  obtain ⟨m, rfl⟩ : ∃ m, k = m + 1 := ⟨k - 1, by omega⟩
  simp [localsGo, h, h2]

theorem count_int {w : World} {b : Nat} {s : ByteArray} {i n : Nat} (most : Nat) {z : Int} (hz : z = (most : Int)) (h : Rd w b s i n) (hm : most ≤ 5000) :
    Calls Tryz.prog 68 #[.pointer (some ⟨b, 0, none⟩), .int .i64 z] w (Out w b s n isInt (countM most s n i)) := by
  subst hz; exact count_any most h hm

set_option maxRecDepth 100000 in
set_option maxHeartbeats 3200000 in
theorem takeLocals_any {w : World} {b : Nat} {s : ByteArray} {i n : Nat} (h : Rd w b s i n) :
    Calls Tryz.prog 100 #[.pointer (some ⟨b, 0, none⟩)] w (Out w b s n (isKinds (fun g => w.heap.size ≤ g)) (localsM s n i)) := by
  obtain ⟨i0, hi0, hz0, hz1, hz2⟩ := info_parts Tryz.info74
  have hfld := field_num0
  have hbw := h.lt
  go_enter Tryz.func100, Tryz.ntmps100
  go_wp2_with fail
  refine (u_any h).mono ?_
  rintro e w1 ⟨hk1, hok, herr⟩
  cases ho : uM s n i with
  | error qp =>
    obtain ⟨q, p⟩ := qp
    have he := herr _ _ ho
    subst he
    exact ⟨rfl, Out.err_mk (by simp [localsM, ho]) hk1⟩
  | ok xj =>
    obtain ⟨⟨v, a⟩, j0⟩ := xj
    obtain ⟨u, rfl, hv, hrd⟩ := hok _ _ ho
    have hv : u = .agg #[.int .u32 v, .int .i64 (a : Nat)] := hv
    subst hv
    obtain ⟨v0, v1, -, -, -⟩ := uM_facts ho
    obtain ⟨cnt, rfl⟩ := Int.eq_ofNat_of_zero_le v0
    have HM : Hid (localsM s n i = localsGo s n cnt [] j0) := by show _ = _; simp [localsM, ho]
    clear hok herr ho v0
    go_wp2
    go_loopw [3, 4, 5, 9, 18, 19] (fun lv _ _ q _ _ wr => ∃ (k j : Nat) (acc : List Nat), k ≤ cnt ∧ q = .int .u32 k ∧ acc.length ≤ 50 ∧ Rd wr b s j n ∧ Kept (only b) w wr ∧ isKinds (fun g => w.heap.size ≤ g) acc wr lv ∧ localsM s n i = localsGo s n (cnt - k) acc j)
      (fun _ _ _ q _ _ _ => cnt - (intOf q).toNat)
    case atStart => exact ⟨0, j0, [], Nat.zero_le _, rfl, by simp, hrd, hk1, Row.nil _ _ _ _, HM.out⟩
    case round =>
      obtain ⟨k, j, acc, hk, rfl, hacc, hrd, hkp, hrow, hme⟩ := hrel
      have HE := hide hme
      clear hme HM
      obtain ⟨pv, cv, rfl⟩ := Row.shape hrow
      by_cases hlt : k < cnt
      · have hlt' : (k : Int) < (cnt : Int) := by omega
        go_wp2_with fail
        refine (count_int (50 - acc.length) (by omega) hrd (by omega)).mono ?_
        rintro e w2 ⟨hx2, hok, herr⟩
        have hk2 := hkp.trans hx2
        have hrow2 := Row.call hrow hx2 (fun k hk => by omega)
        clear hrow hx2 hkp
        cases ho : countM (50 - acc.length) s n j with
        | error qp =>
          obtain ⟨q, p⟩ := qp
          have he := herr _ _ ho
          subst he
          exact ⟨rfl, Out.err_mk (HE.out.trans (localsGo_err1 (by omega) ho)) hk2⟩
        | ok xj =>
          obtain ⟨mm, j1⟩ := xj
          obtain ⟨u, rfl, hv, hrd2⟩ := hok _ _ ho
          have hv : u = .int .i64 (mm : Nat) := hv
          subst hv
          have hmm := (countM_facts ho).1
          have HO := hide ho
          clear hok herr ho hrd
          go_wp2_with fail
          refine (takeKind_any hrd2).mono ?_
          rintro e w3 ⟨hx3, hok, herr⟩
          have hk3 := hk2.trans hx3
          have hrow3 := Row.call hrow2 hx3 (fun k hk => by omega)
          clear hrow2 hx3 hk2
          cases ho : kindM s n j1 with
          | error qp =>
            obtain ⟨q, p⟩ := qp
            have he := herr _ _ ho
            subst he
            exact ⟨rfl, Out.err_mk (HE.out.trans (localsGo_err2 (by omega) HO.out ho)) hk3⟩
          | ok xj =>
            obtain ⟨kd, j2⟩ := xj
            obtain ⟨u, rfl, hv, hrd3⟩ := hok _ _ ho
            have hv : u = .int .u8 (kd : Nat) := hv
            subst hv
            have HH : Hid (localsM s n i = localsGo s n (cnt - (k + 1)) (acc ++ List.replicate mm kd) j2) := HE.out.trans (localsGo_ok (by omega) HO.out ho)
            clear hok herr ho hrd2
            go_wp2
            go_loopw [3, 19] (fun lv q wr => ∃ (t : Nat), t ≤ mm ∧ q = .int .i64 t ∧ Rd wr b s j2 n ∧ Kept (only b) w wr ∧ isKinds (fun g => w.heap.size ≤ g) (acc ++ List.replicate t kd) wr lv) (fun _ q _ => mm - (intOf q).toNat)
            case atStart => exact ⟨0, Nat.zero_le _, rfl, hrd3, hk3, by simpa [isKinds] using hrow3⟩
            case round =>
              obtain ⟨t, ht, rfl, hrd4, hk4, hrow4⟩ := hrel
              obtain ⟨pt, ct, hsh⟩ := Row.shape hrow4
              have e0 : (acc ++ List.replicate t kd).length = acc.length + t := by simp
              rw [e0] at hsh
              subst hsh
              by_cases htl : t < mm
              · have htl' : (t : Int) < (mm : Int) := by omega
                have hown4 := (Row.toBase (B := w.heap.size) hrow4 (fun g hg => hg)).alloc (.cells #[.int .u8 (kd : Nat)] 74)
                rw [e0] at hown4
                have HOw := hide hown4
                have hlen : acc.length + t ≤ 50 := by omega
                have HLen := hide hlen
                have hsz := hk4.size
                clear hrow4 hrow3 hlen e0 hown4
                go_wp2_with (at_builtin; refine wpList_append_own _ rfl _ _ 83 rfl w.heap.size 74 i0 (.int .u8 0) 1 1 Tryz.underlying83 hi0 hz0 hz1 hz2 rfl (by decide) _ _ _ rfl HOw.out ⟨_, 0, none⟩ 1 1 [.int .u8 (kd : Nat)] rfl rfl ?c1 ?c2 ?c3 ?c4 ?c5 ?_)
                case c1 => exact cell_one_new _ _ _
                case c2 => intro u hu; simp at hu; subst hu; rfl
                case c3 => have := HLen.out; unfold maxLen; omega
                case c4 => have := HLen.out; omega
                case c5 => simp; omega
                intro v' w5 hown' hgrow _
                have hk5 := grown_kept (hk4.alloc _) HOw.out (Nat.le_refl _) hgrow
                have hrd5 := grown_rd (hrd4.alloc _) HOw.out hbw hgrow
                have hrow5 : isKinds (fun g => w.heap.size ≤ g) (acc ++ List.replicate (t + 1) kd) w5 v' := by
                  have := Row.ofBase (ok := fun g => w.heap.size ≤ g) hown' (fun g hg _ => hg)
                  simpa [isKinds, kindCells, List.replicate_succ', Nat.add_assoc] using this
                have HR := hide hrow5
                clear hown' hgrow hrow5 HOw
                go_wp2
                go_roundw
                case rel => exact ⟨t + 1, by omega, by go_num, hrd5, hk5, HR.out⟩
                case measure => simp [intOf]; omega
              · have hmt : t = mm := by omega
                subst hmt
                have HR := hide hrow4
                clear hrow4 hrow3 e0
                go_wp2
                go_roundw
                case rel => exact ⟨k + 1, j2, acc ++ List.replicate t kd, by omega, by go_num, by simp; omega, hrd4, hk4, HR.out, HH.out⟩
                case measure => simp [intOf]; omega
      · have HH : Hid (localsM s n i = .ok (acc, j)) := by show _ = _; rw [HE.out, show cnt - k = 0 by omega]; rfl
        have HR := hide hrow
        clear hrow
        go_wp2
        go_ret
        exact Out.ok_mk HH.out hkp HR.out hrd

end Go.Proofs.YtgkpkngchploiaaGreat
/-
  A round of a range over a function that may give up; the range over the iterator, for whoever goes through a code.
-/
namespace Go.Proofs.YtgkpkngchploiaaGreat
open Go.RowKit

section
variable {F : Fence} {n : Nat} {P : Program}

/-- What is asked at a round's end: off its end yield hands back true; a panic goes up. -/
def roundPostP (P : Program) (l : Nat) (R : Ending → World → Prop) : Exit → Act → World → Prop
  | .normal, _, w => ∃ v w', (Instr.endRound l none).run P w = .ok v w' ∧ R (.returned v) w'
  | .panic chain, a, w => a.defers = [] ∧ R (.panicked chain) w
  | _, _, _ => False

theorem roundIn_panics {l : Nat} {f : FuncId} {tmps : Array Value} {assign body : Code} {w : World} {R : Ending → World → Prop} (hF : F.fn f) (hfn : (∃ fn, P.funcs[f]? = some fn) ∨ ∀ chain w', ¬ R (.panicked chain) w')
    (h : assign.wpIn (F.inRound l) n P (Exit.then (fun a₁ w₁ => ∃ w₂, (Instr.beginRound l).run P w₁ = .ok () w₂ ∧ body.wpIn (F.inRound l) n P (roundPostP P l R) a₁ w₂) (fun _ _ _ => False))
      { tmps := tmps, defers := [] } w) :
    RoundIn F n P l f tmps assign body w R := by
  refine ⟨hF, fun caller rest room0 => ?_⟩
  have room : (F.inRound l).room ((caller :: rest).length + 1 + n) := room0
  -- the round's frame, with what is still to be done in it
  have start : ∀ todo, (todo = [.code assign, .beginRound, .code body]) → Frame.round l f tmps assign body .normal = ({ (default : Frame) with fn := f, kind := .normal, roundOf := some l } : Frame).atR { tmps := tmps, defers := [] } todo := by
    rintro _ rfl; simp [Frame.round, Frame.atR]
  rw [start _ rfl]
  generalize hfr : ({ (default : Frame) with fn := f, kind := .normal, roundOf := some l } : Frame) = fr
  have ho : fr.roundOf = some l := by rw [← hfr]
  have hn : fr.kind = .normal := by rw [← hfr]
  have hf0 : fr.fn = f := by rw [← hfr]
  have hin : (F.inRound l).fn fr.fn := by rw [hf0]; exact hF
  obtain ⟨e1, a1, w1, q1, way1⟩ := h fr [.beginRound, .code body] (caller :: rest) ho hin room
  cases e1 <;> first | exact q1.elim | skip
  obtain ⟨w2, hbegin, hrest⟩ := q1
  obtain ⟨e2, a2, w3, q2, way2⟩ := hrest fr [] (caller :: rest) ho hin room
  have begun := StepsIn.one (I := Machine.fenced P (F.inRound l)) (fenced_calm (fr := fr.atR a1 [.beginRound, .code body]) hin room rfl) (stepR_beginRound (cs := caller :: rest) (k := [.code body]) ho hbegin)
  cases e2 <;> first | exact q2.elim | skip
  · obtain ⟨v, w4, hend, hR⟩ := q2
    exact ⟨.returned v, w4, hR, (StepsIn.trans way1 begun).trans (StepsIn.trans way2 (.one (fenced_calm (fr := fr.atR a2 []) hin room rfl) (stepR_round_end ho hn hend)))⟩
  · rename_i chain
    rcases hfn with ⟨fn, hfn⟩ | hno
    case inr => exact absurd q2.2 (hno _ _)
    obtain ⟨todo, up⟩ := way2
    have out : ({ fr.atR a2 todo with mode := .panicking chain } : Frame).leaving P w3 (.panicked chain) := ⟨rfl, q2.1, fn, by show P.funcs[fr.fn]? = _; rw [hf0]; exact hfn⟩
    exact ⟨.panicked chain, w3, q2.2, (StepsIn.trans way1 begun).trans (StepsIn.trans up (.one (fenced_leaving (F := F.inRound l) (n := n) hin room out) (step_leave_panicked out)))⟩
end

/-- What whoever goes through a code has in its rounds, without the loop's own record: I, on the blocks of F. -/
structure Walks (P : Program) (m : Nat) (s : ByteArray) (n pt : Nat) (Bad : Nat → Nat → World → Prop) (tmps : Array Value) (assign body : Code) (I : Option (List Nat) → Nat → (Nat → Prop) → World → Prop) : Prop where
  still : ∀ o j F W W' S, I o j F W → Kept S W W' → (∀ k, k < W.heap.size → S k → ¬ F k) → I o j F W'
  lt : ∀ o j F W k, I o j F W → F k → k < W.heap.size
  round : ∀ l os o' j F W e x y gv lv hand, I (some os) j F W → e ≤ n → j < e → os.length ≤ 50 → Turns os o' j x → x = bt s j → j < n → behM j x s n (j + 1) = .ok (y, e) →
    isKinds hand y.gives W gv → isRow 62 2 numCells hand y.labels W lv → (∀ k, hand k → k < W.heap.size ∧ ¬ F k) → ¬ F l → l < W.heap.size → ¬ hand l →
    ∃ W1 a1, (∀ K : Act → World → Prop, K a1 W1 → assign.wpIn (Fence.wide.inRound l) m P (Exit.then K (fun _ _ _ => False)) { tmps := tmps.setIfInBounds pt (.agg (insCells j e x y gv lv).toArray), defers := [] } W) ∧ Kept (fun _ => False) W W1 ∧
      ∀ W2, Kept (only l) W1 W2 → body.wpIn (Fence.wide.inRound l) m P (fun ex a w => match ex with
        | .normal => ∃ F', I o' e F' w ∧ Kept F W2 w ∧ ∀ k, F' k → F k ∨ hand k ∨ W.heap.size ≤ k
        | .panic chain => a.defers = [] ∧ ∃ q p : Nat, Ending.panicked chain = gaveUp q p ∧ Bad q p w ∧ Kept F W2 w
        | _ => False) a1 W2

theorem Kept.putObj {w : World} {r : Nat} {o : Obj} : Kept (only r) w (w.putObj r o) :=
  ⟨rfl, rfl, rfl, by simp, fun k _ hk => World.putObj_heap_other (fun e => hk e)⟩

/-- The state of who walks, with the record and the block for deferred calls. -/
def WithRec (l D : Nat) (r : Loop) (I : Option (List Nat) → Nat → (Nat → Prop) → World → Prop) (os : Option (List Nat)) (j : Nat) (F : Nat → Prop) (W : World) : Prop :=
  ∃ Fi, I os j Fi W ∧ (∀ k, Fi k → F k) ∧ (∀ k, F k → Fi k ∨ k = l ∨ k = D) ∧ F l ∧ F D ∧ ¬ Fi l ∧ ¬ Fi D ∧ l ≠ D ∧ W.heap[l]? = some (.loop r) ∧ W.heap[D]? = some (.deferred (some []))

theorem goes_of_walks {P : Program} {m : Nat} {s : ByteArray} {n l D pt : Nat} {Bad : Nat → Nat → World → Prop} {r : Loop} {I : Option (List Nat) → Nat → (Nat → Prop) → World → Prop} (hfn : (∃ fn, P.funcs[r.fn]? = some fn) ∨ ∀ q p w, ¬ Bad q p w) (hst : r.state = .ready) (hpe : r.pending = none) (hps : r.params = #[pt])
    (hw : Walks P m s n pt Bad r.tmps r.assign r.body I) : Goes P m l s n (fun q p W => Bad q p W ∧ W.heap[D]? = some (.deferred (some []))) (WithRec l D r I) := by
  refine ⟨?_, ?_, ?_⟩
  · rintro os j F W W' S ⟨Fi, h1, h2, h3, h4, h5, h6, h7, h8, h9, h10⟩ hk hs
    have ll : l < W.heap.size := (Array.getElem?_eq_some_iff.1 h9).1
    have ld : D < W.heap.size := (Array.getElem?_eq_some_iff.1 h10).1
    exact ⟨Fi, hw.still _ _ _ _ _ _ h1 hk (fun k hk0 hS hF => hs k hk0 hS (h2 k hF)), h2, h3, h4, h5, h6, h7, h8, (hk.block l ll (fun c => hs l ll c h4)).trans h9, (hk.block D ld (fun c => hs D ld c h5)).trans h10⟩
  · rintro os j F W k ⟨Fi, h1, h2, h3, h4, h5, h6, h7, h8, h9, h10⟩ hk
    rcases h3 k hk with h | rfl | rfl
    · exact hw.lt _ _ _ _ _ h1 h
    · exact (Array.getElem?_eq_some_iff.1 h9).1
    · exact (Array.getElem?_eq_some_iff.1 h10).1
  · rintro os o' j F W e x y gv lv hand ⟨Fi, h1, h2, h3, h4, h5, h6, h7, h8, h9, h10⟩ he hj hos hl hxe hjn hbe hg hlv hh
    have ll : l < W.heap.size := (Array.getElem?_eq_some_iff.1 h9).1
    have ld : D < W.heap.size := (Array.getElem?_eq_some_iff.1 h10).1
    obtain ⟨W1, a1, hassign, hk1, hbody⟩ := hw.round l os o' j Fi W e x y gv lv hand h1 he hj hos hl hxe hjn hbe hg hlv (fun k hk => ⟨(hh k hk).1, fun c => (hh k hk).2 (h2 k c)⟩) h6 ll (fun c => (hh l c).2 h4)
    have hy := run_yield (P := P) (args := #[.agg (insCells j e x y gv lv).toArray]) h9 (by rw [hps]; rfl)
    have htm : (r.params.zip #[Value.agg (insCells j e x y gv lv).toArray]).foldl (fun tmps (t, a) => tmps.setIfInBounds t a) r.tmps = r.tmps.setIfInBounds pt (.agg (insCells j e x y gv lv).toArray) := by simp [hps]
    rw [htm] at hy
    refine ⟨r.fn, _, r.assign, r.body, hy, roundIn_panics trivial (hfn.imp id fun hb chain w' hR => ?_) (hassign _ ?_)⟩
    · rcases hR with ⟨hc, _⟩ | ⟨q, p, _, hbad, _⟩
      · cases hc
      · exact hb q p _ hbad.1
    have hl1 : W1.heap[l]? = some (.loop r) := (hk1.block l ll (fun c => c)).trans h9
    have hd1 : W1.heap[D]? = some (.deferred (some [])) := (hk1.block D ld (fun c => c)).trans h10
    have ll1 : l < W1.heap.size := (Array.getElem?_eq_some_iff.1 hl1).1
    refine ⟨_, run_beginRound hl1 hst, wpIn_mono (hbody _ Kept.putObj) ?_⟩
    have hl2 : (W1.putObj l (.loop { r with state := .busy })).heap[l]? = some (.loop { r with state := .busy }) := World.putObj_heap_same ll1
    have hd2 : (W1.putObj l (.loop { r with state := .busy })).heap[D]? = some (.deferred (some [])) := (World.putObj_heap_other (fun c => h8 c.symm)).trans hd1
    have hk02 : Kept F W (W1.putObj l (.loop { r with state := .busy })) := (hk1.mono (fun _ _ c => c.elim)).trans (Kept.putObj.mono (fun k _ (c : k = l) => c ▸ h4))
    intro ex a w3 hex
    cases ex with
    | normal =>
      obtain ⟨F', hI', hk3, hF'⟩ := hex
      have hl3 : w3.heap[l]? = some (.loop { r with state := .busy }) := (hk3.block l (by simpa using ll1) h6).trans hl2
      have hd3 : w3.heap[D]? = some (.deferred (some [])) := (hk3.block D (by simpa using (Array.getElem?_eq_some_iff.1 hd1).1) h7).trans hd2
      have ll3 : l < w3.heap.size := (Array.getElem?_eq_some_iff.1 hl3).1
      refine ⟨_, _, run_endRound none hl3, .inl ⟨rfl, fun k => F' k ∨ k = l ∨ k = D, ⟨F', ?_, fun k hk => .inl hk, fun k hk => hk, .inr (.inl rfl), .inr (.inr rfl), ?_, ?_, h8, ?_, (World.putObj_heap_other (fun c => h8 c.symm)).trans hd3⟩, ?_, ?_⟩⟩
      · refine hw.still _ _ _ _ _ (only l) hI' Kept.putObj (fun k _ (hk : k = l) hF => ?_)
        subst hk
        rcases hF' _ hF with h | h | h
        · exact h6 h
        · exact (hh _ h).2 h4
        · omega
      · intro hF
        rcases hF' _ hF with h | h | h
        · exact h6 h
        · exact (hh _ h).2 h4
        · omega
      · intro hF
        rcases hF' _ hF with h | h | h
        · exact h7 h
        · exact (hh _ h).2 h5
        · omega
      · rw [World.putObj_heap_same ll3]
        have : ({ r with state := .ready, pending := none } : Loop) = r := by rw [← hst, ← hpe]
        simp [this]
      · exact (hk02.fresh hk3 (fun k _ hF => h2 k hF)).trans (Kept.putObj.mono (fun k _ (c : k = l) => c ▸ h4))
      · rintro k (h | rfl | rfl)
        · rcases hF' k h with h | h | h
          · exact .inl (h2 k h)
          · exact .inr (.inl h)
          · exact .inr (.inr h)
        · exact .inl h4
        · exact .inl h5
    | panic chain =>
      obtain ⟨hd, q, p, hc, hbad, hk3⟩ := hex
      exact ⟨hd, .inr ⟨q, p, hc, ⟨hbad, (hk3.block D (by simpa using (Array.getElem?_eq_some_iff.1 hd1).1) h7).trans hd2⟩, hk02.fresh hk3 (fun k _ hF => h2 k hF)⟩⟩
    | ret => exact hex.elim
    | exit id => exact hex.elim
    | goto t => exact hex.elim
    | outgrown => exact hex.elim

/-- Where a range over the iterator begins: its record, the call, and how that ends. -/
theorem range_enters {m : Nat} {g : Operand} {pt : Tmp} {assign body : Code} {Q : Exit → Act → World → Prop} {a : Act} {w : World} {fb : Nat} {s : ByteArray} {i n : Nat} {Bad : Nat → Nat → World → Prop} {I : Option (List Nat) → Nat → (Nat → Prop) → World → Prop} {F0 : Nat → Prop} (fn : FuncId)
    (hg : a.eval g = .func (.func 114) #[] #[.pointer (some ⟨fb, 0, none⟩)]) (he : Enters 114) (hf : Rd w fb s i n) (hI : I (some []) i F0 w) (hw : Walks Tryz.prog m s n pt Bad a.tmps assign body I) (hfn : (∃ fx, Tryz.prog.funcs[fn]? = some fx) ∨ ∀ q p W, ¬ Bad q p W)
    (hdone : ∀ D j F' W', insM s n i = .ok j → I none j F' W' → w.heap.size ≤ D → W'.heap[D]? = some (.deferred (some [])) → Kept F0 w W' → Q .normal { a with defers := { target := .collected D, args := #[] } :: a.defers } W')
    (hstop : ∀ D (q p : Nat) chain W', insM s n i = .error (q, p) → Ending.panicked chain = gaveUp q p → w.heap.size ≤ D → W'.heap[D]? = some (.deferred (some [])) → Kept F0 w W' → Q (.panic chain) { a with defers := { target := .collected D, args := #[] } :: a.defers } W')
    (hbad : ∀ D (q p : Nat) chain W', Bad q p W' → Ending.panicked chain = gaveUp q p → w.heap.size ≤ D → W'.heap[D]? = some (.deferred (some [])) → Kept F0 w W' → Q (.panic chain) { a with defers := { target := .collected D, args := #[] } :: a.defers } W') :
    ∃ (l : Nat) (mark : List Deferred) (w₁ : World) (d : Deferred) (w₁' : World) (f : FuncId) (args : Array Value) (w₂ : World),
      (Instr.enterLoop fn a.tmps #[pt] assign body Fence.wide.round).run Tryz.prog w = .ok (l, mark) w₁ ∧
      (resolve a.eval (rangeCall g l) 0).run Tryz.prog w₁ = .ok d w₁' ∧
      (invoke d.target d.args).run Tryz.prog w₁' = .ok (.enter f args) w₂ ∧
      CallsIn Fence.wide (m + 1) Tryz.prog f args w₂ fun e w₃ => match e with
        | .returned _ => ∃ w₄, (Instr.endLoop l).run Tryz.prog w₃ = .ok none w₄ ∧ Q .normal { a with defers := mark ++ a.defers } w₄
        | .panicked chain => Q (.panic chain) { a with defers := mark ++ a.defers } w₃
        | .outgrown => False := by
  have he' : ∀ (args : Array Value) (w : World), (callFunc 114 args).run Tryz.prog w = .ok (.enter 114 args) w := he
  obtain ⟨r, hr⟩ : ∃ r : Loop, r = { state := .ready, pending := none, fn, tmps := a.tmps, params := #[pt], assign, body, defers := w.heap.size } := ⟨_, rfl⟩
  obtain ⟨W1, hW1⟩ : ∃ W1, W1 = (w.alloc (.deferred (some []))).alloc (.loop r) := ⟨_, rfl⟩
  have hl1 : W1.heap[w.heap.size + 1]? = some (.loop r) := by rw [hW1]; have := World.alloc_heap_new (w.alloc (.deferred (some []))) (.loop r); rwa [World.size_alloc] at this
  have hd1 : W1.heap[w.heap.size]? = some (.deferred (some [])) := by rw [hW1]; exact (Below.heap_alloc _ _ _ (by simp)).trans (World.alloc_heap_new w _)
  have hk1 : Kept (fun _ => False) w W1 := by rw [hW1]; exact ((Kept.refl _ _).alloc _).alloc _
  refine ⟨w.heap.size + 1, [{ target := .collected w.heap.size, args := #[] }], W1, { target := .fn (.func 114) #[.pointer (some ⟨fb, 0, none⟩)], args := #[.func (.yield (w.heap.size + 1)) #[] #[]] }, W1, 114, #[.func (.yield (w.heap.size + 1)) #[] #[], .pointer (some ⟨fb, 0, none⟩)], W1, ?_, ?_, ?_, ?_⟩
  · rw [hW1, hr]; exact run_enterLoop_outer _ _ _ _ _
  · simp only [resolve, hg]; simp [go_sem]
  · simp [invoke, go_sem, he']
  · have hG : Goes Tryz.prog m (w.heap.size + 1) s n (fun q p W => Bad q p W ∧ W.heap[w.heap.size]? = some (.deferred (some []))) (WithRec (w.heap.size + 1) w.heap.size r I) :=
      goes_of_walks (by rw [hr]; exact hfn) (by rw [hr]) (by rw [hr]) (by rw [hr]) (by rw [hr]; exact hw)
    have hlt : ∀ k, F0 k → k < w.heap.size := fun k hk => hw.lt _ _ _ _ _ hI hk
    have hJ : WithRec (w.heap.size + 1) w.heap.size r I (some []) i (fun k => F0 k ∨ k = w.heap.size + 1 ∨ k = w.heap.size) W1 :=
      ⟨F0, hw.still _ _ _ _ _ _ hI hk1 (fun _ _ c => c.elim), fun k hk => .inl hk, fun k hk => hk, .inr (.inl rfl), .inr (.inr rfl), fun c => by have := hlt _ c; omega, fun c => by have := hlt _ c; omega, by omega, hl1, hd1⟩
    refine (iter_any hG (hf.kept hk1 (fun c => c)) hJ).mono ?_
    rintro ε W' ⟨hk, hhow⟩
    have hkw : Kept F0 w W' := (hk1.mono (fun _ _ c => c.elim)).fresh hk (fun k hk0 hF => hF.elim id (fun c => by omega))
    rcases hhow with ⟨j, F', hins, rfl, ⟨Fi, h1, h2, h3, h4, h5, h6, h7, h8, h9, h10⟩, -⟩ | ⟨q, p, hins, rfl, os, j, F', ⟨Fi, h1, h2, h3, h4, h5, h6, h7, h8, h9, h10⟩⟩ | ⟨q, p, ⟨hbd, hdd⟩, rfl⟩
    · refine ⟨_, by rw [run_endLoop h9 (by rw [hr]; simp)]; rw [hr], ?_⟩
      have ll : w.heap.size + 1 < W'.heap.size := (Array.getElem?_eq_some_iff.1 h9).1
      refine hdone w.heap.size j Fi _ hins (hw.still _ _ _ _ _ _ h1 (Kept.putObj (r := w.heap.size + 1)) (fun k _ (c : k = _) hF => h6 (c ▸ hF))) (Nat.le_refl _) ((World.putObj_heap_other (by omega)).trans h10) ?_
      exact hkw.fresh Kept.putObj (fun k hk0 (c : k = _) => by omega)
    · exact hstop w.heap.size q p _ W' hins rfl (Nat.le_refl _) h10 hkw
    · exact hbad w.heap.size q p _ W' hbd rfl (Nat.le_refl _) hdd hkw

/-- How a range over the iterator ends, and what is asked behind it: no round gives up. -/
theorem wp_range {m : Nat} {g : Operand} {pt : Tmp} {assign body : Code} {Q : Exit → Act → World → Prop} {a : Act} {w : World} {fb : Nat} {s : ByteArray} {i n : Nat} {Bad : Nat → Nat → World → Prop} {I : Option (List Nat) → Nat → (Nat → Prop) → World → Prop} {F0 : Nat → Prop}
    (hg : a.eval g = .func (.func 114) #[] #[.pointer (some ⟨fb, 0, none⟩)]) (he : Enters 114) (hf : Rd w fb s i n) (hI : I (some []) i F0 w) (hw : Walks Tryz.prog m s n pt Bad a.tmps assign body I) (hb : ∀ q p W, ¬ Bad q p W)
    (hdone : ∀ D j F' W', insM s n i = .ok j → I none j F' W' → w.heap.size ≤ D → W'.heap[D]? = some (.deferred (some [])) → Kept F0 w W' → Q .normal { a with defers := { target := .collected D, args := #[] } :: a.defers } W')
    (hstop : ∀ D (q p : Nat) chain W', insM s n i = .error (q, p) → Ending.panicked chain = gaveUp q p → w.heap.size ≤ D → W'.heap[D]? = some (.deferred (some [])) → Kept F0 w W' → Q (.panic chain) { a with defers := { target := .collected D, args := #[] } :: a.defers } W') :
    (Code.rangeFunc g #[pt] assign body).wpIn Fence.wide (m + 2) Tryz.prog Q a w := by
  refine wpIn_rangeFunc ?_
  intro fn _
  obtain ⟨l, mark, w1, d, w1', f, args, w2, h1, h2, h3, h4⟩ := range_enters (Q := Q) fn hg he hf hI hw (.inr hb) hdone hstop (fun _ _ _ _ _ c => absurd c (hb _ _ _))
  refine ⟨l, mark, w1, d, w1', f, args, w2, h1, h2, fun _ _ => trivial, h3, fun h => by simp [Fence.wide] at h, h4.mono ?_⟩
  intro e w3 hh
  cases e with
  | returned v => obtain ⟨w4, ha, hb⟩ := hh; exact ⟨none, w4, ha, hb⟩
  | panicked chain => exact hh
  | outgrown => exact hh.elim

section
variable {F : Fence} {n : Nat} {P : Program}

/-- A code's walk, of frames of one function alone. -/
def wpAt (f0 : FuncId) (F : Fence) (n : Nat) (P : Program) (c : Code) (Q : Exit → Act → World → Prop) (a : Act) (w : World) : Prop :=
  ∀ (b : Frame) (k : List Item) (cs : List Frame), b.fn = f0 → b.roundOf = F.round → F.fn b.fn → F.room (cs.length + 1 + n) →
    ∃ e a' w', Q e a' w' ∧ ArrivesIn (Machine.fenced P F) P (lone (b.atR a (.code c :: k)) cs w) b k cs e a' w'

theorem wpAt_of {f0 : FuncId} {c : Code} {Q : Exit → Act → World → Prop} {a : Act} {w : World} (h : c.wpIn F n P Q a w) : wpAt f0 F n P c Q a w := fun b k cs _ => h b k cs

theorem wpAt_then {f0 : FuncId} {x y : Code} {Q : Exit → Act → World → Prop} {a : Act} {w : World} (h : x.wpIn F n P (Exit.then (wpAt f0 F n P y Q) Q) a w) : wpAt f0 F n P (.seq x y) Q a w := by
  intro b k cs hf hro hb hr
  obtain ⟨e, a1, w1, hq, harr⟩ := h b (.code y :: k) cs hro hb hr
  have h0 : (lone (b.atR a (.code (.seq x y) :: k)) cs w).fenced P F := fenced_calm hb hr rfl
  by_cases he : e = .normal
  · subst he
    obtain ⟨e2, a2, w2, hq2, harr2⟩ := hq b k cs hf hro hb hr
    exact ⟨e2, a2, w2, hq2, .of_steps (.head h0 stepR_seq harr) harr2⟩
  · refine ⟨e, a1, w1, ?_, .of_steps (.one h0 stepR_seq) (.pass (x := .code y) rfl (fun _ _ => .inl he) harr)⟩
    cases e <;> first | exact absurd rfl he | exact hq

theorem callsIn_at {f : FuncId} {fn : Func} {c : Code} {args : Array Value} {w : World} {R : Ending → World → Prop}
    (hf : P.funcs[f]? = some fn) (hb : fn.body = some c) (hF : F.fn f)
    (h : wpAt f F n P c (bodyPostM F n P fn R) { tmps := args ++ Array.replicate (fn.ntmps - args.size) undef, defers := [] } w) (hno : ∀ w, ¬ R .outgrown w) (hro : F.round = none := by rfl) : CallsIn F n P f args w R := by
  refine ⟨hF, fun cs hr => ?_⟩
  obtain ⟨b, hbd⟩ : ∃ b : Frame, b = { (default : Frame) with fn := f, kind := .normal, roundOf := none } := ⟨_, rfl⟩
  have h1 : b.fn = f := by rw [hbd]
  have h2 : b.roundOf = none := by rw [hbd]
  have h3 : b.kind = .normal := by rw [hbd]
  have henter : Frame.enter P f args .normal = b.atR { tmps := args ++ Array.replicate (fn.ntmps - args.size) undef, defers := [] } [.code c] := by
    simp [Frame.enter, Frame.atR, hf, hb, hbd]
  have hFb : F.fn b.fn := by rw [h1]; exact hF
  have hfb : P.funcs[b.fn]? = some fn := by rw [h1]; exact hf
  obtain ⟨e, a', w', hq, harr⟩ := h b [] cs h1 (h2.trans hro.symm) hFb hr
  rw [← henter] at harr
  have key : ∀ (u : FrameMode) (todo : List Item), StepsIn (Machine.fenced P F) P (lone (Frame.enter P f args .normal) cs w) (lone { b.atR a' todo with mode := u } cs w') → LeavesInM F n P fn a'.tmps R a'.defers u w' →
      ∃ e w'' fr, R e w'' ∧ ComesIn (Machine.fenced P F) P (lone (Frame.enter P f args .normal) cs w) (lone fr cs w'') e ∧ fr.fn = f ∧ fr.leaving P w'' e := by
    intro u todo hs hl
    obtain ⟨e', w'', fr', hR, hs', hfn', hl'⟩ := leaves_stepsInM a'.defers u w' { b.atR a' todo with mode := u } cs rfl rfl rfl hfb h3 hFb hr hl
    exact ⟨e', w'', fr', hR, ComesIn.of_steps hs hs', hfn'.trans h1, hl'⟩
  cases e with
  | normal => exact key .returning [] (StepsIn.trans harr (.one (fenced_calm (fr := b.atR a' []) hFb hr rfl) (stepR_end h2))) hq
  | ret =>
    obtain ⟨todo, hs⟩ := harr.1 h2
    exact key _ todo hs hq
  | panic chain =>
    obtain ⟨todo, hs⟩ := harr
    exact key _ todo hs hq
  | exit id => exact hq.elim
  | goto l => exact hq.elim
  | outgrown => exact absurd hq (hno _)
end

/-- The same where a round may give up: at frames of a function that the program has. -/
theorem wpAt_range {f0 : FuncId} {m : Nat} {g : Operand} {pt : Tmp} {assign body : Code} {Q : Exit → Act → World → Prop} {a : Act} {w : World} {fb : Nat} {s : ByteArray} {i n : Nat} {Bad : Nat → Nat → World → Prop} {I : Option (List Nat) → Nat → (Nat → Prop) → World → Prop} {F0 : Nat → Prop}
    (hfn : ∃ fx, Tryz.prog.funcs[f0]? = some fx)
    (hg : a.eval g = .func (.func 114) #[] #[.pointer (some ⟨fb, 0, none⟩)]) (he : Enters 114) (hf : Rd w fb s i n) (hI : I (some []) i F0 w) (hw : Walks Tryz.prog m s n pt Bad a.tmps assign body I)
    (hdone : ∀ D j F' W', insM s n i = .ok j → I none j F' W' → w.heap.size ≤ D → W'.heap[D]? = some (.deferred (some [])) → Kept F0 w W' → Q .normal { a with defers := { target := .collected D, args := #[] } :: a.defers } W')
    (hstop : ∀ D (q p : Nat) chain W', insM s n i = .error (q, p) → Ending.panicked chain = gaveUp q p → w.heap.size ≤ D → W'.heap[D]? = some (.deferred (some [])) → Kept F0 w W' → Q (.panic chain) { a with defers := { target := .collected D, args := #[] } :: a.defers } W')
    (hbad : ∀ D (q p : Nat) chain W', Bad q p W' → Ending.panicked chain = gaveUp q p → w.heap.size ≤ D → W'.heap[D]? = some (.deferred (some [])) → Kept F0 w W' → Q (.panic chain) { a with defers := { target := .collected D, args := #[] } :: a.defers } W') :
    wpAt f0 Fence.wide (m + 2) Tryz.prog (Code.rangeFunc g #[pt] assign body) Q a w := by
  intro b k cs hbf hro hb hr
  obtain ⟨l, mark, w₁, d, w₁', f, args, w₂, h1, hres, hinv, -, hcall⟩ := range_enters (Q := Q) f0 hg he hf hI hw (.inl hfn) hdone hstop hbad
  rw [← hbf, ← hro] at h1
  have henter := stepR_rangeFunc (P := Tryz.prog) (b := b) (a := a) (k := k) (cs := cs) (w := w) h1 hres hinv
  have h0 : (lone (b.atR a (.code (.rangeFunc g #[pt] assign body) :: k)) cs w).fenced Tryz.prog Fence.wide := fenced_lone (.inl trivial) (fun _ _ => trivial) (Fence.room_le hr (by omega))
  obtain ⟨e, w₃, fr, hR, hsteps, hfn', hleave⟩ := hcall (b.atR { a with defers := mark ++ a.defers } (.inRangeFunc l :: k) :: cs) (room_wide _)
  cases e with
  | outgrown => exact hR.elim
  | returned v =>
    obtain ⟨w₄, hend, hq⟩ := hR
    have hl : (lone fr (b.atR { a with defers := mark ++ a.defers } (.inRangeFunc l :: k) :: cs) w₃).fenced Tryz.prog Fence.wide := fenced_leaving (n := 0) trivial (room_wide _) hleave
    refine ⟨.normal, _, w₄, hq, ?_⟩
    refine .head h0 henter (StepsIn.trans hsteps (.head hl ?_ (.one (fenced_calm (fr := b.atR { a with defers := mark ++ a.defers } (.endRangeFunc l :: k)) hb hr rfl) (stepR_endRangeFunc hend))))
    rw [← finish_atR_inRangeFunc l v]
    exact step_leave_returned hleave
  | panicked chain =>
    have hl : (lone fr (b.atR { a with defers := mark ++ a.defers } (.inRangeFunc l :: k) :: cs) w₃).fenced Tryz.prog Fence.wide := fenced_leaving (n := 0) trivial (room_wide _) hleave
    refine ⟨.panic chain, _, w₃, hR, .inRangeFunc l :: k, .head h0 henter (StepsIn.trans hsteps (.one hl ?_))⟩
    rw [← Frame.raise_atR]
    exact step_leave_panicked hleave

end Go.Proofs.YtgkpkngchploiaaGreat
/-
  The reader's Within, over whatever takes what is within.
-/
namespace Go.Proofs.YtgkpkngchploiaaGreat
open Go.RowKit

def withinM {α : Type} (tM : ByteArray → Nat → Nat → Except Err (α × Nat)) (s : ByteArray) (n i : Nat) : Except Err (α × Nat) :=
  match uM s n i with
  | .error e => .error e
  | .ok ((v, _), j) =>
    if (n : Int) - (j : Int) < v then
      match tM s n j with
      | .error e => .error e
      | .ok (_, j2) => .error (2, j2)
    else
      match tM s (j + v.toNat) j with
      | .error e => .error e
      | .ok (x, j2) => if j2 < j + v.toNat then .error (2, j2) else .ok (x, j2)

section
variable {α : Type} {tM : ByteArray → Nat → Nat → Except Err (α × Nat)} {s : ByteArray} {n i j a j2 : Nat} {v : Int} {x : α} {e : Err}
theorem withinM_short_err (ho : uM s n i = .ok ((v, a), j)) (hs : (n : Int) - (j : Int) < v) (ht : tM s n j = .error e) : withinM tM s n i = .error e := by simp [withinM, ho, hs, ht]
theorem withinM_short_ok (ho : uM s n i = .ok ((v, a), j)) (hs : (n : Int) - (j : Int) < v) (ht : tM s n j = .ok (x, j2)) : withinM tM s n i = .error (2, j2) := by simp [withinM, ho, hs, ht]
theorem withinM_err (ho : uM s n i = .ok ((v, a), j)) (hs : ¬ (n : Int) - (j : Int) < v) (ht : tM s (j + v.toNat) j = .error e) : withinM tM s n i = .error e := by simp [withinM, ho, hs, ht]
theorem withinM_rest (ho : uM s n i = .ok ((v, a), j)) (hs : ¬ (n : Int) - (j : Int) < v) (ht : tM s (j + v.toNat) j = .ok (x, j2)) (hd : j2 < j + v.toNat) : withinM tM s n i = .error (2, j2) := by simp [withinM, ho, hs, ht, hd]
theorem withinM_ok (ho : uM s n i = .ok ((v, a), j)) (hs : ¬ (n : Int) - (j : Int) < v) (ht : tM s (j + v.toNat) j = .ok (x, j2)) (hd : ¬ j2 < j + v.toNat) : withinM tM s n i = .ok (x, j2) := by simp [withinM, ho, hs, ht, hd]
end

theorem Rd.ends {w : World} {b : Nat} {s : ByteArray} {i n : Nat} (h : Rd w b s i n) (n' : Nat) (hi : i ≤ n') (hs : n' ≤ s.size) {z : Int} (hz : z = (n' : Int)) : Rd (w.setCell ⟨b, 2, none⟩ (.int .i64 z)) b s i n' := by
  subst hz
  refine ⟨?_, ?_, World.cell?_setCell_same _ _ _ h.c2, by simp [h.f0], by simp [h.f1], by simp [h.f2], hi, hs, h.sz⟩
  · rw [World.cell?_setCell_other _ _ _ _ (by simp)]; exact h.c0
  · rw [World.cell?_setCell_other _ _ _ _ (by simp)]; exact h.c1

/-- Nothing comes back; what is told holds. -/
def isDone {α : Type} (Post : α → World → Prop) (x : α) (w : World) (v : Value) : Prop := v = .tuple #[] ∧ Post x w

set_option maxRecDepth 100000 in
set_option maxHeartbeats 1600000 in
theorem within_any {α : Type} {S : Nat → Prop} {w : World} {b : Nat} {s : ByteArray} {i n K : Nat} {cap : Array Value} (tM : ByteArray → Nat → Nat → Except Err (α × Nat)) (Pre : World → Prop) (Post : α → World → Prop)
    (h : Rd w b s i n) (hpre : Pre w) (hc : Enters K) (hS : S b) (hPre : ∀ W W', Pre W → Kept (only b) W W' → Pre W') (hPost : ∀ x W W', Post x W → Kept (only b) W W' → Post x W')
    (ht : ∀ W j n', Rd W b s j n' → Pre W → w.heap.size ≤ W.heap.size → Calls Tryz.prog K cap W (OutS S W b s n' (isDone Post) (tM s n' j))) :
    Calls Tryz.prog 31 #[.pointer (some ⟨b, 0, none⟩), .func (.func K) #[] cap] w (OutS S w b s n (isDone Post) (withinM tM s n i)) := by
  have hcl : ∀ (args : Array Value) (w : World), (callFunc K args).run Tryz.prog w = .ok (.enter K args) w := hc
  have hnot : ∀ (x : Bool) (w : World), (Op.unary .not (.bool x)).run Tryz.prog w = .ok (.bool (!x)) w := fun _ _ => rfl
  have hfld := field_num0
  have HT := hide ht
  have HPre := hide hPre
  have HPost := hide hPost
  have HP := hide hpre
  clear ht hPre hPost hpre
  have hob : ∀ (W W' : World), Kept (only b) W W' → Kept S W W' := fun W W' hk => hk.mono (fun k _ (e : k = b) => e ▸ hS)
  have HOb := hide hob
  clear hob
  go_enter Tryz.func31, Tryz.ntmps31
  go_wp2_with fail
  refine (u_any h).mono ?_
  rintro e w1 ⟨hk1, hok, herr⟩
  cases ho : uM s n i with
  | error qp =>
    obtain ⟨q, p⟩ := qp
    have he := herr _ _ ho
    subst he
    exact ⟨rfl, OutS.err_mk (by simp [withinM, ho]) (HOb.out _ _ hk1)⟩
  | ok xj =>
    obtain ⟨⟨v, a⟩, j⟩ := xj
    obtain ⟨u, rfl, hv, hrd⟩ := hok _ _ ho
    have hv : u = .agg #[.int .u32 v, .int .i64 (a : Nat)] := hv
    subst hv
    obtain ⟨v0, v1, -, -, -⟩ := uM_facts ho
    have HO := hide ho
    clear hok herr ho
    have hrd' := hrd
    obtain ⟨z0, z1, z2, g0, g1, g2, hle, hbig, hsz⟩ := hrd
    have hsz1 := hk1.size
    by_cases hshort : (n : Int) - (j : Int) < v
    · have t1 : decide ((n : Int) - (j : Int) < v) = true := by simpa using hshort
      have HS := hide hshort
      clear hshort
      go_wp2_with fail
      refine (HT.out _ j n hrd' (HPre.out _ _ HP.out hk1) hsz1).mono ?_
      rintro e w2 ⟨hk2, hok, herr⟩
      have hk02 := (HOb.out _ _ hk1).trans hk2
      cases ho : tM s n j with
      | error qp =>
        obtain ⟨q, p⟩ := qp
        have he := herr _ _ ho
        subst he
        exact ⟨rfl, OutS.err_mk (withinM_short_err HO.out HS.out ho) hk02⟩
      | ok xj =>
        obtain ⟨x, j2⟩ := xj
        obtain ⟨u, rfl, ⟨rfl, hpo⟩, hrd2⟩ := hok _ _ ho
        have HO2 := hide ho
        have HPo := hide hpo
        clear hok herr ho hpo z0 z1 z2 g0 g1 g2
        obtain ⟨z0, z1, z2, g0, g1, g2, -, -, -⟩ := hrd2
        go_wp2_with fail
        refine (refuse_any _ _).mono ?_
        rintro e w3 ⟨rfl, rfl⟩
        exact ⟨rfl, OutS.err_mk (withinM_short_ok HO.out HS.out HO2.out) hk02⟩
    · have t1 : decide ((n : Int) - (j : Int) < v) = false := by simpa using hshort
      have hv2 : (j : Int) + v = ((j + v.toNat : Nat) : Int) := by omega
      have HV := hide hv2
      have HS := hide hshort
      have hvn : j + v.toNat ≤ n := by omega
      clear hv2 hshort
      go_wp2_with fail
      refine (HT.out _ j (j + v.toNat) (hrd'.ends (j + v.toNat) (by omega) (by omega) HV.out) (HPre.out _ _ (HPre.out _ _ HP.out hk1) ((Kept.refl _ _).own _)) (by simpa using hsz1)).mono ?_
      rintro e w2 ⟨hk2, hok, herr⟩
      have hk02 := ((HOb.out _ _ hk1).trans (HOb.out _ _ ((Kept.refl _ _).own (o := 2) (.int .i64 ((j : Int) + v))))).trans hk2
      cases ho : tM s (j + v.toNat) j with
      | error qp =>
        obtain ⟨q, p⟩ := qp
        have he := herr _ _ ho
        subst he
        exact ⟨rfl, OutS.err_mk (withinM_err HO.out (by have := HS.out; omega) ho) hk02⟩
      | ok xj =>
        obtain ⟨x, j2⟩ := xj
        obtain ⟨u, rfl, ⟨rfl, hpo⟩, hrd2⟩ := hok _ _ ho
        have HO2 := hide ho
        have HPo := hide hpo
        clear hok herr ho hpo z0 z1 z2 g0 g1 g2
        go_wp2_with fail
        refine (done_any hrd2).mono ?_
        rintro e w3 ⟨rfl, k3, rfl⟩
        have hrd3 := hrd2.drewN k3
        obtain ⟨z0, z1, z2, g0, g1, g2, hle2, -, -⟩ := hrd3
        by_cases hd : j2 < j + v.toNat
        · have t2 : decide (j + v.toNat ≤ j2) = false := by simp; omega
          have HD := hide hd
          go_wp2_with fail
          refine (refuse_any _ _).mono ?_
          rintro e w4 ⟨rfl, rfl⟩
          exact ⟨rfl, OutS.err_mk (withinM_rest HO.out (by have := HS.out; omega) HO2.out HD.out) (hk02.drewN _)⟩
        · have t2 : decide (j + v.toNat ≤ j2) = true := by simp; omega
          have HD := hide hd
          go_wp2
          go_end0
          refine OutS.ok_mk (x := x) (j := j2) (withinM_ok HO.out (by have := HS.out; omega) HO2.out (by have := HD.out; omega)) ((hk02.drewN _).trans (HOb.out _ _ ((Kept.refl _ _).own _))) ⟨rfl, HPost.out _ _ _ (HPost.out _ _ _ HPo.out ((Kept.refl _ _).drewN _)) ((Kept.refl _ _).own _)⟩ ((hrd2.drewN _).ends n (by omega) hbig rfl)

end Go.Proofs.YtgkpkngchploiaaGreat
/-
  Instructions; a code's instructions gone through where it is read.
-/
namespace Go.Proofs.YtgkpkngchploiaaGreat
open Go.RowKit

set_option maxHeartbeats 400000 in
theorem instructions_any (s : ByteArray) (i n : Int) (w : World) :
    Calls Tryz.prog 101 #[.agg #[.string s, .int .i64 i, .int .i64 n]] w fun e w' => e = .returned (.func (.func 114) #[] #[.pointer (some ⟨w.heap.size, 0, none⟩)]) ∧ w' = w.alloc (.cells #[.string s, .int .i64 i, .int .i64 n] 39) := by
  have hmf : ∀ (fn : Fn) (first cap : Array Value) (w : World), (Instr.makeFunc fn first cap).run Tryz.prog w = .ok (.func fn first cap) w := fun _ _ _ _ => rfl
  go_enter Tryz.func101, Tryz.ntmps101
  go_wp2
  go_ret
  exact ⟨rfl, rfl⟩

/-- The iterator over a code's instructions: a reader at the first one, in a block of its own. -/
def isIter (ok : Nat → Prop) (s : ByteArray) (i n : Nat) (w : World) (v : Value) : Prop :=
  ∃ fb, v = .func (.func 114) #[] #[.pointer (some ⟨fb, 0, none⟩)] ∧ ok fb ∧ w.heap[fb]? = some (.cells #[.string s, .int .i64 (i : Nat), .int .i64 (n : Nat)] 39)

section
variable {ok ok' S : Nat → Prop} {s : ByteArray} {i n : Nat} {w w' : World} {v : Value}

theorem isIter.kept (h : isIter ok s i n w v) (hk : Kept S w w') (hs : ∀ g, g < w.heap.size → ok g → ¬ S g) : isIter ok s i n w' v := by
  obtain ⟨fb, h1, h2, h3⟩ := h
  have hl : fb < w.heap.size := (Array.getElem?_eq_some_iff.1 h3).1
  exact ⟨fb, h1, h2, (hk.block fb hl (hs fb hl h2)).trans h3⟩

theorem isIter.mono (h : isIter ok s i n w v) (hm : ∀ g, g < w.heap.size → ok g → ok' g) : isIter ok' s i n w v := by
  obtain ⟨fb, h1, h2, h3⟩ := h
  exact ⟨fb, h1, hm fb (Array.getElem?_eq_some_iff.1 h3).1 h2, h3⟩

theorem isIter.grown {E : TypeId} {size k B : Nat} {u : Value} {xs : List Value} (h : isIter ok s i n w v) (ho : w.ownsRow B E size u k xs) (hE : 39 ≠ E) (hg : w.grownBy w' u.ownBlock) : isIter ok s i n w' v := by
  obtain ⟨fb, h1, h2, h3⟩ := h
  have hl : fb < w.heap.size := (Array.getElem?_eq_some_iff.1 h3).1
  refine ⟨fb, h1, h2, (hg.block fb hl ?_).trans h3⟩
  intro e
  rcases ho.2 with ⟨rfl, _⟩ | ⟨g2, cap2, cur2, rfl, _, hg2, _⟩
  · simp [Value.ownBlock] at e
  · simp [Value.ownBlock] at e
    subst e
    rw [h3] at hg2
    simp at hg2
    exact hE hg2.2

theorem rd_of_heap {fb : Nat} (h : w.heap[fb]? = some (.cells #[.string s, .int .i64 (i : Nat), .int .i64 (n : Nat)] 39)) (h1 : i ≤ n) (h2 : n ≤ s.size) (h3 : s.size ≤ 5000) : Rd w fb s i n := by
  have c : ∀ k, w.frozen? ⟨fb, k, none⟩ = false := fun k => by simp [World.frozen?, h]
  exact ⟨by simp [World.cell?, h], by simp [World.cell?, h], by simp [World.cell?, h], c 0, c 1, c 2, h1, h2, h3⟩
end

/-- What is within a code: its locals, where its instructions begin, and the end that was told. -/
def codeInM (s : ByteArray) (n i : Nat) : Except Err ((List Nat × Nat × Nat) × Nat) :=
  match localsM s n i with
  | .error e => .error e
  | .ok (ls, j) =>
    match insM s n j with
    | .error e => .error e
    | .ok e => .ok ((ls, j, n), e)

/-- The variable c of takeCode, when it is filled. -/
def isCodeVar (ok : Nat → Prop) (s : ByteArray) (b cb : Nat) (x : List Nat × Nat × Nat) (w : World) : Prop :=
  ∃ lv fv, OB w b cb [lv, fv] ∧ isKinds ok x.1 w lv ∧ isIter ok s x.2.1 x.2.2 w fv

theorem enters_iter : Enters 114 := enters_of Tryz.func114 (by kernel_rfl) (by kernel_rfl)

attribute [local go_sem] Oper.semAt_some

/-- Three blocks. -/
def three (b c d : Nat) : Nat → Prop := fun k => k = b ∨ k = c ∨ k = d

/-- Who reads a code: its reader stands behind the last instruction. -/
def readsI (s : ByteArray) (n b rb : Nat) (_ : Option (List Nat)) (j : Nat) (F : Nat → Prop) (W : World) : Prop :=
  (∀ k, F k ↔ k = b ∨ k = rb) ∧ Rd W b s j n ∧ OB W b rb [.pointer (some ⟨b, 0, none⟩)]

set_option maxRecDepth 100000 in
set_option maxHeartbeats 3200000 in
theorem takeCodeIn_any {w : World} {b rb cb : Nat} {s : ByteArray} {i n : Nat} {c0 c1 : Value} (h : Rd w b s i n) (hr : OB w b rb [.pointer (some ⟨b, 0, none⟩)]) (hc : OB w b cb [c0, c1]) (hrc : rb ≠ cb) :
    Calls Tryz.prog 99 #[.pointer (some ⟨rb, 0, none⟩), .pointer (some ⟨cb, 0, none⟩)] w (OutS (three b cb rb) w b s n (isDone (isCodeVar (fun g => w.heap.size ≤ g) s b cb)) (codeInM s n i)) := by
  refine (callsIn_wide (n := 10)).1 ?_
  obtain ⟨q0, q1⟩ := hr.blk 0 (by simp)
  simp at q0
  refine callsIn_of_wp_marks Tryz.func99 rfl trivial ?_ rfl
  simp only [Tryz.ntmps99, List.size_toArray, List.length_cons, List.length_nil, Nat.reduceAdd, Nat.reduceSub, Array.replicate_succ, Array.replicate_zero, List.push_toArray, List.append_toArray, List.nil_append, List.cons_append]
  gi_wp2_with fail
  refine ⟨trivial, (callsIn_wide.2 (takeLocals_any h)).mono ?_⟩
  rintro e w1 ⟨hx1, hok, herr⟩
  have hk1 : Kept (three b cb rb) w w1 := hx1.mono (fun k _ (e : k = b) => .inl e)
  have own3 : ∀ {W : World} {o : Nat} (u : Value), Kept (three b cb rb) w W → Kept (three b cb rb) w (W.setCell ⟨cb, o, none⟩ u) := fun u hk => hk.setCell (p := ⟨cb, _, none⟩) (fun _ => .inr (.inl rfl)) u
  cases ho : localsM s n i with
  | error qp =>
    obtain ⟨q, p⟩ := qp
    have he := herr _ _ ho
    subst he
    exact OutS.err_mk (by simp [codeInM, ho]) hk1
  | ok xj =>
    obtain ⟨ls, j⟩ := xj
    obtain ⟨u, rfl, hv, hrd⟩ := hok _ _ ho
    obtain ⟨pl, cl, rfl⟩ := Row.shape hv
    have oc1 := hc.call hx1
    have or1 := hr.call hx1
    obtain ⟨⟨C0, D0⟩, ⟨C1, D1⟩⟩ := oc1.blk.two
    obtain ⟨q0, q1⟩ := or1.blk 0 (by simp)
    simp at q0
    have hrd' := hrd
    obtain ⟨z0, z1, z2, -, -, -, hle, hbig, hsz⟩ := hrd
    have hne := hc.ne
    have hsz1 := hx1.size
    have hcw := hc.lt
    have HO := hide ho
    have HV := hide hv
    have hbw := h.lt
    clear hok herr ho hv hx1
    gi_wp2_with fail
    refine ⟨trivial, (callsIn_wide.2 (instructions_any _ _ _ _)).mono ?_⟩
    rintro e w2 ⟨rfl, rfl⟩
    have hcr : cb ≠ rb := fun e => hrc e.symm
    have hcw1 : cb < w1.heap.size := oc1.lt
    have e0 : ((w1.setCell ⟨cb, 0, none⟩ (.slice pl ls.length cl)).setCell ⟨cb, 1, none⟩ (.func (.func 114) #[] #[.pointer (some ⟨w1.heap.size, 0, none⟩)])).heap.size = w1.heap.size := by simp
    have hit2 : (((w1.setCell ⟨cb, 0, none⟩ (.slice pl ls.length cl)).setCell ⟨cb, 1, none⟩ (.func (.func 114) #[] #[.pointer (some ⟨w1.heap.size, 0, none⟩)])).alloc (.cells #[.string s, .int .i64 (j : Nat), .int .i64 (n : Nat)] 39)).heap[w1.heap.size]? = some (.cells #[.string s, .int .i64 (j : Nat), .int .i64 (n : Nat)] 39) := by
      have q := World.alloc_heap_new ((w1.setCell ⟨cb, 0, none⟩ (.slice pl ls.length cl)).setCell ⟨cb, 1, none⟩ (.func (.func 114) #[] #[.pointer (some ⟨w1.heap.size, 0, none⟩)])) (.cells #[.string s, .int .i64 (j : Nat), .int .i64 (n : Nat)] 39)
      rwa [e0] at q
    have oc2 := ((oc1.set 0 (.slice pl ls.length cl)).set 1 (.func (.func 114) #[] #[.pointer (some ⟨w1.heap.size, 0, none⟩)])).alloc (.cells #[.string s, .int .i64 (j : Nat), .int .i64 (n : Nat)] 39)
    have or2 := ((or1.other (o := 0) hcr (.slice pl ls.length cl)).other (o := 1) hcr (.func (.func 114) #[] #[.pointer (some ⟨w1.heap.size, 0, none⟩)])).alloc (.cells #[.string s, .int .i64 (j : Nat), .int .i64 (n : Nat)] 39)
    have hrd2 := ((hrd'.set_other (o := 0) hne (.slice pl ls.length cl)).set_other (o := 1) hne (.func (.func 114) #[] #[.pointer (some ⟨w1.heap.size, 0, none⟩)])).alloc (.cells #[.string s, .int .i64 (j : Nat), .int .i64 (n : Nat)] 39)
    have hk2 := (own3 (o := 1) (.func (.func 114) #[] #[.pointer (some ⟨w1.heap.size, 0, none⟩)]) (own3 (o := 0) (.slice pl ls.length cl) hk1)).alloc (.cells #[.string s, .int .i64 (j : Nat), .int .i64 (n : Nat)] 39)
    have hrow2 := Row.alloc (Row.other (Row.other HV.out (g := cb) (o := 0) (fun k hk => by omega) (.slice pl ls.length cl)) (g := cb) (o := 1) (fun k hk => by omega) (.func (.func 114) #[] #[.pointer (some ⟨w1.heap.size, 0, none⟩)])) (.cells #[.string s, .int .i64 (j : Nat), .int .i64 (n : Nat)] 39)
    have HC2 := hide oc2
    have HR2 := hide or2
    have HD2 := hide hrd2
    have HK2 := hide hk2
    have HW2 := hide hrow2
    have HIT := hide hit2
    clear oc2 or2 hrd2 hk2 hrow2 hit2 e0
    gi_wp2
    refine wp_range (m := 8) (fb := w1.heap.size) (s := s) (i := j) (n := n) (Bad := fun _ _ _ => False) (I := readsI s n b rb) (F0 := fun k => k = b ∨ k = rb) (by rfl) enters_iter ?hf ⟨fun _ => Iff.rfl, HD2.out, HR2.out⟩ ?hw (fun _ _ _ hh => hh) ?hdone ?hstop
    case hf => exact rd_of_heap HIT.out hle hbig hsz
    case hdone =>
      intro D j2 F' W' hins hI' hD hdef hkw
      have hD0 : w.heap.size ≤ D := by have := HK2.out.size; omega
      have hlf := (Array.getElem?_eq_some_iff.1 HIT.out).1
      have hkw3 : Kept (three b cb rb) w (W'.putObj D (.deferred none)) := (HK2.out.trans (hkw.mono (fun k _ hk => hk.elim .inl (fun e => .inr (.inr e))))).fresh Kept.putObj (fun k hk (e : k = D) => by omega)
      have hDo : ∀ k, k < w.heap.size → ¬ only D k := fun k hk (e : k = D) => by omega
      have hit0 : isIter (fun g => w.heap.size ≤ g ∧ g < D) s j n _ (.func (.func 114) #[] #[.pointer (some ⟨w1.heap.size, 0, none⟩)]) := ⟨w1.heap.size, rfl, ⟨hsz1, by omega⟩, HIT.out⟩
      refine ⟨by simp, .inl ⟨D, _, rfl, run_takeDeferred hdef, ?_⟩⟩
      refine ⟨_, results_none rfl _ _ _, OutS.ok_mk (x := (ls, j, n)) (j := j2) (by simp [codeInM, HO.out, hins]) hkw3 ⟨rfl, _, _, ((HC2.out.kept hkw ?_).kept Kept.putObj ?_), Row.mono (Row.kept (Row.kept (Row.mono HW2.out (ok' := fun g => w.heap.size ≤ g ∧ g < D) ?_) hkw ?_) Kept.putObj ?_) (fun g _ hg => hg.1), ((hit0.kept hkw ?_).kept Kept.putObj ?_).mono (fun g _ hg => hg.1)⟩ (hI'.2.1.kept Kept.putObj (hDo b hbw))⟩
      · exact fun hh => hh.elim hne (fun e => hcr e)
      · exact hDo cb hcw
      · exact fun g hg h0 => ⟨h0, Nat.lt_of_lt_of_le hg hD⟩
      · exact fun g _ hg hh => by have := hr.lt; omega
      · exact fun g _ hg (e : g = D) => by omega
      · exact fun g _ hg hh => by have := hr.lt; omega
      · exact fun g _ hg (e : g = D) => by omega
    case hstop =>
      intro D q p chain W' hins hch hD hdef hkw
      have hD0 : w.heap.size ≤ D := by have := HK2.out.size; omega
      have hkw3 : Kept (three b cb rb) w (W'.putObj D (.deferred none)) := (HK2.out.trans (hkw.mono (fun k _ hk => hk.elim .inl (fun e => .inr (.inr e))))).fresh Kept.putObj (fun k hk (e : k = D) => by omega)
      refine ⟨by simp, .inl ⟨D, _, rfl, run_takeDeferred hdef, ?_⟩⟩
      show OutS _ _ _ _ _ _ _ (Ending.panicked chain) _
      rw [hch]
      exact OutS.err_mk (by simp [codeInM, HO.out, hins]) hkw3
    case hw =>
      refine ⟨?_, ?_, ?_⟩
      · rintro os j F W W' S ⟨hF, hd, ho⟩ hk hs
        exact ⟨hF, hd.kept hk (fun c => hs b hd.lt c ((hF b).2 (.inl rfl))), ho.kept hk (fun c => hs rb ho.lt c ((hF rb).2 (.inr rfl)))⟩
      · rintro os j F W k ⟨hF, hd, ho⟩ hk
        rcases (hF k).1 hk with rfl | rfl
        · exact hd.lt
        · exact ho.lt
      · rintro l os o' jj F W ee x y gv lv hand ⟨hF, hd, ho⟩ he hj hos hl - - - hg hlv hh hFl hlW -
        obtain ⟨pg, cg, rfl⟩ := Row.shape hg
        obtain ⟨pq, cq, rfl⟩ := Row.shape hlv
        obtain ⟨p0, p1⟩ := ho.blk 0 (by simp)
        simp at p0
        have hrw := ho.lt
        have hbW := hd.lt
        have hlb : l ≠ b := fun e => hFl ((hF l).2 (.inl e))
        have hlr : l ≠ rb := fun e => hFl ((hF l).2 (.inr e))
        refine ⟨W.alloc (.cells #[.int .i64 (jj : Nat), .int .i64 (ee : Nat), .int .u8 (x : Nat), .bool y.typed, .slice pg y.gives.length cg, .int .u32 y.align, .int .u32 y.num.1, .int .i64 (y.num.2 : Nat), .slice pq y.labels.length cq, .int .i64 y.val] 100),
          { tmps := #[.pointer (some ⟨rb, 0, none⟩), .pointer (some ⟨cb, 0, none⟩), .pointer (some ⟨W.heap.size, 0, none⟩), .pointer (some ⟨b, 0, none⟩), .slice pl ls.length cl, .pointer (some ⟨cb, 0, none⟩), .pointer (some ⟨b, 0, none⟩), .pointer (some ⟨b, 0, none⟩),
              .agg #[.string s, .int .i64 (j : Nat), .int .i64 (n : Nat)], .func (.func 114) #[] #[.pointer (some ⟨w1.heap.size, 0, none⟩)], .pointer (some ⟨cb, 1, none⟩), .pointer (some ⟨cb, 1, none⟩), .func (.func 114) #[] #[.pointer (some ⟨w1.heap.size, 0, none⟩)],
              .agg #[.int .i64 (jj : Nat), .int .i64 (ee : Nat), .int .u8 (x : Nat), .bool y.typed, .slice pg y.gives.length cg, .int .u32 y.align, .int .u32 y.num.1, .int .i64 (y.num.2 : Nat), .slice pq y.labels.length cq, .int .i64 y.val], undef, undef, undef, undef], defers := [] }, fun K hK => ?_, (Kept.refl _ _).alloc _, fun W2 hk2 => ?_⟩
        · simp only [insCells]
          gi_wp2
          exact hK
        · have hb2 : Blk W2 W.heap.size [.int .i64 (jj : Nat), .int .i64 (ee : Nat), .int .u8 (x : Nat), .bool y.typed, .slice pg y.gives.length cg, .int .u32 y.align, .int .u32 y.num.1, .int .i64 (y.num.2 : Nat), .slice pq y.labels.length cq, .int .i64 y.val] := (Blk.new W #[.int .i64 (jj : Nat), .int .i64 (ee : Nat), .int .u8 (x : Nat), .bool y.typed, .slice pg y.gives.length cg, .int .u32 y.align, .int .u32 y.num.1, .int .i64 (y.num.2 : Nat), .slice pq y.labels.length cq, .int .i64 y.val] 100).kept hk2 (by simp) (fun (e : W.heap.size = l) => by omega)
          have hd2 := (hd.alloc (.cells #[.int .i64 (jj : Nat), .int .i64 (ee : Nat), .int .u8 (x : Nat), .bool y.typed, .slice pg y.gives.length cg, .int .u32 y.align, .int .u32 y.num.1, .int .i64 (y.num.2 : Nat), .slice pq y.labels.length cq, .int .i64 y.val] 100)).kept hk2 (fun (e : b = l) => hlb e.symm)
          have ho2 := (ho.alloc (.cells #[.int .i64 (jj : Nat), .int .i64 (ee : Nat), .int .u8 (x : Nat), .bool y.typed, .slice pg y.gives.length cg, .int .u32 y.align, .int .u32 y.num.1, .int .i64 (y.num.2 : Nat), .slice pq y.labels.length cq, .int .i64 y.val] 100)).kept hk2 (fun (e : rb = l) => hlr e.symm)
          obtain ⟨p0, p1⟩ := ho2.blk 0 (by simp)
          simp at p0
          obtain ⟨⟨I0, J0⟩, ⟨I1, J1⟩, ⟨I2, J2⟩, ⟨I3, J3⟩, ⟨I4, J4⟩, ⟨I5, J5⟩, ⟨I6, J6⟩, ⟨I7, J7⟩, ⟨I8, J8⟩, ⟨I9, J9⟩⟩ := hb2.ten
          gi_wp2_with fail
          refine ⟨trivial, (CallsIn.inRound l (callsIn_wide.2 (moveTo_any hd2 ee he))).mono ?_⟩
          rintro e W3 ⟨rfl, hd3, hk3⟩
          gi_wp2
          refine ⟨F, ⟨hF, hd3, ho2.kept hk3 (fun (e : rb = b) => ho.ne e)⟩, hk3.mono (fun k _ (e : k = b) => (hF k).2 (.inl e)), fun k hk => .inl hk⟩

end Go.Proofs.YtgkpkngchploiaaGreat
