import Derived.Test.YtkpfafehcmammaaGreatDoorA1
import Derived.Laws.BytesString
import Derived.MapKept
import Derived.Laws.MakeOwn
import Derived.Laws.AppendOwn
import Derived.Lib.UnsafeStr
namespace Go.Proofs.YtkpfafehcmammaaGreatDoor
open Go.Deep

section
variable {P : Program} {T : Tab} {e : Env} {X : Cx} {s : AS} {w : World} {a : Act} {g : G} {o : Oper} {K : KVS}

theorem len_ok (hR : Rel X s w) (hg : GR X g a) {args : Array Operand} {ts : Array TypeId} (ho : o.op = .call ⟨.builtin .len, args, ts⟩) (h : lLen args ts P T e s g K) : OpOK P o a X s w K := by
  obtain ⟨x, h1, h2⟩ := one1_ex h
  obtain ⟨t, h3, h4⟩ := one1_ex h2
  obtain ⟨v, h5, h6⟩ := opd_ex hR hg h4
  have e1 : args = #[x] := by apply Array.ext'; simpa using h1
  have e2 : ts = #[t] := by apply Array.ext'; simpa using h3
  subst e1; subst e2
  rcases vTxt_ex h5 with ⟨_, _, _, l, _, rfl, h7⟩ | h5
  · obtain ⟨h8, h9⟩ := yes_ex h7
    have h9 := nat_ex h9
    obtain ⟨bs, h10, h11⟩ := VR_txt.1 h6
    have hlen : bs.size = l.length := by have := h11.length; simpa using this
    exact .quiet hR h9 (u := .int .i64 l.length) (by simp [execOp, ho, resolve, invoke, builtin, Builtin.len_, underlying_run (tStr_un h8), h10, goInt, hlen]) rfl
  rcases vSeq_ex h5 with ⟨id, off, sz, len, cap, rfl, h7⟩ | ⟨n, c, rfl, h7⟩ | ⟨id, off, rfl, h7⟩ | ⟨q, rfl, h7⟩ | ⟨_, rfl, h7⟩ | ⟨_, _, _, _, _, _, rfl, h7⟩
  · obtain ⟨h8, h9⟩ := yes_ex h7
    obtain ⟨el, h10⟩ := tSlice_un h8
    obtain ⟨_, _, c, h11, _⟩ := VR_slice.1 h6
    exact .quiet hR h9 (u := .int .i64 len) (by simp [execOp, ho, resolve, invoke, builtin, Builtin.len_, underlying_run h10, h11, goInt]) rfl
  · obtain ⟨h8, h9⟩ := yes_ex h7
    obtain ⟨el, h10⟩ := tSlice_un h8
    obtain ⟨_, _, h11⟩ := VR_noSlice.1 h6
    exact .quiet hR h9 (u := .int .i64 0) (by simp [execOp, ho, resolve, invoke, builtin, Builtin.len_, underlying_run h10, h11, goInt]) rfl
  · exact h7.elim
  · obtain ⟨h8, h9⟩ := yes_ex h7
    have h9 := nat_ex h9
    rw [VR_string] at h6
    exact .quiet hR h9 (u := .int .i64 q.length) (by simp [execOp, ho, resolve, invoke, builtin, Builtin.len_, underlying_run (tStr_un h8), h6, goInt] <;> rfl) rfl
  · exact h7.elim
  · exact h7.elim

theorem cap_ok (hR : Rel X s w) (hg : GR X g a) {args : Array Operand} {ts : Array TypeId} (ho : o.op = .call ⟨.builtin .cap, args, ts⟩) (h : lCap args ts P T e s g K) : OpOK P o a X s w K := by
  obtain ⟨x, h1, h2⟩ := one1_ex h
  obtain ⟨t, h3, h4⟩ := one1_ex h2
  obtain ⟨v, h5, h6⟩ := opd_ex hR hg h4
  have e1 : args = #[x] := by apply Array.ext'; simpa using h1
  have e2 : ts = #[t] := by apply Array.ext'; simpa using h3
  subst e1; subst e2
  rcases vSeq_ex h5 with ⟨id, off, sz, len, cap, rfl, h7⟩ | ⟨n, c, rfl, h7⟩ | ⟨id, off, rfl, h7⟩ | ⟨q, rfl, h7⟩ | ⟨_, rfl, h7⟩ | ⟨_, _, _, _, _, _, rfl, h7⟩
  · obtain ⟨h8, h9⟩ := yes_ex h7
    obtain ⟨el, h10⟩ := tSlice_un h8
    cases cap with
    | zero => exact h9.elim
    | succ cap =>
      obtain ⟨_, _, c, h11, _, _, h12⟩ := VR_slice.1 h6
      have : cap = c := by have := h12 (by omega); omega
      subst this
      exact .quiet hR h9 (u := .int .i64 cap) (by simp [execOp, ho, resolve, invoke, builtin, Builtin.cap_, underlying_run h10, h11, goInt]) rfl
  · obtain ⟨h8, h9⟩ := yes_ex h7
    obtain ⟨el, h10⟩ := tSlice_un h8
    obtain ⟨_, _, h11⟩ := VR_noSlice.1 h6
    exact .quiet hR h9 (u := .int .i64 0) (by simp [execOp, ho, resolve, invoke, builtin, Builtin.cap_, underlying_run h10, h11, goInt]) rfl
  · exact h7.elim
  · exact h7.elim
  · exact h7.elim
  · exact h7.elim

theorem min_ok (hR : Rel X s w) (hg : GR X g a) {args : Array Operand} {ts : Array TypeId} (ho : o.op = .call ⟨.builtin .min, args, ts⟩) (h : lMin args P T e s g K) : OpOK P o a X s w K := by
  obtain ⟨x, y, h1, h2⟩ := two_ex h
  obtain ⟨v, h3, h4⟩ := opd_ex hR hg h2
  obtain ⟨v', h5, h6⟩ := opd_ex hR hg h3
  have e1 : args = #[x, y] := by apply Array.ext'; simpa using h1
  subst e1
  obtain ⟨k, n, rfl, h7⟩ := vInt_ex h5
  obtain ⟨k', n', rfl, h8⟩ := vInt_ex h7
  obtain ⟨h9, h10⟩ := yes_ex h8
  have := kno_inj h9
  subst this
  rw [VR_int] at h4 h6
  have hd : (execOp a.eval o).run P w = .ok (.value (.int k (if n' < n then n' else n))) w := by
    simp [execOp, ho, resolve, invoke, builtin, Builtin.min_, Builtin.min2, h4, h6]
  rcases ife_ex h10 with ⟨h11, h12⟩ | ⟨h11, h12⟩
  · rw [ilt_eq] at h11
    rw [if_pos (by simpa using h11)] at hd
    exact .quiet hR h12 hd rfl
  · rw [ilt_eq] at h11
    rw [if_neg (by simpa using h11)] at hd
    exact .quiet hR h12 hd rfl

/-! Bytes. -/
theorem byte1_ex {v : Value} {K : UInt8 → Prop} (h : byte1 v K) : ∃ n : Nat, v = .int .u8 (n : Int) ∧ n < 256 ∧ K (UInt8.ofNat n) := by
  obtain ⟨k, n, rfl, h1⟩ := vInt_ex h
  obtain ⟨h2, h3⟩ := yes_ex h1
  have := kno_inj h2
  subst this
  cases n with
  | ofNat n =>
    obtain ⟨h4, h5⟩ := yes_ex (b := Nat.blt n 256) h3
    exact ⟨n, rfl, blt_iff.1 h4, h5⟩
  | negSucc n => exact h3.elim

/-- A list of bytes, as values. -/
theorem bytes_ex : ∀ {l us : List Value} {K : List UInt8 → Prop}, VRl X l us → bytes l K → ∃ bs, K bs ∧ us = bs.map (fun b => Value.int .u8 b.toNat) := by
  intro l
  induction l with
  | nil => intro us K hl h; rw [VRl_nil] at hl; subst hl; exact ⟨[], h, rfl⟩
  | cons v l ih =>
    intro us K hl h
    obtain ⟨n, rfl, h1, h2⟩ := byte1_ex (K := fun b => bytes l (fun bs => K (b :: bs))) h
    obtain ⟨u, us, rfl, h3, h4⟩ := VRl_cons.1 hl
    obtain ⟨bs, h5, rfl⟩ := ih h4 h2
    rw [VR_int] at h3
    refine ⟨_, h5, ?_⟩
    subst h3
    simp only [List.map_cons, UInt8.toNat_ofNat']
    rw [Nat.mod_eq_of_lt h1]

theorem ofBs_ex : ∀ {l : List UInt8} {K : List Value → Prop}, ofBs l K → K (l.map (fun b => Value.int .u8 b.toNat)) := by
  intro l
  induction l with
  | nil => intro K h; exact h
  | cons b l ih =>
    intro K h
    have h1 := nat_ex (K := fun n => ofBs l (fun vs => K (.int .u8 (.ofNat n) :: vs))) h
    exact ih h1

end
end Go.Proofs.YtkpfafehcmammaaGreatDoor
namespace Go.Proofs.YtkpfafehcmammaaGreatDoor
open Go.Deep

section
variable {P : Program} {T : Tab} {e : Env} {X : Cx} {s : AS} {w : World} {a : Act} {g : G} {o : Oper} {K : KVS}

theorem tBytes_un {t : TypeId} (h : tBytes P t = true) : ∃ e, P.underlying t = some (.slice e) ∧ P.underlying e = some (.int .u8) := by
  unfold tBytes at h
  split at h
  · split at h
    · exact ⟨_, elemOf_un ‹_›, ‹_›⟩
    · cases h
  · cases h

theorem fold_push : ∀ (bs : List UInt8) (acc : ByteArray), (bs.map fun b => (b.toNat : Int)).foldl (fun r n => r.push (UInt8.ofNat n.toNat)) acc = ⟨⟨acc.data.toList ++ bs⟩⟩
  | [], acc => by simp
  | b :: bs, acc => by
    simp only [List.map_cons, List.foldl_cons, Int.toNat_natCast, UInt8.ofNat_toNat]
    rw [fold_push bs (acc.push b)]
    simp

theorem bytesV_ex (hT : TabOK P X.ρ T) : ∀ {l us : List Value}, VRl X l us → l.all (byteV T) = true → ∃ bs : List UInt8, us = bs.map fun b => .int .u8 b.toNat
  | [], us, h, _ => by rw [VRl_nil] at h; exact ⟨[], h⟩
  | v :: l, us, h, ha => by
    obtain ⟨u, us, rfl, h1, h2⟩ := VRl_cons.1 h
    simp only [List.all_cons, Bool.and_eq_true] at ha
    obtain ⟨bs, rfl⟩ := bytesV_ex hT h2 ha.2
    have key : ∃ m : Nat, m < 256 ∧ u = .int .u8 (m : Int) := by
      have hv := ha.1
      unfold byteV at hv
      split at hv
      · simp only [Bool.and_eq_true] at hv
        rw [VR_int] at h1
        rw [kno_inj hv.1] at h1
        have hv2 := hv.2
        split at hv2
        · exact ⟨_, blt_iff.1 hv2, h1⟩
        · cases hv2
      · rename_i k re i
        simp only [Bool.and_eq_true] at hv
        rw [VR_complex, Nat.eq_of_beq_eq_true hv.1] at h1
        have := hT.byte i hv.2
        exact ⟨(X.ρ i).toNat, by omega, by rw [h1, Int.toNat_of_nonneg this.1]; rfl⟩
      · cases hv
    obtain ⟨m, hm, rfl⟩ := key
    exact ⟨UInt8.ofNat m :: bs, by simp [Nat.mod_eq_of_lt hm]⟩

theorem strFrom_ex (hT : TabOK P X.ρ T) (hR : Rel X s w) {id off len c : Nat} {K : KV} (h : strFrom T s.h id off len K) :
    ∃ v bs, K v ∧ (Conv.bytesToString (.slice (some ⟨(X.j id).b, (X.j id).base + off, none⟩) len c)).run P w = .ok (.string ⟨⟨bs⟩⟩) w ∧ VR X v (.string ⟨⟨bs⟩⟩) := by
  obtain ⟨cb, h1, h2⟩ := getC_ex h
  obtain ⟨l, h3, h4, h5⟩ := cells_ex len h2
  have hc : CR X w (X.j id) cb := (hR.blk id _ h1).2
  obtain ⟨us, h6, h7⟩ := hc.cells (l := l) (i := off) (by rw [h3]; exact h4)
  have hlen : us.length = len := by rw [h6.length, h3]
  have hrun := loadCells_run (P := P) h7
  have key : ∀ bs : List UInt8, us = bs.map (fun b => Value.int .u8 b.toNat) → (Conv.bytesToString (.slice (some ⟨(X.j id).b, (X.j id).base + off, none⟩) len c)).run P w = .ok (.string ⟨⟨bs⟩⟩) w := fun bs hbs => by
    rw [hlen, hbs] at hrun
    rw [run_bytesToString w _ len c (bs.map fun b => (b.toNat : Int)) (by rw [hrun]; simp [Function.comp_def])]
    rw [fold_push]
    simp
  rcases ife_ex h5 with ⟨_, h5⟩ | ⟨_, h5⟩
  · obtain ⟨bs, h8, h9⟩ := bytes_ex h6 h5
    exact ⟨_, bs, h8, key bs h9, VR_string.2 rfl⟩
  · obtain ⟨ha, h8⟩ := yes_ex h5
    obtain ⟨bs, rfl⟩ := bytesV_ex hT h6 ha
    exact ⟨_, bs, h8, key bs rfl, VR_txt.2 ⟨⟨⟨bs⟩⟩, rfl, by simpa using h6⟩⟩

theorem convQ_ex (hT : TabOK P X.ρ T) (hR : Rel X s w) {src dst : TypeId} {v u : Value} {K : KV} (hv : VR X v u) (h : convQ P T s.h src dst v K) : ∃ v' u', K v' ∧ (Go.convert src dst u).run P w = .ok u' w ∧ VR X v' u' := by
  unfold convQ at h
  split at h
  · obtain ⟨k, h1, h2⟩ := ok_ex h
    obtain ⟨h3, h4⟩ := yes_ex h2
    obtain ⟨d, h5⟩ := tSome_un h3
    cases hv
    refine ⟨_, _, nint_ex h4, ?_, rfl⟩
    simp only [Go.convert, Sem.run_bind, underlying_run h5, underlying_run (tInt_un h1), Result.andThen, Conv.intToInt]
    rfl
  · obtain ⟨k, h1, h2⟩ := ok_ex h
    obtain ⟨h3, h4⟩ := yes_ex h2
    obtain ⟨d, h5⟩ := tSome_un h3
    obtain ⟨r, h6, h7⟩ := ok_ex h4
    have hv2 := hv
    cases hv
    refine ⟨r, _, h7, ?_, hT.conv X rfl k _ r _ _ h6 hv2⟩
    simp only [Go.convert, Sem.run_bind, underlying_run h5, underlying_run (tInt_un h1), Result.andThen, Conv.intToInt]
    rfl
  · obtain ⟨h1, h2⟩ := yes_ex h
    simp only [Bool.and_eq_true] at h1
    obtain ⟨d, h5⟩ := tSome_un h1.2
    cases hv
    refine ⟨_, _, h2, ?_, rfl⟩
    simp only [Go.convert, Sem.run_bind, underlying_run h5, underlying_run (tStr_un h1.1), Result.andThen]
    rfl
  · obtain ⟨h1, h2⟩ := yes_ex h
    simp only [Bool.and_eq_true] at h1
    obtain ⟨el, h3, h4⟩ := tBytes_un h1.1
    obtain ⟨_, _, h5⟩ := VR_noSlice.1 hv
    subst h5
    refine ⟨_, .string ⟨⟨[]⟩⟩, h2, ?_, rfl⟩
    rw [run_convert_bytes_string w src dst el _ _ _ h3 h4 (tStr_un h1.2)]
    rfl
  · rename_i id off sp len cap
    obtain ⟨h1, h2⟩ := yes_ex h
    simp only [Bool.and_eq_true] at h1
    obtain ⟨el, h3, h4⟩ := tBytes_un h1.1
    cases sp with
    | none => exact hv.elim
    | some sz =>
      obtain ⟨_, _, c, h5, _⟩ := VR_slice.1 hv
      subst h5
      obtain ⟨v', bs, h6, h7, h8⟩ := strFrom_ex (P := P) (c := c) hT hR h2
      refine ⟨_, _, h6, ?_, h8⟩
      rw [run_convert_bytes_string w src dst el _ _ _ h3 h4 (tStr_un h1.2)]
      exact h7
  · exact h.elim

/-! Parts. -/
theorem parts_ex (hR : Rel X s w) (hg : GR X g a) : ∀ {l : List (Nat × Operand)} {K : List (Nat × Value) → Prop}, parts l g K → ∃ vs : List (Nat × Value), K vs ∧ vs.map (·.1) = l.map (·.1) ∧ VRl X (vs.map (·.2)) (l.map (fun p => a.eval p.2)) := by
  intro l
  induction l with
  | nil => intro K h; exact ⟨[], h, rfl, rfl⟩
  | cons x l ih =>
    intro K h
    obtain ⟨v, h1, h2⟩ := opd_ex hR hg (K := fun v => parts l g (fun vs => K ((x.1, v) :: vs))) h
    obtain ⟨vs, h3, h4, h5⟩ := ih h1
    exact ⟨(x.1, v) :: vs, h3, by simp [h4], _, _, rfl, h2, h5⟩

theorem VR_cells {v u : Value} (h : VR X v u) : VRl X (cellsOf v) u.cells.toList := by
  cases v with
  | agg cs => obtain ⟨cs⟩ := cs; obtain ⟨c, rfl, h2⟩ := VR_agg.1 h; exact h2
  | tuple cs => obtain ⟨cs⟩ := cs; obtain ⟨c, rfl, h2⟩ := VR_tuple.1 h; exact ⟨_, _, rfl, h, rfl⟩
  | _ =>
    have h1 := h.one rfl
    refine ⟨u, [], ?_, h, rfl⟩
    cases u <;> first | rfl | cases h1

theorem take_set1 {α : Type} : ∀ (l : List α) (i : Nat) (v : α), i < l.length → (l.set i v).take (i + 1) = l.take i ++ [v]
  | _ :: _, 0, _, _ => by simp
  | a :: l, i + 1, v, h => by simpa using take_set1 l i v (by simpa using h)
theorem drop_set1 {α : Type} : ∀ (l : List α) (i j : Nat) (v : α), i < j → (l.set i v).drop j = l.drop j
  | [], _, _, _, _ => by simp
  | _ :: _, 0, j + 1, _, _ => by simp
  | a :: l, i + 1, j + 1, v, h => by simpa using drop_set1 l i j v (by omega)

theorem foldl_set : ∀ (vs : List Value) (cs : Array Value) (k off : Nat), off + k + vs.length ≤ cs.size → ((vs.zipIdx k).foldl (fun cs (p : Value × Nat) => cs.setIfInBounds (off + p.2) p.1) cs).toList = cs.toList.take (off + k) ++ vs ++ cs.toList.drop (off + k + vs.length)
  | [], cs, k, off, _ => by simp
  | v :: vs, cs, k, off, h => by
    simp only [List.zipIdx_cons, List.foldl_cons]
    simp only [List.length_cons] at h
    rw [foldl_set vs (cs.setIfInBounds (off + k) v) (k + 1) off (by simp; omega)]
    simp only [Array.toList_setIfInBounds, List.length_cons]
    rw [← Nat.add_assoc, take_set1 _ _ _ (by simpa using (by omega : off + k < cs.size)), drop_set1 _ _ _ _ (by omega)]
    simp [Nat.add_assoc, Nat.add_comm 1]

theorem zipIdx_arr (vs : Array Value) (cs : Array Value) (off : Nat) : vs.zipIdx.foldl (fun cs (p : Value × Nat) => cs.setIfInBounds (off + p.2) p.1) cs = (vs.toList.zipIdx.foldl (fun cs (p : Value × Nat) => cs.setIfInBounds (off + p.2) p.1) cs) := by
  rw [← Array.foldl_toList]
  simp

theorem fill_ex {place : Nat → Option (Nat × Nat)} : ∀ {l : List (Nat × Value)} {us : List Value} {cs : List Value} {ds : Array Value} {K : List Value → Prop}, VRl X (l.map (·.2)) us → VRl X cs ds.toList → fill l place cs K →
    ∃ cs' ds', K cs' ∧ VRl X cs' ds'.toList ∧ Instr.fill place ds ((l.map (·.1)).zip us) = some ds' ∧ cs'.length = cs.length := by
  intro l
  induction l with
  | nil => intro us cs ds K hl hc h; rw [List.map_nil, VRl_nil] at hl; subst hl; exact ⟨cs, ds, h, hc, rfl, rfl⟩
  | cons p l ih =>
    intro us cs ds K hl hc h
    obtain ⟨u, us, rfl, h1, h2⟩ := VRl_cons.1 hl
    obtain ⟨q, h3, h4⟩ := ok_ex (x := place p.1) h
    obtain ⟨h5, h6⟩ := yes_ex h4
    have h7 := Nat.eq_of_beq_eq_true h5
    obtain ⟨h8, h9⟩ := takeV_ex h6
    obtain ⟨h10, h11⟩ := dropV_ex h9
    have h12 := appV_ex h11
    have h13 := appV_ex h12
    have hu := VR_cells h1
    have hlen := hu.length
    have hdl := hc.length
    simp only [Array.length_toList] at hlen hdl
    have hadd : Nat.add q.1 q.2 = q.1 + q.2 := rfl
    rw [hadd] at h10 h13
    have hds : (u.cells.zipIdx.foldl (fun cs (p : Value × Nat) => cs.setIfInBounds (q.1 + p.2) p.1) ds).toList = ds.toList.take q.1 ++ u.cells.toList ++ ds.toList.drop (q.1 + q.2) := by
      rw [zipIdx_arr, foldl_set _ _ 0 _ (by simp; omega)]
      simp only [Nat.add_zero, Array.length_toList]
      rw [hlen, h7]
    obtain ⟨cs', ds', h14, h15, h16, h17⟩ := ih h2 (ds := u.cells.zipIdx.foldl (fun cs (p : Value × Nat) => cs.setIfInBounds (q.1 + p.2) p.1) ds) (by
      rw [hds, List.append_assoc]
      exact (hc.take _).append (hu.append (hc.drop _))) h13
    refine ⟨cs', ds', h14, h15, ?_, ?_⟩
    · simp only [List.map_cons, List.zip_cons_cons, Instr.fill, h3]
      rw [if_neg]
      · exact h16
      · simp only [Bool.or_eq_true, decide_eq_true_eq, ne_eq, not_or, Decidable.not_not]
        exact ⟨by omega, by omega⟩
    · rw [h17]; simp; omega

end
end Go.Proofs.YtkpfafehcmammaaGreatDoor
namespace Go.Proofs.YtkpfafehcmammaaGreatDoor
open Go.Deep

section
variable {P : Program} {T : Tab} {e : Env} {X : Cx} {s : AS} {w : World} {a : Act} {g : G} {o : Oper} {K : KVS}

theorem conv_ok (hT : TabOK P X.ρ T) (hR : Rel X s w) {src dst : TypeId} {x : Operand} (ho : o.op = .convert src dst x) {v : Value} (hv : VR X v (a.eval x)) (h : convQ P T s.h src dst v (fun v => K v s)) : OpOK P o a X s w K := by
  obtain ⟨v', u', h1, h2, h3⟩ := convQ_ex (P := P) hT hR hv h
  exact .quiet hR h1 (u := u') (by simp [execOp, ho, h2]) h3

theorem zeroV_un {t : TypeId} {z : Value} (h : zeroV P t = some z) : ∃ i, P.info? t = some i ∧ i.zero = some z ∧ plain z = true := by
  unfold zeroV at h
  split at h
  · split at h
    · rename_i v hz
      cases hp : plain v <;> rw [hp] at h
      · cases h
      · cases h; exact ⟨_, ‹_›, hz, hp⟩
    · cases h
  · cases h

theorem zeroV_run {t : TypeId} {z : Value} (h : zeroV P t = some z) : (zeroValue t).run P w = .ok z w := by
  obtain ⟨i, h1, h2, _⟩ := zeroV_un h
  simp [zeroValue, typeInfo_run h1, h2]
theorem zeroV_VR {t : TypeId} {z : Value} (X : Cx) (h : zeroV P t = some z) : VR X z z := plain_VR X (zeroV_un h).choose_spec.2.2

theorem places_run : ∀ {fs : List Field} {pl : List (Nat × Nat)}, places P fs = some pl → (fs.mapM (m := Sem) fun f => do pure (f.offset, ← Go.sizeOf f.type)).run P w = .ok pl w := by
  intro fs
  induction fs with
  | nil => intro pl h; cases h; rfl
  | cons f fs ih =>
    intro pl h
    unfold places at h
    split at h
    · split at h
      · cases h
        have h1 := sizeOf_run (w := w) ‹sizeOf P f.type = _›
        have h2 := ih ‹_›
        simp only [List.mapM_cons, Sem.run_bind, h1, Result.andThen, Sem.run_pure, h2]
      · cases h
    · cases h

theorem zip_parts (l : List (Nat × Operand)) (f : Operand → Value) : (l.map (·.1)).zip (l.map (fun p => f p.2)) = l.map (fun p => (p.1, f p.2)) := by
  induction l with
  | nil => rfl
  | cons p l ih => simp [ih]

theorem build_ok (hR : Rel X s w) (hg : GR X g a) {t : TypeId} {ps : Array (Nat × Operand)} (ho : o.op = .build t ps) (h : lBuildV t ps P T e s g K) : OpOK P o a X s w K := by
  obtain ⟨vs, h1, h2, h3⟩ := parts_ex hR hg h
  obtain ⟨z, h4, h5⟩ := ok_ex h1
  have hz := VR_cells (zeroV_VR X h4)
  have hps : (ps.map fun (p : Nat × Operand) => (p.1, a.eval p.2)).toList = (vs.map (·.1)).zip (ps.toList.map fun p => a.eval p.2) := by
    rw [h2, zip_parts]; simp
  cases hp : placesOf P t with
  | none =>
    rw [hp] at h5
    obtain ⟨ar, h6, h7⟩ := ok_ex h5
    obtain ⟨sz, h8, h9⟩ := ok_ex h7
    obtain ⟨cs', ds', h10, h11, h12, _⟩ := fill_ex h3 hz h9
    refine .quiet hR h10 (u := .agg ds') ?_ (VR_agg.2 ⟨_, rfl, h11⟩)
    have h12' : Instr.fill (fun i => some (i * sz, sz)) z.cells (ps.map fun (p : Nat × Operand) => (p.1, a.eval p.2)).toList = some ds' := by rw [hps]; exact h12
    simp only [execOp, ho, Instr.build, Sem.run_bind, zeroV_run h4, underlying_run (arrOf_un h6), sizeOf_run h8, Result.andThen, h12']
    rfl
  | some pl =>
    rw [hp] at h5
    obtain ⟨cs', ds', h10, h11, h12, _⟩ := fill_ex h3 hz h5
    refine .quiet hR h10 (u := .agg ds') ?_ (VR_agg.2 ⟨_, rfl, h11⟩)
    unfold placesOf at hp
    split at hp
    · obtain ⟨fs, h6, h7⟩ := structOf_un ‹_›
      rw [← h6] at hp
      have h8 := places_run (w := w) hp
      have h9 : (fs.mapM (m := Sem) fun f => do pure (f.offset, ← Go.sizeOf f.type)).run P w = .ok pl.toArray w := by
        rw [Array.mapM_eq_mapM_toList, Sem.run_map, h8]; rfl
      have h12' : Instr.fill (fun i => pl.toArray[i]?) z.cells (ps.map fun (p : Nat × Operand) => (p.1, a.eval p.2)).toList = some ds' := by
        rw [hps]
        have : (fun i => pl.toArray[i]?) = plAt pl := by funext i; simp [plAt]
        rw [this]; exact h12
      simp only [execOp, ho, Instr.build, Sem.run_bind, zeroV_run h4, underlying_run h7, Result.andThen, h9, h12']
      rfl
    · cases hp

/-! Maps. -/
theorem keyIs_ex {k p kc : Value} {K : Bool → Prop} {t : TypeId} {d : TypeDesc} (hk : keyOk P t k = true) (hd : P.underlying t = some d) (hp : VR X p kc) (h : keyIs k p K) : ∃ b, K b ∧ Instr.sameNow d k kc = some b := by
  rcases vBin_ex h with ⟨kx, x, rfl, h1⟩ | ⟨l, rfl, h1⟩ | h1
  · obtain ⟨ky, y, rfl, h2⟩ := vInt_ex h1
    obtain ⟨h3, h4⟩ := yes_ex h2
    have := kno_inj h3
    subst this
    cases hp
    refine ⟨_, boo_ex h4, ?_⟩
    simp only [keyOk] at hk
    cases h5 : tInt P t with
    | none => rw [h5] at hk; cases hk
    | some kt =>
      have := tInt_un h5
      rw [hd] at this; cases this
      simp [Instr.sameNow, ieq_eq]
  · obtain ⟨l', rfl, h2⟩ := vStr_ex h1
    cases hp
    refine ⟨_, leq_ex h2, ?_⟩
    have := tStr_un (P := P) (t := t) hk
    rw [hd] at this; cases this
    simp only [Instr.sameNow, Option.some.injEq]
    rw [Bool.eq_iff_iff, MapKept.bytes_beq, beq_iff_eq]
    constructor
    · intro h; cases h; rfl
    · rintro rfl; rfl
  · exact h1.elim

theorem findE_ex {k : Value} {t : TypeId} {d : TypeDesc} (hk : keyOk P t k = true) (hd : P.underlying t = some d) : ∀ {es : List (Value × Value)} {ms : List MapEntry} {i : Nat} {K : KV} {Kn : Prop}, ER X es ms → findE es k K Kn →
    (∃ v u j, K v ∧ VR X v u ∧ Instr.findNow d k ms i = some (some (j, u))) ∨ (Kn ∧ Instr.findNow d k ms i = some none) := by
  intro es
  induction es with
  | nil => intro ms i K Kn he h; cases he; exact .inr ⟨h, rfl⟩
  | cons p es ih =>
    intro ms i K Kn he h
    obtain ⟨m, ms, rfl, h1, h2, h3⟩ := he
    obtain ⟨b, h4, h5⟩ := keyIs_ex hk hd h1 (K := fun b => ife b (K p.2) (findE es k K Kn)) h
    simp only [Instr.findNow, h5]
    cases b with
    | true => exact .inl ⟨_, _, _, h4, h2, rfl⟩
    | false => exact ih h3 h4

theorem keyOk_VR {t : TypeId} {k u : Value} (hk : keyOk P t k = true) (h : VR X k u) : u = k := by
  cases k with
  | int => exact h
  | string => exact h
  | _ => cases hk

theorem keyOk_un {t : TypeId} {k : Value} (hk : keyOk P t k = true) : ∃ d, P.underlying t = some d ∧ ((∃ q, d = .int q) ∨ d = .string) := by
  cases k with
  | int =>
    simp only [keyOk] at hk
    cases h : tInt P t with
    | none => rw [h] at hk; cases hk
    | some q => exact ⟨_, tInt_un h, .inl ⟨q, rfl⟩⟩
  | string => exact ⟨_, tStr_un hk, .inr rfl⟩
  | _ => cases hk

theorem checkKey_run {t : TypeId} {k : Value} (hk : keyOk P t k = true) {b : Bool} {n : Nat} : (Instr.checkKey b (n + 1) t k).run P w = .ok () w := by
  obtain ⟨d, h1, h2⟩ := keyOk_un hk
  rw [Instr.checkKey]
  simp only [Sem.run_bind, underlying_run h1, Result.andThen]
  rcases h2 with ⟨q, rfl⟩ | rfl <;> rfl

theorem look_ok (hR : Rel X s w) (hg : GR X g a) {t : TypeId} {x ix : Operand} {c : Bool} (ho : o.op = .lookup t x ix c) (h : lLook t x ix c P T e s g K) : OpOK P o a X s w K := by
  obtain ⟨v, h1, h2⟩ := opd_ex hR hg h
  obtain ⟨id, rfl, h3⟩ := vMap_ex h1
  obtain ⟨k, h4, h5⟩ := opd_ex hR hg h3
  obtain ⟨ke, h6, h7⟩ := ok_ex h4
  obtain ⟨h8, h9⟩ := yes_ex h7
  obtain ⟨b, h10, h11⟩ := gb_ex h9
  obtain ⟨es, rfl, h12⟩ := asM_ex h11
  obtain ⟨h13, h14⟩ := VR_map.1 h2
  obtain ⟨ms, cl, h15, h16⟩ := (hR.blk id _ h10).2
  obtain ⟨d, h17, _⟩ := keyOk_un h8
  have hk := keyOk_VR h8 h5
  have hobj : (getObj (X.j id).b).run P w = .ok (.map ms cl) w := by simp [getObj, Sem.run, h15]
  have hck := checkKey_run (w := w) h8 (b := ms.isEmpty) (n := 9999)
  have hrun : ∀ r, Instr.findNow d k ms.toList 0 = some r → (Instr.lookup t (.map (some (X.j id).b)) k c).run P w =
      ((match r with
       | some (_, v) => (pure (v, true) : Sem (Value × Bool))
       | none => do pure (← zeroValue ke.2, false)).run P w).andThen (fun p w => .ok (if c then .tuple #[p.1, .bool p.2] else p.1) w) := by
    intro r hr
    have hf : (Instr.findKey ke.1 k ms.toList).run P w = .ok r w := by simp [Instr.findKey, underlying_run h17, hr]
    simp only [Instr.lookup, Sem.run_bind, underlying_run (tMap_un h6), Result.andThen, hobj, Sem.run_pure]
    have hck' : (Instr.checkKey ms.isEmpty 10000 ke.1 k).run P w = .ok () w := hck
    simp only [hck', hf]
    cases r with
    | some p => rfl
    | none =>
      simp only [Sem.run_bind, Sem.run_pure]
      cases (zeroValue ke.2).run P w <;> rfl
  rcases findE_ex (X := X) h8 h17 (i := 0) h16 h12 with ⟨v, u, j, h18, h19, h20⟩ | ⟨h18, h20⟩
  · have h21 := hrun _ h20
    simp only [Sem.run_pure, Result.andThen] at h21
    rcases ife_ex h18 with ⟨rfl, h22⟩ | ⟨rfl, h22⟩
    · exact .quiet hR h22 (u := .tuple #[u, .bool true]) (by simp [execOp, ho, h14, hk, h21]) (VR_tuple.2 ⟨_, rfl, _, _, rfl, h19, _, _, rfl, rfl, rfl⟩)
    · exact .quiet hR h22 (u := u) (by simp [execOp, ho, h14, hk, h21]) h19
  · have h21 := hrun _ h20
    obtain ⟨z, h23, h24⟩ := ok_ex h18
    simp only [Sem.run_bind, zeroV_run h23, Sem.run_pure, Result.andThen] at h21
    rcases ife_ex h24 with ⟨rfl, h22⟩ | ⟨rfl, h22⟩
    · exact .quiet hR h22 (u := .tuple #[z, .bool false]) (by simp [execOp, ho, h14, hk, h21]) (VR_tuple.2 ⟨_, rfl, _, _, rfl, zeroV_VR X h23, _, _, rfl, rfl, rfl⟩)
    · exact .quiet hR h22 (u := z) (by simp [execOp, ho, h14, hk, h21]) (zeroV_VR X h23)

end
end Go.Proofs.YtkpfafehcmammaaGreatDoor
namespace Go.Proofs.YtkpfafehcmammaaGreatDoor
open Go.Deep

section
variable {P : Program} {T : Tab} {e : Env} {X : Cx} {s : AS} {w : World} {a : Act} {g : G} {o : Oper} {K : KVS}

/-- Cells written into a row. -/
def putRow (w : World) (b : Nat) (cs : Array Value) (ty : TypeId) (fz : Nat × Nat) : World := { w with heap := w.heap.setIfInBounds b (.cells cs ty fz) }

theorem heap_setCell {b i : Nat} {cs : Array Value} {ty : TypeId} {fz : Nat × Nat} (v : Value) (h : w.heap[b]? = some (.cells cs ty fz)) : (w.setCell ⟨b, i, none⟩ v).heap[b]? = some (.cells (cs.setIfInBounds i v) ty fz) := by
  have hb := (Array.getElem?_eq_some_iff.1 h).1
  simp only [World.setCell]
  rw [Array.getElem?_modify, if_pos rfl, h]
  simp

theorem heap_setCell_ne {b k : Nat} (i : Nat) (v : Value) (h : k ≠ b) : (w.setCell ⟨b, i, none⟩ v).heap[k]? = w.heap[k]? := by
  simp only [World.setCell]
  rw [Array.getElem?_modify, if_neg (fun e => h e.symm)]

/-- Values stored one behind the other. -/
theorem storeCells_run : ∀ {us : List Value} {w : World} {b off i : Nat} {cs : Array Value} {ty : TypeId} {fz : Nat × Nat}, (∀ u ∈ us, u.oneCell' = true) → w.heap[b]? = some (.cells cs ty fz) → off + i + us.length ≤ cs.size → (∀ o, o < cs.size → ¬ (fz.1 ≤ o ∧ o < fz.2)) →
    ∃ w', (storeCells ⟨b, off, none⟩ us i).run P w = .ok () w' ∧ (w'.os = w.os ∧ w'.output = w.output) ∧ w'.heap.size = w.heap.size ∧ (∀ k, k ≠ b → w'.heap[k]? = w.heap[k]?) ∧
      ∃ cs', w'.heap[b]? = some (.cells cs' ty fz) ∧ cs'.size = cs.size ∧ ∀ m, cs'[m]? = if off + i ≤ m ∧ m < off + i + us.length then us[m - (off + i)]? else cs[m]? := by
  intro us
  induction us with
  | nil => intro w b off i cs ty fz _ h _ _; exact ⟨w, rfl, ⟨rfl, rfl⟩, rfl, fun _ _ => rfl, cs, h, rfl, fun m => by rw [if_neg (by simp)]⟩
  | cons u us ih =>
    intro w b off i cs ty fz hu h hl hf
    simp only [List.length_cons] at hl
    have hcell : w.cell? ⟨b, off + i, none⟩ = some cs[off + i] := by
      rw [cell_of_row w b _ cs ty fz h]; exact Array.getElem?_eq_getElem (by omega)
    have hfz : w.frozen? ⟨b, off + i, none⟩ = false := by
      have hq := hf (off + i) (by omega)
      obtain ⟨lo, hi⟩ := fz
      simp only [World.frozen?, h]
      by_cases h1 : lo ≤ off + i
      · by_cases h2 : off + i < hi
        · exact absurd ⟨h1, h2⟩ hq
        · simp [h2]
      · simp [h1]
    obtain ⟨w', h1, hio, h2, h3, cs', h4, h5, h6⟩ := ih (w := w.setCell ⟨b, off + i, none⟩ u) (b := b) (off := off) (i := i + 1) (cs := cs.setIfInBounds (off + i) u) (ty := ty) (fz := fz)
      (fun x hx => hu x (List.mem_cons_of_mem _ hx)) (heap_setCell u h) (by simp; omega) (by simpa using hf)
    refine ⟨w', ?_, hio, by rw [h2]; simp, fun k hk => by rw [h3 k hk, heap_setCell_ne _ _ hk], cs', h4, by rw [h5]; simp, fun m => ?_⟩
    · rw [storeCells]
      simp only [Sem.run_bind, addr_add, run_store P w _ u .plain (hu u (List.mem_cons_self ..)), hcell, hfz, Result.andThen]
      exact h1
    · rw [h6 m]
      simp only [List.length_cons]
      by_cases hm : m = off + i
      · subst hm
        rw [if_neg (by omega), if_pos (by omega), Array.getElem?_setIfInBounds_self_of_lt (by omega)]
        simp
      · by_cases h7 : off + i ≤ m ∧ m < off + i + (us.length + 1)
        · rw [if_pos (by omega), if_pos h7]
          have : m - (off + i) = (m - (off + (i + 1))) + 1 := by omega
          rw [this]; rfl
        · rw [if_neg (by omega), if_neg h7, Array.getElem?_setIfInBounds_ne (fun e => hm e.symm)]

theorem VRl.all_one : ∀ {l us : List Value}, VRl X l us → (∀ v ∈ l, one v = true) → ∀ u ∈ us, u.oneCell' = true
  | [], _, hl, _ => by rw [VRl_nil] at hl; subst hl; simp
  | v :: l, _, ⟨u, us, h1, h2, h3⟩, ho => by
    subst h1
    intro x hx
    rcases List.mem_cons.1 hx with rfl | hx
    · have := VR.one h2 (ho v (List.mem_cons_self ..))
      cases x <;> first | rfl | cases this
    · exact VRl.all_one h3 (fun v hv => ho v (List.mem_cons_of_mem _ hv)) x hx

/-- A row's cells turn. -/
theorem wr_ex (hR : Rel X s w) {id off : Nat} {c : CB} {l us : List Value} {K : KS} (hc : getT s.h id = some (.inl c)) (hl : VRl X l us) (h : wr s id c off l K) :
    ∃ s' w', K s' ∧ (storeCells ⟨(X.j id).b, (X.j id).base + off, none⟩ us).run P w = .ok () w' ∧ Rel X s' w' ∧ Ext X s w X s' w' := by
  obtain ⟨h1, h2⟩ := yes_ex h
  obtain ⟨vs, h3, h4, h5⟩ := setL_ex h2
  obtain ⟨h', h6, h7⟩ := setB_ex h5
  simp only [Bool.and_eq_true, Bool.not_eq_true'] at h1
  have h8 : off + l.length ≤ c.n := Nat.le_of_ble_eq_true h1.2
  obtain ⟨cs, fz, h9, h10, h11, h12, h13⟩ := (hR.blk id _ hc).2
  have hlen := hl.length
  obtain ⟨w', h14, hio, h15, h16, cs', h17, h18, h19⟩ := storeCells_run (P := P) (w := w) (b := (X.j id).b) (off := (X.j id).base + off) (i := 0) (cs := cs) (ty := c.ty) (fz := fz) (hl.all_one h4) h9 (by omega) (h12 h1.1)
  obtain ⟨r1, r2⟩ := hR.upd (w' := w') hc (by simp [wrt, h1.1]) h6 h16 h15 (hio := hio) (b' := .inl ⟨vs, c.d, c.n, c.ty, false⟩) (by
    refine ⟨cs', fz, h17, h10, by rw [h18]; exact h11, fun _ => by rw [h18]; exact h12 h1.1, fun i v hv => ?_⟩
    have hin : i < c.n := by
      unfold cbAt at hv
      split at hv
      · assumption
      · cases hv
    have hv' : (match getT vs i with | some v => some v | none => c.d) = some v := by
      unfold cbAt at hv
      rw [if_pos hin] at hv; exact hv
    rw [h3 i] at hv'
    rw [h19]
    by_cases hi : off ≤ i ∧ i < off + l.length
    · rw [if_pos hi] at hv'
      have hx : l[i - off]? = some l[i - off] := List.getElem?_eq_getElem (by omega)
      rw [hx] at hv'
      cases hv'
      obtain ⟨u, h20, h21⟩ := hl.get hx
      rw [if_pos (by omega)]
      refine ⟨h4 _ (List.getElem_mem _), u, ?_, h21⟩
      rw [← h20]; congr 1; omega
    · rw [if_neg hi] at hv'
      rw [if_neg (by omega)]
      exact h13 i v (by unfold cbAt; rw [if_pos hin]; exact hv'))
  exact ⟨⟨h', s.nx⟩, w', h7, h14, r1, r2⟩

theorem storeV_ex (hR : Rel X s w) {t : TypeId} {id off : Nat} {v u : Value} {K : KS} (hv : VR X v u) (h : storeV P s t id off v K) :
    ∃ s' w', K s' ∧ (storeVar t ⟨(X.j id).b, (X.j id).base + off, none⟩ u).run P w = .ok () w' ∧ Rel X s' w' ∧ Ext X s w X s' w' := by
  obtain ⟨c, h1, h2⟩ := getC_ex h
  obtain ⟨k, h3, h4⟩ := ok_ex h2
  obtain ⟨h5, h6⟩ := yes_ex h4
  have h7 := Nat.eq_of_beq_eq_true h5
  have hc := VR_cells hv
  obtain ⟨s', w', h8, h9, h10, h11⟩ := wr_ex (P := P) hR h1 hc h6
  refine ⟨s', w', h8, ?_, h10, h11⟩
  have hlen : u.cells.size = k := by rw [← h7, ← hc.length]; simp
  simp [storeVar, sizeOf_run h3, hlen, h9]

theorem store_ok (hR : Rel X s w) (hg : GR X g a) {t : TypeId} {x y : Operand} (ho : o.op = .store t x y) (h : lStore t x y P T e s g K) : OpOK P o a X s w K := by
  obtain ⟨v, h1, h2⟩ := opd_ex hR hg h
  obtain ⟨id, off, rfl, h3⟩ := vPtr_ex h1
  obtain ⟨v, h4, h5⟩ := opd_ex hR hg h3
  obtain ⟨_, h6⟩ := VR_ptr.1 h2
  obtain ⟨s', w', h7, h8, h9, h10⟩ := storeV_ex (P := P) hR h5 h4
  exact ⟨_, s', X, undef, w', h7, .inr ⟨by simp [execOp, ho, Instr.storeAt, Instr.sureAddr, h6, h8], rfl⟩, h9, h10, VR_tuple.2 ⟨_, rfl, rfl⟩⟩

/-- New cells. -/
theorem newC_ex (hR : Rel X s w) {ty : TypeId} {l : List Value} {us rest : List Value} {K : KS} (hl : VRl X l us) (h : newC s ty l K) :
    ∃ s' lim, K s' ∧ Rel (X.put ⟨w.heap.size, 0, lim⟩) s' (w.alloc (.cells (us ++ rest).toArray ty)) ∧ Ext X s w (X.put ⟨w.heap.size, 0, lim⟩) s' (w.alloc (.cells (us ++ rest).toArray ty)) ∧ lim = us.length + rest.length := by
  obtain ⟨vs, h1, h2, h3⟩ := setL_ex h
  have h3 := nat_ex h3
  obtain ⟨h', h4, h5⟩ := setB_ex h3
  have h5 := nat_ex h5
  have hlen := hl.length
  obtain ⟨r1, r2⟩ := hR.new (o := .cells (us ++ rest).toArray ty) (L := ⟨w.heap.size, 0, us.length + rest.length⟩) rfl h4 (b := .inl ⟨vs, none, l.length, ty, false⟩) (by
    refine ⟨(us ++ rest).toArray, (0, 0), heap_alloc_new w _, by simp; omega, by simp, fun _ o _ => by simp, fun i v hv => ?_⟩
    unfold cbAt at hv
    split at hv
    · rename_i hi'
      have hi : i < l.length := hi'
      rw [h1 i, if_pos (by omega)] at hv
      simp only [Nat.sub_zero] at hv
      have hx : l[i]? = some l[i] := List.getElem?_eq_getElem hi
      rw [hx] at hv
      cases hv
      obtain ⟨u, h6, h7⟩ := hl.get hx
      refine ⟨h2 _ (List.getElem_mem _), u, ?_, VR.mono (X.put_le _) h7⟩
      simp only [Nat.zero_add, List.getElem?_toArray]
      rw [List.getElem?_append_left (by omega)]; exact h6
    · cases hv)
  exact ⟨_, _, h5, r1, r2, rfl⟩

theorem newP_ok (hR : Rel X s w) {ty : TypeId} {l : List Value} {us : List Value} (hl : VRl X l us) (h : newP s ty l K) (hd : (execOp a.eval o).run P w = .ok (.value (.pointer (some ⟨w.heap.size, 0, none⟩))) (w.alloc (.cells us.toArray ty))) : OpOK P o a X s w K := by
  obtain ⟨s', lim, h1, h2, h3, _⟩ := newC_ex hR (rest := []) hl h
  rw [List.append_nil] at h2 h3
  refine ⟨_, s', _, _, _, h1, .inl hd, h2, h3, VR_ptr.2 ⟨?_, ?_⟩⟩
  · rw [← hR.nx]; simp [Cx.put]
  · rw [← hR.nx, X.put_at]

theorem alloc_ok (hR : Rel X s w) {t : TypeId} (ho : o.op = .alloc t) (h : lAlloc t P T e s g K) : OpOK P o a X s w K := by
  obtain ⟨z, h1, h2⟩ := ok_ex h
  refine newP_ok hR (VR_cells (zeroV_VR X h1)) h2 ?_
  simp [execOp, ho, Instr.alloc, zeroV_run h1, newVar, newRow]

theorem box_ok (hR : Rel X s w) (hg : GR X g a) {t : TypeId} {x : Operand} (ho : o.op = .box t x) (h : lBox t x P T e s g K) : OpOK P o a X s w K := by
  obtain ⟨v, h1, h2⟩ := opd_ex hR hg h
  refine newP_ok hR (VR_cells h2) h1 ?_
  simp [execOp, ho, Instr.box, newVar, newRow]

end
end Go.Proofs.YtkpfafehcmammaaGreatDoor
namespace Go.Proofs.YtkpfafehcmammaaGreatDoor
open Go.Deep

def repl : Nat → List Value → List Value
  | 0, _ => []
  | n + 1, l => l ++ repl n l

theorem rep_ex : ∀ {n : Nat} {l : List Value} {K : List Value → Prop}, rep n l K → K (repl n l) := by
  intro n
  induction n with
  | zero => intro l K h; exact h
  | succ n ih => intro l K h; exact appV_ex (ih (K := fun r => appV l r K) h)

theorem repl_length : ∀ (n : Nat) (l : List Value), (repl n l).length = n * l.length
  | 0, _ => by simp [repl]
  | n + 1, l => by simp [repl, repl_length n l, Nat.succ_mul, Nat.add_comm]

theorem repl_get : ∀ (n : Nat) (l : List Value) (i : Nat), i < n * l.length → (repl n l)[i]? = l[i % l.length]?
  | 0, _, _, h => by simp at h
  | n + 1, l, i, h => by
    simp only [repl]
    by_cases hi : i < l.length
    · rw [List.getElem?_append_left hi, Nat.mod_eq_of_lt hi]
    · rw [List.getElem?_append_right (by omega), repl_get n l _ (by rw [Nat.succ_mul] at h; omega)]
      rw [← Nat.mod_eq_sub_mod (by omega)]

theorem range_rep (z : Array Value) (len : Nat) (hz : 0 < z.size) : ((Array.range (len * z.size)).map (fun i => z[i % z.size]!)).toList = repl len z.toList := by
  apply List.ext_getElem?
  intro i
  by_cases hi : i < len * z.size
  · rw [repl_get _ _ _ (by simpa using hi)]
    have := Nat.mod_lt i hz
    simp [hi, this]
  · rw [List.getElem?_eq_none (by simpa using hi), List.getElem?_eq_none (by rw [repl_length]; simpa using hi)]

section
variable {P : Program} {T : Tab} {e : Env} {X : Cx} {s : AS} {w : World} {a : Act} {g : G} {o : Oper} {K : KVS}

theorem VRl.repl {l us : List Value} (h : VRl X l us) : ∀ n, VRl X (repl n l) (Go.Proofs.YtkpfafehcmammaaGreatDoor.repl n us)
  | 0 => rfl
  | n + 1 => h.append (VRl.repl h n)

theorem newB_ex {b : AB} {K : KS} (h : newB s b K) : ∃ h', Put s.h h' s.nx (some b) ∧ K ⟨h', Nat.succ s.nx⟩ := by
  obtain ⟨h', h1, h2⟩ := setB_ex h
  exact ⟨h', h1, nat_ex h2⟩

/-- A new row with a slice over all of it. -/
theorem newS_VR (hR : Rel X s w) {lim sz len cap : Nat} (hs : 0 < sz) (h1 : len ≤ cap) (h2 : cap * sz ≤ lim) {k : Nat} (hk : 0 < k → k = cap + 1) : VR (X.put ⟨w.heap.size, 0, lim⟩) (mkS s.nx 0 sz len k) (.slice (some ⟨w.heap.size, 0, none⟩) len cap) := by
  refine VR_slice.2 ⟨?_, hs, cap, ?_, h1, ?_, hk⟩
  · rw [← hR.nx]; simp [Cx.put]
  · rw [← hR.nx, X.put_at]
  · rw [← hR.nx, X.put_at]; simpa using h2

theorem buildS_ok (hR : Rel X s w) (hg : GR X g a) {t : TypeId} {len : Nat} {ps : Array (Nat × Operand)} (ho : o.op = .buildSlice t len ps) (h : lBuild t len ps P T e s g K) : OpOK P o a X s w K := by
  obtain ⟨el, h1, h2⟩ := ok_ex h
  obtain ⟨vs, h3, h4, h5⟩ := parts_ex hR hg h2
  obtain ⟨sz, h6, h7⟩ := ok_ex h3
  obtain ⟨z, h8, h9⟩ := ok_ex h7
  obtain ⟨h10, h11⟩ := yes_ex h9
  simp only [Bool.and_eq_true] at h10
  have hz1 : (cellsOf z).length = sz := Nat.eq_of_beq_eq_true h10.1.1
  have hb : len * sz ≤ 16777216 := Nat.le_of_ble_eq_true h10.1.2
  have hp : 0 < len * sz := blt_iff.1 h10.2
  have hsz : 0 < sz := Nat.pos_of_ne_zero fun c => by subst c; simp at hp
  have h12 := rep_ex h11
  have hz := VR_cells (zeroV_VR X h8)
  have hzs : z.cells.size = sz := by rw [← hz1, ← hz.length]; simp
  have hzr := hz.repl len
  rw [← range_rep z.cells len (by omega), hzs] at hzr
  obtain ⟨cs', ds', h13, h14, h15, h16⟩ := fill_ex h5 hzr h12
  obtain ⟨s', lim, h17, h18, h19, h20⟩ := newC_ex hR (rest := []) h14 h13
  rw [List.append_nil] at h18 h19
  refine ⟨_, s', _, .slice (some ⟨w.heap.size, 0, none⟩) len len, _, h17, .inl ?_, h18, h19, newS_VR hR hsz (Nat.le_refl _) ?_ (fun _ => rfl)⟩
  · have hps : (ps.map fun (p : Nat × Operand) => (p.1, a.eval p.2)).toList = (vs.map (·.1)).zip (ps.toList.map fun p => a.eval p.2) := by
      rw [h4, zip_parts]; simp
    have h15' : Instr.fill (fun i => some (i * sz, sz)) ((Array.range (len * sz)).map (fun i => z.cells[i % sz]!)) (ps.map fun (p : Nat × Operand) => (p.1, a.eval p.2)).toList = some ds' := by rw [hps]; exact h15
    have hb' : ¬ len * sz > 2 ^ 24 := by omega
    have hp' : ¬ len * sz = 0 := by omega
    simp only [execOp, ho, Instr.buildSlice, Sem.run_bind, underlying_run (elemOf_un h1), sizeOf_run h6, Result.andThen, hb', if_false, hp', zeroV_run h8, Sem.run_pure, hzs, h15', newRow, run_newObj]
    simp
  · rw [h20, h14.length, h16, repl_length, hz1]; simp

theorem map_ok (hR : Rel X s w) (hg : GR X g a) {t : TypeId} {r : Option Operand} (ho : o.op = .makeMap t r) (h : lMap t r P T e s g K) : OpOK P o a X s w K := by
  have key : lMap2 s K → (execOp a.eval o).run P w = .ok (.value (.map (some w.heap.size))) (w.alloc (.map #[] 0)) → OpOK P o a X s w K := fun h hd => by
    obtain ⟨h', h4, h5⟩ := newB_ex (K := fun s' => K (.map (some s.nx)) s') h
    obtain ⟨r1, r2⟩ := hR.new (o := .map #[] 0) (L := ⟨w.heap.size, 0, 0⟩) rfl h4 (b := .inr (.inl [])) ⟨#[], 0, heap_alloc_new w _, rfl⟩
    exact ⟨_, _, _, _, _, h5, .inl hd, r1, r2, VR_map.2 ⟨by rw [← hR.nx]; simp [Cx.put], by rw [← hR.nx, X.put_at]⟩⟩
  cases r with
  | none => exact key h (by simp [execOp, ho, Instr.makeMap])
  | some x =>
    obtain ⟨ke, h1, h2⟩ := ok_ex h
    obtain ⟨v, h3, h4⟩ := opd_ex hR hg h2
    obtain ⟨k, n, rfl, h5⟩ := vInt_ex h3
    rw [VR_int] at h4
    exact key h5 (by simp [execOp, ho, Instr.makeMap, underlying_run (tMap_un h1), h4, asInt, asIntOf])

theorem make_ok (hR : Rel X s w) (hg : GR X g a) {t : TypeId} {x y : Operand} (ho : o.op = .makeSlice t x y) (h : lMake t x y P T e s g K) : OpOK P o a X s w K := by
  obtain ⟨el, h1, h2⟩ := ok_ex h
  obtain ⟨v, h3, h4⟩ := opd_ex hR hg h2
  obtain ⟨k, n, rfl, h5⟩ := vNat_ex h3
  obtain ⟨v, h6, h7⟩ := opd_ex hR hg h5
  obtain ⟨k', c, rfl, h8⟩ := vNat_ex h6
  obtain ⟨by_, h9, h10⟩ := ok_ex h8
  obtain ⟨sz, h11, h12⟩ := ok_ex h10
  obtain ⟨z, h13, h14⟩ := ok_ex h12
  obtain ⟨h15, h16⟩ := yes_ex h14
  simp only [Bool.and_eq_true] at h15
  have hnc : n ≤ c := Nat.le_of_ble_eq_true h15.1.1.1.1
  have hcb : c * by_ < 1000000000 := blt_iff.1 h15.1.1.1.2
  have hsz : sz = 1 := Nat.eq_of_beq_eq_true h15.1.1.2
  have hone := h15.1.2
  have hc9 : c < 1000000000 := blt_iff.1 h15.2
  subst hsz
  obtain ⟨h', h17, h18⟩ := setB_ex (t := s.h) (n := s.nx) (b := .inl ⟨.nil, some z, c, el, false⟩) h16
  have h18 := nat_ex h18
  rw [VR_int] at h4 h7
  obtain ⟨i, hi, hiz, hpz⟩ := zeroV_un h13
  have hb : i.bytes = by_ := by unfold bytesOf at h9; rw [hi] at h9; exact Option.some.inj h9
  have hs1 : i.size = 1 := by unfold sizeOf at h11; rw [hi] at h11; exact Option.some.inj h11
  have hzc : z.cells = #[z] := by cases z <;> first | rfl | cases hone
  have hrun := run_make (P := P) w t el i z (elemOf_un h1) hi hiz k k' (n : Int) (c : Int) (by omega) (by omega) (by
    have h : ((i.bytes * c : Nat) : Int) ≤ 281474976710656 := by rw [hb, Nat.mul_comm]; omega
    rwa [Int.natCast_mul] at h) (by omega)
  rw [hs1, Nat.mul_one] at hrun
  simp only [Int.toNat_natCast] at hrun
  obtain ⟨r1, r2⟩ := hR.new (o := .cells (madeCells z.cells c) el) (L := ⟨w.heap.size, 0, c⟩) rfl h17 (by
    refine ⟨_, (0, 0), heap_alloc_new w _, Nat.le_refl _, by simp [size_madeCells], fun _ o _ => by simp, fun j v hv => ?_⟩
    unfold cbAt at hv
    split at hv
    · rename_i hj
      rw [getT_nil] at hv
      cases hv
      refine ⟨hone, z, ?_, zeroV_VR _ h13⟩
      have hj' : j < c := hj
      simp [madeCells, hzc, hj', Nat.mod_one]
    · cases hv)
  refine ⟨_, _, _, _, _, h18, .inl ?_, r1, r2, newS_VR hR (by omega) hnc (by omega) (fun _ => rfl)⟩
  simp only [execOp, ho, Sem.run_bind]
  rw [show a.eval x = .int k (n : Int) from h4, show a.eval y = .int k' (c : Int) from h7, hrun]
  rfl

/-! A map turns. -/
theorem sameNow_true {d : TypeDesc} {k m : Value} (h : Instr.sameNow d k m = some true) : Instr.sameBits 10000 m k = true := by
  unfold Instr.sameNow at h
  split at h
  · split at h
    · rename_i e
      subst e
      simp only [Option.some.injEq, beq_iff_eq] at h
      subst h
      simp [Instr.sameBits]
    · cases h
  · simp only [Option.some.injEq] at h
    have := (MapKept.bytes_beq _ _).1 h
    subst this
    simp [Instr.sameBits, (MapKept.bytes_beq _ _).2 rfl]
  · simp only [Option.some.injEq, beq_iff_eq] at h
    subst h
    simp [Instr.sameBits]
  · cases h

theorem updE_ex {k v u : Value} {t : TypeId} {d : TypeDesc} (hk : keyOk P t k = true) (hd : P.underlying t = some d) (hkk : VR X k k) (hv : VR X v u) : ∀ {es : List (Value × Value)} {ms : List MapEntry} {i : Nat} {K : List (Value × Value) → Prop}, ER X es ms → updE es k v K →
    (∃ es' j u0 m, K es' ∧ Instr.findNow d k ms i = some (some (i + j, u0)) ∧ ms[j]? = some m ∧ Instr.sameNow d k m.key = some true ∧ ER X es' (ms.modify j fun e => { e with key := k, val := u })) ∨
    (∃ es', K es' ∧ Instr.findNow d k ms i = some none ∧ ∀ b, ER X es' (ms ++ [{ key := k, val := u, born := b }])) := by
  intro es
  induction es with
  | nil => intro ms i K he h; cases he; exact .inr ⟨_, h, rfl, fun b => ⟨_, _, rfl, hkk, hv, rfl⟩⟩
  | cons p es ih =>
    intro ms i K he h
    obtain ⟨m, ms, rfl, h1, h2, h3⟩ := he
    obtain ⟨b, h4, h5⟩ := keyIs_ex hk hd h1 (K := fun b => ife b (K ((k, v) :: es)) (updE es k v (fun l => K (p :: l)))) h
    cases b with
    | true =>
      refine .inl ⟨_, 0, m.val, m, h4, by simp [Instr.findNow, h5], rfl, h5, ?_⟩
      exact ⟨{ m with key := k, val := u }, ms, rfl, hkk, hv, h3⟩
    | false =>
      rcases ih (i := i + 1) h3 h4 with ⟨es', j, u0, m', h6, h7, h8, h9, h10⟩ | ⟨es', h6, h7, h8⟩
      · refine .inl ⟨_, j + 1, u0, m', h6, ?_, by simpa using h8, h9, ⟨m, _, rfl, h1, h2, h10⟩⟩
        simp only [Instr.findNow, h5, h7]
        congr 3; omega
      · refine .inr ⟨_, h6, by simp [Instr.findNow, h5, h7], fun b => ⟨m, _, rfl, h1, h2, h8 b⟩⟩

theorem upd_ok (hR : Rel X s w) (hg : GR X g a) {t : TypeId} {m k x : Operand} (ho : o.op = .mapUpdate t m k x) (h : lUpd t m k x P T e s g K) : OpOK P o a X s w K := by
  obtain ⟨v, h1, h2⟩ := opd_ex hR hg h
  obtain ⟨id, rfl, h3⟩ := vMap_ex h1
  obtain ⟨kv, h4, h5⟩ := opd_ex hR hg h3
  obtain ⟨xv, h6, h7⟩ := opd_ex hR hg h4
  obtain ⟨ke, h8, h9⟩ := ok_ex h6
  obtain ⟨h10, h11⟩ := yes_ex h9
  obtain ⟨b, h12, h13⟩ := gb_ex h11
  obtain ⟨es, rfl, h14⟩ := asM_ex h13
  obtain ⟨_, h15⟩ := VR_map.1 h2
  obtain ⟨ms, cl, h16, h17⟩ := (hR.blk id _ h12).2
  obtain ⟨d, h18, _⟩ := keyOk_un h10
  have hk := keyOk_VR h10 h5
  have hkk : VR X kv kv := by rw [hk] at h5; exact h5
  have hobj : (getObj (X.j id).b).run P w = .ok (.map ms cl) w := by simp [getObj, Sem.run, h16]
  have hck : (Instr.checkKey false 10000 ke.1 kv).run P w = .ok () w := checkKey_run (w := w) h10 (b := false) (n := 9999)
  have hset : ∀ ob, (setObj (X.j id).b ob).run P w = .ok () { w with heap := w.heap.setIfInBounds (X.j id).b ob } := fun ob => by simp [setObj, Sem.run, h16]
  have hlt := (Array.getElem?_eq_some_iff.1 h16).1
  have fin : ∀ es' ms' cl', (setB s.h id (.inr (.inl es')) (fun h => K (.tuple #[]) ⟨h, s.nx⟩)) → ER X es' ms'.toList → (Instr.mapUpdate t (.map (some (X.j id).b)) kv (a.eval x)).run P w = .ok () { w with heap := w.heap.setIfInBounds (X.j id).b (.map ms' cl') } → OpOK P o a X s w K := fun es' ms' cl' hs he hr => by
    obtain ⟨h', h19, h20⟩ := setB_ex hs
    obtain ⟨r1, r2⟩ := hR.upd (w' := { w with heap := w.heap.setIfInBounds (X.j id).b (.map ms' cl') }) h12 rfl h19 (fun q hq => by simp [Array.getElem?_setIfInBounds_ne (fun e => hq e.symm)]) (by simp) (b' := .inr (.inl es')) ⟨ms', cl', by simp [hlt], he⟩
    exact ⟨_, _, X, undef, _, h20, .inr ⟨by simp [execOp, ho, h15, hk, hr], rfl⟩, r1, r2, VR_tuple.2 ⟨_, rfl, rfl⟩⟩
  rcases updE_ex (X := X) h10 h18 hkk h7 (i := 0) h17 h14 with ⟨es', j, u0, m', h19, h20, h21, h22, h23⟩ | ⟨es', h19, h20, h21⟩
  · refine fin es' (ms.modify j fun e => { e with key := kv, val := a.eval x }) cl h19 (by simpa using h23) ?_
    have hf : (Instr.findKey ke.1 kv ms.toList).run P w = .ok (some (0 + j, u0)) w := by simp only [Instr.findKey, Sem.run_bind, underlying_run h18, Result.andThen, h20]; rfl
    have hm : ms[j]? = some m' := by simpa using h21
    simp only [Instr.mapUpdate, Sem.run_bind, underlying_run (tMap_un h8), Result.andThen, hobj, hck, hf, Nat.zero_add, hm, Option.map_some, Option.getD_some, Instr.keyThatStays, sameNow_true h22, if_true, Sem.run_pure, hset]
  · refine fin es' (ms.push { key := kv, val := a.eval x, born := cl }) (cl + 1) h19 (by simpa using h21 cl) ?_
    have hf : (Instr.findKey ke.1 kv ms.toList).run P w = .ok none w := by simp only [Instr.findKey, Sem.run_bind, underlying_run h18, Result.andThen, h20]; rfl
    simp only [Instr.mapUpdate, Sem.run_bind, underlying_run (tMap_un h8), Result.andThen, hobj, hck, hf, hset]

end
end Go.Proofs.YtkpfafehcmammaaGreatDoor
namespace Go.Proofs.YtkpfafehcmammaaGreatDoor
open Go.Deep

section
variable {P : Program} {T : Tab} {e : Env} {X : Cx} {s : AS} {w : World} {a : Act} {g : G} {o : Oper} {K : KVS}

/-- What is appended: how many, and its cells. -/
structure Src (P : Program) (w : World) (t' el : TypeId) (i : TypeInfo) (y : Value) (m : Nat) (us : List Value) : Prop where
  run : ∀ (ts : Array TypeId) (ty : TypeId) (t : TypeId) (base : Option Addr) (sLen sCap : Nat), ts[0]? = some t → ts[1]? = some t' → P.underlying t = some (.slice el) → P.info? el = some i →
    (sLen + m ≤ sCap → (Builtin.append_ ts ty #[.slice base sLen sCap, y]).run P w = (((match base with | some a => storeCells (a.add (sLen * i.size)) us | none => pure () : Sem Unit)).run P w).andThen fun _ w' => .ok (.slice base (sLen + m) sCap) w') ∧
    (¬ sLen + m ≤ sCap → ((sLen + m : Nat) : Int) ≤ 9223372036854775807 → Builtin.nextslicecap (sLen + m) sCap * i.bytes ≤ 281474976710656 → ∀ z, i.zero = some z → ∀ olds : List Value, (Builtin.firstCells i.size sLen (.slice base sLen sCap)).run P w.drew = .ok olds.toArray w.drew →
      (Builtin.append_ ts ty #[.slice base sLen sCap, y]).run P w = .ok (.slice (some ⟨w.heap.size, 0, none⟩) (sLen + m) (grownCap w (sLen + m) sCap el))
        (w.drew.alloc (.cells (olds.toArray ++ us.toArray ++ Builtin.zeroCells z.cells (grownCap w (sLen + m) sCap el - (sLen + m))) el)))

theorem src_plain {t' el : TypeId} {i : TypeInfo} {d : TypeDesc} {y : Value} {m : Nat} {us : List Value} (hd : P.underlying t' = some d) (hn : ∀ k, d ≠ .int k) (hlen : (Builtin.lenOf y).run P w = .ok m w)
    (hc : (Builtin.firstCells i.size m y).run P w = .ok us.toArray w) (hc' : (Builtin.firstCells i.size m y).run P w.drew = .ok us.toArray w.drew) : Src P w t' el i y m us := by
  have hz' : ((underlying t' : Sem TypeDesc).run P w) = .ok d w := underlying_run hd
  refine ⟨fun ts ty t base sLen sCap h0 h1 ht hi => ⟨fun hr => ?_, fun hr h63 hfit z hzz olds hold => ?_⟩⟩
  · have ht' : ((underlying t : Sem TypeDesc).run P w) = .ok (.slice el) w := underlying_run ht
    simp [Builtin.append_, h0, h1, ht', Go.sizeOf, typeInfo_run hi, hz', hlen, hr, hc]
    cases base <;> simp
  · have ht' : ((underlying t : Sem TypeDesc).run P w) = .ok (.slice el) w := underlying_run ht
    have h48' : ¬ (281474976710656 < Builtin.nextslicecap (sLen + m) sCap * i.bytes) := by omega
    have h64 : ¬ (9223372036854775807 < ((sLen : Int) + (m : Int))) := by omega
    simp [Builtin.append_, h0, h1, ht', Go.sizeOf, typeInfo_run hi, hz', hlen, hr, hc', hold, h64, h48', zeroValue, hzz, Question.forced, newRow, grownCap]
    congr 2
    apply Array.ext'
    simp [List.append_assoc]

theorem src_zeros {t' el : TypeId} {i : TypeInfo} {k k' : IntKind} {z : Value} {m : Nat} (hd : P.underlying t' = some (.int k)) (hz : i.zero = some z) (hs : i.size = 1) (hc : z.cells = #[z]) (hm : m < 1000000) (hb : m * i.bytes ≤ 281474976710656) : Src P w t' el i (.int k' (m : Int)) m (repl m [z]) := by
  have hz' : ∀ w, ((underlying t' : Sem TypeDesc).run P w) = .ok (.int k) w := fun w => underlying_run hd
  have hw : IntKind.i64.wrap (m : Int) = (m : Int) := wrap_small .i64 m (by simp [topOf]; omega)
  have hzc : Builtin.zeroCells #[z] m = (repl m [z]).toArray := by
    have := range_rep #[z] m (by simp)
    apply Array.ext'
    rw [← this]
    simp [Builtin.zeroCells]
  have hb' : ¬ (281474976710656 < (m : Int) * (i.bytes : Int)) := by
    have : ((m * i.bytes : Nat) : Int) ≤ 281474976710656 := by omega
    rw [Int.natCast_mul] at this; omega
  have hneg : ¬ ((m : Int) < 0) := by omega
  have hw0 : IntKind.i64.wrap 0 = 0 := by decide
  refine ⟨fun ts ty t base sLen sCap h0 h1 ht hi => ⟨fun hr => ?_, fun hr h63 hfit z' hzz olds hold => ?_⟩⟩
  · have ht' : ((underlying t : Sem TypeDesc).run P w) = .ok (.slice el) w := underlying_run ht
    by_cases hm0 : m = 0
    · subst hm0
      have hr' : sLen ≤ sCap := by simpa using hr
      simp [Builtin.append_, h0, h1, ht', Go.sizeOf, typeInfo_run hi, hz', hw0, asInt, asIntOf, hs, repl, hr']
      cases base <;> simp
    · simp [Builtin.append_, h0, h1, ht', Go.sizeOf, typeInfo_run hi, hz', hw, asInt, asIntOf, hs, hneg, hb', hr, hm0, zeroValue, hz, hc, hzc]
      cases base <;> simp
  · have ht' : ((underlying t : Sem TypeDesc).run P w) = .ok (.slice el) w := underlying_run ht
    rw [hz] at hzz; cases hzz
    have h48' : ¬ (281474976710656 < Builtin.nextslicecap (sLen + m) sCap * i.bytes) := by omega
    have h64 : ¬ (9223372036854775807 < ((sLen : Int) + (m : Int))) := by omega
    rw [hs] at hold
    by_cases hm0 : m = 0
    · subst hm0
      have hr' : ¬ sLen ≤ sCap := by simpa using hr
      have h64' : ¬ (9223372036854775807 < (sLen : Int)) := by simpa using h64
      have h48'' : ¬ (281474976710656 < Builtin.nextslicecap sLen sCap * i.bytes) := by simpa using h48'
      simp [Builtin.append_, h0, h1, ht', Go.sizeOf, typeInfo_run hi, hz', hw0, asInt, asIntOf, hs, hr', hold, h64', h48'', zeroValue, hz, Question.forced, newRow, grownCap, repl]
    · simp [Builtin.append_, h0, h1, ht', Go.sizeOf, typeInfo_run hi, hz', hw, asInt, asIntOf, hs, hneg, hb', hr, hold, h64, h48', hm0, zeroValue, hz, hc, hzc, Question.forced, newRow, grownCap]
      congr 2
      apply Array.ext'
      simp [List.append_assoc]

end
end Go.Proofs.YtkpfafehcmammaaGreatDoor
namespace Go.Proofs.YtkpfafehcmammaaGreatDoor
open Go.Deep

def mst (len : Nat) : Option Nat → Nat
  | none => len
  | some n => Nat.min len n

theorem most_ex {len : Nat} {m : Option Nat} {K : Nat → Prop} (h : most len m K) : K (mst len m) := by
  cases m with
  | none => exact h
  | some n =>
    rcases ife_ex h with ⟨e, h1⟩ | ⟨e, h1⟩
    · have := Nat.le_of_ble_eq_true e
      simp only [mst]; rw [show Nat.min len n = len from Nat.min_eq_left this]; exact h1
    · have : ¬ len ≤ n := fun c => by rw [Nat.ble_eq_true_of_le c] at e; cases e
      simp only [mst]; rw [show Nat.min len n = n from Nat.min_eq_right (by omega)]; exact h1

section
variable {P : Program} {T : Tab} {e : Env} {X : Cx} {s : AS} {w : World} {a : Act} {g : G} {o : Oper} {K : KVS}

theorem cell_heap {w w' : World} {a : Addr} (h : w'.heap = w.heap) : w'.cell? a = w.cell? a := by simp [World.cell?, h]

theorem srcV_ex (hR : Rel X s w) {sz : Nat} {m : Option Nat} {y u : Value} {K : Nat → List Value → Prop} (hy : VR X y u) (h : srcV s sz m y K) :
    ∃ l us len, K (mst len m) l ∧ VRl X l us ∧ (∀ w', (Builtin.lenOf u).run P w' = .ok len w') ∧ (∀ w', w'.heap = w.heap → (Builtin.firstCells sz (mst len m) u).run P w' = .ok us.toArray w') ∧ l.length = mst len m * sz := by
  have h0 : mst 0 m = 0 := by cases m with | none => rfl | some n => exact Nat.min_eq_left (Nat.zero_le _)
  rcases vSeq_ex h with ⟨id, off, sz', len, cap, rfl, h6⟩ | ⟨n, c, rfl, h6⟩ | ⟨id, off, rfl, h6⟩ | ⟨q, rfl, h6⟩ | ⟨_, rfl, h6⟩ | ⟨_, _, _, _, _, _, rfl, h6⟩
  · have h7 := most_ex h6
    obtain ⟨h8, h9⟩ := yes_ex h7
    have := Nat.eq_of_beq_eq_true h8
    subst this
    obtain ⟨c, h10, h11⟩ := getC_ex h9
    obtain ⟨l, h12, h13, h14⟩ := cells_ex _ h11
    obtain ⟨_, _, c', rfl, _⟩ := VR_slice.1 hy
    have hc : CR X w (X.j id) c := (hR.blk id _ h10).2
    obtain ⟨us, h15, h16⟩ := hc.cells (l := l) (i := off) (by rw [h12]; exact h13)
    have hl : us.length = mst len m * sz := by rw [h15.length, h12]; rfl
    refine ⟨l, us, len, h14, h15, fun w' => by simp [Builtin.lenOf], fun w' hw => ?_, h12⟩
    have := loadCells_run (P := P) (w := w') (us := us) (L := X.j id) (i := off) (fun m u hu => by rw [cell_heap hw]; exact h16 m u hu)
    rw [hl] at this
    simp only [Builtin.firstCells]; exact this
  · obtain ⟨_, _, rfl⟩ := VR_noSlice.1 hy
    refine ⟨[], [], 0, by rw [h0]; exact h6, rfl, fun w' => by simp [Builtin.lenOf], fun w' _ => by simp [Builtin.firstCells], by rw [h0]; simp⟩
  · exact h6.elim
  · have h7 := most_ex h6
    obtain ⟨h8, h9⟩ := yes_ex h7
    have := Nat.eq_of_beq_eq_true h8
    subst this
    obtain ⟨h10, h11⟩ := take_ex h9
    have h12 := ofBs_ex h11
    have h12 := nat_ex h12
    rw [VR_string] at hy
    subst hy
    have hself : ∀ l : List UInt8, VRl X (l.map (fun b => Value.int .u8 b.toNat)) (l.map (fun b => Value.int .u8 b.toNat)) := fun l => by
      induction l with
      | nil => rfl
      | cons b l ih => exact ⟨_, _, rfl, rfl, ih⟩
    refine ⟨_, _, q.length, h12, hself _, fun w' => by simp [Builtin.lenOf]; rfl, fun w' _ => ?_, by simp; omega⟩
    simp only [Builtin.firstCells]
    have : ((⟨⟨q⟩⟩ : ByteArray).extract 0 (mst q.length m)).data.map (fun b => Value.int .u8 b.toNat) = ((q.take (mst q.length m)).map (fun b => Value.int .u8 b.toNat)).toArray := by
      apply Array.ext'
      simp [ByteArray.data_extract, List.extract]
    rw [this]; rfl
  · exact h6.elim
  · obtain ⟨p, n, rfl⟩ := VR_via.1 hy
    refine ⟨[], [], 0, by rw [h0]; exact h6, rfl, fun w' => by simp [Builtin.lenOf], fun w' _ => ?_, by rw [h0]; simp⟩
    rw [h0]
    simp [Builtin.firstCells, loadCells, loadCellsFrom]

theorem CR.old {L : Loc} {c : CB} (h : CR X w L c) {off n : Nat} (hn : off + n ≤ c.n) : ∃ olds : List Value, olds.length = n ∧ (∀ m u, olds[m]? = some u → w.cell? ⟨L.b, L.base + off + m, none⟩ = some u) ∧ ∀ i v, i < n → cbAt c (off + i) = some v → one v = true ∧ ∃ u, olds[i]? = some u ∧ VR X v u := by
  obtain ⟨cs, fz, h1, h2, h3, _, h5⟩ := h
  refine ⟨(cs.toList.drop (L.base + off)).take n, by simp; omega, fun m u hu => ?_, fun i v hi hv => ?_⟩
  · rw [cell_of_row w L.b _ cs c.ty fz h1]
    have hm : m < n := by
      have := (List.getElem?_eq_some_iff.1 hu).1
      simp at this; omega
    rw [List.getElem?_take_of_lt hm, List.getElem?_drop] at hu
    simpa using hu
  · obtain ⟨h6, u, h7, h8⟩ := h5 _ _ hv
    refine ⟨h6, u, ?_, h8⟩
    rw [List.getElem?_take_of_lt hi, List.getElem?_drop]
    rw [Nat.add_assoc]; simpa using h7

end
end Go.Proofs.YtkpfafehcmammaaGreatDoor
namespace Go.Proofs.YtkpfafehcmammaaGreatDoor
open Go.Deep

section
variable {P : Program} {T : Tab} {e : Env} {X : Cx} {s : AS} {w : World} {a : Act} {g : G} {o : Oper} {K : KVS}

/-- The cells of a row that has grown. -/
def Grown (c : CB) (off n : Nat) (new : List Value) (vs : TV) : Prop :=
  ∀ i v, i < n + new.length → (match getT vs i with | some v => some v | none => c.d) = some v → (i < n ∧ cbAt c (off + i) = some v) ∨ (n ≤ i ∧ new[i - n]? = some v ∧ one v = true)

theorem grown_ex {c : CB} {off n : Nat} {new : List Value} {K : TV → Prop} (hn : off + n ≤ c.n)
    (h : ife (Nat.beq off 0) (setL new c.vs n K) (cells n c off (fun old => appV old new (fun l => setL l .nil 0 K)))) : ∃ vs, Grown c off n new vs ∧ K vs := by
  rcases ife_ex h with ⟨e, h1⟩ | ⟨e, h1⟩
  · have := Nat.eq_of_beq_eq_true e
    subst this
    obtain ⟨vs, h2, h3, h4⟩ := setL_ex h1
    refine ⟨vs, fun i v hi hv => ?_, h4⟩
    rw [h2 i] at hv
    by_cases hi2 : n ≤ i
    · rw [if_pos ⟨hi2, hi⟩] at hv
      have hx : new[i - n]? = some new[i - n] := List.getElem?_eq_getElem (by omega)
      rw [hx] at hv
      cases hv
      exact .inr ⟨hi2, hx, h3 _ (List.getElem_mem _)⟩
    · rw [if_neg (by omega)] at hv
      exact .inl ⟨by omega, by unfold cbAt; rw [Nat.zero_add, if_pos (by omega)]; exact hv⟩
  · obtain ⟨old, h2, h3, h4⟩ := cells_ex n h1
    have h5 := appV_ex h4
    obtain ⟨vs, h6, h7, h8⟩ := setL_ex h5
    refine ⟨vs, fun i v hi hv => ?_, h8⟩
    rw [h6 i, if_pos ⟨by omega, by simp; omega⟩] at hv
    have hil : i < (old ++ new).length := by simp; omega
    have hx : (old ++ new)[i]? = some (old ++ new)[i] := List.getElem?_eq_getElem hil
    rw [Nat.sub_zero, hx] at hv
    cases hv
    by_cases hi2 : n ≤ i
    · refine .inr ⟨hi2, ?_, h7 _ (List.getElem_mem _)⟩
      rw [List.getElem?_append_right (by omega), h2] at hx
      exact hx
    · refine .inl ⟨by omega, ?_⟩
      rw [← h3 i (by omega), ← hx, List.getElem?_append_left (by omega)]

/-- Its cells, of what was there and what is new. -/
theorem grown_cell {c : CB} {off n : Nat} {new us olds : List Value} {vs : TV} (hg : Grown c off n new vs) (hl : VRl X new us) (hol : olds.length = n) (hold : ∀ i v, i < n → cbAt c (off + i) = some v → one v = true ∧ ∃ u, olds[i]? = some u ∧ VR X v u)
    {ty : TypeId} {i : Nat} {v : Value} (hv : cbAt ⟨vs, c.d, n + new.length, ty, false⟩ i = some v) : one v = true ∧ ∃ u, (olds ++ us)[i]? = some u ∧ VR X v u := by
  unfold cbAt at hv
  split at hv
  · rename_i hi
    rcases hg i v hi hv with ⟨h1, h2⟩ | ⟨h1, h2, h3⟩
    · obtain ⟨h4, u, h5, h6⟩ := hold i v h1 h2
      exact ⟨h4, u, by rw [List.getElem?_append_left (by omega)]; exact h5, h6⟩
    · obtain ⟨u, h4, h5⟩ := hl.get h2
      exact ⟨h3, u, by rw [List.getElem?_append_right (by omega), hol]; exact h4, h5⟩
  · cases hv

/-- A row that grew lies somewhere new. -/
theorem growNew (hR : Rel X s w) {h1 h' : TB} {off n : Nat} {c : CB} {new us olds : List Value} {rest : Array Value} {vs : TV} {ty : TypeId} (hsub : ∀ i c, getT h1 i = some c → getT s.h i = some c) (hp : Put h1 h' s.nx (some (.inl ⟨vs, c.d, n + new.length, ty, false⟩)))
    (hg : Grown c off n new vs) (hl : VRl X new us) (hol : olds.length = n) (hold : ∀ i v, i < n → cbAt c (off + i) = some v → one v = true ∧ ∃ u, olds[i]? = some u ∧ VR X v u) :
    Rel (X.put ⟨w.heap.size, 0, n + us.length + rest.size⟩) ⟨h', Nat.succ s.nx⟩ (w.drew.alloc (.cells (olds.toArray ++ us.toArray ++ rest) ty)) ∧
    Ext X s w (X.put ⟨w.heap.size, 0, n + us.length + rest.size⟩) ⟨h', Nat.succ s.nx⟩ (w.drew.alloc (.cells (olds.toArray ++ us.toArray ++ rest) ty)) := by
  have hlen := hl.length
  have := hR.drew.addG (w' := w.drew.alloc (.cells (olds.toArray ++ us.toArray ++ rest) ty)) (L := ⟨w.heap.size, 0, n + us.length + rest.size⟩) hsub hp (fun k hk _ => heap_alloc_old w.drew _ k hk) (by simp)
    (fun i c hc e => by have := (hR.blk i c (hsub i c hc)).2.lt; simp only at e; omega) (fun k hk _ e => by simp only [World.size_drew] at hk; simp only at e; omega) (by
      refine ⟨_, (0, 0), heap_alloc_new w.drew _, by simp; omega, by simp; omega, fun _ o _ => by simp, fun i v hv => ?_⟩
      obtain ⟨h2, u, h3, h4⟩ := grown_cell hg hl hol hold hv
      refine ⟨h2, u, ?_, VR.mono (X.put_le _) h4⟩
      have hi := (List.getElem?_eq_some_iff.1 h3).1
      simp only [Nat.zero_add]
      rw [Array.getElem?_append_left (by simp at hi ⊢; omega)]
      simpa using h3)
  exact ⟨this.1, (Ext.drew X s w).trans this.2⟩

/-- A row that grew where it was. -/
theorem growIn (hR : Rel X s w) {h1 h' : TB} {id off n : Nat} {c : CB} {new us : List Value} {vs : TV} {w' : World} (hid : getT s.h id = some (.inl c)) (hro : c.ro = false) (hd : Put s.h h1 id none) (hp : Put h1 h' s.nx (some (.inl ⟨vs, c.d, n + new.length, c.ty, false⟩)))
    (hg : Grown c off n new vs) (hl : VRl X new us) (hon : off ≤ (X.j id).lim) (hfit : off + n + us.length ≤ (X.j id).lim) (hrun : (storeCells ⟨(X.j id).b, (X.j id).base + off + n, none⟩ us).run P w = .ok () w') (h1us : ∀ u ∈ us, u.oneCell' = true) :
    Rel (X.put ⟨(X.j id).b, (X.j id).base + off, (X.j id).lim - off⟩) ⟨h', Nat.succ s.nx⟩ w' ∧ Ext X s w (X.put ⟨(X.j id).b, (X.j id).base + off, (X.j id).lim - off⟩) ⟨h', Nat.succ s.nx⟩ w' := by
  have hc : CR X w (X.j id) c := (hR.blk id _ hid).2
  have hc2 := hc
  obtain ⟨cs, fz, h9, h10, h11, h12, h13⟩ := hc
  obtain ⟨w2, h14, hio, h15, h16, cs', h17, h18, h19⟩ := storeCells_run (P := P) (w := w) (b := (X.j id).b) (off := (X.j id).base + off + n) (i := 0) (cs := cs) (ty := c.ty) (fz := fz) h1us h9 (by omega) (h12 hro)
  rw [hrun] at h14
  cases h14
  have hsub : ∀ i c, getT h1 i = some c → getT s.h i = some c := fun i c hc => by
    rw [hd i] at hc
    split at hc
    · cases hc
    · exact hc
  refine hR.addG hsub hp (fun k _ hk => h16 k hk) (by omega) (fun i c' hc' e => ?_) (fun k hk hf e => hf id _ hid (by simp [wrt, hro]) e) ?_ hio
  · have h20 := hR.sep _ _ _ _ (hsub i c' hc') hid e
    subst h20
    rw [hd i, if_pos rfl] at hc'
    cases hc'
  · have hlen := hl.length
    refine ⟨cs', fz, h17, by simp; omega, by rw [h18]; simp; omega, fun _ => by rw [h18]; exact h12 hro, fun i v hv => ?_⟩
    unfold cbAt at hv
    split at hv
    · rename_i hi
      have hi' : i < n + new.length := hi
      rcases hg i v hi' hv with ⟨h1, h2⟩ | ⟨h1, h2, h3⟩
      · obtain ⟨h4, u, h5, h6⟩ := h13 _ _ h2
        refine ⟨h4, u, ?_, VR.mono (X.put_le _) h6⟩
        rw [h19, if_neg (by simp; omega)]
        simp only at *
        rw [Nat.add_assoc]; exact h5
      · obtain ⟨u, h4, h5⟩ := hl.get h2
        refine ⟨h3, u, ?_, VR.mono (X.put_le _) h5⟩
        rw [h19, if_pos (by simp; omega), ← h4]
        congr 1; simp; omega
    · cases hv

end
end Go.Proofs.YtkpfafehcmammaaGreatDoor
namespace Go.Proofs.YtkpfafehcmammaaGreatDoor
open Go.Deep

section
variable {P : Program} {T : Tab} {e : Env} {X : Cx} {s : AS} {w : World} {a : Act} {g : G} {o : Oper} {K : KVS}

/-- An append comes out as it is said. -/
def AppOK (P : Program) (X : Cx) (s : AS) (w : World) (ts : Array TypeId) (ty : TypeId) (ux uy : Value) (K : KVS) : Prop :=
  ∃ v s' Y u w', K v s' ∧ (Builtin.append_ ts ty #[ux, uy]).run P w = .ok u w' ∧ Rel Y s' w' ∧ Ext X s w Y s' w' ∧ VR Y v u

theorem next_fits {need old b : Nat} (h : old < need) (hb : need * b < 1000000000) : Builtin.nextslicecap need old * b ≤ 281474976710656 := by
  have h1 := nextslicecap_le h
  have h2 := Nat.mul_le_mul_right b h1
  have h3 : 2 * need * b = 2 * (need * b) := Nat.mul_assoc _ _ _
  omega

theorem old_run {L : Loc} {off n len c : Nat} {sz : Nat} {olds : List Value} (hn : n = len * sz) (hol : olds.length = n) (h : ∀ m u, olds[m]? = some u → w.cell? ⟨L.b, L.base + off + m, none⟩ = some u) :
    (Builtin.firstCells sz len (.slice (some ⟨L.b, L.base + off, none⟩) len c)).run P w.drew = .ok olds.toArray w.drew := by
  simp only [Builtin.firstCells]
  have := loadCells_run (P := P) (w := w.drew) (us := olds) (L := L) (i := off) (fun m u hu => h m u hu)
  rw [hol, hn] at this
  exact this

theorem grow_cap {need : Nat} {zc : Array Value} {sz : Nat} (hz : zc.size = sz) (old : Nat) (el : TypeId) : need * sz + (Builtin.zeroCells zc (grownCap w need old el - need)).size = grownCap w need old el * sz := by
  rw [size_zeroCells, hz, Nat.sub_mul]
  have := Nat.mul_le_mul_right sz (grownCap_ge w need old el)
  omega

theorem grow_ok (hR : Rel X s w) {ts : Array TypeId} {ty t t' el : TypeId} {i : TypeInfo} {z uy : Value} {by_ sz id off len c0 m : Nat} {c : CB} {new us : List Value} {dead : Bool} (ht0 : ts[0]? = some t) (ht1 : ts[1]? = some t') (ht : P.underlying t = some (.slice el)) (hi : P.info? el = some i)
    (hsz : i.size = sz) (hby : i.bytes = by_) (hz : i.zero = some z) (hzs : z.cells.size = sz) (hpos : 0 < sz) (hsrc : Src P w t' el i uy m us) (hl : VRl X new us) (hnl : new.length = m * sz) (hid : getT s.h id = some (.inl c))
    (h1us : dead = true → ∀ u ∈ us, u.oneCell' = true) (hlim : off + c0 * sz ≤ (X.j id).lim) (hdead : dead = false → ¬ len + m ≤ c0) (h : grow s el by_ id c off sz len m new dead K) :
    AppOK P X s w ts ty (.slice (some ⟨(X.j id).b, (X.j id).base + off, none⟩) len c0) uy K := by
  obtain ⟨h1, h2⟩ := yes_ex h
  have h2 := nat_ex h2
  have h2 := nat_ex h2
  simp only [Bool.and_eq_true, Bool.not_eq_true'] at h1
  have hcn : off + len * sz ≤ c.n := Nat.le_of_ble_eq_true h1.1.1.1.1
  have hro := h1.1.1.1.2
  have hty : c.ty = el := Nat.eq_of_beq_eq_true h1.1.1.2
  have hb1 : (len + m) * by_ < 1000000000 := blt_iff.1 h1.1.2
  have hb2 : len + m < 1000000000 := blt_iff.1 h1.2
  obtain ⟨vs, h3, h4⟩ := grown_ex hcn h2
  have hc : CR X w (X.j id) c := (hR.blk id _ hid).2
  obtain ⟨olds, ho1, ho2, ho3⟩ := hc.old hcn
  have hlen := hl.length
  have hnm : Nat.mul (Nat.add len m) sz = len * sz + new.length := by rw [hnl]; exact Nat.add_mul len m sz
  have hrunA := hsrc.run ts ty t (some ⟨(X.j id).b, (X.j id).base + off, none⟩) len c0 ht0 ht1 ht hi
  -- not where it was
  have notRoom : ∀ h1' : TB, (∀ i c, getT h1' i = some c → getT s.h i = some c) → ¬ len + m ≤ c0 → newB ⟨h1', s.nx⟩ (.inl ⟨vs, c.d, Nat.mul (Nat.add len m) sz, el, false⟩) (fun s' => K (mkS s.nx 0 sz (Nat.add len m) 0) s') → AppOK P X s w ts ty (.slice (some ⟨(X.j id).b, (X.j id).base + off, none⟩) len c0) uy K := fun h1' hsub hnr hnb => by
    obtain ⟨h', h5, h6⟩ := newB_ex hnb
    rw [hnm] at h5
    have hrun := hrunA.2 hnr (by omega) (by rw [hby]; exact next_fits (by omega) hb1) z hz olds (by rw [hsz]; exact old_run rfl ho1 ho2)
    obtain ⟨r1, r2⟩ := growNew hR (rest := Builtin.zeroCells z.cells (grownCap w (len + m) c0 el - (len + m))) (us := us) hsub h5 h3 hl ho1 ho3
    refine ⟨_, _, _, _, _, h6, hrun, r1, r2, ?_⟩
    refine newS_VR hR hpos (by have := grownCap_ge w (len + m) c0 el; exact this) ?_ (fun h => by cases h)
    have h7 := grow_cap (w := w) hzs c0 el (need := len + m)
    rw [Nat.add_mul] at h7
    omega
  cases dead with
  | false => exact notRoom s.h (fun _ _ hc => hc) (hdead rfl) h4
  | true =>
    obtain ⟨h1', h5, h6⟩ := delB_ex (K := fun h => newB ⟨h, s.nx⟩ (.inl ⟨vs, c.d, Nat.mul (Nat.add len m) sz, el, false⟩) (fun s' => K (mkS s.nx 0 sz (Nat.add len m) 0) s')) h4
    have hsub : ∀ i c, getT h1' i = some c → getT s.h i = some c := fun i c hc => by
      rw [h5 i] at hc
      split at hc
      · cases hc
      · exact hc
    by_cases hroom : len + m ≤ c0
    · obtain ⟨h', h7, h8⟩ := newB_ex h6
      rw [hnm] at h7
      have hmul : (len + m) * sz ≤ c0 * sz := Nat.mul_le_mul_right sz hroom
      rw [Nat.add_mul] at hmul
      obtain ⟨cs, fz, h9, h10, h11, h12, h13⟩ := hc
      obtain ⟨w2, h14, _⟩ := storeCells_run (P := P) (w := w) (b := (X.j id).b) (off := (X.j id).base + off + len * sz) (i := 0) (cs := cs) (ty := c.ty) (fz := fz) (h1us rfl) h9 (by omega) (h12 hro)
      obtain ⟨r1, r2⟩ := growIn (P := P) hR hid hro h5 (by rw [hty]; exact h7) h3 hl (by omega) (by omega) h14 (h1us rfl)
      have hrun := hrunA.1 hroom
      simp only [hsz, addr_add, h14, Result.andThen] at hrun
      refine ⟨_, _, _, _, _, h8, hrun, r1, r2, VR_slice.2 ⟨?_, hpos, c0, ?_, hroom, ?_, fun h => by cases h⟩⟩
      · rw [← hR.nx]; simp [Cx.put]
      · rw [← hR.nx, X.put_at]; rfl
      · rw [← hR.nx, X.put_at]; simp only; omega
    · exact notRoom h1' hsub hroom h6

theorem wr_one {id off : Nat} {c : CB} {l : List Value} {K : KS} (h : wr s id c off l K) : ∀ v ∈ l, one v = true := by
  obtain ⟨_, h2⟩ := yes_ex h
  obtain ⟨vs, _, h4, _⟩ := setL_ex h2
  exact h4

theorem grow_one {ty : TypeId} {by_ id off sz len m : Nat} {c : CB} {new : List Value} {dead : Bool} (h : grow s ty by_ id c off sz len m new dead K) : ∀ v ∈ new, one v = true := by
  obtain ⟨_, h2⟩ := yes_ex h
  have h2 := nat_ex h2
  have h2 := nat_ex h2
  rcases ife_ex h2 with ⟨_, h1⟩ | ⟨_, h1⟩
  · obtain ⟨_, _, h3, _⟩ := setL_ex h1
    exact h3
  · obtain ⟨old, _, _, h4⟩ := cells_ex _ h1
    obtain ⟨_, _, h3, _⟩ := setL_ex (appV_ex h4)
    exact fun v hv => h3 v (List.mem_append_right _ hv)

theorem appE_ok (hR : Rel X s w) {ts : Array TypeId} {ty t t' el : TypeId} {i : TypeInfo} {z x ux uy : Value} {by_ sz m : Nat} {new us : List Value} (ht0 : ts[0]? = some t) (ht1 : ts[1]? = some t') (ht : P.underlying t = some (.slice el)) (hi : P.info? el = some i)
    (hsz : i.size = sz) (hby : i.bytes = by_) (hz : i.zero = some z) (hzs : z.cells.size = sz) (hsrc : Src P w t' el i uy m us) (hl : VRl X new us) (hx : VR X x ux) (h : appE s el by_ sz x m new K) :
    AppOK P X s w ts ty ux uy K := by
  obtain ⟨h1, h2⟩ := yes_ex h
  simp only [Bool.and_eq_true] at h1
  have hnl : new.length = m * sz := Nat.eq_of_beq_eq_true h1.1
  have hpos := blt_iff.1 h1.2
  rcases vSeq_ex h2 with ⟨id, off, sz', len, cap, rfl, h6⟩ | ⟨n, c, rfl, h6⟩ | ⟨id, off, rfl, h6⟩ | ⟨q, rfl, h6⟩ | ⟨_, rfl, h6⟩ | ⟨_, _, _, _, _, _, rfl, h6⟩
  · obtain ⟨h7, h8⟩ := yes_ex h6
    have := Nat.eq_of_beq_eq_true h7
    subst this
    obtain ⟨c, h9, h10⟩ := getC_ex h8
    obtain ⟨h11, _, c0, rfl, h12, h13, h14⟩ := VR_slice.1 hx
    cases cap with
    | zero =>
      have hone := hl.all_one (grow_one h10)
      exact grow_ok hR ht0 ht1 ht hi hsz hby hz hzs hpos hsrc hl hnl h9 (fun _ => hone) h13 (fun e => by cases e) h10
    | succ k =>
      have hk : k = c0 := by have := h14 (by omega); omega
      subst hk
      rcases ife_ex h10 with ⟨e1, h15⟩ | ⟨e1, h15⟩
      · have hroom : len + m ≤ k := Nat.le_of_ble_eq_true e1
        obtain ⟨s', w', h16, h17, h18, h19⟩ := wr_ex (P := P) hR h9 hl h15
        have h16 := nat_ex h16
        have hrun := (hsrc.run ts ty t (some ⟨(X.j id).b, (X.j id).base + off, none⟩) len k ht0 ht1 ht hi).1 hroom
        have h17' : (storeCells ⟨(X.j id).b, (X.j id).base + off + len * sz, none⟩ us).run P w = .ok () w' := by rw [Nat.add_assoc]; exact h17
        simp only [hsz, addr_add, h17', Result.andThen] at hrun
        exact ⟨_, _, X, _, _, h16, hrun, h18, h19, VR_slice.2 ⟨h11, hpos, k, rfl, hroom, h13, fun _ => rfl⟩⟩
      · have hroom : ¬ len + m ≤ k := fun c => by rw [show Nat.ble (Nat.add len m) k = true from Nat.ble_eq_true_of_le c] at e1; cases e1
        exact grow_ok hR ht0 ht1 ht hi hsz hby hz hzs hpos hsrc hl hnl h9 (fun e => by cases e) h13 (fun _ => hroom) h15
  · obtain ⟨_, _, rfl⟩ := VR_noSlice.1 hx
    rcases ife_ex h6 with ⟨e1, h7⟩ | ⟨e1, h7⟩
    · have := Nat.eq_of_beq_eq_true e1
      subst this
      have hrun := (hsrc.run ts ty t none 0 0 ht0 ht1 ht hi).1 (Nat.le_refl _)
      exact ⟨_, _, X, _, _, h7, hrun, hR, Ext.refl X s w, ⟨rfl, rfl, rfl⟩⟩
    · obtain ⟨h8, h9⟩ := yes_ex h7
      simp only [Bool.and_eq_true] at h8
      have hb1 : m * by_ < 1000000000 := blt_iff.1 h8.1
      have hb2 : m < 1000000000 := blt_iff.1 h8.2
      have hm : ¬ m = 0 := fun c => by subst c; cases e1
      have hrun := (hsrc.run ts ty t none 0 0 ht0 ht1 ht hi).2 (by omega) (by omega) (by rw [hby]; exact next_fits (by omega) (by simpa using hb1)) z hz [] (by simp [Builtin.firstCells])
      obtain ⟨s', lim, h10, h11, h12, h13⟩ := newC_ex hR.drew (rest := (Builtin.zeroCells z.cells (grownCap w (0 + m) 0 el - (0 + m))).toList) hl h9
      have harr : ((us ++ (Builtin.zeroCells z.cells (grownCap w (0 + m) 0 el - (0 + m))).toList).toArray) = (([] : List Value).toArray ++ us.toArray ++ Builtin.zeroCells z.cells (grownCap w (0 + m) 0 el - (0 + m))) := by
        apply Array.ext'
        simp
      rw [harr] at h11 h12
      refine ⟨_, _, _, _, _, h10, hrun, h11, (Ext.drew X s w).trans h12, ?_⟩
      rw [Nat.zero_add]
      refine newS_VR hR hpos (by have := grownCap_ge w m 0 el; exact this) ?_ (fun h => by cases h)
      have h14 := grow_cap (w := w) hzs 0 el (need := m)
      rw [h13, hl.length, hnl]
      simp only [Array.length_toList, Nat.zero_add]
      omega
  · exact h6.elim
  · exact h6.elim
  · exact h6.elim
  · exact h6.elim

theorem append_ok (hR : Rel X s w) (hg : GR X g a) {args : Array Operand} {ts : Array TypeId} (ho : o.op = .call ⟨.builtin .append, args, ts⟩) (h : lAppend args ts P T e s g K) : OpOK P o a X s w K := by
  obtain ⟨x0, y0, h1, h2⟩ := two_ex h
  obtain ⟨t, t', r, h3, h4⟩ := fst2_ex h2
  obtain ⟨x, h5, h6⟩ := opd_ex hR hg h4
  obtain ⟨y, h7, h8⟩ := opd_ex hR hg h5
  obtain ⟨el, h9, h10⟩ := ok_ex h7
  obtain ⟨sz, h11, h12⟩ := ok_ex h10
  obtain ⟨by_, h13, h14⟩ := ok_ex h12
  obtain ⟨z, h15, h16⟩ := ok_ex h14
  obtain ⟨h17, h18⟩ := yes_ex h16
  have hzl : (cellsOf z).length = sz := Nat.eq_of_beq_eq_true h17
  obtain ⟨i, hi, hiz, hpz⟩ := zeroV_un h15
  have hb : i.bytes = by_ := by unfold bytesOf at h13; rw [hi] at h13; exact Option.some.inj h13
  have hs1 : i.size = sz := by unfold sizeOf at h11; rw [hi] at h11; exact Option.some.inj h11
  have hzs : z.cells.size = sz := by rw [← hzl, ← (VR_cells (zeroV_VR X h15)).length]; simp
  have e1 : args = #[x0, y0] := by apply Array.ext'; simpa using h1
  have e2 : ts[0]? = some t := by rw [← Array.getElem?_toList, h3]; rfl
  have e3 : ts[1]? = some t' := by rw [← Array.getElem?_toList, h3]; rfl
  subst e1
  have key : AppOK P X s w ts o.type (a.eval x0) (a.eval y0) K → OpOK P o a X s w K := fun ⟨v, s', Y, u, w', k1, k2, k3, k4, k5⟩ => by
    refine ⟨v, s', Y, u, w', k1, .inl ?_, k3, k4, k5⟩
    simp [execOp, ho, resolve, invoke, builtin, k2]
  rcases ife_ex h18 with ⟨e4, h19⟩ | ⟨e4, h19⟩
  · obtain ⟨k, m, rfl, h20⟩ := vNat_ex h19
    obtain ⟨h21, h22⟩ := yes_ex h20
    have h23 := rep_ex h22
    simp only [Bool.and_eq_true] at h21
    have hm := blt_iff.1 h21.1.2
    have hmb : m * by_ < 1000000000 := blt_iff.1 h21.2
    rw [VR_int] at h8
    cases h24 : tInt P t' with
    | none => rw [h24] at e4; cases e4
    | some q =>
      have hzc : z.cells = #[z] := by have := h21.1.1; cases z <;> first | rfl | cases this
      have hsz1 : sz = 1 := by rw [← hzs, hzc]; rfl
      refine key ?_
      rw [h8]
      have hself : VRl X [z] [z] := ⟨z, [], rfl, zeroV_VR X h15, rfl⟩
      exact appE_ok hR e2 e3 (elemOf_un h9) hi hs1 hb hiz hzs (src_zeros (tInt_un h24) hiz (hs1.trans hsz1) hzc hm (by rw [hb]; omega)) (hself.repl m) h6 h23
  · obtain ⟨h20, h21⟩ := yes_ex h19
    obtain ⟨d, h22⟩ := tSome_un h20
    obtain ⟨l, us, len, h23, h24, h25, h26, h27⟩ := srcV_ex (P := P) hR h8 h21
    have hd : ∀ k, d ≠ .int k := fun k c => by
      subst c
      unfold tInt at e4
      rw [h22] at e4
      cases e4
    exact key (appE_ok hR e2 e3 (elemOf_un h9) hi hs1 hb hiz hzs (src_plain h22 hd (h25 w) (by rw [hs1]; exact h26 w rfl) (by rw [hs1]; exact h26 w.drew rfl)) h24 h6 h23)

end
end Go.Proofs.YtkpfafehcmammaaGreatDoor
namespace Go.Proofs.YtkpfafehcmammaaGreatDoor
open Go.Deep

section
variable {P : Program} {T : Tab} {e : Env} {X : Cx} {s : AS} {w : World} {a : Act} {g : G} {o : Oper} {K : KVS}

theorem copy_run {ts : Array TypeId} {ty t el : TypeId} {base : Option Addr} {dl c sz len : Nat} {uy : Value} {us : List Value} {w' : World} (h0 : ts[0]? = some t) (ht : P.underlying t = some (.slice el)) (hsz : sizeOf P el = some sz) (hlen : (Builtin.lenOf uy).run P w = .ok len w)
    (hc : (Builtin.firstCells sz (Nat.min len dl) uy).run P w = .ok us.toArray w) (hs : ((match base with | some a => storeCells a us | none => pure () : Sem Unit)).run P w = .ok () w') :
    (Builtin.copy_ ts ty #[.slice base dl c, uy]).run P w = .ok (.int .i64 (Nat.min len dl : Nat)) w' := by
  have ht' : ((underlying t : Sem TypeDesc).run P w) = .ok (.slice el) w := underlying_run ht
  have hz' : ((Go.sizeOf el : Sem Nat).run P w) = .ok sz w := sizeOf_run hsz
  cases base with
  | none =>
    cases hs
    simp [Builtin.copy_, h0, ht', hz', hlen, hc, goInt]
  | some a =>
    simp [Builtin.copy_, h0, ht', hz', hlen, hc, goInt, hs]

theorem copy_ok (hR : Rel X s w) (hg : GR X g a) {args : Array Operand} {ts : Array TypeId} (ho : o.op = .call ⟨.builtin .copy, args, ts⟩) (h : lCopy args ts P T e s g K) : OpOK P o a X s w K := by
  obtain ⟨x0, y0, h1, h2⟩ := two_ex h
  obtain ⟨t, t', r, h3, h4⟩ := fst2_ex h2
  obtain ⟨x, h5, h6⟩ := opd_ex hR hg h4
  obtain ⟨y, h7, h8⟩ := opd_ex hR hg h5
  obtain ⟨sz, h9, h10⟩ := ok_ex h7
  obtain ⟨el, h11, h12⟩ := elemSize_un h9
  have e1 : args = #[x0, y0] := by apply Array.ext'; simpa using h1
  have e2 : ts[0]? = some t := by rw [← Array.getElem?_toList, h3]; rfl
  subst e1
  have run : ∀ {u w'}, (Builtin.copy_ ts o.type #[a.eval x0, a.eval y0]).run P w = .ok u w' → Done P o a w u w' := fun hr => .inl (by simp [execOp, ho, resolve, invoke, builtin, hr])
  have zero : ∀ {us : List Value} {l : List Value} {len : Nat}, VRl X l us → l.length = mst len (some 0) * sz → us = [] := fun hl hn => by
    have := hl.length
    rw [hn] at this
    simpa [mst, show Nat.min _ 0 = 0 from Nat.min_zero _] using this
  rcases vSeq_ex h10 with ⟨id, off, sz', dl, cap, rfl, h13⟩ | ⟨n, c, rfl, h13⟩ | ⟨id, off, rfl, h13⟩ | ⟨q, rfl, h13⟩ | ⟨_, rfl, h13⟩ | ⟨_, _, _, _, _, _, rfl, h13⟩
  · obtain ⟨h14, h15⟩ := yes_ex h13
    have := Nat.eq_of_beq_eq_true h14
    subst this
    obtain ⟨l, us, len, h16, h17, h18, h19, h20⟩ := srcV_ex (P := P) hR h8 h15
    obtain ⟨c, h21, h22⟩ := getC_ex h16
    obtain ⟨s', w', h23, h24, h25, h26⟩ := wr_ex (P := P) hR h21 h17 h22
    obtain ⟨_, _, c0, h27, _⟩ := VR_slice.1 h6
    have hrun := copy_run (P := P) (ts := ts) (ty := o.type) (c := c0) (base := some ⟨(X.j id).b, (X.j id).base + off, none⟩) e2 h11 h12 (h18 w) (h19 w rfl) h24
    exact ⟨_, _, X, _, _, h23, run (by rw [h27]; exact hrun), h25, h26, rfl⟩
  · obtain ⟨_, _, h27⟩ := VR_noSlice.1 h6
    obtain ⟨l, us, len, h16, h17, h18, h19, h20⟩ := srcV_ex (P := P) hR h8 h13
    have hrun := copy_run (P := P) (ts := ts) (ty := o.type) (c := 0) (dl := 0) (base := none) e2 h11 h12 (h18 w) (h19 w rfl) (w' := w) rfl
    rw [show Nat.min len 0 = 0 from Nat.min_zero _] at hrun
    exact ⟨_, _, X, _, _, h16, run (by rw [h27]; exact hrun), hR, Ext.refl X s w, rfl⟩
  · exact h13.elim
  · exact h13.elim
  · exact h13.elim
  · obtain ⟨p, n, h27⟩ := VR_via.1 h6
    obtain ⟨l, us, len, h16, h17, h18, h19, h20⟩ := srcV_ex (P := P) hR h8 h13
    have hz := zero h17 h20
    subst hz
    have hrun := copy_run (P := P) (ts := ts) (ty := o.type) (c := n) (dl := 0) (base := some p) e2 h11 h12 (h18 w) (h19 w rfl) (w' := w) rfl
    rw [show Nat.min len 0 = 0 from Nat.min_zero _] at hrun
    exact ⟨_, _, X, _, _, h16, run (by rw [h27]; exact hrun), hR, Ext.refl X s w, rfl⟩

theorem ptrOf_un {t e : TypeId} (h : ptrOf P t = some e) : P.underlying t = some (.pointer e) := by unfold ptrOf at h; split at h <;> first | (cases h; assumption) | cases h

theorem lies_at {e : TypeId} (hc : P.cellsOf e = 1) (count off n : Nat) (hn : off + n ≤ count) : liesAt P P.depth e count off e n = true := by
  have hd : P.depth = (2 * (P.types.size + Made.depth) + 1) + 1 := rfl
  rw [hd]
  simp only [liesAt, Bool.or_eq_true]
  left
  rw [hd]
  simp [rowAt, hc, sameLayout, Nat.mod_one]
  omega

theorem heap_freeze_ne (w : World) (b i n k : Nat) (h : k ≠ b) : (w.freeze ⟨b, i, none⟩ n).heap[k]? = w.heap[k]? := by
  unfold World.freeze
  split
  · rfl
  · simp only
    rw [Array.getElem?_modify, if_neg (fun e => h e.symm)]

theorem heap_freeze (w : World) (b i n : Nat) {cs : Array Value} {ty : TypeId} {fz : Nat × Nat} (h : w.heap[b]? = some (.cells cs ty fz)) : ∃ fz', (w.freeze ⟨b, i, none⟩ n).heap[b]? = some (.cells cs ty fz') := by
  unfold World.freeze
  split
  · exact ⟨fz, h⟩
  · simp only
    rw [Array.getElem?_modify, if_pos rfl, h]
    obtain ⟨lo, hi⟩ := fz
    exact ⟨_, rfl⟩

theorem ustr_ok (hR : Rel X s w) (hg : GR X g a) {args : Array Operand} {ts : Array TypeId} (ho : o.op = .call ⟨.builtin .unsafeString, args, ts⟩) (h : lUStr args ts P T e s g K) : OpOK P o a X s w K := by
  obtain ⟨x0, y0, h1, h2⟩ := two_ex h
  obtain ⟨t, t', r, h3, h4⟩ := fst2_ex h2
  obtain ⟨el, h5, h6⟩ := ok_ex h4
  obtain ⟨sz, h7, h8⟩ := ok_ex h6
  obtain ⟨h9, h10⟩ := yes_ex h8
  have := Nat.eq_of_beq_eq_true h9
  subst this
  obtain ⟨p, h11, h12⟩ := opd_ex hR hg h10
  obtain ⟨id, off, rfl, h13⟩ := vPtr_ex h11
  obtain ⟨v, h14, h15⟩ := opd_ex hR hg h13
  obtain ⟨k, n, rfl, h16⟩ := vNat_ex h14
  obtain ⟨c, h17, h18⟩ := getC_ex h16
  obtain ⟨h19, h20⟩ := yes_ex h18
  simp only [Bool.and_eq_true, Bool.not_eq_true'] at h19
  have hty : c.ty = el := Nat.eq_of_beq_eq_true h19.1.1.1
  have hn0 := blt_iff.1 h19.1.2
  have hn9 := blt_iff.1 h19.2
  obtain ⟨l, h21, h22, h23⟩ := cells_ex n h20
  have hc : CR X w (X.j id) c := (hR.blk id _ h17).2
  obtain ⟨us, h24, h25⟩ := hc.cells (l := l) (i := off) (by rw [h21]; exact h22)
  obtain ⟨bs, h26, h27⟩ := bytes_ex h24 h23
  obtain ⟨h', h28, h29⟩ := setB_ex h26
  obtain ⟨cs, fz, c1, c2, c3, c4, c5⟩ := hc
  have hlen : us.length = n := by rw [h24.length, h21]
  have hbl : bs.length = n := by rw [← hlen, h27]; simp
  have hin : off + n ≤ c.n := by
    have h30 := h22 (n - 1) (by omega)
    rw [List.getElem?_eq_getElem (by omega)] at h30
    unfold cbAt at h30
    split at h30
    · omega
    · cases h30
  have hcell : P.cellsOf el = 1 := by
    unfold sizeOf at h7
    unfold Program.cellsOf
    split at h7
    · rename_i i hi; rw [hi]; simpa using h7
    · cases h7
  have hsh : w.shape? (X.j id).b = some (el, cs.size) := by simp [World.shape?, c1, hty]
  have hlies := lies_at (P := P) hcell (cs.size / P.cellsOf el) ((X.j id).base + off) n (by rw [hcell]; simp; omega)
  have hlb : (loadBytes ⟨(X.j id).b, (X.j id).base + off, none⟩ .empty n).run P w = .ok ⟨⟨bs⟩⟩ w := by
    have := Lib.run_loadBytes (P := P) w bs ⟨(X.j id).b, (X.j id).base + off, none⟩ .empty (fun j x hx => by
      rw [addr_add]
      refine h25 j _ ?_
      rw [h27, List.getElem?_map, hx]; rfl)
    rw [hbl] at this
    rw [this]
    congr 1
    apply ByteArray.ext
    simp
  obtain ⟨_, h31⟩ := VR_ptr.1 h12
  rw [VR_int] at h15
  obtain ⟨fz', hfz⟩ := heap_freeze w (X.j id).b ((X.j id).base + off) n c1
  have hsize : (w.freeze ⟨(X.j id).b, (X.j id).base + off, none⟩ n).heap.size = w.heap.size := by
    unfold World.freeze; split <;> simp
  obtain ⟨r1, r2⟩ := hR.upd (w' := w.freeze ⟨(X.j id).b, (X.j id).base + off, none⟩ n) (hio := by simp only [World.freeze]; split <;> exact ⟨rfl, rfl⟩) h17 (by simp [wrt, h19.1.1.2]) h28 (fun q hq => heap_freeze_ne w _ _ _ q hq) hsize ⟨cs, fz', hfz, c2, c3, (fun e => by cases e), c5⟩
  have e1 : args = #[x0, y0] := by apply Array.ext'; simpa using h1
  have e2 : ts[0]? = some t := by rw [← Array.getElem?_toList, h3]; rfl
  subst e1
  refine ⟨_, _, X, .string ⟨⟨bs⟩⟩, _, h29, .inl ?_, r1, r2, rfl⟩
  have hneg : ¬ ((n : Int) < 0) := by omega
  have hn0' : ¬ n = 0 := by omega
  have hmax' : ¬ (9223372036854775807 < (n : Int)) := by omega
  have hi64 : IntKind.i64.max = 9223372036854775807 := rfl
  obtain ⟨f, hdef, hf⟩ : ∃ f, Builtin.unsafeString_ ts o.type #[.pointer (some ⟨(X.j id).b, (X.j id).base + off, none⟩), .int k (n : Int)] = asInt (.int k (n : Int)) >>= f ∧ (f (n : Int)).run P w = .ok (.string ⟨⟨bs⟩⟩) (w.freeze ⟨(X.j id).b, (X.j id).base + off, none⟩ n) :=
    ⟨_, rfl, by simp [e2, hi64, hmax', hneg, hn0', variablesAt, hsh, Go.elemOf, underlying_run (ptrOf_un h5), hlies, hlb]⟩
  have hrun : (Builtin.unsafeString_ ts o.type #[a.eval x0, a.eval y0]).run P w = .ok (.string ⟨⟨bs⟩⟩) (w.freeze ⟨(X.j id).b, (X.j id).base + off, none⟩ n) := by
    rw [h31, show a.eval y0 = .int k (n : Int) from h15, hdef]
    simp [asInt, asIntOf, hf]
  simp [execOp, ho, resolve, invoke, builtin, hrun]

/-! Text as bytes. -/
theorem newC_ex2 (hR : Rel X s w) {ty : TypeId} {l us rest : List Value} {w' : World} {fz : Nat × Nat} {K : KS} (hl : VRl X l us) (h : newC s ty l K) (hw : w'.heap[w.heap.size]? = some (.cells (us ++ rest).toArray ty fz)) (ho : ∀ k, k < w.heap.size → w'.heap[k]? = w.heap[k]?) (hs : w.heap.size ≤ w'.heap.size)
    (hf : ∀ o, o < (us ++ rest).length → ¬ (fz.1 ≤ o ∧ o < fz.2)) (hio : w'.os = w.os ∧ w'.output = w.output) :
    ∃ s', K s' ∧ Rel (X.put ⟨w.heap.size, 0, us.length + rest.length⟩) s' w' ∧ Ext X s w (X.put ⟨w.heap.size, 0, us.length + rest.length⟩) s' w' := by
  obtain ⟨vs, h1, h2, h3⟩ := setL_ex h
  have h3 := nat_ex h3
  obtain ⟨h', h4, h5⟩ := newB_ex h3
  have hlen := hl.length
  obtain ⟨r1, r2⟩ := hR.addG (w' := w') (hio := hio) (L := ⟨w.heap.size, 0, us.length + rest.length⟩) (fun _ _ hc => hc) h4 (fun k hk _ => ho k hk) hs (fun i c hc e => by have := (hR.blk i c hc).2.lt; simp only at e; omega) (fun k hk _ e => by simp only at e; omega) (by
    refine ⟨(us ++ rest).toArray, fz, hw, by simp; omega, by simp, fun _ o ho' => hf o (by simpa using ho'), fun i v hv => ?_⟩
    unfold cbAt at hv
    split at hv
    · rename_i hi'
      have hi : i < l.length := hi'
      rw [h1 i, if_pos (by omega)] at hv
      simp only [Nat.sub_zero] at hv
      have hx : l[i]? = some l[i] := List.getElem?_eq_getElem hi
      rw [hx] at hv
      cases hv
      obtain ⟨u, h6, h7⟩ := hl.get hx
      refine ⟨h2 _ (List.getElem_mem _), u, ?_, VR.mono (X.put_le _) h7⟩
      simp only [Nat.zero_add, List.getElem?_toArray]
      rw [List.getElem?_append_left (by omega)]; exact h6
    · cases hv)
  exact ⟨_, h5, r1, r2⟩

theorem heap_freeze0 (w : World) (b i n : Nat) (hn : n ≠ 0) {cs : Array Value} {ty : TypeId} (h : w.heap[b]? = some (.cells cs ty (0, 0))) : (w.freeze ⟨b, i, none⟩ n).heap[b]? = some (.cells cs ty (i, i + n)) := by
  unfold World.freeze
  rw [if_neg hn]
  simp only
  rw [Array.getElem?_modify, if_pos rfl, h]
  rfl

theorem bytes_ok (hR : Rel X s w) {src dst el : TypeId} {x : Operand} {bs : List UInt8} {d : TypeDesc} (ho : o.op = .convert src dst x) (hx : a.eval x = .string ⟨⟨bs⟩⟩) (hd : P.underlying dst = some (.slice el)) (he : P.underlying el = some (.int .u8)) (hsrc : P.underlying src = some d)
    (h : lBytes s el bs K) : OpOK P o a X s w K := by
  have h1 := ofBs_ex h
  have hself : ∀ l : List UInt8, VRl X (l.map (fun b => Value.int .u8 b.toNat)) (l.map (fun b => Value.int .u8 b.toNat)) := fun l => by
    induction l with
    | nil => rfl
    | cons b l ih => exact ⟨_, _, rfl, rfl, ih⟩
  let us := bs.map (fun b => Value.int .u8 b.toNat)
  let cap := grownCap w bs.length 0 el
  let rest := List.replicate (cap - bs.length) (Value.int .u8 0)
  have hcap : bs.length ≤ cap := grownCap_ge w bs.length 0 el
  let w1 := w.drew.alloc (.cells (us ++ rest).toArray el)
  let w2 := w1.freeze ⟨w.heap.size, (us ++ rest).length, none⟩ 1
  have hb1 : w1.heap[w.heap.size]? = some (.cells (us ++ rest).toArray el (0, 0)) := heap_alloc_new w.drew _
  have hb2 := heap_freeze0 w1 w.heap.size (us ++ rest).length 1 (by omega) hb1
  obtain ⟨s', h2, r1, r2⟩ := newC_ex2 hR.drew (w' := w2) (rest := rest) (hself bs) h1 hb2 (fun k hk => by
    rw [heap_freeze_ne w1 _ _ _ k (by simp only [World.size_drew] at hk; omega)]
    exact heap_alloc_old w.drew _ k hk) (by
      have : w2.heap.size = w1.heap.size := by simp only [w2, World.freeze]; split <;> simp
      rw [this]; simp [w1]) (fun o ho' => by have hf' : o < (us ++ rest).length := ho'; simp only; omega) (by
      have e1 : w2.os = w1.os ∧ w2.output = w1.output := by simp only [w2, World.freeze]; split <;> exact ⟨rfl, rfl⟩
      exact e1)
  have hlim : (bs.map (fun b => Value.int .u8 b.toNat)).length + rest.length = cap := by simp [rest]; omega
  have hvr := newS_VR hR (lim := (bs.map (fun b => Value.int .u8 b.toNat)).length + rest.length) (sz := 1) (by omega) hcap (by rw [hlim]; omega) (k := 0) (fun h => by cases h)
  refine ⟨_, s', _, _, w2, h2, .inl ?_, r1, (Ext.drew X s w).trans r2, hvr⟩
  have hconv : (Go.convert src dst (.string ⟨⟨bs⟩⟩)).run P w = (Conv.stringToBytes el ⟨⟨bs⟩⟩).run P w := by
    simp only [Go.convert, Sem.run_bind, underlying_run hsrc, underlying_run hd, Result.andThen]
    simp [underlying_run he]
  have hrun : (Conv.stringToBytes el ⟨⟨bs⟩⟩).run P w = .ok (.slice (some ⟨w.heap.size, 0, none⟩) bs.length cap) w2 := by
    have harr : ((⟨⟨bs⟩⟩ : ByteArray).data.map fun b => Value.int .u8 b.toNat) ++ Array.replicate (cap - bs.length) (Value.int .u8 0) = (us ++ rest).toArray := by
      apply Array.ext'
      simp [us, rest]
    have hsz : (⟨⟨bs⟩⟩ : ByteArray).size = bs.length := rfl
    simp only [Conv.stringToBytes, Sem.run_bind, run_choose, hsz, Question.forced, Bool.false_eq_true, if_false, Result.andThen, newRow, run_newObj, Sem.run_pure, markStringish, run_shape]
    have hc : (Question.appendCap bs.length 0 el).cut (w.tape w.drawn (.appendCap bs.length 0 el)) = cap := rfl
    rw [hc, harr]
    have hshape : ({ heap := w.heap.push (.cells (us ++ rest).toArray el), tape := w.tape, drawn := w.drawn + 1, os := w.os, output := w.output } : World).shape? w.heap.size = some (el, (us ++ rest).toArray.size) := by
      simp [World.shape?]
    rw [hshape]
    rfl
  simp [execOp, ho, hx, hconv, hrun]

end
end Go.Proofs.YtkpfafehcmammaaGreatDoor
