/- Spaced holds, tied: for every list of words and every list of numbers loomkeep.Spaced returns true and leaves its arguments as they were. No condition. -/
import Derived.SevenTiedAt
import Derived.Test.YtkmofapihggjgaaGreatDoorCards
import Derived.Test.YtkmofapihggjgaaGreatDoorTie
import Derived.Test.YtkmofapihggjgaaGreatDoorX38
namespace Go.Proofs.YtkmofapihggjgaaGreatDoor
section
open Go.ChangeShapes Go.WideShapes Go.ChangeAt Go.RowKit
set_option maxRecDepth 100000 in
set_option maxHeartbeats 4000000 in
theorem spaced_facts:joinedFacts Tryz.prog 3 Tryz.f3 Rows.spacedSpec Rows.spacedRow=true:=by
 unfold joinedFacts
 simp only[Bool.and_eq_true]
 repeat' apply And.intro
 all_goals decide+kernel
theorem spaced_holds:Rows.SpacedSaid:=
 OpenClaim.holds_of_wide 3 Tryz.f3 rfl rfl rfl rfl rfl rfl rfl ⟨rfl,rfl,rfl,rfl,rfl⟩ rfl rfl rfl rfl rfl (by kernel_rfl) Tryz.func3 spaced_facts
  (of_decide_eq_true (by kernel_rfl)) (by unfold Func.isWrapper;first | (rw[if_pos (by decide+kernel)];kernel_rfl) | (rw[if_neg (by decide+kernel)];exact⟨rfl,rfl⟩))
  (fun os started H enc _=>spaced_lifted os started H enc)
theorem card_wf:Rows.spacedRow.wfByText (OpenSpec.ofChange Rows.spacedSpec)=true:=by kernel_rfl
theorem card_main:Tryz.pinned.checked.prog.mainIs=some (true,"caec654e06d3fb82fa737218d3b312c90f9b820486454ef95db44baa8b9a240c".toList):=by kernel_rfl
theorem card_looks:true=Tryz.pinned.checked.prog.looks []:=by kernel_rfl
theorem card_named:Tryz.prog.funcNamed "loom/loomkeep.Spaced" =some 3:=by kernel_rfl
theorem card_goes:false=Rows.spacedRow.goesBy Tryz.pinned.checked.prog:=by kernel_rfl
theorem card_stand:([22,23].all fun u=>!Tryz.prog.wantsStandIn u)=true:=by kernel_rfl
theorem spaced_card:Rows.SpacedCardSaid:=
 Claim7.holds_tied_plain_at .later [] [.data,.data,.data,.sentinel,.sentinel,.data,.data,.data] true (true,"caec654e06d3fb82fa737218d3b312c90f9b820486454ef95db44baa8b9a240c") true
  spaced_holds (fun _ h=>by cases h) card_wf (fun _ h=>by cases h) spaced_row_tie rfl ⟨rfl,rfl⟩ card_main rfl
  (fun f fn hf hfn=>by
   obtain rfl:f=3:=Option.some.inj (card_named.symm.trans hf) |>.symm
   obtain rfl:fn=Tryz.f3:=(Option.some.inj (Tryz.func3.symm.trans hfn)).symm
   exact⟨card_looks,fun j t ht=>by
    rw[Tryz.params3] at ht
    have hm:t∈[22,23]:=by simpa using Array.mem_of_getElem? ht
    exact(show Tryz.prog.wantsStandIn t=false by simpa using List.all_eq_true.1 card_stand t hm)⟩)
  card_goes
#print axioms spaced_card
end
end Go.Proofs.YtkmofapihggjgaaGreatDoor
