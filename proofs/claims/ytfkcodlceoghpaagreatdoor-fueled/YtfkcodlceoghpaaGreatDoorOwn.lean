/- Fueled holds, tied: for all bytes, every script of calls and every number loomkeep.Fueled returns true and leaves its arguments as they were. No condition. -/
import Derived.SevenTiedAt
import Derived.Test.YtfkcodlceoghpaaGreatDoorCards
import Derived.Test.YtfkcodlceoghpaaGreatDoorTie
import Derived.Test.YtfkcodlceoghpaaGreatDoorX41
namespace Go.Proofs.YtfkcodlceoghpaaGreatDoor
set_option maxHeartbeats 4000000
set_option maxRecDepth 100000
open Go.ChangeShapes Go.WideShapes Go.ChangeAt Go.RowKit
theorem E8:joinedFacts Tryz.prog 3 Tryz.f3 Rows.fueledSpec Rows.fueledRow=true:=by
 unfold joinedFacts;simp only[qaz];repeat' apply And.intro
 all_goals decide+kernel
theorem E5:Rows.FueledSaid:=
 OpenClaim.holds_of_wide 3 Tryz.f3 rfl rfl rfl rfl rfl rfl rfl ⟨rfl,rfl,rfl,rfl,rfl⟩ rfl rfl rfl rfl rfl qk Tryz.func3 E8
  (of_decide_eq_true qk) (by unfold Func.isWrapper;first | (rw[qac (by decide+kernel)];kernel_rfl) | (rw[qaa (by decide+kernel)];exact⟨rfl,rfl⟩))
  (λos a H enc _=>CX os a H enc)
theorem TP:Rows.fueledRow.wfByText (OpenSpec.ofChange Rows.fueledSpec)=true:=qk
theorem OL:Tryz.pinned.checked.prog.mainIs=some (true,"aadd0af1f30de37bf4152ff0094fd2971603902753fc3476b3d893a260b35cdb".toList):=qk
theorem KI:true=Tryz.pinned.checked.prog.looks []:=qk
theorem KH:Tryz.prog.funcNamed "loom/loomkeep.Fueled" =some 3:=qk
theorem OM:false=Rows.fueledRow.goesBy Tryz.pinned.checked.prog:=qk
theorem KG:([9,22,3].all λu=>!Tryz.prog.wantsStandIn u)=true:=qk
theorem fueled_card:Rows.FueledCardSaid:=
 Claim7.holds_tied_plain_at .later [] [.data,.data,.data,.sentinel,.sentinel,.data,.data,.data] true (true,"aadd0af1f30de37bf4152ff0094fd2971603902753fc3476b3d893a260b35cdb") true
  E5 (λ_ h=>by cases h) TP (λ_ h=>by cases h) fueled_row_tie rfl ⟨rfl,rfl⟩ OL rfl
  (λf fn hf b=>by
   obtain rfl:f=3:=Option.some.inj (KH.symm.trans hf) |>.symm;obtain rfl:fn=Tryz.f3:=(Option.some.inj (Tryz.func3.symm.trans b)).symm;exact⟨KI,λj t a=>by
    rw[Tryz.params3]at a;have hm:t∈[9,22,3]:=by simpa using Array.mem_of_getElem? a
    exact(show Tryz.prog.wantsStandIn t=false by simpa using List.all_eq_true.1 KG t hm)⟩)
  OM
#print axioms fueled_card
end Go.Proofs.YtfkcodlceoghpaaGreatDoor
