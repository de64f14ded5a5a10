/- Checked holds: for any bytes and any other bytes loomlaw.Checked returns true and leaves its arguments as they were. No condition. -/
import Derived.Test.YtdaafkmhfedkiaaGreatRows
import Derived.Test.YtdaafkmhfedkiaaGreatX38
namespace Go.Proofs.YtdaafkmhfedkiaaGreat
set_option maxHeartbeats 200000
set_option maxRecDepth 100000
open Go.ChangeShapes Go.WideShapes Go.ChangeAt Go.RowKit
open Go.ChangeMaps (open_string shut_string)
theorem ZN:ownKnob Tryz.prog.godebug=none:=qk
theorem Kk(os:Os)(l:os.Started)(H:Type)(enc:TypeId×Value->H):
  ReturnsInHanded {} Tryz.checked os 3 .any (Rows.checkedSpec.pre6 enc Tryz.prog Tryz.f3 Rows.checkedRow.domain false) (Rows.checkedSpec.post enc Tryz.prog Tryz.f3 false true false false):=by
 refine returnsInHanded_of_change (C:=Tryz.checked) ZN l qk Tryz.func3
  (ChangeSpec.witness6 (enc:=enc) (C:=Tryz.checked) false ⟨#[],#[.string ⟨#[]⟩,.string ⟨#[]⟩],[]⟩ 8 qk qk qk qk) ?_
 intro W m args ds w x b c _ _;have a:∀(j:Nat) t v,Tryz.f3.params[j]?=some t->args[j]?=some v->Value.okWide Tryz.prog W .any m t v:=b;have d:=c;obtain⟨p,q,f,n,rfl,y,_⟩:=c;have g:DataW.TrodAll enc Tryz.prog W 0 (fun _=>true) true Tryz.f3.params.toList args.toList ds p:=f;rw[Tryz.params3] at g a;obtain⟨v0,v1,z,A,B,D,rfl,rfl,rfl,o,U⟩:=trodAll_two g;obtain⟨rfl,rfl⟩:=trodVars_none n;obtain⟨s,rfl,rfl,rfl,i⟩:=open_string Tryz.underlying9 (a 0 9 v0 rfl rfl) o;obtain⟨u,rfl,rfl,rfl,k⟩:=open_string Tryz.underlying9 (a 1 9 v1 rfl rfl) U;clear f b;refine(Ph s u (by unfold maxLen at i;omega) (by unfold maxLen at k;omega) W).mono fun e E ⟨r,X⟩=>?_;subst r;simp only[List.append_nil] at d;refine⟨_,rfl,_,_,_,[],[],[],d,?_,?_,?_,X.below.frame _,fun h=>by cases h⟩
 .exact trodAll_mk1 (shut_bool Tryz.underlying4 true)
 .exact trodAll_mk2 (shut_string Tryz.underlying9 i) (shut_string Tryz.underlying9 k)
 rfl
theorem checked_holds:Rows.CheckedSaid:=
 OpenClaim.holds_of_wide 3 Tryz.f3 rfl rfl rfl rfl rfl rfl rfl ⟨rfl,rfl,rfl,rfl,rfl⟩ rfl rfl rfl rfl rfl qk Tryz.func3 qk
  (of_decide_eq_true qk) (by unfold Func.isWrapper;first | (rw[if_pos (by decide+kernel)];kernel_rfl) | (rw[if_neg (by decide+kernel)];exact⟨rfl,rfl⟩))
  (fun os a H enc _=>Kk os a H enc)
#print axioms checked_holds
end Go.Proofs.YtdaafkmhfedkiaaGreat
