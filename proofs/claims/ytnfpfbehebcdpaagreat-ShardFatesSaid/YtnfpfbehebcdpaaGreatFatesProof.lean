/-
  ShardFates: for every list of acts the law returns true: who was told as committed by a stamp is never told as undone, or by another stamp, and the other way round; the undone have no version, the committed no other stamp, whatever falls there are; its argument reads as it did. No condition is added.
-/
import Derived.Test.YtnfpfbehebcdpaaGreatSg
import Derived.Test.YtnfpfbehebcdpaaGreatUbl
import Derived.Test.YtnfpfbehebcdpaaGreatUbt
set_option maxHeartbeats 0
set_option maxRecDepth 99999
set_option linter.all false
namespace Go.Proofs.YtnfpfbehebcdpaaGreat
open Go.ChangeShapes Go.WideShapes Go.ChangeAt Go.RowKit Go.Joins Go.Deep
namespace ShardFatesRow
theorem lifted(os:Os)(started:os.Started)(H:Type)(enc:TypeId×Value->H):
  ReturnsInHanded {} Tryz.checked os 4 .any (Rows.shardFatesSpec.pre6 enc Tryz.prog Tryz.f4 Rows.shardFatesRow.domain false) (Rows.shardFatesSpec.post enc Tryz.prog Tryz.f4 false true false false):=by
 refine returnsInHanded_of_change_sized (C:=Tryz.checked) Opn.own started (by kernel_rfl) Tryz.func4 (ChangeSpec.witness6 (enc:=enc) (C:=Tryz.checked) false ⟨#[],#[sy],[]⟩ 8 (by kernel_rfl) (by kernel_rfl) (by kernel_rfl) (by kernel_rfl)) ?_;intro W base args ds gs before hval0 hW _ _ _;have hval:∀(j:Nat) t v,Tryz.f4.params[j]?=some t->args[j]?=some v->Value.okWide Tryz.prog W .any base t v:=hval0;have hW':=hW;obtain⟨p,q,hA0,hV,rfl,hfz,hnd⟩:=hW;have hA:DataW.TrodAll enc Tryz.prog W 0 (λ_=>true) true Tryz.f4.params.toList args.toList ds p:=hA0;rw[Tryz.params4]at hA hval;obtain⟨v0,d0,rfl,rfl,h0⟩:=trodAll_one hA;obtain⟨rfl,rfl⟩:=trodVars_none hV;have h0k:=h0;obtain⟨ao,len,cap,rfl⟩:=okWide_slice Tryz.underlying22 (hval 0 22 v0 rfl rfl);obtain⟨f0,hf0⟩:=h0;obtain⟨L,ao',cap',e,hL⟩:=Opn.acn (by simpa[Value.cells]using hf0);injection e with e1 e2 e3;subst e1 e2 e3;clear hA0 hval0 hA;simp only[List.append_nil]at hW';have hlt:∀x∈p,x.block<W.heap.size:=λx hx=>by simpa using hW'.lt x (by simpa using hx)
 refine(fates4 env hL).mono λe W' ⟨he,bel⟩=>?_;subst he;exact⟨_,rfl,_,_,_,_,_,[],hW',trodAll_mk1 (shut_bool Tryz.underlying4 _),trodAll_mk1 (Below.trod Opn.laidOut (by kernel_rfl) (of_decide_eq_true (by kernel_rfl)) h0k bel λx hx=>hlt x hx),rfl,bel.frame _,λh=>by cases h⟩
end ShardFatesRow
theorem shardFates_holds:Rows.ShardFatesSaid:=
 OpenClaim.holds_of_wide 4 Tryz.f4 rfl rfl rfl rfl rfl rfl rfl ⟨rfl,rfl,rfl,rfl,rfl⟩ rfl rfl rfl rfl rfl Nob.named Tryz.func4 Nob.closed Nob.inst Nob.wrap (λos started H enc _=>ShardFatesRow.lifted os started H enc)
#print axioms shardFates_holds
