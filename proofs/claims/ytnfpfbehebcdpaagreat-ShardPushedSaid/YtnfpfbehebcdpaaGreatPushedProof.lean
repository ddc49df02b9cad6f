/-
  ShardPushed: for all acts, every push and all acts behind it the law returns true: who was told Pushed at a stamp commits above the reader's stamp or not at all, whatever is asked behind, and whatever falls there are; its argument reads as it did. No condition is added.
-/
import Derived.Test.YtnfpfbehebcdpaaGreatWy
import Derived.Test.YtnfpfbehebcdpaaGreatVbl
import Derived.Test.YtnfpfbehebcdpaaGreatVbt
set_option maxHeartbeats 0
set_option maxRecDepth 99999
set_option linter.all false
namespace Go.Proofs.YtnfpfbehebcdpaaGreat
open Go.ChangeShapes Go.WideShapes Go.ChangeAt Go.RowKit Go.Joins Go.Deep
namespace ShardPushedRow
theorem lifted(os:Os)(started:os.Started)(H:Type)(enc:TypeId×Value->H):
  ReturnsInHanded {} Tryz.checked os 5 .any (Rows.shardPushedSpec.pre6 enc Tryz.prog Tryz.f5 Rows.shardPushedRow.domain false) (Rows.shardPushedSpec.post enc Tryz.prog Tryz.f5 false true false false):=by
 refine returnsInHanded_of_change_sized (C:=Tryz.checked) Opn.own started (by kernel_rfl) Tryz.func5 (ChangeSpec.witness6 (enc:=enc) (C:=Tryz.checked) false ⟨#[],#[.agg #[sy,sy,ui 0,ui 0,uw 0,ui 0,uw 0]],[]⟩ 8 (by kernel_rfl) (by kernel_rfl) (by kernel_rfl) (by kernel_rfl)) ?_;intro W base args ds gs before hval0 hW _ _ _;have hval:∀(j:Nat) t v,Tryz.f5.params[j]?=some t->args[j]?=some v->Value.okWide Tryz.prog W .any base t v:=hval0;have hW':=hW;obtain⟨p,q,hA0,hV,rfl,hfz,hnd⟩:=hW;have hA:DataW.TrodAll enc Tryz.prog W 0 (λ_=>true) true Tryz.f5.params.toList args.toList ds p:=hA0;rw[Tryz.params5]at hA hval;obtain⟨v0,d0,rfl,rfl,h0⟩:=trodAll_one hA;obtain⟨rfl,rfl⟩:=trodVars_none hV;have h0k:=h0;obtain⟨cs0,rfl,_⟩:=okWide_struct Tryz.underlying69 (hval 0 69 v0 rfl rfl);obtain⟨f0,hf0⟩:=h0;obtain⟨A,B,aa,ab,ca,cb,c,n,tp,tl,ph,hu,hA1,hB1,hc,ht,hp0,hp1⟩:=Opn.alh hf0;obtain rfl:cs0=#[.slice aa A.length ca,.slice ab B.length cb,ui c,ui n,uw tp,ui tl,uw ph]:=by apply Array.ext';simpa[Value.cells]using hu
 clear hA0 hval0 hA;simp only[List.append_nil]at hW';have hlt:∀x∈p,x.block<W.heap.size:=λx hx=>by simpa using hW'.lt x (by simpa using hx)
 refine(atn env hA1 hB1 ph hp0 hp1 hc ht).mono λe W' ⟨he,bel⟩=>?_;subst he;exact⟨_,rfl,_,_,_,_,_,[],hW',trodAll_mk1 (shut_bool Tryz.underlying4 _),trodAll_mk1 (Below.trod Opn.laidOut (by kernel_rfl) (of_decide_eq_true (by kernel_rfl)) h0k bel λx hx=>hlt x hx),rfl,bel.frame _,λh=>by cases h⟩
end ShardPushedRow
theorem shardPushed_holds:Rows.ShardPushedSaid:=
 OpenClaim.holds_of_wide 5 Tryz.f5 rfl rfl rfl rfl rfl rfl rfl ⟨rfl,rfl,rfl,rfl,rfl⟩ rfl rfl rfl rfl rfl Nob.named Tryz.func5 Nob.closed Nob.inst Nob.wrap (λos started H enc _=>ShardPushedRow.lifted os started H enc)
#print axioms shardPushed_holds
