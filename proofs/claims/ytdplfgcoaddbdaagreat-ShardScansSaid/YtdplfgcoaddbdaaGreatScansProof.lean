/-
  ShardScans: for every list of acts, every reading of the physical clock and every request the law returns true: a scan tells just what gets tell of the keys of its range, and is locked just where one of them is; its arguments read as they did. No condition is added.
-/
import Derived.Test.YtdplfgcoaddbdaaGreatUg
import Derived.Test.YtdplfgcoaddbdaaGreatXbz
set_option maxHeartbeats 4000000
set_option maxRecDepth 100000
set_option linter.unusedVariables false
set_option linter.unusedSimpArgs false
namespace Go.Proofs.YtdplfgcoaddbdaaGreat
open Go.ChangeShapes Go.WideShapes Go.ChangeAt Go.RowKit Go.Joins Go.Deep
namespace ShardScansRow
theorem lifted(os:Os)(started:os.Started)(H:Type)(enc:TypeId×Value->H):
  ReturnsInHanded {} Tryz.checked os 4 .any (Rows.shardScansSpec.pre6 enc Tryz.prog Tryz.f4 Rows.shardScansRow.domain false) (Rows.shardScansSpec.post enc Tryz.prog Tryz.f4 false true false false):=by
 refine returnsInHanded_of_change_sized (C:=Tryz.checked) Opn.own started (by kernel_rfl) Tryz.func4 (ChangeSpec.witness6 (enc:=enc) (C:=Tryz.checked) false ⟨#[],#[sy,uw 0,.agg #[iw 0,ui 0,ui 0,uw 0,ui 0,uw 0,ui 0,su,su,iw 0,ub 0,sy,sy]],[]⟩ 8 (by kernel_rfl) (by kernel_rfl) (by kernel_rfl) (by kernel_rfl)) ?_;intro W base args ds gs before hval0 hW _ _ _;have hval:∀(j:Nat) t v,Tryz.f4.params[j]?=some t->args[j]?=some v->Value.okWide Tryz.prog W .any base t v:=hval0;have hW':=hW;obtain⟨p,q,hA0,hV,rfl,hfz,hnd⟩:=hW;have hA:DataW.TrodAll enc Tryz.prog W 0 (fun _=>true) true Tryz.f4.params.toList args.toList ds p:=hA0;rw[Tryz.params4]at hA hval;obtain⟨v0,v1,v2,d0,d1,d2,p0,p1,p2,rfl,rfl,rfl,h0,h1,h2⟩:=trodAll_three hA;obtain⟨rfl,rfl⟩:=trodVars_none hV;have h0k:=h0;have h1k:=h1;have h2k:=h2;obtain⟨ao,len,cap,rfl⟩:=okWide_slice Tryz.underlying22 (hval 0 22 v0 rfl rfl);obtain⟨ph,rfl⟩:=okWide_int Tryz.underlying23 (hval 1 23 v1 rfl rfl);obtain⟨cs2,rfl,_⟩:=okWide_struct Tryz.underlying32 (hval 2 32 v2 rfl rfl);obtain⟨f0,hf0⟩:=h0;obtain⟨L,ao',cap',e,hL⟩:=Opn.acts_open (by simpa[Value.cells]using hf0);injection e with e1 e2 e3;subst e1 e2 e3;obtain⟨f1,hf1⟩:=h1;have hf1':DataW.trod enc Tryz.prog W 0 (fun _=>true) true f1 23 [uw ph]=some (d1,p1):=by simpa[Value.cells]using hf1
 obtain⟨ph',e4,-,w4⟩:=DataW.trod_int Tryz.underlying23 hf1';obtain⟨ph',rfl,-,-,r4⟩:=Opn.nat_of (.inr (.inr rfl)) w4;simp only[List.cons.injEq,Value.int.injEq,and_true,true_and]at e4;subst e4;have r4':=r4 rfl;obtain⟨f2,hf2⟩:=h2;obtain⟨rq,wa,sa,wc,sc,hu2,hq⟩:=Opn.rq_open hf2;obtain rfl:cs2=(rqC rq.k rq wa wc sa sc):=by apply Array.ext';simpa[Value.cells]using hu2
 clear hA0 hval0 hA;simp only[List.append_nil]at hW';have hlt:∀x∈p0++(p1++p2),x.block<W.heap.size:=fun x hx=>by simpa using hW'.lt x (by simpa using hx)
 refine(scans4 env envP hL (ph':Int) (by omega) (by omega) hq).mono fun e W' ⟨he,bel⟩=>?_;subst he;exact⟨_,rfl,_,_,_,_,_,[],hW',trodAll_mk1 (shut_bool Tryz.underlying4 _),trodAll_mk3 (Below.trod Opn.laidOut (by kernel_rfl) (of_decide_eq_true (by kernel_rfl)) h0k bel fun x hx=>hlt x (by simp[hx])) (Below.trod Opn.laidOut (by kernel_rfl) (of_decide_eq_true (by kernel_rfl)) h1k bel fun x hx=>hlt x (by simp[hx])) (Below.trod Opn.laidOut (by kernel_rfl) (of_decide_eq_true (by kernel_rfl)) h2k bel fun x hx=>hlt x (by simp[hx])),rfl,bel.frame _,fun h=>by cases h⟩
end ShardScansRow
theorem shardScans_holds:Rows.ShardScansSaid:=
 OpenClaim.holds_of_wide 4 Tryz.f4 rfl rfl rfl rfl rfl rfl rfl ⟨rfl,rfl,rfl,rfl,rfl⟩ rfl rfl rfl rfl rfl Nos.named Tryz.func4 Nos.closed Nos.inst Nos.wrap (fun os started H enc _=>ShardScansRow.lifted os started H enc)
#print axioms shardScans_holds
end Go.Proofs.YtdplfgcoaddbdaaGreat
