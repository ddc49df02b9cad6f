import Derived.Test.YtnfpfbehebcdpaaGreatWx
set_option maxHeartbeats 0
set_option maxRecDepth 99999
set_option linter.all false
namespace Go.Proofs.YtnfpfbehebcdpaaGreat
namespace Nob
theorem Gh{a b:Bool}(h:a=true)(k:b=true):(a&&b)=true:=by rw[h,k];rfl
theorem closed:joinedFacts Tryz.prog 5 Tryz.f5 Rows.shardPushedSpec Rows.shardPushedRow=true:=(Gh (Gh (Gh (Gh (Gh (Gh (Gh (Gh (Gh (Gh (Gh (Gh (Gh (Gh (Gh (Gh (Gh (Gh (Gh (Gh (Gh (Gh (Gh (Gh (Gh (Gh (Gh (Gh (Gh (Gh (Gh j0 j1) j2) j3) j4) j5) j6) j7) j8) j9) j10) j11) j12) j13) j14) j15) j16) j17) j18) j19) j20) j21) j22) j23) j24) j25) j26) j27) j28) j29) j30) j31)
theorem inst:Tryz.f5.isInstance Tryz.prog Rows.shardPushedRow.origin Rows.shardPushedRow.targs:=of_decide_eq_true (by kernel_rfl)
theorem wrap:Tryz.f5.isWrapper Tryz.prog Rows.shardPushedRow.wrapper Rows.shardPushedRow.mainSum:=by unfold Func.isWrapper;first|(rw[if_pos (by decide+kernel)];kernel_rfl)|(rw[if_neg (by decide+kernel)];exact⟨rfl,rfl⟩)
