import Derived.Test.YtnfpfbehebcdpaaGreatSf
set_option maxHeartbeats 0
set_option maxRecDepth 99999
set_option linter.all false
namespace Go.Proofs.YtnfpfbehebcdpaaGreat
namespace Nob
theorem Gh{a b:Bool}(h:a=true)(k:b=true):(a&&b)=true:=by rw[h,k];rfl
theorem closed:joinedFacts Tryz.prog 4 Tryz.f4 Rows.shardFatesSpec Rows.shardFatesRow=true:=(Gh (Gh (Gh (Gh (Gh (Gh (Gh (Gh (Gh (Gh (Gh (Gh (Gh (Gh (Gh (Gh (Gh (Gh (Gh (Gh (Gh (Gh (Gh (Gh (Gh (Gh (Gh (Gh (Gh (Gh (Gh j0 j1) j2) j3) j4) j5) j6) j7) j8) j9) j10) j11) j12) j13) j14) j15) j16) j17) j18) j19) j20) j21) j22) j23) j24) j25) j26) j27) j28) j29) j30) j31)
theorem inst:Tryz.f4.isInstance Tryz.prog Rows.shardFatesRow.origin Rows.shardFatesRow.targs:=of_decide_eq_true (by kernel_rfl)
theorem wrap:Tryz.f4.isWrapper Tryz.prog Rows.shardFatesRow.wrapper Rows.shardFatesRow.mainSum:=by unfold Func.isWrapper;first|(rw[if_pos (by decide+kernel)];kernel_rfl)|(rw[if_neg (by decide+kernel)];exact⟨rfl,rfl⟩)
