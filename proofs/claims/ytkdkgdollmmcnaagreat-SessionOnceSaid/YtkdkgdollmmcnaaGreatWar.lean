import Derived.Test.YtkdkgdollmmcnaaGreatWaq
set_option maxHeartbeats 4000000
set_option maxRecDepth 100000
set_option linter.unusedVariables false
set_option linter.unusedSimpArgs false
namespace Go.Proofs.YtkdkgdollmmcnaaGreat
open Go.RowKit Go.Sort Go.Shelf
variable {M N : Nat → Prop} {W w : World} {f : Fo} {X X2 : Ss} {Lo Lm : List Bo}
theorem gh {n : FuncId} {args : Array Value} {r : Rs} (g : Calls Tryz.prog n args W (Got f (Nm N Lm) X W X2 r)) {M' : Nat → Prop} {Lo' : List Bo} (c : Cx M' N w f X Lo' Lm W) : Hid (1 = 1 → Calls Tryz.prog n args W fun e w' => e = .returned (rsV r) ∧ ∃ f', Cx M' N w f' X2 Lo' Lm w' ∧ f'.sb = f.sb ∧ Bd f' X2) := fun _ => g.mono fun e w' g => Got.next (N0 := M') c g
end Go.Proofs.YtkdkgdollmmcnaaGreat
