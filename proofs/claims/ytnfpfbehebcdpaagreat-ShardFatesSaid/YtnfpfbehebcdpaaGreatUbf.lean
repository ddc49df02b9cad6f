import Derived.Test.YtnfpfbehebcdpaaGreatUbc
import Derived.Test.YtnfpfbehebcdpaaGreatUav
set_option maxHeartbeats 0
set_option maxRecDepth 99999
set_option linter.all false
namespace Go.Proofs.YtnfpfbehebcdpaaGreat.Lgs
open Go.RowKit Go.Sort
open Drm (Dr Pt Ak Bd)
def at1{D D':Dr}{a:Int}{g:Nat}{R:List Bi}(pb:Nat)(w:World)(hD:Ak pb D w)(hOk:D.Ok)(hdn:D.down=false)(ho:Qm D=(0,(a,g,R),D')):
  cpr 19 #[pz pb] w λe w'=>∃lb V,e=.returned (.tuple #[pz lb,V,iw 0])/\LgAt lb pb a g D' w'/\TxAt w.heap.size V R w'/\w.heap.size<=lb/\Drm.Kept pb w w':=by
 refine(ayb pb D w hD hOk hdn).mono ?_;rintro e w' (⟨h1,_⟩|⟨h1,lb,V,h2⟩)
 .rw[ho]at h1;exact absurd rfl h1
 .rw[ho]at h2;exact⟨lb,V,h2⟩
