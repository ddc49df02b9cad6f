/-
  No cell of these rows narrows 'for every input' (looked for: loops, veiled, ifaces, maps, wideKeys, modest, calm, conditions, laid).
  DERIVED. THE GIVEN ROWS OF THIS SEAT. 6 by the template 'for every input the law returns true; each argument reads behind the call as it read before'; 0 by the template 'total and deterministic' (their statements: YtgkbefeiknfjcaaTotals.lean).
  GIVEN WITH THE SEED: the statements are not yours to turn. If you find one false, say at which input.
  Laid BY PROGRAM, IN A SANDBOX (cutbox-rows.mjs): the forced cells as the released guide's own fill.sh prints them over the translation 2ccdcad0d92b2909… (all of the seat's roots in one cut). By AI agents, Wed Nov 11 2026. No macro, syntax, notation, axiom, sorry.
-/
import Derived.Test.YtgkbefeiknfjcaaChecked
import GoSem.Claim
import GoSem.ClaimJoined
import GoSem.ClaimMapViews
import Derived.JoinedTies
import Derived.KernelRfl
namespace Go.Proofs.Ytgkbefeiknfjcaa
/- THE CELL 'sum', in the pinned program and in every row, IS THE sha256 OF THE DUMP (.gsa) THAT YtgkbefeiknfjcaaProg.lean LOADS. Nothing in Lean hashes anything: it is a label: what it is worth is what the hold of that sum in a sandbox is worth. -/
noncomputable def Try.pinned : Pinned := { name := "ytgkbefeiknfjcaa", sum := "2ccdcad0d92b2909e7cf6c761fa06ead47384e83cefade6da0c3a44f852e55c6", checked := Try.checked }
namespace Rows
def none {H : Type} : Left H := { results := [], args := [] }

/-- 'dovecotelaw02.PackWrites': WHATEVER THE INPUT: true; the input reads as it did. -/
def packWritesSpec : ChangeSpec := { name := "packWrites", fn := fun _ => fun
  | [d] => { results := [.lit (.bool true)], args := [d] }
  | _ => none }
def packWritesRow : OpenClaim := { program := "ytgkbefeiknfjcaa", sum := "2ccdcad0d92b2909e7cf6c761fa06ead47384e83cefade6da0c3a44f852e55c6", func := "dovecote/dovecotelaw02.PackWrites", spec := "packWrites", apart := false }
def PackWritesSaid : Prop := packWritesRow.holds Try.pinned (OpenSpec.ofChange packWritesSpec)

/-- ITS FALSE NEIGHBOUR: 'it returns false'. Refute it at one input. -/
def packWritesWrong : ChangeSpec := { name := "packWrites", fn := fun _ => fun
  | [d] => { results := [.lit (.bool false)], args := [d] }
  | _ => none }
def PackWritesWrongFalsely : Prop := packWritesRow.holds Try.pinned (OpenSpec.ofChange packWritesWrong)

/-- 'dovecotelaw02.PackReads': WHATEVER THE INPUT: true; the input reads as it did. -/
def packReadsSpec : ChangeSpec := { name := "packReads", fn := fun _ => fun
  | [d1, d2] => { results := [.lit (.bool true)], args := [d1, d2] }
  | _ => none }
def packReadsRow : OpenClaim := { program := "ytgkbefeiknfjcaa", sum := "2ccdcad0d92b2909e7cf6c761fa06ead47384e83cefade6da0c3a44f852e55c6", func := "dovecote/dovecotelaw02.PackReads", spec := "packReads", apart := false }
def PackReadsSaid : Prop := packReadsRow.holds Try.pinned (OpenSpec.ofChange packReadsSpec)

/-- ITS FALSE NEIGHBOUR: 'it returns false'. Refute it at one input. -/
def packReadsWrong : ChangeSpec := { name := "packReads", fn := fun _ => fun
  | [d1, d2] => { results := [.lit (.bool false)], args := [d1, d2] }
  | _ => none }
def PackReadsWrongFalsely : Prop := packReadsRow.holds Try.pinned (OpenSpec.ofChange packReadsWrong)

/-- 'dovecotelaw02.PackOneWay': WHATEVER THE INPUT: true; the input reads as it did. -/
def packOneWaySpec : ChangeSpec := { name := "packOneWay", fn := fun _ => fun
  | [d] => { results := [.lit (.bool true)], args := [d] }
  | _ => none }
def packOneWayRow : OpenClaim := { program := "ytgkbefeiknfjcaa", sum := "2ccdcad0d92b2909e7cf6c761fa06ead47384e83cefade6da0c3a44f852e55c6", func := "dovecote/dovecotelaw02.PackOneWay", spec := "packOneWay", apart := false }
def PackOneWaySaid : Prop := packOneWayRow.holds Try.pinned (OpenSpec.ofChange packOneWaySpec)

/-- ITS FALSE NEIGHBOUR: 'it returns false'. Refute it at one input. -/
def packOneWayWrong : ChangeSpec := { name := "packOneWay", fn := fun _ => fun
  | [d] => { results := [.lit (.bool false)], args := [d] }
  | _ => none }
def PackOneWayWrongFalsely : Prop := packOneWayRow.holds Try.pinned (OpenSpec.ofChange packOneWayWrong)

/-- 'dovecotelaw02.PackNothing': WHATEVER THE INPUT: true; the input reads as it did. -/
def packNothingSpec : ChangeSpec := { name := "packNothing", fn := fun _ => fun
  | [d1, d2, d3] => { results := [.lit (.bool true)], args := [d1, d2, d3] }
  | _ => none }
def packNothingRow : OpenClaim := { program := "ytgkbefeiknfjcaa", sum := "2ccdcad0d92b2909e7cf6c761fa06ead47384e83cefade6da0c3a44f852e55c6", func := "dovecote/dovecotelaw02.PackNothing", spec := "packNothing", apart := false }
def PackNothingSaid : Prop := packNothingRow.holds Try.pinned (OpenSpec.ofChange packNothingSpec)

/-- ITS FALSE NEIGHBOUR: 'it returns false'. Refute it at one input. -/
def packNothingWrong : ChangeSpec := { name := "packNothing", fn := fun _ => fun
  | [d1, d2, d3] => { results := [.lit (.bool false)], args := [d1, d2, d3] }
  | _ => none }
def PackNothingWrongFalsely : Prop := packNothingRow.holds Try.pinned (OpenSpec.ofChange packNothingWrong)

/-- 'dovecotelaw02.PackCuts': WHATEVER THE INPUT: true; the input reads as it did. -/
def packCutsSpec : ChangeSpec := { name := "packCuts", fn := fun _ => fun
  | [d] => { results := [.lit (.bool true)], args := [d] }
  | _ => none }
def packCutsRow : OpenClaim := { program := "ytgkbefeiknfjcaa", sum := "2ccdcad0d92b2909e7cf6c761fa06ead47384e83cefade6da0c3a44f852e55c6", func := "dovecote/dovecotelaw02.PackCuts", spec := "packCuts", apart := false }
def PackCutsSaid : Prop := packCutsRow.holds Try.pinned (OpenSpec.ofChange packCutsSpec)

/-- ITS FALSE NEIGHBOUR: 'it returns false'. Refute it at one input. -/
def packCutsWrong : ChangeSpec := { name := "packCuts", fn := fun _ => fun
  | [d] => { results := [.lit (.bool false)], args := [d] }
  | _ => none }
def PackCutsWrongFalsely : Prop := packCutsRow.holds Try.pinned (OpenSpec.ofChange packCutsWrong)

/-- 'dovecotelaw02.PackLists': WHATEVER THE INPUT: true; the input reads as it did. -/
def packListsSpec : ChangeSpec := { name := "packLists", fn := fun _ => fun
  | [d] => { results := [.lit (.bool true)], args := [d] }
  | _ => none }
def packListsRow : OpenClaim := { program := "ytgkbefeiknfjcaa", sum := "2ccdcad0d92b2909e7cf6c761fa06ead47384e83cefade6da0c3a44f852e55c6", func := "dovecote/dovecotelaw02.PackLists", spec := "packLists", apart := false }
def PackListsSaid : Prop := packListsRow.holds Try.pinned (OpenSpec.ofChange packListsSpec)

/-- ITS FALSE NEIGHBOUR: 'it returns false'. Refute it at one input. -/
def packListsWrong : ChangeSpec := { name := "packLists", fn := fun _ => fun
  | [d] => { results := [.lit (.bool false)], args := [d] }
  | _ => none }
def PackListsWrongFalsely : Prop := packListsRow.holds Try.pinned (OpenSpec.ofChange packListsWrong)

/- THE SECOND FORM. 'bulk': how many values and letters a reading holds, each counted each time it is reached (what is shared counts as often as it is met; a slice's spare places count too). A statement '..UptoSaid' is the law's where the arguments, and the package variables that the reading takes, are together of bulk at most 1048576: NARROWER than '..Said'. Prove '..Said' where nothing that the law and all that it calls make is longer than what came in: it says more and counts as full. Else prove '..UptoSaid'. A law counts once. -/
mutual
def uptoBulk {H : Type} : DataW H → Nat
  | .lit (.string bytes) => bytes.length + 1
  | .lit _ => 1
  | .nil => 1
  | .ptr d => uptoBulk d + 1
  | .slice elems spare => uptoBulkAll elems + uptoBulkAll spare + 1
  | .agg parts => uptoBulkAll parts + 1
  | .iface _ d => uptoBulk d + 1
  | .map entries => uptoBulkEntries entries + 1
  | .held _ => 1
def uptoBulkAll {H : Type} : List (DataW H) → Nat
  | [] => 0
  | d :: r => uptoBulk d + uptoBulkAll r
def uptoBulkEntries {H : Type} : List (Lit × DataW H) → Nat
  | [] => 0
  | x :: r => uptoBulkEntry x + uptoBulkEntries r
def uptoBulkEntry {H : Type} : Lit × DataW H → Nat
  | (.string bytes, d) => bytes.length + uptoBulk d + 1
  | (_, d) => uptoBulk d + 1
 end
def uptoSmall : (H : Type) → List (DataW H) → Bool := fun _ ds => decide (uptoBulkAll ds ≤ 1048576)
def OpenSpec.upto (s : _root_.Go.ChangeSpec) : _root_.Go.OpenSpec := { _root_.Go.OpenSpec.ofChange s with cond := some uptoSmall }

/-- 'dovecotelaw02.PackWrites', WHERE WHAT IT READS IS OF BULK AT MOST 1048576: true; the input reads as it did. -/
def packWritesUptoRow : OpenClaim := { program := "ytgkbefeiknfjcaa", sum := "2ccdcad0d92b2909e7cf6c761fa06ead47384e83cefade6da0c3a44f852e55c6", func := "dovecote/dovecotelaw02.PackWrites", spec := "packWrites", apart := false, narrowed := true }
def PackWritesUptoSaid : Prop := packWritesUptoRow.holds Try.pinned (OpenSpec.upto packWritesSpec)

/-- 'dovecotelaw02.PackReads', WHERE WHAT IT READS IS OF BULK AT MOST 1048576: true; the input reads as it did. -/
def packReadsUptoRow : OpenClaim := { program := "ytgkbefeiknfjcaa", sum := "2ccdcad0d92b2909e7cf6c761fa06ead47384e83cefade6da0c3a44f852e55c6", func := "dovecote/dovecotelaw02.PackReads", spec := "packReads", apart := false, narrowed := true }
def PackReadsUptoSaid : Prop := packReadsUptoRow.holds Try.pinned (OpenSpec.upto packReadsSpec)

/-- 'dovecotelaw02.PackOneWay', WHERE WHAT IT READS IS OF BULK AT MOST 1048576: true; the input reads as it did. -/
def packOneWayUptoRow : OpenClaim := { program := "ytgkbefeiknfjcaa", sum := "2ccdcad0d92b2909e7cf6c761fa06ead47384e83cefade6da0c3a44f852e55c6", func := "dovecote/dovecotelaw02.PackOneWay", spec := "packOneWay", apart := false, narrowed := true }
def PackOneWayUptoSaid : Prop := packOneWayUptoRow.holds Try.pinned (OpenSpec.upto packOneWaySpec)

/-- 'dovecotelaw02.PackNothing', WHERE WHAT IT READS IS OF BULK AT MOST 1048576: true; the input reads as it did. -/
def packNothingUptoRow : OpenClaim := { program := "ytgkbefeiknfjcaa", sum := "2ccdcad0d92b2909e7cf6c761fa06ead47384e83cefade6da0c3a44f852e55c6", func := "dovecote/dovecotelaw02.PackNothing", spec := "packNothing", apart := false, narrowed := true }
def PackNothingUptoSaid : Prop := packNothingUptoRow.holds Try.pinned (OpenSpec.upto packNothingSpec)

/-- 'dovecotelaw02.PackCuts', WHERE WHAT IT READS IS OF BULK AT MOST 1048576: true; the input reads as it did. -/
def packCutsUptoRow : OpenClaim := { program := "ytgkbefeiknfjcaa", sum := "2ccdcad0d92b2909e7cf6c761fa06ead47384e83cefade6da0c3a44f852e55c6", func := "dovecote/dovecotelaw02.PackCuts", spec := "packCuts", apart := false, narrowed := true }
def PackCutsUptoSaid : Prop := packCutsUptoRow.holds Try.pinned (OpenSpec.upto packCutsSpec)

/-- 'dovecotelaw02.PackLists', WHERE WHAT IT READS IS OF BULK AT MOST 1048576: true; the input reads as it did. -/
def packListsUptoRow : OpenClaim := { program := "ytgkbefeiknfjcaa", sum := "2ccdcad0d92b2909e7cf6c761fa06ead47384e83cefade6da0c3a44f852e55c6", func := "dovecote/dovecotelaw02.PackLists", spec := "packLists", apart := false, narrowed := true }
def PackListsUptoSaid : Prop := packListsUptoRow.holds Try.pinned (OpenSpec.upto packListsSpec)

end Rows
end Go.Proofs.Ytgkbefeiknfjcaa
