/-
  No cell of these rows narrows 'for every input' (looked for: loops, veiled, ifaces, maps, wideKeys, modest, calm, conditions, laid).
  DERIVED. THE GIVEN ROWS OF THIS SEAT. 4 by the template 'for every input the law returns true; each argument reads behind the call as it read before'; 0 by the template 'total and deterministic' (their statements: YtkadaoebehgkbaaTotals.lean).
  GIVEN WITH THE SEED: the statements are not yours to turn. If you find one false, say at which input.
  Laid BY PROGRAM, IN A SANDBOX (cutbox-rows.mjs): the forced cells as the released guide's own fill.sh prints them over the translation 6627b515f7a75910… (all of the seat's roots in one cut). By AI agents, Wed Nov 11 2026. No macro, syntax, notation, axiom, sorry.
-/
import Derived.Test.YtkadaoebehgkbaaChecked
import GoSem.Claim
import GoSem.ClaimJoined
import GoSem.ClaimMapViews
import Derived.JoinedTies
import Derived.KernelRfl
namespace Go.Proofs.Ytkadaoebehgkbaa
/- THE CELL 'sum', in the pinned program and in every row, IS THE sha256 OF THE DUMP (.gsa) THAT YtkadaoebehgkbaaProg.lean LOADS. Nothing in Lean hashes anything: it is a label: what it is worth is what the hold of that sum in a sandbox is worth. -/
noncomputable def Try.pinned : Pinned := { name := "ytkadaoebehgkbaa", sum := "6627b515f7a75910577a8a8392ec27aabf912b9806aa65e80d288f0f249fe2fc", checked := Try.checked }
namespace Rows
def none {H : Type} : Left H := { results := [], args := [] }

/-- 'dovecotelaw11.VerdictRuns': WHATEVER THE INPUT: true; the input reads as it did. -/
def verdictRunsSpec : ChangeSpec := { name := "verdictRuns", fn := fun _ => fun
  | [d] => { results := [.lit (.bool true)], args := [d] }
  | _ => none }
def verdictRunsRow : OpenClaim := { program := "ytkadaoebehgkbaa", sum := "6627b515f7a75910577a8a8392ec27aabf912b9806aa65e80d288f0f249fe2fc", func := "dovecote/dovecotelaw11.VerdictRuns", spec := "verdictRuns", unfollowed := true, recurses := true, plainKeys := false, apart := false }
def VerdictRunsSaid : Prop := verdictRunsRow.holds Try.pinned (OpenSpec.ofChange verdictRunsSpec)

/-- ITS FALSE NEIGHBOUR: 'it returns false'. Refute it at one input. -/
def verdictRunsWrong : ChangeSpec := { name := "verdictRuns", fn := fun _ => fun
  | [d] => { results := [.lit (.bool false)], args := [d] }
  | _ => none }
def VerdictRunsWrongFalsely : Prop := verdictRunsRow.holds Try.pinned (OpenSpec.ofChange verdictRunsWrong)

/-- 'dovecotelaw11.VerdictStays': WHATEVER THE INPUT: true; the input reads as it did. -/
def verdictStaysSpec : ChangeSpec := { name := "verdictStays", fn := fun _ => fun
  | [d1, d2] => { results := [.lit (.bool true)], args := [d1, d2] }
  | _ => none }
def verdictStaysRow : OpenClaim := { program := "ytkadaoebehgkbaa", sum := "6627b515f7a75910577a8a8392ec27aabf912b9806aa65e80d288f0f249fe2fc", func := "dovecote/dovecotelaw11.VerdictStays", spec := "verdictStays", unfollowed := true, recurses := true, plainKeys := false, apart := false }
def VerdictStaysSaid : Prop := verdictStaysRow.holds Try.pinned (OpenSpec.ofChange verdictStaysSpec)

/-- ITS FALSE NEIGHBOUR: 'it returns false'. Refute it at one input. -/
def verdictStaysWrong : ChangeSpec := { name := "verdictStays", fn := fun _ => fun
  | [d1, d2] => { results := [.lit (.bool false)], args := [d1, d2] }
  | _ => none }
def VerdictStaysWrongFalsely : Prop := verdictStaysRow.holds Try.pinned (OpenSpec.ofChange verdictStaysWrong)

/-- 'dovecotelaw11.VerdictNothing': WHATEVER THE INPUT: true; the input reads as it did. -/
def verdictNothingSpec : ChangeSpec := { name := "verdictNothing", fn := fun _ => fun
  | [d] => { results := [.lit (.bool true)], args := [d] }
  | _ => none }
def verdictNothingRow : OpenClaim := { program := "ytkadaoebehgkbaa", sum := "6627b515f7a75910577a8a8392ec27aabf912b9806aa65e80d288f0f249fe2fc", func := "dovecote/dovecotelaw11.VerdictNothing", spec := "verdictNothing", unfollowed := true, recurses := true, plainKeys := false, apart := false }
def VerdictNothingSaid : Prop := verdictNothingRow.holds Try.pinned (OpenSpec.ofChange verdictNothingSpec)

/-- ITS FALSE NEIGHBOUR: 'it returns false'. Refute it at one input. -/
def verdictNothingWrong : ChangeSpec := { name := "verdictNothing", fn := fun _ => fun
  | [d] => { results := [.lit (.bool false)], args := [d] }
  | _ => none }
def VerdictNothingWrongFalsely : Prop := verdictNothingRow.holds Try.pinned (OpenSpec.ofChange verdictNothingWrong)

/-- 'dovecotelaw11.VerdictOrder': WHATEVER THE INPUT: true; the input reads as it did. -/
def verdictOrderSpec : ChangeSpec := { name := "verdictOrder", fn := fun _ => fun
  | [d1, d2] => { results := [.lit (.bool true)], args := [d1, d2] }
  | _ => none }
def verdictOrderRow : OpenClaim := { program := "ytkadaoebehgkbaa", sum := "6627b515f7a75910577a8a8392ec27aabf912b9806aa65e80d288f0f249fe2fc", func := "dovecote/dovecotelaw11.VerdictOrder", spec := "verdictOrder", unfollowed := true, recurses := true, plainKeys := false, apart := false }
def VerdictOrderSaid : Prop := verdictOrderRow.holds Try.pinned (OpenSpec.ofChange verdictOrderSpec)

/-- ITS FALSE NEIGHBOUR: 'it returns false'. Refute it at one input. -/
def verdictOrderWrong : ChangeSpec := { name := "verdictOrder", fn := fun _ => fun
  | [d1, d2] => { results := [.lit (.bool false)], args := [d1, d2] }
  | _ => none }
def VerdictOrderWrongFalsely : Prop := verdictOrderRow.holds Try.pinned (OpenSpec.ofChange verdictOrderWrong)

/- THE SECOND FORM. 'bulk': how many values and letters a reading holds, each counted each time it is reached (what is shared counts as often as it is met; a slice's spare places count too). A statement '..UptoSaid' is the law's where the arguments, and the package variables that the reading takes, are together of bulk at most 1048576: NARROWER than '..Said'. Prove '..Said' where nothing that the law and all that it calls make is longer than what came in: it says more and counts as full. Else prove '..UptoSaid'. A law counts once. -/
mutual
def uptoBulk {H : Type} : DataW H → Nat
  | .lit (.string bytes) => bytes.length + 1
  | .lit _ => 1
  | .nil => 1
  | .ptr d => uptoBulk d + 1
  | .slice elems spare => uptoBulkAll elems + uptoBulkAll spare + 1
  | .agg parts => uptoBulkAll parts + 1
  | .iface _ d => uptoBulk d + 1
  | .map entries => uptoBulkEntries entries + 1
  | .held _ => 1
def uptoBulkAll {H : Type} : List (DataW H) → Nat
  | [] => 0
  | d :: r => uptoBulk d + uptoBulkAll r
def uptoBulkEntries {H : Type} : List (Lit × DataW H) → Nat
  | [] => 0
  | x :: r => uptoBulkEntry x + uptoBulkEntries r
def uptoBulkEntry {H : Type} : Lit × DataW H → Nat
  | (.string bytes, d) => bytes.length + uptoBulk d + 1
  | (_, d) => uptoBulk d + 1
 end
def uptoSmall : (H : Type) → List (DataW H) → Bool := fun _ ds => decide (uptoBulkAll ds ≤ 1048576)
def OpenSpec.upto (s : _root_.Go.ChangeSpec) : _root_.Go.OpenSpec := { _root_.Go.OpenSpec.ofChange s with cond := some uptoSmall }

/-- 'dovecotelaw11.VerdictRuns', WHERE WHAT IT READS IS OF BULK AT MOST 1048576: true; the input reads as it did. -/
def verdictRunsUptoRow : OpenClaim := { program := "ytkadaoebehgkbaa", sum := "6627b515f7a75910577a8a8392ec27aabf912b9806aa65e80d288f0f249fe2fc", func := "dovecote/dovecotelaw11.VerdictRuns", spec := "verdictRuns", unfollowed := true, recurses := true, plainKeys := false, apart := false, narrowed := true }
def VerdictRunsUptoSaid : Prop := verdictRunsUptoRow.holds Try.pinned (OpenSpec.upto verdictRunsSpec)

/-- 'dovecotelaw11.VerdictStays', WHERE WHAT IT READS IS OF BULK AT MOST 1048576: true; the input reads as it did. -/
def verdictStaysUptoRow : OpenClaim := { program := "ytkadaoebehgkbaa", sum := "6627b515f7a75910577a8a8392ec27aabf912b9806aa65e80d288f0f249fe2fc", func := "dovecote/dovecotelaw11.VerdictStays", spec := "verdictStays", unfollowed := true, recurses := true, plainKeys := false, apart := false, narrowed := true }
def VerdictStaysUptoSaid : Prop := verdictStaysUptoRow.holds Try.pinned (OpenSpec.upto verdictStaysSpec)

/-- 'dovecotelaw11.VerdictNothing', WHERE WHAT IT READS IS OF BULK AT MOST 1048576: true; the input reads as it did. -/
def verdictNothingUptoRow : OpenClaim := { program := "ytkadaoebehgkbaa", sum := "6627b515f7a75910577a8a8392ec27aabf912b9806aa65e80d288f0f249fe2fc", func := "dovecote/dovecotelaw11.VerdictNothing", spec := "verdictNothing", unfollowed := true, recurses := true, plainKeys := false, apart := false, narrowed := true }
def VerdictNothingUptoSaid : Prop := verdictNothingUptoRow.holds Try.pinned (OpenSpec.upto verdictNothingSpec)

/-- 'dovecotelaw11.VerdictOrder', WHERE WHAT IT READS IS OF BULK AT MOST 1048576: true; the input reads as it did. -/
def verdictOrderUptoRow : OpenClaim := { program := "ytkadaoebehgkbaa", sum := "6627b515f7a75910577a8a8392ec27aabf912b9806aa65e80d288f0f249fe2fc", func := "dovecote/dovecotelaw11.VerdictOrder", spec := "verdictOrder", unfollowed := true, recurses := true, plainKeys := false, apart := false, narrowed := true }
def VerdictOrderUptoSaid : Prop := verdictOrderUptoRow.holds Try.pinned (OpenSpec.upto verdictOrderSpec)

end Rows
end Go.Proofs.Ytkadaoebehgkbaa
