/-
  No cell of these rows narrows 'for every input' (looked for: loops, veiled, ifaces, maps, wideKeys, modest, calm, conditions, laid).
  DERIVED. THE GIVEN ROWS OF THIS SEAT. 3 by the template 'for every input the law returns true; each argument reads behind the call as it read before'; 0 by the template 'total and deterministic' (their statements: YtnfpfbehebcdpaaGreatTotals.lean).
  GIVEN WITH THE SEED: the statements are not yours to turn. If you find one false, say at which input.
  Laid BY PROGRAM, IN A SANDBOX (cutbox-rows.mjs): the forced cells as the released guide's own fill.sh prints them over the translation 8589da0ca649267a… (all of the seat's roots in one cut). By AI agents, Wed Nov 11 2026. No macro, syntax, notation, axiom, sorry.
-/
import Derived.Test.YtnfpfbehebcdpaaGreatChecked
import GoSem.Claim
import GoSem.ClaimJoined
import GoSem.ClaimMapViews
import Derived.JoinedTies
import Derived.KernelRfl
namespace Go.Proofs.YtnfpfbehebcdpaaGreat
/- THE CELL 'sum', in the pinned program and in every row, IS THE sha256 OF THE DUMP (.gsa) THAT YtnfpfbehebcdpaaGreatProg.lean LOADS. Nothing in Lean hashes anything: it is a label: what it is worth is what the hold of that sum in a sandbox is worth. -/
noncomputable def Tryz.pinned : Pinned := { name := "ytnfpfbehebcdpaagreat", sum := "8589da0ca649267ab25409d05dd0e197795d70f3853cae3bf71055eed4a9c8c8", checked := Tryz.checked }
namespace Rows
def none {H : Type} : Left H := { results := [], args := [] }

/-- 'dovecotelaw14.ShardReads': WHATEVER THE INPUT: true; the input reads as it did. -/
def shardReadsSpec : ChangeSpec := { name := "shardReads", fn := fun _ => fun
  | [d] => { results := [.lit (.bool true)], args := [d] }
  | _ => none }
def shardReadsRow : OpenClaim := { program := "ytnfpfbehebcdpaagreat", sum := "8589da0ca649267ab25409d05dd0e197795d70f3853cae3bf71055eed4a9c8c8", func := "dovecote/dovecotelaw14.ShardReads", spec := "shardReads", inPlace := ["internal/abi.NoEscape"], unfollowed := true, recurses := true, plainKeys := false, apart := false }
def ShardReadsSaid : Prop := shardReadsRow.holds Tryz.pinned (OpenSpec.ofChange shardReadsSpec)

/-- ITS FALSE NEIGHBOUR: 'it returns false'. Refute it at one input. -/
def shardReadsWrong : ChangeSpec := { name := "shardReads", fn := fun _ => fun
  | [d] => { results := [.lit (.bool false)], args := [d] }
  | _ => none }
def ShardReadsWrongFalsely : Prop := shardReadsRow.holds Tryz.pinned (OpenSpec.ofChange shardReadsWrong)

/-- 'dovecotelaw14.ShardFates': WHATEVER THE INPUT: true; the input reads as it did. -/
def shardFatesSpec : ChangeSpec := { name := "shardFates", fn := fun _ => fun
  | [d] => { results := [.lit (.bool true)], args := [d] }
  | _ => none }
def shardFatesRow : OpenClaim := { program := "ytnfpfbehebcdpaagreat", sum := "8589da0ca649267ab25409d05dd0e197795d70f3853cae3bf71055eed4a9c8c8", func := "dovecote/dovecotelaw14.ShardFates", spec := "shardFates", inPlace := ["internal/abi.NoEscape"], unfollowed := true, recurses := true, plainKeys := false, apart := false }
def ShardFatesSaid : Prop := shardFatesRow.holds Tryz.pinned (OpenSpec.ofChange shardFatesSpec)

/-- ITS FALSE NEIGHBOUR: 'it returns false'. Refute it at one input. -/
def shardFatesWrong : ChangeSpec := { name := "shardFates", fn := fun _ => fun
  | [d] => { results := [.lit (.bool false)], args := [d] }
  | _ => none }
def ShardFatesWrongFalsely : Prop := shardFatesRow.holds Tryz.pinned (OpenSpec.ofChange shardFatesWrong)

/-- 'dovecotelaw14.ShardPushed': WHATEVER THE INPUT: true; the input reads as it did. -/
def shardPushedSpec : ChangeSpec := { name := "shardPushed", fn := fun _ => fun
  | [d] => { results := [.lit (.bool true)], args := [d] }
  | _ => none }
def shardPushedRow : OpenClaim := { program := "ytnfpfbehebcdpaagreat", sum := "8589da0ca649267ab25409d05dd0e197795d70f3853cae3bf71055eed4a9c8c8", func := "dovecote/dovecotelaw14.ShardPushed", spec := "shardPushed", inPlace := ["internal/abi.NoEscape"], unfollowed := true, recurses := true, plainKeys := false, apart := false }
def ShardPushedSaid : Prop := shardPushedRow.holds Tryz.pinned (OpenSpec.ofChange shardPushedSpec)

/-- ITS FALSE NEIGHBOUR: 'it returns false'. Refute it at one input. -/
def shardPushedWrong : ChangeSpec := { name := "shardPushed", fn := fun _ => fun
  | [d] => { results := [.lit (.bool false)], args := [d] }
  | _ => none }
def ShardPushedWrongFalsely : Prop := shardPushedRow.holds Tryz.pinned (OpenSpec.ofChange shardPushedWrong)

/- THE SECOND FORM. 'bulk': how many values and letters a reading holds, each counted each time it is reached (what is shared counts as often as it is met; a slice's spare places count too). A statement '..UptoSaid' is the law's where the arguments, and the package variables that the reading takes, are together of bulk at most 1048576: NARROWER than '..Said'. Prove '..Said' where nothing that the law and all that it calls make is longer than what came in: it says more and counts as full. Else prove '..UptoSaid'. A law counts once. -/
mutual
def uptoBulk {H : Type} : DataW H → Nat
  | .lit (.string bytes) => bytes.length + 1
  | .lit _ => 1
  | .nil => 1
  | .ptr d => uptoBulk d + 1
  | .slice elems spare => uptoBulkAll elems + uptoBulkAll spare + 1
  | .agg parts => uptoBulkAll parts + 1
  | .iface _ d => uptoBulk d + 1
  | .map entries => uptoBulkEntries entries + 1
  | .held _ => 1
def uptoBulkAll {H : Type} : List (DataW H) → Nat
  | [] => 0
  | d :: r => uptoBulk d + uptoBulkAll r
def uptoBulkEntries {H : Type} : List (Lit × DataW H) → Nat
  | [] => 0
  | x :: r => uptoBulkEntry x + uptoBulkEntries r
def uptoBulkEntry {H : Type} : Lit × DataW H → Nat
  | (.string bytes, d) => bytes.length + uptoBulk d + 1
  | (_, d) => uptoBulk d + 1
 end
def uptoSmall : (H : Type) → List (DataW H) → Bool := fun _ ds => decide (uptoBulkAll ds ≤ 1048576)
def OpenSpec.upto (s : _root_.Go.ChangeSpec) : _root_.Go.OpenSpec := { _root_.Go.OpenSpec.ofChange s with cond := some uptoSmall }

/-- 'dovecotelaw14.ShardReads', WHERE WHAT IT READS IS OF BULK AT MOST 1048576: true; the input reads as it did. -/
def shardReadsUptoRow : OpenClaim := { program := "ytnfpfbehebcdpaagreat", sum := "8589da0ca649267ab25409d05dd0e197795d70f3853cae3bf71055eed4a9c8c8", func := "dovecote/dovecotelaw14.ShardReads", spec := "shardReads", inPlace := ["internal/abi.NoEscape"], unfollowed := true, recurses := true, plainKeys := false, apart := false, narrowed := true }
def ShardReadsUptoSaid : Prop := shardReadsUptoRow.holds Tryz.pinned (OpenSpec.upto shardReadsSpec)

/-- 'dovecotelaw14.ShardFates', WHERE WHAT IT READS IS OF BULK AT MOST 1048576: true; the input reads as it did. -/
def shardFatesUptoRow : OpenClaim := { program := "ytnfpfbehebcdpaagreat", sum := "8589da0ca649267ab25409d05dd0e197795d70f3853cae3bf71055eed4a9c8c8", func := "dovecote/dovecotelaw14.ShardFates", spec := "shardFates", inPlace := ["internal/abi.NoEscape"], unfollowed := true, recurses := true, plainKeys := false, apart := false, narrowed := true }
def ShardFatesUptoSaid : Prop := shardFatesUptoRow.holds Tryz.pinned (OpenSpec.upto shardFatesSpec)

/-- 'dovecotelaw14.ShardPushed', WHERE WHAT IT READS IS OF BULK AT MOST 1048576: true; the input reads as it did. -/
def shardPushedUptoRow : OpenClaim := { program := "ytnfpfbehebcdpaagreat", sum := "8589da0ca649267ab25409d05dd0e197795d70f3853cae3bf71055eed4a9c8c8", func := "dovecote/dovecotelaw14.ShardPushed", spec := "shardPushed", inPlace := ["internal/abi.NoEscape"], unfollowed := true, recurses := true, plainKeys := false, apart := false, narrowed := true }
def ShardPushedUptoSaid : Prop := shardPushedUptoRow.holds Tryz.pinned (OpenSpec.upto shardPushedSpec)

end Rows
end Go.Proofs.YtnfpfbehebcdpaaGreat
