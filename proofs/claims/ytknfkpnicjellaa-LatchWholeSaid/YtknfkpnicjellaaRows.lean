/-
  No cell of these rows narrows 'for every input' (looked for: loops, veiled, ifaces, maps, wideKeys, modest, calm, conditions, laid).
  DERIVED. THE GIVEN ROWS OF THIS SEAT. 5 by the template 'for every input the law returns true; each argument reads behind the call as it read before'; 0 by the template 'total and deterministic' (their statements: YtknfkpnicjellaaTotals.lean).
  GIVEN WITH THE SEED: the statements are not yours to turn. If you find one false, say at which input.
  Laid BY PROGRAM, IN A SANDBOX (cutbox-rows.mjs): the forced cells as the released guide's own fill.sh prints them over the translation 6a13ee037fb74399… (all of the seat's roots in one cut). By AI agents, Wed Nov 11 2026. No macro, syntax, notation, axiom, sorry.
-/
import Derived.Test.YtknfkpnicjellaaChecked
import GoSem.Claim
import GoSem.ClaimJoined
import GoSem.ClaimMapViews
import Derived.JoinedTies
import Derived.KernelRfl
namespace Go.Proofs.Ytknfkpnicjellaa
/- THE CELL 'sum', in the pinned program and in every row, IS THE sha256 OF THE DUMP (.gsa) THAT YtknfkpnicjellaaProg.lean LOADS. Nothing in Lean hashes anything: it is a label: what it is worth is what the hold of that sum in a sandbox is worth. -/
noncomputable def Try.pinned : Pinned := { name := "ytknfkpnicjellaa", sum := "6a13ee037fb74399a5d5823ca639e57fefc177e15ec2e69cf6faf19d7c540496", checked := Try.checked }
namespace Rows
def none {H : Type} : Left H := { results := [], args := [] }

/-- 'dovecotelaw10.LatchRuns': WHATEVER THE INPUT: true; the input reads as it did. -/
def latchRunsSpec : ChangeSpec := { name := "latchRuns", fn := fun _ => fun
  | [d] => { results := [.lit (.bool true)], args := [d] }
  | _ => none }
def latchRunsRow : OpenClaim := { program := "ytknfkpnicjellaa", sum := "6a13ee037fb74399a5d5823ca639e57fefc177e15ec2e69cf6faf19d7c540496", func := "dovecote/dovecotelaw10.LatchRuns", spec := "latchRuns", unfollowed := true, recurses := true, plainKeys := false, apart := false }
def LatchRunsSaid : Prop := latchRunsRow.holds Try.pinned (OpenSpec.ofChange latchRunsSpec)

/-- ITS FALSE NEIGHBOUR: 'it returns false'. Refute it at one input. -/
def latchRunsWrong : ChangeSpec := { name := "latchRuns", fn := fun _ => fun
  | [d] => { results := [.lit (.bool false)], args := [d] }
  | _ => none }
def LatchRunsWrongFalsely : Prop := latchRunsRow.holds Try.pinned (OpenSpec.ofChange latchRunsWrong)

/-- 'dovecotelaw10.LatchHolds': WHATEVER THE INPUT: true; the input reads as it did. -/
def latchHoldsSpec : ChangeSpec := { name := "latchHolds", fn := fun _ => fun
  | [d1, d2] => { results := [.lit (.bool true)], args := [d1, d2] }
  | _ => none }
def latchHoldsRow : OpenClaim := { program := "ytknfkpnicjellaa", sum := "6a13ee037fb74399a5d5823ca639e57fefc177e15ec2e69cf6faf19d7c540496", func := "dovecote/dovecotelaw10.LatchHolds", spec := "latchHolds", unfollowed := true, recurses := true, plainKeys := false, apart := false }
def LatchHoldsSaid : Prop := latchHoldsRow.holds Try.pinned (OpenSpec.ofChange latchHoldsSpec)

/-- ITS FALSE NEIGHBOUR: 'it returns false'. Refute it at one input. -/
def latchHoldsWrong : ChangeSpec := { name := "latchHolds", fn := fun _ => fun
  | [d1, d2] => { results := [.lit (.bool false)], args := [d1, d2] }
  | _ => none }
def LatchHoldsWrongFalsely : Prop := latchHoldsRow.holds Try.pinned (OpenSpec.ofChange latchHoldsWrong)

/-- 'dovecotelaw10.LatchNothing': WHATEVER THE INPUT: true; the input reads as it did. -/
def latchNothingSpec : ChangeSpec := { name := "latchNothing", fn := fun _ => fun
  | [d] => { results := [.lit (.bool true)], args := [d] }
  | _ => none }
def latchNothingRow : OpenClaim := { program := "ytknfkpnicjellaa", sum := "6a13ee037fb74399a5d5823ca639e57fefc177e15ec2e69cf6faf19d7c540496", func := "dovecote/dovecotelaw10.LatchNothing", spec := "latchNothing", unfollowed := true, recurses := true, plainKeys := false, apart := false }
def LatchNothingSaid : Prop := latchNothingRow.holds Try.pinned (OpenSpec.ofChange latchNothingSpec)

/-- ITS FALSE NEIGHBOUR: 'it returns false'. Refute it at one input. -/
def latchNothingWrong : ChangeSpec := { name := "latchNothing", fn := fun _ => fun
  | [d] => { results := [.lit (.bool false)], args := [d] }
  | _ => none }
def LatchNothingWrongFalsely : Prop := latchNothingRow.holds Try.pinned (OpenSpec.ofChange latchNothingWrong)

/-- 'dovecotelaw10.LatchFirst': WHATEVER THE INPUT: true; the input reads as it did. -/
def latchFirstSpec : ChangeSpec := { name := "latchFirst", fn := fun _ => fun
  | [d1, d2] => { results := [.lit (.bool true)], args := [d1, d2] }
  | _ => none }
def latchFirstRow : OpenClaim := { program := "ytknfkpnicjellaa", sum := "6a13ee037fb74399a5d5823ca639e57fefc177e15ec2e69cf6faf19d7c540496", func := "dovecote/dovecotelaw10.LatchFirst", spec := "latchFirst", unfollowed := true, recurses := true, plainKeys := false, apart := false }
def LatchFirstSaid : Prop := latchFirstRow.holds Try.pinned (OpenSpec.ofChange latchFirstSpec)

/-- ITS FALSE NEIGHBOUR: 'it returns false'. Refute it at one input. -/
def latchFirstWrong : ChangeSpec := { name := "latchFirst", fn := fun _ => fun
  | [d1, d2] => { results := [.lit (.bool false)], args := [d1, d2] }
  | _ => none }
def LatchFirstWrongFalsely : Prop := latchFirstRow.holds Try.pinned (OpenSpec.ofChange latchFirstWrong)

/-- 'dovecotelaw10.LatchWhole': WHATEVER THE INPUT: true; the input reads as it did. -/
def latchWholeSpec : ChangeSpec := { name := "latchWhole", fn := fun _ => fun
  | [d] => { results := [.lit (.bool true)], args := [d] }
  | _ => none }
def latchWholeRow : OpenClaim := { program := "ytknfkpnicjellaa", sum := "6a13ee037fb74399a5d5823ca639e57fefc177e15ec2e69cf6faf19d7c540496", func := "dovecote/dovecotelaw10.LatchWhole", spec := "latchWhole", unfollowed := true, recurses := true, plainKeys := false, apart := false }
def LatchWholeSaid : Prop := latchWholeRow.holds Try.pinned (OpenSpec.ofChange latchWholeSpec)

/-- ITS FALSE NEIGHBOUR: 'it returns false'. Refute it at one input. -/
def latchWholeWrong : ChangeSpec := { name := "latchWhole", fn := fun _ => fun
  | [d] => { results := [.lit (.bool false)], args := [d] }
  | _ => none }
def LatchWholeWrongFalsely : Prop := latchWholeRow.holds Try.pinned (OpenSpec.ofChange latchWholeWrong)

/- THE SECOND FORM. 'bulk': how many values and letters a reading holds, each counted each time it is reached (what is shared counts as often as it is met; a slice's spare places count too). A statement '..UptoSaid' is the law's where the arguments, and the package variables that the reading takes, are together of bulk at most 1048576: NARROWER than '..Said'. Prove '..Said' where nothing that the law and all that it calls make is longer than what came in: it says more and counts as full. Else prove '..UptoSaid'. A law counts once. -/
mutual
def uptoBulk {H : Type} : DataW H → Nat
  | .lit (.string bytes) => bytes.length + 1
  | .lit _ => 1
  | .nil => 1
  | .ptr d => uptoBulk d + 1
  | .slice elems spare => uptoBulkAll elems + uptoBulkAll spare + 1
  | .agg parts => uptoBulkAll parts + 1
  | .iface _ d => uptoBulk d + 1
  | .map entries => uptoBulkEntries entries + 1
  | .held _ => 1
def uptoBulkAll {H : Type} : List (DataW H) → Nat
  | [] => 0
  | d :: r => uptoBulk d + uptoBulkAll r
def uptoBulkEntries {H : Type} : List (Lit × DataW H) → Nat
  | [] => 0
  | x :: r => uptoBulkEntry x + uptoBulkEntries r
def uptoBulkEntry {H : Type} : Lit × DataW H → Nat
  | (.string bytes, d) => bytes.length + uptoBulk d + 1
  | (_, d) => uptoBulk d + 1
 end
def uptoSmall : (H : Type) → List (DataW H) → Bool := fun _ ds => decide (uptoBulkAll ds ≤ 1048576)
def OpenSpec.upto (s : _root_.Go.ChangeSpec) : _root_.Go.OpenSpec := { _root_.Go.OpenSpec.ofChange s with cond := some uptoSmall }

/-- 'dovecotelaw10.LatchRuns', WHERE WHAT IT READS IS OF BULK AT MOST 1048576: true; the input reads as it did. -/
def latchRunsUptoRow : OpenClaim := { program := "ytknfkpnicjellaa", sum := "6a13ee037fb74399a5d5823ca639e57fefc177e15ec2e69cf6faf19d7c540496", func := "dovecote/dovecotelaw10.LatchRuns", spec := "latchRuns", unfollowed := true, recurses := true, plainKeys := false, apart := false, narrowed := true }
def LatchRunsUptoSaid : Prop := latchRunsUptoRow.holds Try.pinned (OpenSpec.upto latchRunsSpec)

/-- 'dovecotelaw10.LatchHolds', WHERE WHAT IT READS IS OF BULK AT MOST 1048576: true; the input reads as it did. -/
def latchHoldsUptoRow : OpenClaim := { program := "ytknfkpnicjellaa", sum := "6a13ee037fb74399a5d5823ca639e57fefc177e15ec2e69cf6faf19d7c540496", func := "dovecote/dovecotelaw10.LatchHolds", spec := "latchHolds", unfollowed := true, recurses := true, plainKeys := false, apart := false, narrowed := true }
def LatchHoldsUptoSaid : Prop := latchHoldsUptoRow.holds Try.pinned (OpenSpec.upto latchHoldsSpec)

/-- 'dovecotelaw10.LatchNothing', WHERE WHAT IT READS IS OF BULK AT MOST 1048576: true; the input reads as it did. -/
def latchNothingUptoRow : OpenClaim := { program := "ytknfkpnicjellaa", sum := "6a13ee037fb74399a5d5823ca639e57fefc177e15ec2e69cf6faf19d7c540496", func := "dovecote/dovecotelaw10.LatchNothing", spec := "latchNothing", unfollowed := true, recurses := true, plainKeys := false, apart := false, narrowed := true }
def LatchNothingUptoSaid : Prop := latchNothingUptoRow.holds Try.pinned (OpenSpec.upto latchNothingSpec)

/-- 'dovecotelaw10.LatchFirst', WHERE WHAT IT READS IS OF BULK AT MOST 1048576: true; the input reads as it did. -/
def latchFirstUptoRow : OpenClaim := { program := "ytknfkpnicjellaa", sum := "6a13ee037fb74399a5d5823ca639e57fefc177e15ec2e69cf6faf19d7c540496", func := "dovecote/dovecotelaw10.LatchFirst", spec := "latchFirst", unfollowed := true, recurses := true, plainKeys := false, apart := false, narrowed := true }
def LatchFirstUptoSaid : Prop := latchFirstUptoRow.holds Try.pinned (OpenSpec.upto latchFirstSpec)

/-- 'dovecotelaw10.LatchWhole', WHERE WHAT IT READS IS OF BULK AT MOST 1048576: true; the input reads as it did. -/
def latchWholeUptoRow : OpenClaim := { program := "ytknfkpnicjellaa", sum := "6a13ee037fb74399a5d5823ca639e57fefc177e15ec2e69cf6faf19d7c540496", func := "dovecote/dovecotelaw10.LatchWhole", spec := "latchWhole", unfollowed := true, recurses := true, plainKeys := false, apart := false, narrowed := true }
def LatchWholeUptoSaid : Prop := latchWholeUptoRow.holds Try.pinned (OpenSpec.upto latchWholeSpec)

end Rows
end Go.Proofs.Ytknfkpnicjellaa
