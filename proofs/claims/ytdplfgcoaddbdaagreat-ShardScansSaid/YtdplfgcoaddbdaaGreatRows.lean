/-
  No cell of these rows narrows 'for every input' (looked for: loops, veiled, ifaces, maps, wideKeys, modest, calm, conditions, laid).
  DERIVED. THE GIVEN ROWS OF THIS SEAT. 2 by the template 'for every input the law returns true; each argument reads behind the call as it read before'; 0 by the template 'total and deterministic' (their statements: YtdplfgcoaddbdaaGreatTotals.lean).
  GIVEN WITH THE SEED: the statements are not yours to turn. If you find one false, say at which input.
  Laid BY PROGRAM, IN A SANDBOX (cutbox-rows.mjs): the forced cells as the released guide's own fill.sh prints them over the translation b77c23dc8d0ae6db… (all of the seat's roots in one cut). By AI agents, Wed Nov 11 2026. No macro, syntax, notation, axiom, sorry.
-/
import Derived.Test.YtdplfgcoaddbdaaGreatChecked
import GoSem.Claim
import GoSem.ClaimJoined
import GoSem.ClaimMapViews
import Derived.JoinedTies
import Derived.KernelRfl
namespace Go.Proofs.YtdplfgcoaddbdaaGreat
/- THE CELL 'sum', in the pinned program and in every row, IS THE sha256 OF THE DUMP (.gsa) THAT YtdplfgcoaddbdaaGreatProg.lean LOADS. Nothing in Lean hashes anything: it is a label: what it is worth is what the hold of that sum in a sandbox is worth. -/
noncomputable def Tryz.pinned : Pinned := { name := "ytdplfgcoaddbdaagreat", sum := "b77c23dc8d0ae6dbc7921729f5ca7eb9e4b2976ec496a0209f40d6f16e742f76", checked := Tryz.checked }
namespace Rows
def none {H : Type} : Left H := { results := [], args := [] }

/-- 'dovecotelaw14.ShardTwice': WHATEVER THE INPUT: true; the input reads as it did. -/
def shardTwiceSpec : ChangeSpec := { name := "shardTwice", fn := fun _ => fun
  | [d1, d2, d3] => { results := [.lit (.bool true)], args := [d1, d2, d3] }
  | _ => none }
def shardTwiceRow : OpenClaim := { program := "ytdplfgcoaddbdaagreat", sum := "b77c23dc8d0ae6dbc7921729f5ca7eb9e4b2976ec496a0209f40d6f16e742f76", func := "dovecote/dovecotelaw14.ShardTwice", spec := "shardTwice", inPlace := ["internal/abi.NoEscape"], unfollowed := true, recurses := true, plainKeys := false, apart := false }
def ShardTwiceSaid : Prop := shardTwiceRow.holds Tryz.pinned (OpenSpec.ofChange shardTwiceSpec)

/-- ITS FALSE NEIGHBOUR: 'it returns false'. Refute it at one input. -/
def shardTwiceWrong : ChangeSpec := { name := "shardTwice", fn := fun _ => fun
  | [d1, d2, d3] => { results := [.lit (.bool false)], args := [d1, d2, d3] }
  | _ => none }
def ShardTwiceWrongFalsely : Prop := shardTwiceRow.holds Tryz.pinned (OpenSpec.ofChange shardTwiceWrong)

/-- 'dovecotelaw14.ShardScans': WHATEVER THE INPUT: true; the input reads as it did. -/
def shardScansSpec : ChangeSpec := { name := "shardScans", fn := fun _ => fun
  | [d1, d2, d3] => { results := [.lit (.bool true)], args := [d1, d2, d3] }
  | _ => none }
def shardScansRow : OpenClaim := { program := "ytdplfgcoaddbdaagreat", sum := "b77c23dc8d0ae6dbc7921729f5ca7eb9e4b2976ec496a0209f40d6f16e742f76", func := "dovecote/dovecotelaw14.ShardScans", spec := "shardScans", inPlace := ["internal/abi.NoEscape"], unfollowed := true, recurses := true, plainKeys := false, apart := false }
def ShardScansSaid : Prop := shardScansRow.holds Tryz.pinned (OpenSpec.ofChange shardScansSpec)

/-- ITS FALSE NEIGHBOUR: 'it returns false'. Refute it at one input. -/
def shardScansWrong : ChangeSpec := { name := "shardScans", fn := fun _ => fun
  | [d1, d2, d3] => { results := [.lit (.bool false)], args := [d1, d2, d3] }
  | _ => none }
def ShardScansWrongFalsely : Prop := shardScansRow.holds Tryz.pinned (OpenSpec.ofChange shardScansWrong)

/- THE SECOND FORM. 'bulk': how many values and letters a reading holds, each counted each time it is reached (what is shared counts as often as it is met; a slice's spare places count too). A statement '..UptoSaid' is the law's where the arguments, and the package variables that the reading takes, are together of bulk at most 1048576: NARROWER than '..Said'. Prove '..Said' where nothing that the law and all that it calls make is longer than what came in: it says more and counts as full. Else prove '..UptoSaid'. A law counts once. -/
mutual
def uptoBulk {H : Type} : DataW H → Nat
  | .lit (.string bytes) => bytes.length + 1
  | .lit _ => 1
  | .nil => 1
  | .ptr d => uptoBulk d + 1
  | .slice elems spare => uptoBulkAll elems + uptoBulkAll spare + 1
  | .agg parts => uptoBulkAll parts + 1
  | .iface _ d => uptoBulk d + 1
  | .map entries => uptoBulkEntries entries + 1
  | .held _ => 1
def uptoBulkAll {H : Type} : List (DataW H) → Nat
  | [] => 0
  | d :: r => uptoBulk d + uptoBulkAll r
def uptoBulkEntries {H : Type} : List (Lit × DataW H) → Nat
  | [] => 0
  | x :: r => uptoBulkEntry x + uptoBulkEntries r
def uptoBulkEntry {H : Type} : Lit × DataW H → Nat
  | (.string bytes, d) => bytes.length + uptoBulk d + 1
  | (_, d) => uptoBulk d + 1
 end
def uptoSmall : (H : Type) → List (DataW H) → Bool := fun _ ds => decide (uptoBulkAll ds ≤ 1048576)
def OpenSpec.upto (s : _root_.Go.ChangeSpec) : _root_.Go.OpenSpec := { _root_.Go.OpenSpec.ofChange s with cond := some uptoSmall }

/-- 'dovecotelaw14.ShardTwice', WHERE WHAT IT READS IS OF BULK AT MOST 1048576: true; the input reads as it did. -/
def shardTwiceUptoRow : OpenClaim := { program := "ytdplfgcoaddbdaagreat", sum := "b77c23dc8d0ae6dbc7921729f5ca7eb9e4b2976ec496a0209f40d6f16e742f76", func := "dovecote/dovecotelaw14.ShardTwice", spec := "shardTwice", inPlace := ["internal/abi.NoEscape"], unfollowed := true, recurses := true, plainKeys := false, apart := false, narrowed := true }
def ShardTwiceUptoSaid : Prop := shardTwiceUptoRow.holds Tryz.pinned (OpenSpec.upto shardTwiceSpec)

/-- 'dovecotelaw14.ShardScans', WHERE WHAT IT READS IS OF BULK AT MOST 1048576: true; the input reads as it did. -/
def shardScansUptoRow : OpenClaim := { program := "ytdplfgcoaddbdaagreat", sum := "b77c23dc8d0ae6dbc7921729f5ca7eb9e4b2976ec496a0209f40d6f16e742f76", func := "dovecote/dovecotelaw14.ShardScans", spec := "shardScans", inPlace := ["internal/abi.NoEscape"], unfollowed := true, recurses := true, plainKeys := false, apart := false, narrowed := true }
def ShardScansUptoSaid : Prop := shardScansUptoRow.holds Tryz.pinned (OpenSpec.upto shardScansSpec)

end Rows
end Go.Proofs.YtdplfgcoaddbdaaGreat
