/-
  No cell of these rows narrows 'for every input' (looked for: loops, veiled, ifaces, maps, wideKeys, modest, calm, conditions, laid).
  DERIVED. THE GIVEN ROWS OF THIS SEAT. 4 by the template 'for every input the law returns true; each argument reads behind the call as it read before'; 0 by the template 'total and deterministic' (their statements: YtkdkgdollmmcnaaGreatTotals.lean).
  GIVEN WITH THE SEED: the statements are not yours to turn. If you find one false, say at which input.
  Laid BY PROGRAM, IN A SANDBOX (cutbox-rows.mjs): the forced cells as the released guide's own fill.sh prints them over the translation ca2e3240a33d9fec… (all of the seat's roots in one cut). By AI agents, Wed Nov 11 2026. No macro, syntax, notation, axiom, sorry.
-/
import Derived.Test.YtkdkgdollmmcnaaGreatChecked
import GoSem.Claim
import GoSem.ClaimJoined
import GoSem.ClaimMapViews
import Derived.JoinedTies
import Derived.KernelRfl
namespace Go.Proofs.YtkdkgdollmmcnaaGreat
/- THE CELL 'sum', in the pinned program and in every row, IS THE sha256 OF THE DUMP (.gsa) THAT YtkdkgdollmmcnaaGreatProg.lean LOADS. Nothing in Lean hashes anything: it is a label: what it is worth is what the hold of that sum in a sandbox is worth. -/
noncomputable def Tryz.pinned : Pinned := { name := "ytkdkgdollmmcnaagreat", sum := "ca2e3240a33d9fecf686ce5a603747589315c58ed378ddf7ea4eefc430faeabc", checked := Tryz.checked }
namespace Rows
def none {H : Type} : Left H := { results := [], args := [] }

/-- 'dovecotelaw17.SessionRuns': WHATEVER THE INPUT: true; the input reads as it did. -/
def sessionRunsSpec : ChangeSpec := { name := "sessionRuns", fn := fun _ => fun
  | [d1, d2, d3] => { results := [.lit (.bool true)], args := [d1, d2, d3] }
  | _ => none }
def sessionRunsRow : OpenClaim := { program := "ytkdkgdollmmcnaagreat", sum := "ca2e3240a33d9fecf686ce5a603747589315c58ed378ddf7ea4eefc430faeabc", func := "dovecote/dovecotelaw17.SessionRuns", spec := "sessionRuns", inPlace := ["slices.overlaps[dovecote/api.Write]"], unfollowed := true, recurses := true, apart := false }
def SessionRunsSaid : Prop := sessionRunsRow.holds Tryz.pinned (OpenSpec.ofChange sessionRunsSpec)

/-- ITS FALSE NEIGHBOUR: 'it returns false'. Refute it at one input. -/
def sessionRunsWrong : ChangeSpec := { name := "sessionRuns", fn := fun _ => fun
  | [d1, d2, d3] => { results := [.lit (.bool false)], args := [d1, d2, d3] }
  | _ => none }
def SessionRunsWrongFalsely : Prop := sessionRunsRow.holds Tryz.pinned (OpenSpec.ofChange sessionRunsWrong)

/-- 'dovecotelaw17.SessionSends': WHATEVER THE INPUT: true; the input reads as it did. -/
def sessionSendsSpec : ChangeSpec := { name := "sessionSends", fn := fun _ => fun
  | [d1, d2, d3] => { results := [.lit (.bool true)], args := [d1, d2, d3] }
  | _ => none }
def sessionSendsRow : OpenClaim := { program := "ytkdkgdollmmcnaagreat", sum := "ca2e3240a33d9fecf686ce5a603747589315c58ed378ddf7ea4eefc430faeabc", func := "dovecote/dovecotelaw17.SessionSends", spec := "sessionSends", inPlace := ["slices.overlaps[dovecote/api.Write]"], unfollowed := true, recurses := true, apart := false }
def SessionSendsSaid : Prop := sessionSendsRow.holds Tryz.pinned (OpenSpec.ofChange sessionSendsSpec)

/-- ITS FALSE NEIGHBOUR: 'it returns false'. Refute it at one input. -/
def sessionSendsWrong : ChangeSpec := { name := "sessionSends", fn := fun _ => fun
  | [d1, d2, d3] => { results := [.lit (.bool false)], args := [d1, d2, d3] }
  | _ => none }
def SessionSendsWrongFalsely : Prop := sessionSendsRow.holds Tryz.pinned (OpenSpec.ofChange sessionSendsWrong)

/-- 'dovecotelaw17.SessionStarts': WHATEVER THE INPUT: true; the input reads as it did. -/
def sessionStartsSpec : ChangeSpec := { name := "sessionStarts", fn := fun _ => fun
  | [d] => { results := [.lit (.bool true)], args := [d] }
  | _ => none }
def sessionStartsRow : OpenClaim := { program := "ytkdkgdollmmcnaagreat", sum := "ca2e3240a33d9fecf686ce5a603747589315c58ed378ddf7ea4eefc430faeabc", func := "dovecote/dovecotelaw17.SessionStarts", spec := "sessionStarts", inPlace := ["slices.overlaps[dovecote/api.Write]"], unfollowed := true, recurses := true, apart := false }
def SessionStartsSaid : Prop := sessionStartsRow.holds Tryz.pinned (OpenSpec.ofChange sessionStartsSpec)

/-- ITS FALSE NEIGHBOUR: 'it returns false'. Refute it at one input. -/
def sessionStartsWrong : ChangeSpec := { name := "sessionStarts", fn := fun _ => fun
  | [d] => { results := [.lit (.bool false)], args := [d] }
  | _ => none }
def SessionStartsWrongFalsely : Prop := sessionStartsRow.holds Tryz.pinned (OpenSpec.ofChange sessionStartsWrong)

/-- 'dovecotelaw17.SessionOnce': WHATEVER THE INPUT: true; the input reads as it did. -/
def sessionOnceSpec : ChangeSpec := { name := "sessionOnce", fn := fun _ => fun
  | [d] => { results := [.lit (.bool true)], args := [d] }
  | _ => none }
def sessionOnceRow : OpenClaim := { program := "ytkdkgdollmmcnaagreat", sum := "ca2e3240a33d9fecf686ce5a603747589315c58ed378ddf7ea4eefc430faeabc", func := "dovecote/dovecotelaw17.SessionOnce", spec := "sessionOnce", inPlace := ["slices.overlaps[dovecote/api.Write]"], unfollowed := true, recurses := true, apart := false }
def SessionOnceSaid : Prop := sessionOnceRow.holds Tryz.pinned (OpenSpec.ofChange sessionOnceSpec)

/-- ITS FALSE NEIGHBOUR: 'it returns false'. Refute it at one input. -/
def sessionOnceWrong : ChangeSpec := { name := "sessionOnce", fn := fun _ => fun
  | [d] => { results := [.lit (.bool false)], args := [d] }
  | _ => none }
def SessionOnceWrongFalsely : Prop := sessionOnceRow.holds Tryz.pinned (OpenSpec.ofChange sessionOnceWrong)

/- THE SECOND FORM. 'bulk': how many values and letters a reading holds, each counted each time it is reached (what is shared counts as often as it is met; a slice's spare places count too). A statement '..UptoSaid' is the law's where the arguments, and the package variables that the reading takes, are together of bulk at most 1048576: NARROWER than '..Said'. Prove '..Said' where nothing that the law and all that it calls make is longer than what came in: it says more and counts as full. Else prove '..UptoSaid'. A law counts once. -/
mutual
def uptoBulk {H : Type} : DataW H → Nat
  | .lit (.string bytes) => bytes.length + 1
  | .lit _ => 1
  | .nil => 1
  | .ptr d => uptoBulk d + 1
  | .slice elems spare => uptoBulkAll elems + uptoBulkAll spare + 1
  | .agg parts => uptoBulkAll parts + 1
  | .iface _ d => uptoBulk d + 1
  | .map entries => uptoBulkEntries entries + 1
  | .held _ => 1
def uptoBulkAll {H : Type} : List (DataW H) → Nat
  | [] => 0
  | d :: r => uptoBulk d + uptoBulkAll r
def uptoBulkEntries {H : Type} : List (Lit × DataW H) → Nat
  | [] => 0
  | x :: r => uptoBulkEntry x + uptoBulkEntries r
def uptoBulkEntry {H : Type} : Lit × DataW H → Nat
  | (.string bytes, d) => bytes.length + uptoBulk d + 1
  | (_, d) => uptoBulk d + 1
 end
def uptoSmall : (H : Type) → List (DataW H) → Bool := fun _ ds => decide (uptoBulkAll ds ≤ 1048576)
def OpenSpec.upto (s : _root_.Go.ChangeSpec) : _root_.Go.OpenSpec := { _root_.Go.OpenSpec.ofChange s with cond := some uptoSmall }

/-- 'dovecotelaw17.SessionRuns', WHERE WHAT IT READS IS OF BULK AT MOST 1048576: true; the input reads as it did. -/
def sessionRunsUptoRow : OpenClaim := { program := "ytkdkgdollmmcnaagreat", sum := "ca2e3240a33d9fecf686ce5a603747589315c58ed378ddf7ea4eefc430faeabc", func := "dovecote/dovecotelaw17.SessionRuns", spec := "sessionRuns", inPlace := ["slices.overlaps[dovecote/api.Write]"], unfollowed := true, recurses := true, apart := false, narrowed := true }
def SessionRunsUptoSaid : Prop := sessionRunsUptoRow.holds Tryz.pinned (OpenSpec.upto sessionRunsSpec)

/-- 'dovecotelaw17.SessionSends', WHERE WHAT IT READS IS OF BULK AT MOST 1048576: true; the input reads as it did. -/
def sessionSendsUptoRow : OpenClaim := { program := "ytkdkgdollmmcnaagreat", sum := "ca2e3240a33d9fecf686ce5a603747589315c58ed378ddf7ea4eefc430faeabc", func := "dovecote/dovecotelaw17.SessionSends", spec := "sessionSends", inPlace := ["slices.overlaps[dovecote/api.Write]"], unfollowed := true, recurses := true, apart := false, narrowed := true }
def SessionSendsUptoSaid : Prop := sessionSendsUptoRow.holds Tryz.pinned (OpenSpec.upto sessionSendsSpec)

/-- 'dovecotelaw17.SessionStarts', WHERE WHAT IT READS IS OF BULK AT MOST 1048576: true; the input reads as it did. -/
def sessionStartsUptoRow : OpenClaim := { program := "ytkdkgdollmmcnaagreat", sum := "ca2e3240a33d9fecf686ce5a603747589315c58ed378ddf7ea4eefc430faeabc", func := "dovecote/dovecotelaw17.SessionStarts", spec := "sessionStarts", inPlace := ["slices.overlaps[dovecote/api.Write]"], unfollowed := true, recurses := true, apart := false, narrowed := true }
def SessionStartsUptoSaid : Prop := sessionStartsUptoRow.holds Tryz.pinned (OpenSpec.upto sessionStartsSpec)

/-- 'dovecotelaw17.SessionOnce', WHERE WHAT IT READS IS OF BULK AT MOST 1048576: true; the input reads as it did. -/
def sessionOnceUptoRow : OpenClaim := { program := "ytkdkgdollmmcnaagreat", sum := "ca2e3240a33d9fecf686ce5a603747589315c58ed378ddf7ea4eefc430faeabc", func := "dovecote/dovecotelaw17.SessionOnce", spec := "sessionOnce", inPlace := ["slices.overlaps[dovecote/api.Write]"], unfollowed := true, recurses := true, apart := false, narrowed := true }
def SessionOnceUptoSaid : Prop := sessionOnceUptoRow.holds Tryz.pinned (OpenSpec.upto sessionOnceSpec)

end Rows
end Go.Proofs.YtkdkgdollmmcnaaGreat
