/-
  The fields of a Kind as a set: has, fieldsOf.
-/
import Derived.Test.YtmgjlpgjjeknpaaRg
namespace Go.Proofs.Ytmgjlpgjjeknpaa
open Go.RowKit Go.Sort

/-- Which fields a Kind has, a bit each. -/
def mask (k : Int) : Nat := if k = 1 ∨ k = 6 then 4 else if k = 2 then 155 else if k = 3 then 551 else if k = 4 then 517 else if k = 5 then 3 else if k = 7 then 1 else if k = 8 then 389 else if k = 9 then 103 else 0
theorem and16 (f g : Nat) (hf : f < 1024) (hg : g < 1024) : (bits BinOp.and IntKind.u16 (f : Int) (g : Int) != 0) = ((f &&& g) != 0) := by
  have h : bits BinOp.and IntKind.u16 (f : Int) (g : Int) = ((f &&& g : Nat) : Int) := by
    unfold bits
    simp
    have e1 : f % 2 ^ IntKind.u16.bits = f := Nat.mod_eq_of_lt (by show f < 2 ^ 16; omega)
    have e2 : g % 2 ^ IntKind.u16.bits = g := Nat.mod_eq_of_lt (by show g < 2 ^ 16; omega)
    have e3 : f &&& g ≤ f := Nat.and_le_left
    rw [e1, e2]
    generalize f &&& g = x at *
    simp [IntKind.wrap, IntKind.signed, IntKind.bits]
    omega
  rw [h]
  rw [Bool.eq_iff_iff]
  simp
set_option maxHeartbeats 400000 in
theorem has41 (f g : Nat) (w : World) (hf : f < 1024) (hg : g < 1024) : Calls Try.prog 41 #[.int .u16 (f : Int), .int .u16 (g : Int)] w fun r w' => r = .returned (.bool ((f &&& g) != 0)) ∧ w = w' := by
  go_enter Try.func41, Try.ntmps41
  go_wp2_with fail
  go_ret
  exact ⟨congrArg (fun b => Ending.returned (.bool b)) (and16 f g hf hg), rfl⟩
set_option maxHeartbeats 400000 in
theorem fields15 (k : Int) (w : World) : Calls Try.prog 15 #[.int .i64 k] w fun r w' => r = .returned (.int .u16 (mask k : Int)) ∧ w = w' := by
  go_enter Try.func15, Try.ntmps15
  go_wp2_with fail
  all_goals (go_ret; exact ⟨by unfold mask; simp_all, rfl⟩)
end Go.Proofs.Ytmgjlpgjjeknpaa
