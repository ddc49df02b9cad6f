/-
  Contracts of stamp.Right, stamp.Less, stamp.Next and of their counterparts in the document's answer: each returns what the plain function below says, and turns no memory that was there.
-/
import Derived.Test.YtiknfijaadbmeaaProg
import Derived.WalkKit
import Derived.WalkSpells
import Derived.WalkLawsBesides
namespace Go.Proofs.Ytiknfijaadbmeaa
open Go.RowKit

def rightB (p l : Int) : Bool := decide (p ≤ 281474976710656 ∧ l ≤ 4095)
def lessB (p l q m : Int) : Bool := decide (p < q ∨ p = q ∧ l < m)
def tsV (p l : Int) : Value := .agg #[.int .u64 p, .int .u32 l]

theorem ret_bool {a b : Bool} (h : a = b) : Ending.returned (.bool a) = .returned (.bool b) := by rw [h]

set_option maxHeartbeats 400000 in
theorem right18 (p l : Int) (w : World) :
    Calls Try.prog 18 #[.agg #[.int .u64 p, .int .u32 l]] w fun e w' => e = .returned (.bool (rightB p l)) ∧ Below w.heap.size w w' := by
  by_cases h1 : p ≤ 281474976710656 <;> by_cases h2 : l ≤ 4095
  all_goals
    go_enter Try.func18, Try.ntmps18
    go_wp2
    go_ret
    exact ⟨ret_bool (by simp [rightB, h1, h2]), (Below.refl _ _).alloc (Nat.le_refl _) _⟩

set_option maxHeartbeats 400000 in
theorem right20 (p l : Int) (w : World) :
    Calls Try.prog 20 #[.agg #[.int .u64 p, .int .u32 l]] w fun e w' => e = .returned (.bool (rightB p l)) ∧ Below w.heap.size w w' := by
  by_cases h1 : p ≤ 281474976710656 <;> by_cases h2 : l ≤ 4095
  all_goals
    go_enter Try.func20, Try.ntmps20
    go_wp2
    go_ret
    exact ⟨ret_bool (by simp [rightB, h1, h2]), (Below.refl _ _).alloc (Nat.le_refl _) _⟩

set_option maxHeartbeats 400000 in
theorem less17 (p l q m : Int) (w : World) :
    Calls Try.prog 17 #[.agg #[.int .u64 p, .int .u32 l], .agg #[.int .u64 q, .int .u32 m]] w fun e w' => e = .returned (.bool (lessB p l q m)) ∧ Below w.heap.size w w' := by
  by_cases h : p = q
  · subst h
    go_enter Try.func17, Try.ntmps17
    go_wp2
    go_ret
    exact ⟨ret_bool (by simp [lessB]), ((Below.refl _ _).alloc (Nat.le_refl _) _).alloc (by simp) _⟩
  · have h' : (p != q) = true := by simpa using h
    go_enter Try.func17, Try.ntmps17
    go_wp2
    go_ret
    exact ⟨ret_bool (by simp [lessB, h]), ((Below.refl _ _).alloc (Nat.le_refl _) _).alloc (by simp) _⟩

end Go.Proofs.Ytiknfijaadbmeaa
