/-
  Contracts of stamp.Right, stamp.Less and of their counterparts in the document's answer: each returns what the plain function below says, and turns no memory that was there.
-/
import Derived.Test.YtcfhkggijdjagaaProg
import Derived.Test.YtcfhkggijdjagaaCAa
import Derived.Test.YtcfhkggijdjagaaRw
import Derived.WalkKit
import Derived.WalkSpells
import Derived.WalkLawsBesides
import Derived.BigQuiet
import Derived.Deep.QuietTactic
import Derived.Lib.QuietBelow
import Derived.Lib.AppendStr
import Derived.Lib.Strings
namespace Go.Proofs.Ytcfhkggijdjagaa
open Go.RowKit

def rightB (p l : Int) : Bool := decide (p ≤ 281474976710656 ∧ l ≤ 4095)
def lessB (p l q m : Int) : Bool := decide (p < q ∨ p = q ∧ l < m)
def tsV (p l : Int) : Value := .agg #[.int .u64 p, .int .u32 l]

theorem ret_bool {a b : Bool} (h : a = b) : Ending.returned (.bool a) = .returned (.bool b) := by rw [h]

set_option maxHeartbeats 400000 in
theorem rightP (p l : Int) (w : World) :
    Calls Try.prog 64 #[.agg #[.int .u64 p, .int .u32 l]] w fun e w' => e = .returned (.bool (rightB p l)) ∧ Below w.heap.size w w' := by
  by_cases h1 : p ≤ 281474976710656 <;> by_cases h2 : l ≤ 4095
  all_goals
    go_enter Try.func64, Try.ntmps64
    go_wp2
    go_ret
    exact ⟨ret_bool (by simp [rightB, h1, h2]), (Below.refl _ _).alloc (Nat.le_refl _) _⟩

set_option maxHeartbeats 400000 in
theorem rightR (p l : Int) (w : World) :
    Calls Try.prog 67 #[.agg #[.int .u64 p, .int .u32 l]] w fun e w' => e = .returned (.bool (rightB p l)) ∧ Below w.heap.size w w' := by
  by_cases h1 : p ≤ 281474976710656 <;> by_cases h2 : l ≤ 4095
  all_goals
    go_enter Try.func67, Try.ntmps67
    go_wp2
    go_ret
    exact ⟨ret_bool (by simp [rightB, h1, h2]), (Below.refl _ _).alloc (Nat.le_refl _) _⟩

set_option maxHeartbeats 400000 in
theorem lessP (p l q m : Int) (w : World) :
    Calls Try.prog 63 #[.agg #[.int .u64 p, .int .u32 l], .agg #[.int .u64 q, .int .u32 m]] w fun e w' => e = .returned (.bool (lessB p l q m)) ∧ Below w.heap.size w w' := by
  by_cases h : p = q
  · subst h
    go_enter Try.func63, Try.ntmps63
    go_wp2
    go_ret
    exact ⟨ret_bool (by simp [lessB]), ((Below.refl _ _).alloc (Nat.le_refl _) _).alloc (by simp) _⟩
  · have h' : (p != q) = true := by simpa using h
    go_enter Try.func63, Try.ntmps63
    go_wp2
    go_ret
    exact ⟨ret_bool (by simp [lessB, h]), ((Below.refl _ _).alloc (Nat.le_refl _) _).alloc (by simp) _⟩

set_option maxHeartbeats 400000 in
theorem lessR (p l q m : Int) (w : World) :
    Calls Try.prog 59 #[.agg #[.int .u64 p, .int .u32 l], .agg #[.int .u64 q, .int .u32 m]] w fun e w' => e = .returned (.bool (lessB p l q m)) ∧ Below w.heap.size w w' := by
  by_cases h : p < q
  · go_enter Try.func59, Try.ntmps59
    go_wp2
    go_ret
    exact ⟨ret_bool (by simp [lessB, h]), ((Below.refl _ _).alloc (Nat.le_refl _) _).alloc (by simp) _⟩
  · by_cases h2 : p = q
    · subst h2
      go_enter Try.func59, Try.ntmps59
      go_wp2
      go_ret
      exact ⟨ret_bool (by simp [lessB]), ((Below.refl _ _).alloc (Nat.le_refl _) _).alloc (by simp) _⟩
    · have h3 : (p == q) = false := by simpa using h2
      go_enter Try.func59, Try.ntmps59
      go_wp2
      go_ret
      exact ⟨ret_bool (by simp [lessB, h, h2]), ((Below.refl _ _).alloc (Nat.le_refl _) _).alloc (by simp) _⟩

/-- A version as a value. -/
def veV (v : Ve) : Value := .agg #[.int .u64 v.p, .int .u32 v.l, .int .u32 v.c, .int .u32 v.n, .string (bs v.val), .bool v.dead]
def vcs (v : Ve) : List Value := [.int .u64 v.p, .int .u32 v.l, .int .u32 v.c, .int .u32 v.n, .string (bs v.val), .bool v.dead]

def eqB (p l q m : Int) : Bool := p == q && l == m
theorem run_eql26 (p l q m : Int) (w : World) : (binOp .eql 33 (.agg #[.int .u64 p, .int .u32 l]) (.agg #[.int .u64 q, .int .u32 m])).run Try.prog w = .ok (.bool (eqB p l q m)) w := by
  by_cases h : p = q <;> by_cases h2 : l = m <;> simp [go_sem, eqB, h, h2]
theorem run_eql30 (p l c n : Int) (s : List UInt8) (d : Bool) (p' l' c' n' : Int) (s' : List UInt8) (d' : Bool) (w : World) : (binOp .eql 37 (.agg #[.int .u64 p, .int .u32 l, .int .u32 c, .int .u32 n, .string (bs s), .bool d]) (.agg #[.int .u64 p', .int .u32 l', .int .u32 c', .int .u32 n', .string (bs s'), .bool d'])).run Try.prog w = .ok (.bool (eqV ⟨p, l, c, n, s, d⟩ ⟨p', l', c', n', s', d'⟩)) w := by
  simp [go_sem, eqV, bs_beq]
  repeat' split
  all_goals simp_all
theorem run_neq30 (p l c n : Int) (s : List UInt8) (d : Bool) (p' l' c' n' : Int) (s' : List UInt8) (d' : Bool) (w : World) : (binOp .neq 37 (.agg #[.int .u64 p, .int .u32 l, .int .u32 c, .int .u32 n, .string (bs s), .bool d]) (.agg #[.int .u64 p', .int .u32 l', .int .u32 c', .int .u32 n', .string (bs s'), .bool d'])).run Try.prog w = .ok (.bool (!eqV ⟨p, l, c, n, s, d⟩ ⟨p', l', c', n', s', d'⟩)) w := by
  simp [go_sem, eqV, bs_beq]
  repeat' split
  all_goals simp_all

end Go.Proofs.Ytcfhkggijdjagaa
