/-
  Stamps and keys: the leaves that the table leans on. (Carried from stages 7 and 9.)
-/
import Derived.Test.YtknfkpnicjellaaCut
namespace Go.Proofs.Ytknfkpnicjellaa
open Go.RowKit

def rightB (p l : Int) : Bool := decide (p ≤ 281474976710656 ∧ l ≤ 4095)
def lessB (p l q m : Int) : Bool := decide (p < q ∨ p = q ∧ l < m)
def tsV (p l : Int) : Value := .agg #[.int .u64 p, .int .u32 l]

theorem ret_bool {a b : Bool} (h : a = b) : Ending.returned (.bool a) = .returned (.bool b) := by rw [h]

set_option maxHeartbeats 400000 in
set_option maxRecDepth 100000 in
theorem rightP (p l : Int) (w : World) :
    Calls Try.prog 27 #[.agg #[.int .u64 p, .int .u32 l]] w fun e w' => e = .returned (.bool (rightB p l)) ∧ Below w.heap.size w w' := by
  by_cases h1 : p ≤ 281474976710656 <;> by_cases h2 : l ≤ 4095
  all_goals
    go_enter Try.func27, Try.ntmps27
    go_wp2
    go_ret
    exact ⟨ret_bool (by simp [rightB, h1, h2]), (Below.refl _ _).alloc (Nat.le_refl _) _⟩

set_option maxHeartbeats 400000 in
set_option maxRecDepth 100000 in
theorem rightR (p l : Int) (w : World) :
    Calls Try.prog 35 #[.agg #[.int .u64 p, .int .u32 l]] w fun e w' => e = .returned (.bool (rightB p l)) ∧ Below w.heap.size w w' := by
  by_cases h1 : p ≤ 281474976710656 <;> by_cases h2 : l ≤ 4095
  all_goals
    go_enter Try.func35, Try.ntmps35
    go_wp2
    go_ret
    exact ⟨ret_bool (by simp [rightB, h1, h2]), (Below.refl _ _).alloc (Nat.le_refl _) _⟩

set_option maxHeartbeats 400000 in
set_option maxRecDepth 100000 in
theorem lessP (p l q m : Int) (w : World) :
    Calls Try.prog 42 #[.agg #[.int .u64 p, .int .u32 l], .agg #[.int .u64 q, .int .u32 m]] w fun e w' => e = .returned (.bool (lessB p l q m)) ∧ Below w.heap.size w w' := by
  by_cases h : p = q
  · subst h
    go_enter Try.func42, Try.ntmps42
    go_wp2
    go_ret
    exact ⟨ret_bool (by simp [lessB]), ((Below.refl _ _).alloc (Nat.le_refl _) _).alloc (by simp) _⟩
  · have h' : (p != q) = true := by simpa using h
    go_enter Try.func42, Try.ntmps42
    go_wp2
    go_ret
    exact ⟨ret_bool (by simp [lessB, h]), ((Below.refl _ _).alloc (Nat.le_refl _) _).alloc (by simp) _⟩

set_option maxHeartbeats 400000 in
set_option maxRecDepth 100000 in
theorem lessR (p l q m : Int) (w : World) :
    Calls Try.prog 45 #[.agg #[.int .u64 p, .int .u32 l], .agg #[.int .u64 q, .int .u32 m]] w fun e w' => e = .returned (.bool (lessB p l q m)) ∧ Below w.heap.size w w' := by
  by_cases h : p < q
  · go_enter Try.func45, Try.ntmps45
    go_wp2
    go_ret
    exact ⟨ret_bool (by simp [lessB, h]), ((Below.refl _ _).alloc (Nat.le_refl _) _).alloc (by simp) _⟩
  · by_cases h2 : p = q
    · subst h2
      go_enter Try.func45, Try.ntmps45
      go_wp2
      go_ret
      exact ⟨ret_bool (by simp [lessB]), ((Below.refl _ _).alloc (Nat.le_refl _) _).alloc (by simp) _⟩
    · have h3 : (p == q) = false := by simpa using h2
      go_enter Try.func45, Try.ntmps45
      go_wp2
      go_ret
      exact ⟨ret_bool (by simp [lessB, h, h2]), ((Below.refl _ _).alloc (Nat.le_refl _) _).alloc (by simp) _⟩

theorem key32 (k : List UInt8) (w : World) : Calls Try.prog 36 #[.string (bs k)] w fun e w' => e = .returned (.bool (kOk k)) ∧ w' = w := by
  have hs := bs_size k
  by_cases h1 : 1 ≤ k.length
  · by_cases h2 : k.length ≤ 32
    · have hk : kOk k = true := by simp [kOk, h1, h2]
      rw [hk]
      have h1' : (1 : Int) ≤ k.length := by omega
      have h2' : (k.length : Int) ≤ 32 := by omega
      clear hk
      go_enter Try.func36, Try.ntmps36
      go_wp2_with fail
      go_ret
      exact ⟨rfl, rfl⟩
    · have hk : kOk k = false := by simp [kOk, h2]
      rw [hk]
      have h1' : (1 : Int) ≤ k.length := by omega
      have h2' : ¬ (k.length : Int) ≤ 32 := by omega
      clear hk
      go_enter Try.func36, Try.ntmps36
      go_wp2_with fail
      go_ret
      exact ⟨rfl, rfl⟩
  · have hk : kOk k = false := by simp [kOk, h1]
    rw [hk]
    have h1' : ¬ (1 : Int) ≤ k.length := by omega
    clear hk
    go_enter Try.func36, Try.ntmps36
    go_wp2_with fail
    go_ret
    exact ⟨rfl, rfl⟩
theorem lt_less (a b c d : Int) : ltT a b c d = lessB a b c d := by
  simp only [ltT, lessB]
  by_cases h1 : a < c <;> by_cases h2 : a = c <;> by_cases h3 : b < d <;> simp [h1, h2, h3]
end Go.Proofs.Ytknfkpnicjellaa
