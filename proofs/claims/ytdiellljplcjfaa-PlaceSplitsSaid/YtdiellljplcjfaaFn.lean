/-
  The opposite of a word that stands for a whole number.
-/
import Derived.Test.YtdiellljplcjfaaFw
namespace Go.Proofs.Ytdiellljplcjfaa
open Ieee

theorem xor_top {x : Nat} (h : x < 2 ^ 63) : x ^^^ 2 ^ 63 = 2 ^ 63 + x := by
  apply Nat.eq_of_testBit_eq
  intro i
  rw [Nat.testBit_xor, Nat.testBit_two_pow]
  by_cases h1 : i = 63
  · subst h1
    rw [Nat.testBit_two_pow_add_eq]
    simp
  · by_cases h2 : i < 63
    · rw [Nat.testBit_two_pow_add_gt h2]
      simp [show ¬ 63 = i by omega]
    · have h3 : x < 2 ^ i := Nat.lt_of_lt_of_le h (Nat.pow_le_pow_right (by decide) (by omega))
      have h4 : 2 ^ 63 + x < 2 ^ i := by
        have : 2 ^ 64 ≤ 2 ^ i := Nat.pow_le_pow_right (by decide) (by omega)
        omega
      rw [Nat.testBit_lt_two_pow h3, Nat.testBit_lt_two_pow h4]
      simp [show ¬ 63 = i by omega]
theorem xor_back {x : Nat} (h : x < 2 ^ 63) : (2 ^ 63 + x) ^^^ 2 ^ 63 = x := by
  rw [← xor_top h, Nat.xor_assoc, Nat.xor_self, Nat.xor_zero]
theorem rung_lt {N : Nat} (h0 : N ≠ 0) (h : N < 2 ^ 53) : rungOf N < 2 ^ 63 := by
  obtain ⟨h1, h2, h3⟩ := top_bounds N h0 h
  unfold rungOf
  omega
theorem neg_eq (x : Nat) : Op.negFloat .f64 x = x ^^^ 2 ^ 63 := rfl
theorem of_word {n : Int} (h0 : n ≠ 0) (hn : n.natAbs < 2 ^ 53) : floatOfInt .f64 n = double.word (decide (n < 0)) (rungOf n.natAbs) := by
  have hnn : n.natAbs ≠ 0 := by omega
  have hc := near_canon (decide (n < 0)) n.natAbs fq n.natAbs rfl hnn hn
  rw [show (-(fq : Int) + (fq : Int)) = 0 by omega] at hc
  rw [ofInt_eq, hc]
theorem Fw.neg {x : Nat} {n : Int} (h : Fw x n) : Fw (Op.negFloat .f64 x) (-n) := by
  refine ⟨?_, by have := h.lt; omega⟩
  rw [neg_eq]
  rcases h.eq with rfl | ⟨rfl, rfl⟩
  · by_cases h0 : n = 0
    · subst h0
      right
      exact ⟨rfl, by rw [ofInt_zero]; rfl⟩
    · left
      have hr := rung_lt (N := n.natAbs) (by omega) h.lt
      rw [of_word h0 h.lt, of_word (n := -n) (by omega) (by have := h.lt; omega), Int.natAbs_neg]
      unfold Format.word
      rw [signW_eq, show (9223372036854775808 : Nat) = 2 ^ 63 from rfl]
      by_cases hneg : n < 0
      · rw [if_pos (by simpa using hneg), if_neg (by simp; omega), xor_back hr]
      · rw [if_neg (by simpa using hneg), if_pos (by simp; omega), xor_top hr]
  · left
    rw [Int.neg_zero, ofInt_zero, show (9223372036854775808 : Nat) = 2 ^ 63 from rfl, Nat.xor_self]
end Go.Proofs.Ytdiellljplcjfaa
