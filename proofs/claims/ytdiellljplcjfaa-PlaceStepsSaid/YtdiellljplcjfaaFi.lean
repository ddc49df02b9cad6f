/-
  A word that stands for a whole number, cut to an integer.
-/
import Derived.Test.YtdiellljplcjfaaFn
namespace Go.Proofs.Ytdiellljplcjfaa
open Ieee

theorem zcut (s : Bool) (x k d : Nat) (h : x = k * 2 ^ d) : Toward.zero.cut s x d = k := by
  subst h
  have hp : 0 < 2 ^ d := Nat.two_pow_pos d
  unfold Toward.cut
  by_cases hk : k = 0
  · subst hk
    simp
  · rw [log2_shift k d hk, Nat.min_eq_left (by omega), Nat.shiftLeft_eq, Nat.one_mul]
    simp only [Nat.mul_div_cancel _ hp, Bool.toNat_false, Nat.add_zero]
theorem Fw.toInt {x : Nat} {n : Int} (h : Fw x n) : (double.read x).toInt .zero = some n := by
  obtain ⟨s, m, i, r, e, -⟩ := fw_read h
  rw [r]
  unfold Datum.toInt Datum.integral
  dsimp only
  have hp : (0 : Int) < 2 ^ i := two_pow_posI i
  have hq : (0 : Int) < 2 ^ fq := two_pow_posI fq
  rw [signed_eq] at e
  have habs : m * 2 ^ i = n.natAbs * 2 ^ fq := by
    have := congrArg Int.natAbs e
    rw [Int.natAbs_mul, Int.natAbs_mul, Int.natAbs_mul, Int.natAbs_pow, Int.natAbs_pow] at this
    have e1 : (if s = true then (-1 : Int) else 1).natAbs = 1 := by cases s <;> rfl
    rw [e1, Nat.one_mul] at this
    simpa using this
  have hc : Toward.zero.cut s (m <<< (-(fq : Int) + (i : Int)).toNat) (-(-(fq : Int) + (i : Int))).toNat = n.natAbs := by
    by_cases hi : fq ≤ i
    · rw [show (-(fq : Int) + (i : Int)).toNat = i - fq by omega, show (-(-(fq : Int) + (i : Int))).toNat = 0 by omega, Nat.shiftLeft_eq]
      refine zcut s _ _ 0 ?_
      rw [Nat.pow_zero, Nat.mul_one]
      refine Nat.eq_of_mul_eq_mul_right (Nat.two_pow_pos fq) ?_
      rw [Nat.mul_assoc, ← Nat.pow_add, Nat.sub_add_cancel hi]
      exact habs
    · rw [show (-(fq : Int) + (i : Int)).toNat = 0 by omega, show (-(-(fq : Int) + (i : Int))).toNat = fq - i by omega, Nat.shiftLeft_zero]
      refine zcut s _ _ _ ?_
      refine Nat.eq_of_mul_eq_mul_right (Nat.two_pow_pos i) ?_
      rw [Nat.mul_assoc, ← Nat.pow_add, Nat.sub_add_cancel (by omega)]
      exact habs
  rw [hc, signed_eq, Int.pow_zero, Int.mul_one]
  congr 1
  have hm0 : (0 : Int) ≤ (m : Int) * 2 ^ i := Int.mul_nonneg (by omega) (by omega)
  cases s
  · simp only [Bool.false_eq_true, if_false, Int.one_mul] at e ⊢
    have : 0 ≤ n := by
      rcases Int.lt_or_le n 0 with h1 | h1
      · have := Int.mul_neg_of_neg_of_pos h1 hq
        omega
      · exact h1
    omega
  · simp only [if_true] at e ⊢
    have : n ≤ 0 := by
      rcases Int.lt_or_le 0 n with h1 | h1
      · have := Int.mul_pos h1 hq
        omega
      · exact h1
    omega
theorem Fw.cut {x : Nat} {n : Int} (h : Fw x n) : floatToIntVal .f64 x .i64 = some n := by
  have h1 : (FloatKind.f64.decode x).toInt .zero = some n := h.toInt
  have hb := h.lt
  unfold floatToIntVal
  rw [h1]
  have h2 : (IntKind.i64.min : Int) = -9223372036854775808 := by decide
  have h3 : (IntKind.i64.max : Int) = 9223372036854775807 := by decide
  simp only
  rw [if_pos (by omega)]
end Go.Proofs.Ytdiellljplcjfaa
