import Derived.Test.YtkdkgdollmmcnaaGreatWak
set_option maxHeartbeats 4000000
set_option maxRecDepth 100000
set_option linter.unusedVariables false
set_option linter.unusedSimpArgs false
namespace Go.Proofs.YtkdkgdollmmcnaaGreat.Clk
open Go.RowKit
theorem lessB_iff {p l q m : Int} : lessB p l q m = true ↔ (p < q ∨ p = q ∧ l < m) := by simp [lessB]
theorem lessB_not {p l q m : Int} : lessB p l q m = false ↔ ¬ (p < q ∨ p = q ∧ l < m) := by unfold lessB; exact decide_eq_false_iff_not
theorem rightB_not {p l : Int} : rightB p l = false ↔ ¬ (p ≤ 281474976710656 ∧ l ≤ 4095) := by unfold rightB; exact decide_eq_false_iff_not
theorem nextF_ok (p l a b c : Int) (h : nextF p l = (a, b, c)) (_h0 : 0 ≤ p) (_h1 : 0 ≤ l) :
  (c = 0 ∧ p ≤ 281474976710656 ∧ l ≤ 4095 ∧ a ≤ 281474976710656 ∧ b ≤ 4095 ∧ (a = p ∧ b = l + 1 ∨ a = p + 1 ∧ b = 0)) ∨ (c ≠ 0 ∧ a = 0 ∧ b = 0 ∧ (c = 20 ∨ ¬ (p ≤ 281474976710656 ∧ l ≤ 4095))) := by
 unfold nextF at h
 cases hr : rightB p l
 ·rw [hr] at h
  have := rightB_not.1 hr
  simp only [Bool.false_eq_true, if_false, Prod.mk.injEq] at h
  right; omega
 ·rw [hr] at h
  have := rightB_iff.1 hr
  simp only [if_true] at h
  by_cases h2 : l < 4095
  ·rw [if_pos h2] at h; simp only [Prod.mk.injEq] at h; left; omega
  ·rw [if_neg h2] at h
   by_cases h3 : p < 281474976710656
   ·rw [if_pos h3] at h; simp only [Prod.mk.injEq] at h; left; omega
   ·rw [if_neg h3] at h; simp only [Prod.mk.injEq] at h; right; omega
theorem tickF_ok (p l f a b c : Int) (h : tickF p l f = (a, b, c)) (h0 : 0 ≤ p) (h1 : 0 ≤ l) :
  (c = 0 ∧ p ≤ 281474976710656 ∧ l ≤ 4095 ∧ f ≤ 281474976710656 ∧ a ≤ 281474976710656 ∧ b ≤ 4095 ∧ (p < f ∧ a = f ∧ b = 0 ∨ f ≤ p ∧ a = p ∧ b = l + 1 ∨ f ≤ p ∧ a = p + 1 ∧ b = 0)) ∨ (c ≠ 0 ∧ a = 0 ∧ b = 0 ∧ (c = 20 ∨ ¬ (p ≤ 281474976710656 ∧ l ≤ 4095))) := by
 unfold tickF at h
 cases hr : rightB p l
 ·rw [hr] at h
  have := rightB_not.1 hr
  simp only [Bool.false_eq_true, if_false, Prod.mk.injEq] at h
  right; omega
 ·rw [hr] at h
  have := rightB_iff.1 hr
  simp only [if_true] at h
  by_cases h2 : f ≤ 281474976710656
  ·rw [if_pos h2] at h
   by_cases h3 : p < f
   ·rw [if_pos h3] at h; simp only [Prod.mk.injEq] at h; left; omega
   ·rw [if_neg h3] at h
    rcases nextF_ok p l a b c h h0 h1 with ⟨_, _, _, _, _, _⟩ | ⟨_, _, _, _⟩
    ·left; omega
    ·right; omega
  ·rw [if_neg h2] at h; simp only [Prod.mk.injEq] at h; right; omega
end Go.Proofs.YtkdkgdollmmcnaaGreat.Clk
