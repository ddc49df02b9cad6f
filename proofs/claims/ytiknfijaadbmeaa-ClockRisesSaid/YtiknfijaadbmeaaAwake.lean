/-
  awake returns true, and turns no memory that was there. And what the plain functions of a clock keep to.
-/
import Derived.Test.YtiknfijaadbmeaaTick
import Derived.Test.YtiknfijaadbmeaaMerge
namespace Go.Proofs.Ytiknfijaadbmeaa
open Go.RowKit

def eqB (p l q m : Int) : Bool := p == q && l == m
theorem run_eql25 (p l q m : Int) (w : World) : (binOp .eql 25 (.agg #[.int .u64 p, .int .u32 l]) (.agg #[.int .u64 q, .int .u32 m])).run Try.prog w = .ok (.bool (eqB p l q m)) w := by
  by_cases h : p = q <;> by_cases h2 : l = m <;> simp [go_sem, eqB, h, h2]
theorem run_neq25 (p l q m : Int) (w : World) : (binOp .neq 25 (.agg #[.int .u64 p, .int .u32 l]) (.agg #[.int .u64 q, .int .u32 m])).run Try.prog w = .ok (.bool (!eqB p l q m)) w := by
  by_cases h : p = q <;> by_cases h2 : l = m <;> simp [go_sem, eqB, h, h2]

theorem tick57 (w : World) : Calls Try.prog 9 #[.agg #[.int .u64 5, .int .u32 3], .int .u64 7] w fun e w' => e = .returned (.tuple #[.agg #[.int .u64 7, .int .u32 0], .int .i64 0]) ∧ Below w.heap.size w w' :=
  tick9 5 3 7 w (by omega) (by omega) (by omega)
theorem tick55 (w : World) : Calls Try.prog 9 #[.agg #[.int .u64 5, .int .u32 3], .int .u64 5] w fun e w' => e = .returned (.tuple #[.agg #[.int .u64 5, .int .u32 4], .int .i64 0]) ∧ Below w.heap.size w w' :=
  tick9 5 3 5 w (by omega) (by omega) (by omega)
set_option maxHeartbeats 400000 in
theorem awake8 (w : World) : Calls Try.prog 8 #[] w fun e w' => e = .returned (.bool true) ∧ Below w.heap.size w w' := by
  go_enter Try.func8, Try.ntmps8
  go_wp2_with fail
  refine (tick57 _).mono ?_
  rintro e w1 ⟨rfl, hb⟩
  obtain ⟨hc, hf⟩ := bcell hb
  go_wp2_with fail
  refine (tick55 _).mono ?_
  rintro e w2 ⟨rfl, hb2⟩
  obtain ⟨hc2, hf2⟩ := bcell hb2
  have hz : w1.heap.size < w2.heap.size := by have := hb2.size; simp at this; omega
  go_wp2
  go_ret
  exact ⟨rfl, ((hb.alloc hb.size _).trans (hb2.mono (by have := hb.size; simp; omega))).alloc (by have := hb.size; omega) _⟩

theorem lessB_iff {p l q m : Int} : lessB p l q m = true ↔ (p < q ∨ p = q ∧ l < m) := by simp [lessB]
theorem lessB_not {p l q m : Int} : lessB p l q m = false ↔ ¬ (p < q ∨ p = q ∧ l < m) := by unfold lessB; exact decide_eq_false_iff_not
theorem rightB_not {p l : Int} : rightB p l = false ↔ ¬ (p ≤ 281474976710656 ∧ l ≤ 4095) := by unfold rightB; exact decide_eq_false_iff_not

/-- What Next answers with OK, or not. -/
theorem nextF_ok (p l a b c : Int) (h : nextF p l = (a, b, c)) (_h0 : 0 ≤ p) (_h1 : 0 ≤ l) :
    (c = 0 ∧ p ≤ 281474976710656 ∧ l ≤ 4095 ∧ a ≤ 281474976710656 ∧ b ≤ 4095 ∧ (a = p ∧ b = l + 1 ∨ a = p + 1 ∧ b = 0)) ∨ (c ≠ 0 ∧ a = 0 ∧ b = 0 ∧ (c = 20 ∨ ¬ (p ≤ 281474976710656 ∧ l ≤ 4095))) := by
  unfold nextF at h
  cases hr : rightB p l
  · rw [hr] at h
    have := rightB_not.1 hr
    simp only [Bool.false_eq_true, if_false, Prod.mk.injEq] at h
    right; omega
  · rw [hr] at h
    have := rightB_iff.1 hr
    simp only [if_true] at h
    by_cases h2 : l < 4095
    · rw [if_pos h2] at h; simp only [Prod.mk.injEq] at h; left; omega
    · rw [if_neg h2] at h
      by_cases h3 : p < 281474976710656
      · rw [if_pos h3] at h; simp only [Prod.mk.injEq] at h; left; omega
      · rw [if_neg h3] at h; simp only [Prod.mk.injEq] at h; right; omega

/-- What Tick answers with OK, or not. -/
theorem tickF_ok (p l f a b c : Int) (h : tickF p l f = (a, b, c)) (h0 : 0 ≤ p) (h1 : 0 ≤ l) :
    (c = 0 ∧ p ≤ 281474976710656 ∧ l ≤ 4095 ∧ f ≤ 281474976710656 ∧ a ≤ 281474976710656 ∧ b ≤ 4095 ∧ (p < f ∧ a = f ∧ b = 0 ∨ f ≤ p ∧ a = p ∧ b = l + 1 ∨ f ≤ p ∧ a = p + 1 ∧ b = 0)) ∨ (c ≠ 0 ∧ a = 0 ∧ b = 0 ∧ (c = 20 ∨ ¬ (p ≤ 281474976710656 ∧ l ≤ 4095))) := by
  unfold tickF at h
  cases hr : rightB p l
  · rw [hr] at h
    have := rightB_not.1 hr
    simp only [Bool.false_eq_true, if_false, Prod.mk.injEq] at h
    right; omega
  · rw [hr] at h
    have := rightB_iff.1 hr
    simp only [if_true] at h
    by_cases h2 : f ≤ 281474976710656
    · rw [if_pos h2] at h
      by_cases h3 : p < f
      · rw [if_pos h3] at h; simp only [Prod.mk.injEq] at h; left; omega
      · rw [if_neg h3] at h
        rcases nextF_ok p l a b c h h0 h1 with ⟨_, _, _, _, _, _⟩ | ⟨_, _, _, _⟩
        · left; omega
        · right; omega
    · rw [if_neg h2] at h; simp only [Prod.mk.injEq] at h; right; omega

/-- What Merge answers with OK, or not. -/
theorem mergeF_ok (p l f q m a b c : Int) (h : mergeF p l f q m = (a, b, c)) :
    (c = 0 ∧ p ≤ 281474976710656 ∧ l ≤ 4095 ∧ q ≤ 281474976710656 ∧ m ≤ 4095 ∧ q ≤ f + 1000 ∧ ((p < q ∨ p = q ∧ l < m) ∧ a = q ∧ b = m ∨ ¬ (p < q ∨ p = q ∧ l < m) ∧ a = p ∧ b = l))
    ∨ (c = 1 ∧ a = 0 ∧ b = 0 ∧ ¬ (p ≤ 281474976710656 ∧ l ≤ 4095 ∧ q ≤ 281474976710656 ∧ m ≤ 4095)) ∨ (c = 21 ∧ a = 0 ∧ b = 0 ∧ f + 1000 < q) := by
  unfold mergeF at h
  by_cases hr : (rightB p l && rightB q m) = true
  · rw [if_pos hr] at h
    simp only [Bool.and_eq_true, rightB_iff] at hr
    by_cases hb : beyB q f 1000 = true
    · rw [if_pos hb] at h
      simp only [beyB, decide_eq_true_eq] at hb
      simp only [Prod.mk.injEq] at h
      right; right; omega
    · rw [if_neg hb] at h
      simp only [beyB, decide_eq_true_eq] at hb
      left
      unfold maxF at h
      by_cases hl : lessB p l q m = true
      · rw [if_pos hl] at h; simp only [Prod.mk.injEq] at h; have := lessB_iff.1 hl; omega
      · rw [if_neg hl] at h; simp only [Prod.mk.injEq] at h; have := lessB_not.1 (Bool.eq_false_iff.2 hl); omega
  · rw [if_neg hr] at h
    simp only [Bool.and_eq_true, rightB_iff] at hr
    simp only [Prod.mk.injEq] at h
    right; left; omega
end Go.Proofs.Ytiknfijaadbmeaa
