/-
  The law StampOrders at every three stamps: the plain facts on the order and on the next stamp that its walk leans on.
-/
import Derived.Test.YtdhpcgjkhhldhaaDoorOrders
namespace Go.Proofs.YtdhpcgjkhhldhaaDoor
open Go.RowKit

theorem lessB_iff {p l q m : Int} : lessB p l q m = true ↔ (p < q ∨ p = q ∧ l < m) := by simp [lessB]
theorem lessB_not {p l q m : Int} : lessB p l q m = false ↔ ¬ (p < q ∨ p = q ∧ l < m) := by
  rw [← lessB_iff, Bool.not_eq_true]
theorem eqB_iff {p l q m : Int} : eqB p l q m = true ↔ (p = q ∧ l = m) := by simp [eqB]
theorem eqB_not {p l q m : Int} : eqB p l q m = false ↔ ¬ (p = q ∧ l = m) := by
  rw [← eqB_iff, Bool.not_eq_true]

theorem next_facts (p l q m : Int) (hm : 0 ≤ m) (h : ((nextF p l).2.2 != 0) = false) :
    lessB p l (nextF p l).1 (nextF p l).2.1 = true ∧ (rightB q m = true → lessB p l q m = true → lessB q m (nextF p l).1 (nextF p l).2.1 = false) := by
  unfold nextF at *
  cases hr : rightB p l
  · rw [hr] at h; simp at h
  · rw [hr] at h
    obtain ⟨hr1, hr2⟩ := rightB_iff.1 hr
    simp only [if_true] at h ⊢
    by_cases h1 : l < 4095
    · simp only [h1, if_true] at h ⊢
      refine ⟨lessB_iff.2 (by omega), fun hb hx => lessB_not.2 ?_⟩
      have := lessB_iff.1 hx
      omega
    · simp only [h1, if_false] at h ⊢
      by_cases h2 : p < 281474976710656
      · simp only [h2, if_true] at h ⊢
        refine ⟨lessB_iff.2 (by omega), fun hb hx => lessB_not.2 ?_⟩
        have := lessB_iff.1 hx
        have := rightB_iff.1 hb
        omega
      · simp only [h2, if_false] at h
        simp at h

theorem orders_any (p l q m r s : Int) (w : World) (hp0 : 0 ≤ p) (hl0 : 0 ≤ l) (hq0 : 0 ≤ q) (hm0 : 0 ≤ m) (_hr0 : 0 ≤ r) (_hs0 : 0 ≤ s) :
    Calls Tryd.prog 3 #[.agg #[.int .u64 p, .int .u32 l], .agg #[.int .u64 q, .int .u32 m], .agg #[.int .u64 r, .int .u32 s]] w fun e w' => e = .returned (.bool true) ∧ Below w.heap.size w w' := by
  refine orders_walk p l q m r s w hp0 hl0 hq0 hm0 _ _ _ rfl rfl rfl _ _ _ _ _ _ _ _ rfl rfl rfl rfl rfl rfl rfl rfl ?_ ?_ ?_ ?_ ?_
  · intro hx
    have := lessB_iff.1 hx
    exact ⟨lessB_not.2 (by omega), eqB_not.2 (by omega)⟩
  · intro hx hz
    have := lessB_iff.1 hx
    have := lessB_iff.1 hz
    exact lessB_iff.2 (by omega)
  · intro hx hy
    have := lessB_not.1 hx
    have := lessB_not.1 hy
    exact eqB_iff.2 (by omega)
  · intro h
    exact (next_facts p l q m hm0 h).1
  · intro h hb hx
    exact (next_facts p l q m hm0 h).2 hb hx
end Go.Proofs.YtdhpcgjkhhldhaaDoor
