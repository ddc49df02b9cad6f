/-
  Which entries are right, field by field.
-/
import Derived.Test.YtmgjlpgjjeknpaaEq
namespace Go.Proofs.Ytmgjlpgjjeknpaa

/-- The fields that its kind has not are zero. -/
def zeroB (e : En) : Bool :=
  (hasBy e.k || (e.c == 0 && e.n == 0)) && (hasSt e.k || (e.sp == 0 && e.sl == 0)) && (hasAt e.k || (e.ap == 0 && e.al == 0)) && (e.k == 2 || (e.mp == 0 && e.ml == 0 && e.prim.isEmpty)) && (hasPt e.k || e.pt == 0) && (e.k == 9 || !e.dn) && (hasWs e.k || e.ws.isEmpty)
theorem bare_zero (e : En) : sameE e (bareE e) = zeroB e := by
  rw [Bool.eq_iff_iff, sameE_iff]
  obtain ⟨k, c, n, sp, sl, ap, al, mp, ml, prim, pt, dn, ws⟩ := e
  unfold zeroB bareE
  simp only [En.mk.injEq, true_and, Bool.and_eq_true, Bool.or_eq_true, beq_iff_eq, Bool.not_eq_true', List.isEmpty_iff]
  have i1 : ∀ (b : Bool) (x : Nat), (x = if b = true then x else 0) ↔ (b = true ∨ x = 0) := fun b x => by cases b <;> simp
  have i2 : ∀ (x : Nat), (x = if k = 2 then x else 0) ↔ (k = 2 ∨ x = 0) := fun x => by by_cases h : k = 2 <;> simp [h]
  have i3 : (prim = if k = 2 then prim else []) ↔ (k = 2 ∨ prim = []) := by by_cases h : k = 2 <;> simp [h]
  have i4 : (dn = if k = 9 then dn else false) ↔ (k = 9 ∨ dn = false) := by by_cases h : k = 9 <;> simp [h]
  have i5 : (ws = if hasWs k = true then ws else []) ↔ (hasWs k = true ∨ ws = []) := by cases hasWs k <;> simp
  rw [i1, i1, i1, i1, i1, i1, i2, i2, i3, i1, i4, i5]
  constructor
  · rintro ⟨h1, h2, h3, h4, h5, h6, h7, h8, h9, h10, h11, h12⟩
    refine ⟨⟨⟨⟨⟨⟨?_, ?_⟩, ?_⟩, ?_⟩, h10⟩, h11⟩, h12⟩
    · rcases h1 with h | h <;> rcases h2 with g | g <;> simp_all
    · rcases h3 with h | h <;> rcases h4 with g | g <;> simp_all
    · rcases h5 with h | h <;> rcases h6 with g | g <;> simp_all
    · rcases h7 with h | h <;> rcases h8 with g | g <;> rcases h9 with f | f <;> simp_all
  · rintro ⟨⟨⟨⟨⟨⟨h1, h2⟩, h3⟩, h4⟩, h10⟩, h11⟩, h12⟩
    refine ⟨?_, ?_, ?_, ?_, ?_, ?_, ?_, ?_, ?_, h10, h11, h12⟩
    · rcases h1 with h | h; exact .inl h; exact .inr h.1
    · rcases h1 with h | h; exact .inl h; exact .inr h.2
    · rcases h2 with h | h; exact .inl h; exact .inr h.1
    · rcases h2 with h | h; exact .inl h; exact .inr h.2
    · rcases h3 with h | h; exact .inl h; exact .inr h.1
    · rcases h3 with h | h; exact .inl h; exact .inr h.2
    · rcases h4 with h | h; exact .inl h; exact .inr h.1.1
    · rcases h4 with h | h; exact .inl h; exact .inr h.1.2
    · rcases h4 with h | h; exact .inl h; exact .inr h.2
/-- Right, field by field. -/
theorem right_plain (e : En) : rightE e = (decide (1 ≤ e.k) && decide (e.k ≤ 9) && zeroB e && (rightS e.sp e.sl && rightS e.ap e.al && rightS e.mp e.ml) && kindOk e) := by
  unfold rightE
  rw [bare_zero]
end Go.Proofs.Ytmgjlpgjjeknpaa
