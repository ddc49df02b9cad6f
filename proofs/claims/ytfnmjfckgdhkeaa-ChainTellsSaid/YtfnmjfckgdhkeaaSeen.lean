/-
  The first version of a chain whose stamp isn't above another: what Put, At and Prune answer, by its place.
-/
import Derived.Test.YtfnmjfckgdhkeaaPlain
namespace Go.Proofs.Ytfnmjfckgdhkeaa

/-- How many of the first versions are above the stamp (p, l). -/
def seenN (p l : Int) : List Ve → Nat
  | [] => 0
  | u :: r => if ltS p l u then seenN p l r + 1 else 0
theorem seenN_le (p l : Int) : ∀ c : List Ve, seenN p l c ≤ c.length
  | [] => Nat.le_refl _
  | u :: r => by
    have := seenN_le p l r
    unfold seenN
    split <;> simp only [List.length_cons] <;> omega
/-- The place is told by what lies ahead of it, and at it. -/
theorem seenN_eq {p l : Int} : ∀ {c : List Ve} {k : Nat}, k ≤ c.length → (∀ (j : Nat) (u : Ve), j < k → c[j]? = some u → ltS p l u = true) → (∀ u, c[k]? = some u → ltS p l u = false) → seenN p l c = k
  | [], k, hk, _, _ => by
    have : k = 0 := by simpa using hk
    subst this; rfl
  | u :: r, 0, _, _, h => by
    have := h u rfl
    unfold seenN
    rw [this]; rfl
  | u :: r, k + 1, hk, h1, h2 => by
    have h0 := h1 0 u (by omega) rfl
    have ih := seenN_eq (p := p) (l := l) (c := r) (k := k) (by simpa using hk) (fun j x hj hx => h1 (j + 1) x (by omega) (by simpa using hx)) (fun x hx => h2 x (by simpa using hx))
    unfold seenN
    rw [h0, if_pos rfl, ih]

theorem atR_seen (p l : Int) : ∀ c : List Ve, atR p l c = c[seenN p l c]?
  | [] => rfl
  | u :: r => by
    have ih := atR_seen p l r
    unfold atR seenN
    by_cases h : ltS p l u = true
    · rw [if_pos h, if_pos h, ih]; simp
    · rw [if_neg h, if_neg h]; simp
theorem pruneR_seen (p l : Int) : ∀ c : List Ve, pruneR p l c = match c[seenN p l c]? with
    | some u => if u.dead then c.take (seenN p l c) else c.take (seenN p l c + 1)
    | none => c
  | [] => rfl
  | u :: r => by
    have ih := pruneR_seen p l r
    unfold pruneR seenN
    by_cases h : ltS p l u = true
    · rw [if_pos h, if_pos h, ih]
      simp only [List.getElem?_cons_succ]
      cases hc : r[seenN p l r]? with
      | none => rfl
      | some x =>
        cases hd : x.dead <;> simp [hd]
    · rw [if_neg h, if_neg h]
      simp only [List.getElem?_cons_zero]
      cases hd : u.dead <;> simp
theorem insF_seen (v : Ve) : ∀ c : List Ve, insF v c = match c[seenN v.p v.l c]? with
    | some u => if atB u v then (if eqV u v then some c else none) else some (c.take (seenN v.p v.l c) ++ v :: c.drop (seenN v.p v.l c))
    | none => some (c ++ [v])
  | [] => rfl
  | u :: r => by
    have ih := insF_seen v r
    unfold insF seenN
    by_cases h : ltS v.p v.l u = true
    · rw [if_pos h, if_pos h, ih]
      simp only [List.getElem?_cons_succ]
      cases hc : r[seenN v.p v.l r]? with
      | none => rfl
      | some x =>
        cases h1 : atB x v <;> cases h2 : eqV x v <;> simp [h1, h2]
    · rw [if_neg h, if_neg h]
      simp only [List.getElem?_cons_zero]
      rfl

end Go.Proofs.Ytfnmjfckgdhkeaa
