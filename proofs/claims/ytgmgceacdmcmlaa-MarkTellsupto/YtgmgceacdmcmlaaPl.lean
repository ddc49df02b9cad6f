/-
  The least of stamps and the safe time, plainly.
-/
import Derived.WalkKit
namespace Go.Proofs.Ytgmgceacdmcmlaa

def rightB (p l : Int) : Bool := decide (p ≤ 281474976710656 ∧ l ≤ 4095)
def lessB (p l q m : Int) : Bool := decide (p < q ∨ p = q ∧ l < m)
def maxF (p l q m : Int) : Int × Int := if lessB p l q m then (q, m) else (p, l)
abbrev Ts := Int × Int
def rt (t : Ts) : Bool := rightB t.1 t.2
def lt (a b : Ts) : Bool := lessB a.1 a.2 b.1 b.2
theorem lt_iff {a b : Ts} : lt a b = true ↔ a.1 < b.1 ∨ a.1 = b.1 ∧ a.2 < b.2 := by simp [lt, lessB]
theorem lt_false {a b : Ts} : lt a b = false ↔ ¬ (a.1 < b.1 ∨ a.1 = b.1 ∧ a.2 < b.2) := by simp [lt, lessB]
theorem lt_irr (a : Ts) : lt a a = false := by rw [lt_false]; omega
theorem ts_ext {a b : Ts} (h1 : a.1 = b.1) (h2 : a.2 = b.2) : a = b := Prod.ext h1 h2
theorem lt_anti {a b : Ts} (h1 : lt a b = false) (h2 : lt b a = false) : a = b := by
  rw [lt_false] at h1 h2
  exact ts_ext (by omega) (by omega)
theorem nlt_trans {a b c : Ts} (h1 : lt b a = false) (h2 : lt c b = false) : lt c a = false := by
  rw [lt_false] at h1 h2 ⊢
  omega
/-- One stamp more. -/
def leastS (o : Option Ts) (t : Ts) : Option Ts := if rt t then (match o with
  | none => some t
  | some s => if lt t s then some t else some s) else o
def leastF (l : List Ts) : Option Ts := l.foldl leastS none
/-- The least of the right ones, if there is one. -/
structure IsL (l : List Ts) (o : Option Ts) : Prop where
  some : ∀ t, o = some t → t ∈ l ∧ rt t = true ∧ ∀ x ∈ l, rt x = true → lt x t = false
  none : o = none → ∀ x ∈ l, rt x = false
theorem isL_step {l : List Ts} {o : Option Ts} (h : IsL l o) (t : Ts) : IsL (l ++ [t]) (leastS o t) := by
  have hm : ∀ x, x ∈ l ++ [t] ↔ x ∈ l ∨ x = t := fun x => by simp
  unfold leastS
  by_cases hr : rt t = true
  · rw [if_pos hr]
    cases o with
    | none =>
      refine ⟨fun u hu => ?_, fun hn => by cases hn⟩
      injection hu with hu
      subst hu
      refine ⟨(hm _).2 (.inr rfl), hr, fun x hx hxr => ?_⟩
      rcases (hm x).1 hx with h1 | rfl
      · have := h.none rfl x h1
        rw [this] at hxr
        cases hxr
      · exact lt_irr x
    | some s =>
      obtain ⟨s1, s2, s3⟩ := h.some s rfl
      dsimp only
      by_cases hlt : lt t s = true
      · rw [if_pos hlt]
        refine ⟨fun u hu => ?_, fun hn => by cases hn⟩
        injection hu with hu
        subst hu
        refine ⟨(hm _).2 (.inr rfl), hr, fun x hx hxr => ?_⟩
        rcases (hm x).1 hx with h1 | rfl
        · have h2 := s3 x h1 hxr
          rw [lt_false] at h2 ⊢
          rw [lt_iff] at hlt
          omega
        · exact lt_irr x
      · rw [if_neg hlt]
        refine ⟨fun u hu => ?_, fun hn => by cases hn⟩
        injection hu with hu
        subst hu
        refine ⟨(hm _).2 (.inl s1), s2, fun x hx hxr => ?_⟩
        rcases (hm x).1 hx with h1 | rfl
        · exact s3 x h1 hxr
        · simpa using hlt
  · rw [if_neg hr]
    have hr' : rt t = false := by simpa using hr
    refine ⟨fun u hu => ?_, fun hn x hx => ?_⟩
    · obtain ⟨s1, s2, s3⟩ := h.some u hu
      refine ⟨(hm _).2 (.inl s1), s2, fun x hx hxr => ?_⟩
      rcases (hm x).1 hx with h1 | rfl
      · exact s3 x h1 hxr
      · rw [hr'] at hxr; cases hxr
    · rcases (hm x).1 hx with h1 | rfl
      · exact h.none hn x h1
      · exact hr'
theorem isL_from (l r : List Ts) (o : Option Ts) (h : IsL r o) : IsL (r ++ l) (l.foldl leastS o) := by
  induction l generalizing r o with
  | nil => rw [List.append_nil]; exact h
  | cons t l ih =>
    have := ih (r ++ [t]) (leastS o t) (isL_step h t)
    rw [List.append_assoc] at this
    exact this
theorem isL_least (l : List Ts) : IsL l (leastF l) := by
  have := isL_from l [] none ⟨fun t h => (by cases h), fun _ x hx => absurd hx (by simp)⟩
  exact this
theorem isL_uniq {l r : List Ts} {o q : Option Ts} (he : ∀ x, x ∈ l ↔ x ∈ r) (h : IsL l o) (k : IsL r q) : o = q := by
  cases o with
  | none =>
    cases q with
    | none => rfl
    | some t =>
      obtain ⟨t1, t2, _⟩ := k.some t rfl
      have := h.none rfl t ((he t).2 t1)
      rw [this] at t2
      cases t2
  | some s =>
    obtain ⟨s1, s2, s3⟩ := h.some s rfl
    cases q with
    | none =>
      have := k.none rfl s ((he s).1 s1)
      rw [this] at s2
      cases s2
    | some t =>
      obtain ⟨t1, t2, t3⟩ := k.some t rfl
      rw [lt_anti (s3 t ((he t).2 t1) t2) (t3 s ((he s).1 s1) s2)]
theorem least_ext {l r : List Ts} (he : ∀ x, x ∈ l ↔ x ∈ r) : leastF l = leastF r := isL_uniq he (isL_least l) (isL_least r)
theorem least_take {l : List Ts} {m : Nat} (h : m < l.length) : leastF (l.take (m + 1)) = leastS (leastF (l.take m)) (l.getD m (0, 0)) := by
  unfold leastF
  rw [List.take_succ_eq_append_getElem h, List.foldl_append, show l.getD m (0, 0) = l[m] from by simp [List.getD, h]]
  rfl
/-- The safe time behind old. -/
def oldF (o : Ts) : Ts := if rt o then o else (0, 0)
def safeF (o : Ts) (a c : List Ts) : Ts := match leastF (a ++ c) with
  | none => oldF o
  | some t => maxF (oldF o).1 (oldF o).2 t.1 t.2
theorem max_cases (a b : Ts) : maxF a.1 a.2 b.1 b.2 = a ∧ lt a b = false ∨ maxF a.1 a.2 b.1 b.2 = b ∧ lt a b = true := by
  unfold maxF lt
  cases h : lessB a.1 a.2 b.1 b.2 with
  | true => right; exact ⟨rfl, rfl⟩
  | false => left; exact ⟨rfl, rfl⟩
theorem safe_ext {o : Ts} {a c a' c' : List Ts} (he : ∀ x, x ∈ a ++ c ↔ x ∈ a' ++ c') : safeF o a c = safeF o a' c' := by
  unfold safeF
  rw [least_ext he]
theorem safe_up {o : Ts} (h : rt o = true) (a c : List Ts) : lt (safeF o a c) o = false := by
  unfold safeF oldF
  rw [if_pos h]
  cases leastF (a ++ c) with
  | none => exact lt_irr o
  | some t =>
    dsimp only
    rcases max_cases o t with ⟨e, _⟩ | ⟨e, h1⟩
    · rw [e]; exact lt_irr o
    · rw [e]
      rw [lt_iff] at h1
      rw [lt_false]
      omega
theorem safe_right {o : Ts} (h : rt o = true) (a c : List Ts) : rt (safeF o a c) = true := by
  unfold safeF oldF
  rw [if_pos h]
  have hl := isL_least (a ++ c)
  cases hq : leastF (a ++ c) with
  | none => exact h
  | some t =>
    dsimp only
    rcases max_cases o t with ⟨e, _⟩ | ⟨e, _⟩
    · rw [e]; exact h
    · rw [e]; exact (hl.some t hq).2.1
theorem safe_again {o : Ts} (h : rt o = true) (a c : List Ts) : safeF (safeF o a c) a c = safeF o a c := by
  have hr := safe_right h a c
  have e1 : safeF o a c = match leastF (a ++ c) with
    | none => o
    | some t => maxF o.1 o.2 t.1 t.2 := by unfold safeF oldF; rw [if_pos h]
  have e2 : safeF (safeF o a c) a c = match leastF (a ++ c) with
    | none => safeF o a c
    | some t => maxF (safeF o a c).1 (safeF o a c).2 t.1 t.2 := by
    generalize safeF o a c = s at *
    unfold safeF oldF
    rw [if_pos hr]
  rw [e2]
  cases hq : leastF (a ++ c) with
  | none => rfl
  | some t =>
    rw [hq] at e1
    dsimp only at e1 ⊢
    generalize safeF o a c = s at *
    rcases max_cases s t with ⟨e, _⟩ | ⟨e, h1⟩
    · exact e
    · rw [e]
      rcases max_cases o t with ⟨e3, h3⟩ | ⟨e3, _⟩
      · rw [e3] at e1
        subst e1
        rw [h3] at h1
        cases h1
      · rw [e3] at e1
        exact e1.symm
/-- Where it rises it is above nobody that is told. -/
theorem safe_none {o : Ts} (h : rt o = true) {a c : List Ts} (hne : safeF o a c ≠ o) {x : Ts} (hx : x ∈ a ++ c) (hr : rt x = true) : lt x (safeF o a c) = false := by
  have hl := isL_least (a ++ c)
  unfold safeF oldF at hne ⊢
  rw [if_pos h] at hne ⊢
  cases hq : leastF (a ++ c) with
  | none =>
    rw [hq] at hne
    exact absurd rfl hne
  | some t =>
    rw [hq] at hne
    dsimp only at hne ⊢
    rcases max_cases o t with ⟨e, _⟩ | ⟨e, _⟩
    · exact absurd e hne
    · rw [e]
      exact (hl.some t hq).2.2 x hx hr
end Go.Proofs.Ytgmgceacdmcmlaa
