/-
  A key set in a sorted list by one walk through it, plain.
-/
import Derived.Test.YtcfhkggijdjagaaIt
namespace Go.Proofs.Ytcfhkggijdjagaa
open Go.RowKit

theorem tk_snoc {L : Kv Sv} {m : Nat} (h : m < L.length) : L.take (m + 1) = L.take m ++ [L.getD m dk] := by
  rw [List.take_add_one]
  simp [List.getD, h]
theorem dr_step {L : Kv Sv} {m : Nat} (h : m < L.length) : L.drop m = L.getD m dk :: L.drop (m + 1) := by
  rw [List.drop_eq_getElem_cons h]
  simp [List.getD, h]
theorem srt_at {L : Kv Sv} {m : Nat} (hs : Srt L) (h : m < L.length) : Srt (L.take m ++ L.getD m dk :: L.drop (m + 1)) := by
  rw [← dr_step h, List.take_append_drop]
  exact hs
theorem set_last {k : List UInt8} {s : Sv} : ∀ {A : Kv Sv}, (∀ x ∈ A, ltK x.1 k = true) → setF k s A = A ++ [(k, s)]
  | [], _ => rfl
  | (a, u) :: r, h => by
    unfold setF
    rw [if_pos (h (a, u) (by simp)), set_last (fun x hx => h x (by simp [hx]))]
    rfl
theorem cut_low {k : List UInt8} : ∀ {A : Kv Sv}, (∀ x ∈ A, ltK x.1 k = true) → cutF k A = A
  | [], _ => rfl
  | (a, u) :: r, h => by
    unfold cutF
    have : (a == k) = false := by simpa using ltK_ne (h (a, u) (by simp))
    rw [this, cut_low (fun x hx => h x (by simp [hx]))]
    rfl
/-- The walk has come to m. -/
def accS (k : List UInt8) (s : Sv) (L : Kv Sv) (m : Nat) (done : Bool) (l : Kv Sv) : Prop :=
  done = false ∧ l = L.take m ∧ (∀ x ∈ L.take m, ltK x.1 k = true) ∨ done = true ∧ l = setF k s (L.take m) ∧ ∀ x ∈ L.drop m, ltK k x.1 = true
theorem acc_start (k : List UInt8) (s : Sv) (L : Kv Sv) : accS k s L 0 false [] := .inl ⟨rfl, by simp, by simp⟩
theorem acc_low {k : List UInt8} {s : Sv} {L l : Kv Sv} {m : Nat} (h : accS k s L m false l) (hm : m < L.length) (hx : ltK (L.getD m dk).1 k = true) : accS k s L (m + 1) false (l ++ [L.getD m dk]) := by
  rcases h with ⟨_, rfl, h2⟩ | ⟨h0, _⟩
  · refine .inl ⟨rfl, (tk_snoc hm).symm, fun x hxm => ?_⟩
    rw [tk_snoc hm] at hxm
    rcases List.mem_append.1 hxm with hx' | hx'
    · exact h2 x hx'
    · simp at hx'; rw [hx']; exact hx
  · cases h0
theorem acc_eq {k : List UInt8} {s : Sv} {L l : Kv Sv} {m : Nat} (hs : Srt L) (h : accS k s L m false l) (hm : m < L.length) (hx : (L.getD m dk).1 = k) : accS k s L (m + 1) true (l ++ [(k, s)]) := by
  obtain ⟨h1, h2, h3, h4⟩ := srt_parts (srt_at hs hm)
  rcases h with ⟨_, rfl, h5⟩ | ⟨h0, _⟩
  · refine .inr ⟨rfl, ?_, fun x hxm => hx ▸ h4 x hxm⟩
    have hsA : Srt (L.take m ++ ((L.getD m dk).1, (L.getD m dk).2) :: []) := srt_join h1 List.Pairwise.nil h3 (fun x hx => by cases hx)
    rw [tk_snoc hm, show L.getD m dk = ((L.getD m dk).1, (L.getD m dk).2) from rfl, set_parts hsA, hx, ltK_irrefl]
    rfl
  · cases h0
theorem acc_high {k : List UInt8} {s : Sv} {L l : Kv Sv} {m : Nat} (hs : Srt L) (h : accS k s L m false l) (hm : m < L.length) (hx : ltK k (L.getD m dk).1 = true) : accS k s L (m + 1) true (l ++ [(k, s)] ++ [L.getD m dk]) := by
  obtain ⟨h1, h2, h3, h4⟩ := srt_parts (srt_at hs hm)
  rcases h with ⟨_, rfl, h5⟩ | ⟨h0, _⟩
  · refine .inr ⟨rfl, ?_, fun x hxm => ltK_trans hx (h4 x hxm)⟩
    have hsA : Srt (L.take m ++ ((L.getD m dk).1, (L.getD m dk).2) :: []) := srt_join h1 List.Pairwise.nil h3 (fun x hx => by cases hx)
    rw [tk_snoc hm, show L.getD m dk = ((L.getD m dk).1, (L.getD m dk).2) from rfl, set_parts hsA, if_pos hx, set_last h5]
  · cases h0
theorem acc_on {k : List UInt8} {s : Sv} {L l : Kv Sv} {m : Nat} (hs : Srt L) (h : accS k s L m true l) (hm : m < L.length) : ltK k (L.getD m dk).1 = true ∧ accS k s L (m + 1) true (l ++ [L.getD m dk]) := by
  obtain ⟨h1, h2, h3, h4⟩ := srt_parts (srt_at hs hm)
  rcases h with ⟨h0, _⟩ | ⟨_, rfl, h5⟩
  · cases h0
  · have hx : ltK k (L.getD m dk).1 = true := h5 _ (by rw [dr_step hm]; simp)
    refine ⟨hx, .inr ⟨rfl, ?_, fun x hxm => h5 x (by rw [dr_step hm]; simp [hxm])⟩⟩
    have hsA : Srt (L.take m ++ ((L.getD m dk).1, (L.getD m dk).2) :: []) := srt_join h1 List.Pairwise.nil h3 (fun x hx => by cases hx)
    rw [tk_snoc hm, show L.getD m dk = ((L.getD m dk).1, (L.getD m dk).2) from rfl, set_parts hsA, if_pos hx]
theorem acc_end {k : List UInt8} {s : Sv} {L l : Kv Sv} {m : Nat} {done : Bool} (h : accS k s L m done l) (hm : L.length ≤ m) : (if done then l else l ++ [(k, s)]) = setF k s L := by
  have e : L.take m = L := List.take_of_length_le hm
  rcases h with ⟨rfl, rfl, h2⟩ | ⟨rfl, rfl, h2⟩
  · rw [e] at h2 ⊢
    rw [set_last h2]
    rfl
  · rw [e]; rfl
theorem cut_snoc {k : List UInt8} {L : Kv Sv} {m : Nat} (hs : Srt L) (hm : m < L.length) : cutF k (L.take (m + 1)) = if (L.getD m dk).1 == k then cutF k (L.take m) else cutF k (L.take m) ++ [L.getD m dk] := by
  obtain ⟨h1, h2, h3, h4⟩ := srt_parts (srt_at hs hm)
  have hsA : Srt (L.take m ++ ((L.getD m dk).1, (L.getD m dk).2) :: []) := srt_join h1 List.Pairwise.nil h3 (fun x hx => by cases hx)
  rw [tk_snoc hm, show [L.getD m dk] = ((L.getD m dk).1, (L.getD m dk).2) :: [] from rfl, cut_parts hsA]
  by_cases e1 : ltK k (L.getD m dk).1 = true
  · have : ((L.getD m dk).1 == k) = false := by simpa using (ltK_ne e1).symm
    rw [if_pos e1, this]; rfl
  · rw [if_neg e1]
    by_cases e2 : ltK (L.getD m dk).1 k = true
    · have : ((L.getD m dk).1 == k) = false := by simpa using ltK_ne e2
      rw [if_pos e2, this, cut_low (fun x hx => ltK_trans (h3 x hx) e2)]
      rfl
    · have : (L.getD m dk).1 = k := ltK_tri (by simpa using e2) (by simpa using e1)
      rw [if_neg e2, if_pos (by simpa using this), cut_low (fun x hx => by rw [← this]; exact h3 x hx), List.append_nil]
end Go.Proofs.Ytcfhkggijdjagaa
