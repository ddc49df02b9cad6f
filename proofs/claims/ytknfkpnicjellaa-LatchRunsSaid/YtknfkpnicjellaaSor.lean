/-
  Texts sorted: the plain list, and what slices.Sort leaves of a row of them.
-/
import Derived.Test.YtknfkpnicjellaaShp
import Derived.Test.YtknfkpnicjellaaOAa
namespace Go.Proofs.Ytknfkpnicjellaa
open Go.RowKit Go.Sort

def srtK (K : List (List UInt8)) : List (List UInt8) := K.mergeSort fun x y => decide (x ≤ y)
theorem srtK_perm (K : List (List UInt8)) : (srtK K).Perm K := List.mergeSort_perm _ _
theorem srtK_len (K : List (List UInt8)) : (srtK K).length = K.length := (srtK_perm K).length_eq
theorem ltK_lt (a b : List UInt8) : ltK a b = decide (a < b) := bytesLess_eq a b
theorem srtK_le (K : List (List UInt8)) : (srtK K).Pairwise fun a b => decide (a ≤ b) = true :=
  List.pairwise_mergeSort (fun a b c h1 h2 => by simp only [decide_eq_true_eq] at *; exact List.le_trans h1 h2) (fun a b => by simp only [Bool.or_eq_true, decide_eq_true_eq]; exact List.le_total a b) K
theorem srtK_srt {K : List (List UInt8)} (hn : K.Nodup) : (srtK K).Pairwise fun a b => ltK a b = true := by
  have h2 : (srtK K).Pairwise fun a b => a ≠ b := (srtK_perm K).nodup_iff.2 hn
  refine (List.pairwise_and_iff.2 ⟨srtK_le K, h2⟩).imp (fun {a b} ⟨h3, h4⟩ => ?_)
  rw [ltK_lt]
  simp only [decide_eq_true_eq] at *
  by_cases e : a < b
  · exact e
  · exact absurd (List.le_antisymm h3 (List.not_lt.1 e)) h4
/-- Keys in order are those of a sorted map that has the same. -/
theorem srtK_eq {α : Type} {K : List (List UInt8)} {L : Kv α} (hn : K.Nodup) (hs : Srt L) (h : ∀ k, k ∈ K ↔ k ∈ L.map (·.1)) : srtK K = L.map (·.1) := by
  have key : ∀ (Q : List (List UInt8)), (Q.map fun k => (k, ())).map (·.1) = Q := fun Q => by rw [List.map_map]; exact List.map_id _
  have sA : Srt ((srtK K).map fun k => (k, ())) := by
    unfold Srt
    rw [List.pairwise_map]
    exact srtK_srt hn
  have sB : Srt ((L.map (·.1)).map fun k => (k, ())) := by
    unfold Srt
    rw [List.pairwise_map, List.pairwise_map]
    exact hs
  have e := srt_ext sA sB (fun k => by
    have m1 : ∀ (Q : List (List UInt8)), Srt (Q.map fun k => (k, ())) → (getF k (Q.map fun k => (k, ())) = some () ↔ k ∈ Q) := fun Q hQ => by
      rw [getF_mem hQ, List.mem_map]
      exact ⟨fun ⟨a, ha, e⟩ => by injection e with e; exact e ▸ ha, fun hk => ⟨k, hk, rfl⟩⟩
    have a1 := m1 _ sA
    have b1 := m1 _ sB
    have ab : k ∈ srtK K ↔ k ∈ L.map (·.1) := ((srtK_perm K).mem_iff).trans (h k)
    cases hA : getF k ((srtK K).map fun k => (k, ())) with
    | some u => exact (b1.2 (ab.1 (a1.1 (by rw [hA])))).symm
    | none =>
      cases hB : getF k ((L.map (·.1)).map fun k => (k, ())) with
      | none => rfl
      | some u =>
        have := a1.2 (ab.2 (b1.1 (by rw [hB])))
        rw [hA] at this
        cases this)
  have := congrArg (List.map (·.1)) e
  rwa [key, key] at this

theorem sort34 (base g cap : Nat) (K : List (List UInt8)) (w : World) (h : w.ownsRow base 9 1 (.slice (some ⟨g, 0, none⟩) K.length cap) K.length (kc K)) (hl : K.length < 1000) :
    Calls Try.prog 34 #[.slice (some ⟨g, 0, none⟩) K.length cap] w fun e w' => e = .returned (.tuple #[]) ∧ RwAt w'.heap.size 1 (.slice (some ⟨g, 0, none⟩) K.length cap) K.length (kc (srtK K)) w' ∧ Kept (fun i => i = g) w w' := by
  rcases h.2 with ⟨e, _⟩ | ⟨g', cap', cur, e, hb, hg, hnc, hcm, hcs, ht⟩
  · simp at e
  simp only [Value.slice.injEq, Option.some.injEq, Addr.mk.injEq, true_and, and_true] at e
  obtain ⟨rfl, rfl⟩ := e
  have hlt : g < w.heap.size := (Array.getElem?_eq_some_iff.1 hg).1
  have hH : Holds encStr w g 0 K.toArray := fun j hj => by
    have hj' : j < K.length := by simpa using hj
    refine ⟨?_, ?_⟩
    · have := World.ownsRow.cells h (g := g) rfl j (.string (bs K[j])) (by simp [kc, hj'])
      rw [Addr.add_lit] at this
      rw [this]
      simp [encStr, bs, hj']
    · unfold World.frozen?
      rw [hg]
      simp
  refine (Try.slices_Sort_string g 0 cap K w hH hlt (by omega)).mono ?_
  rintro e w' ⟨rfl, n, os, rfl⟩
  have hz : (grow (putRow encStr (Sort.ahead w n) g 0 (K.mergeSort fun x y => decide (x ≤ y)).toArray) os).heap.size = w.heap.size + os.size := by
    rw [size_grow, size_putRow]
    rfl
  refine ⟨rfl, ⟨_, cap, rfl, by rw [kc_length, srtK_len]; omega, hnc, by unfold maxLen at hcm; omega, fun _ => ⟨g, 0, rfl, fun _ => by rw [hz]; omega, fun j u hj => ?_⟩⟩, ?_⟩
  · have hj' : j < (srtK K).length := by
      have := (List.getElem?_eq_some_iff.1 hj).1
      rwa [kc_length] at this
    rw [cell?_grow _ _ _ (by rw [size_putRow]; exact hlt)]
    rw [cell?_putRow encStr (Sort.ahead w n) g 0 K.toArray _ (holds_ahead _ _ _ _ _ _ hH) (by simp [List.length_mergeSort]) j (by simpa [srtK] using hj')]
    simp [kc, hj'] at hj
    rw [← hj]
    have e : (K.mergeSort fun x y => decide (x ≤ y))[j]? = some (srtK K)[j] := List.getElem?_eq_getElem hj'
    simp [encStr, bs, e]
  · refine ⟨rfl, rfl, rfl, by rw [hz]; omega, fun k hk hn => ?_⟩
    rw [heap_grow_old _ _ (by rw [size_putRow]; exact hk)]
    unfold putRow mapBlock
    simp only [Sort.ahead]
    rw [Array.getElem?_modify, if_neg (Ne.symm hn)]
end Go.Proofs.Ytknfkpnicjellaa
