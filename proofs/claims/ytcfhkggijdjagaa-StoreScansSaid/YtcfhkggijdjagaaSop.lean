/-
  Plain facts for a store that walks its keys: pruned key by key, scanned key by key.
-/
import Derived.Test.YtcfhkggijdjagaaMc
import Derived.Test.YtcfhkggijdjagaaPru
namespace Go.Proofs.Ytcfhkggijdjagaa
open Go.RowKit

theorem ssrt_at {S : Sk} {m : Nat} (hs : Srt S) (h : m < S.length) : Srt (S.take m ++ S.getD m ds :: S.drop (m + 1)) := by
  rw [← sdr_step h, List.take_append_drop]
  exact hs
/-- The store when the first m keys are pruned. -/
def prT (p l : Int) (S : Sk) (m : Nat) : Sk := pruneS p l (S.take m) ++ S.drop m
theorem prT_zero (p l : Int) (S : Sk) : prT p l S 0 = S := rfl
theorem prT_end {p l : Int} {S : Sk} {m : Nat} (h : S.length ≤ m) : prT p l S m = pruneS p l S := by
  unfold prT
  rw [List.take_of_length_le h, List.drop_of_length_le h, List.append_nil]
theorem prS_snoc {p l : Int} {S : Sk} {m : Nat} (h : m < S.length) : pruneS p l (S.take (m + 1)) = pruneS p l (S.take m) ++ (if pruneF (S.getD m ds).2 p l = [] then [] else [((S.getD m ds).1, pruneF (S.getD m ds).2 p l)]) := by
  rw [stk_snoc h]
  unfold pruneS
  rw [List.filterMap_append]
  congr 1
  generalize S.getD m ds = x
  by_cases e : pruneF x.2 p l = []
  · rw [if_pos e]; simp [prune1, e]
  · rw [if_neg e]; simp [prune1, e]
theorem prT_srt {p l : Int} {S : Sk} {m : Nat} (hS : SOk S) (h : m < S.length) (c : List Ve) : Srt (pruneS p l (S.take m) ++ ((S.getD m ds).1, c) :: S.drop (m + 1)) := by
  obtain ⟨h1, h2, h3, h4⟩ := srt_parts (a := (S.getD m ds).1) (u := (S.getD m ds).2) (ssrt_at hS.srt h)
  refine srt_join (pruneS_srt p l h1) h2 (fun x hx => ?_) h4
  obtain ⟨y, hy, rfl, _⟩ := pruneS_mem.1 hx
  exact h3 y hy
theorem prT_sok {p l : Int} {S : Sk} (m : Nat) (hS : SOk S) : SOk (prT p l S m) := by
  have hall : ∀ x ∈ prT p l S m, Ch x.2 ∧ x.2 ≠ [] := fun x hx => by
    unfold prT at hx
    rcases List.mem_append.1 hx with hx | hx
    · obtain ⟨y, hy, rfl, hne⟩ := pruneS_mem.1 hx
      exact ⟨(prune_ch (hS.all y (List.mem_of_mem_take hy)).1 p l).2, hne⟩
    · exact hS.all x (List.mem_of_mem_drop hx)
  refine ⟨?_, hall⟩
  by_cases h : m < S.length
  · unfold prT
    rw [sdr_step h]
    exact prT_srt hS h _
  · rw [prT_end (by omega)]
    exact pruneS_srt p l hS.srt
theorem prT_tot {p l : Int} {S : Sk} (m : Nat) (hS : SOk S) : totS (prT p l S m) ≤ totS S := by
  have h1 := tot_prune p l (S := S.take m) (fun x hx => hS.all x (List.mem_of_mem_take hx))
  have h2 : totS S = totS (S.take m) + totS (S.drop m) := by
    unfold totS
    rw [← List.sum_append, ← List.map_append, List.take_append_drop]
  have h3 : totS (prT p l S m) = totS (pruneS p l (S.take m)) + totS (S.drop m) := by
    unfold prT totS
    rw [List.map_append, List.sum_append]
  omega
theorem prT_chain {p l : Int} {S : Sk} {m : Nat} (hS : SOk S) (h : m < S.length) : chainF (S.getD m ds).1 (prT p l S m) = (S.getD m ds).2 := by
  refine chain_mem (prT_sok m hS) ?_
  unfold prT
  rw [sdr_step h]
  simp
theorem prT_set {p l : Int} {S : Sk} {m : Nat} (hS : SOk S) (h : m < S.length) (hne : ¬ pruneF (S.getD m ds).2 p l = []) : setF (S.getD m ds).1 (pruneF (S.getD m ds).2 p l) (prT p l S m) = prT p l S (m + 1) := by
  unfold prT
  rw [sdr_step h, set_parts (prT_srt hS h _), prS_snoc h, if_neg hne, ltK_irrefl]
  simp
theorem prT_cut {p l : Int} {S : Sk} {m : Nat} (hS : SOk S) (h : m < S.length) (he : pruneF (S.getD m ds).2 p l = []) : cutF (S.getD m ds).1 (prT p l S m) = prT p l S (m + 1) := by
  unfold prT
  rw [sdr_step h, cut_parts (prT_srt hS h _), prS_snoc h, if_pos he, ltK_irrefl]
  simp
theorem keys_all {S : Sk} {limit : Int} (h : (S.length : Int) ≤ limit) : keysF [] [] limit S = S.map (·.1) := by
  unfold keysF
  rw [range_all, List.take_of_length_le]
  rw [List.length_map]
  omega
theorem keys_rng {S : Sk} {lo hi : List UInt8} {limit : Int} (h : (S.length : Int) ≤ limit) : keysF lo hi limit S = (rngS lo hi S).map (·.1) := by
  have e : rangeF lo hi S = (rngS lo hi S).map (·.1) := by
    unfold rangeF rngS
    rw [List.filter_map]
    rfl
  unfold keysF
  rw [e, List.take_of_length_le]
  have := List.length_filter_le (fun x : List UInt8 × List Ve => inR lo hi x.1) S
  rw [List.length_map]
  unfold rngS
  omega
theorem map_at (S : Sk) {m : Nat} (h : m < S.length) : (S.map (·.1)).getD m [] = (S.getD m ds).1 := by
  simp [List.getD, h]
theorem rng_chain {S : Sk} {lo hi : List UInt8} {m : Nat} (hS : SOk S) (h : m < (rngS lo hi S).length) : chainF ((rngS lo hi S).getD m ds).1 S = ((rngS lo hi S).getD m ds).2 := by
  refine chain_mem hS ?_
  have : (rngS lo hi S).getD m ds ∈ rngS lo hi S := by
    rw [List.getD, List.getElem?_eq_getElem h]
    exact List.getElem_mem h
  exact (List.mem_filter.1 this).1
/-- What is scanned of the first m keys of the range. -/
def scT (p l : Int) (R : Sk) (m : Nat) : List (List UInt8 × List UInt8) := scanR p l (R.take m)
theorem scT_step {p l : Int} {R : Sk} {m : Nat} (h : m < R.length) : scT p l R (m + 1) = scT p l R m ++ (match seeF (R.getD m ds).2 p l with
    | some s => [((R.getD m ds).1, s)]
    | none => []) := by
  unfold scT
  rw [stk_snoc h]
  unfold scanR
  rw [List.filterMap_append]
  congr 1
  generalize R.getD m ds = x
  cases e : seeF x.2 p l <;> simp [e]
theorem scT_pre (p l : Int) (R : Sk) (m : Nat) : ∃ Q, scanR p l R = scT p l R m ++ Q := by
  refine ⟨scanR p l (R.drop m), ?_⟩
  unfold scT scanR
  rw [← List.filterMap_append, List.take_append_drop]
theorem scT_full {lo hi : List UInt8} {p l limit : Int} {S : Sk} {m : Nat} (h : (scT p l (rngS lo hi S) m).length = (min limit 32).toNat) : scanS lo hi p l limit S = scT p l (rngS lo hi S) m := by
  obtain ⟨Q, hQ⟩ := scT_pre p l (rngS lo hi S) m
  unfold scanS
  rw [hQ, ← h, List.take_left']
  rfl
theorem scT_end {lo hi : List UInt8} {p l limit : Int} {S : Sk} {m : Nat} (hm : (rngS lo hi S).length ≤ m) (h : (scT p l (rngS lo hi S) m).length ≤ (min limit 32).toNat) : scanS lo hi p l limit S = scT p l (rngS lo hi S) m := by
  unfold scT at h ⊢
  rw [List.take_of_length_le hm] at h ⊢
  unfold scanS
  exact List.take_of_length_le h
end Go.Proofs.Ytcfhkggijdjagaa
