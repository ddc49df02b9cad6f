/-
  Plain facts for a scan that takes the keys part by part: the least text above a text, what is left of a range behind its first keys.
-/
import Derived.Test.YtcfhkggijdjagaaSop
namespace Go.Proofs.Ytcfhkggijdjagaa
open Go.RowKit

/-- The least text above k is k with a zero byte behind it. -/
theorem ltK_above : ∀ k x : List UInt8, ltK x (k ++ [0]) = !ltK k x
  | [], [] => by simp [ltK, Op.bytesLess]
  | [], a :: r => by
    have : ¬ a < 0 := by rw [UInt8.not_lt]; exact UInt8.zero_le
    cases r <;> simp [ltK, Op.bytesLess, this]
  | b :: s, [] => by simp [ltK, Op.bytesLess]
  | b :: s, a :: r => by
    have ih := ltK_above s r
    unfold ltK at ih ⊢
    simp only [List.cons_append, Op.bytesLess, ih]
    by_cases h1 : a < b
    · have h2 : ¬ b < a := fun h => absurd (UInt8.lt_trans h1 h) (UInt8.lt_irrefl a)
      have h3 : (b == a) = false := by rw [beq_eq_false_iff_ne]; rintro rfl; exact h2 h1
      simp [h1, h2, h3]
    · by_cases h2 : b < a
      · have h3 : (a == b) = false := by rw [beq_eq_false_iff_ne]; rintro rfl; exact h1 h2
        simp [h1, h2, h3]
      · have h3 : a = b := by
          rw [UInt8.not_lt] at h1 h2
          exact UInt8.le_antisymm h2 h1
        subst h3
        simp [h1]
theorem rngS_above {S : Sk} {lo hi k : List UInt8} (h : ltK k lo = false) : rngS (k ++ [0]) hi S = (rngS lo hi S).filter (fun x => ltK k x.1) := by
  unfold rngS
  rw [List.filter_filter]
  congr 1
  funext x
  unfold inR
  rw [ltK_above, Bool.not_not]
  cases h1 : ltK k x.1
  · simp
  · have h2 : ltK x.1 lo = false := by
      cases h3 : ltK x.1 lo
      · rfl
      · rw [ltK_trans h1 h3] at h; cases h
    simp [h2]
theorem rngS_srt {S : Sk} (h : Srt S) (lo hi : List UInt8) : Srt (rngS lo hi S) := List.Pairwise.filter _ h
theorem rngS_lo {S : Sk} {lo hi : List UInt8} {x : List UInt8 × List Ve} (h : x ∈ rngS lo hi S) : ltK x.1 lo = false := by
  have := (List.mem_filter.1 h).2
  unfold inR at this
  simp only [Bool.and_eq_true, Bool.not_eq_true'] at this
  exact this.1
/-- Behind the i-th key of the range: the rest of it. -/
theorem rngS_next {S : Sk} {lo hi : List UInt8} {i : Nat} (hS : Srt S) (h : i < (rngS lo hi S).length) : rngS (((rngS lo hi S).getD i ds).1 ++ [0]) hi S = (rngS lo hi S).drop (i + 1) := by
  have hm : (rngS lo hi S).getD i ds ∈ rngS lo hi S := by
    rw [List.getD, List.getElem?_eq_getElem h]
    exact List.getElem_mem h
  rw [rngS_above (rngS_lo hm)]
  have hs := ssrt_at (rngS_srt hS lo hi) h
  generalize hR : rngS lo hi S = R at *
  have e : R = R.take i ++ R.getD i ds :: R.drop (i + 1) := by rw [← sdr_step h, List.take_append_drop]
  generalize R.getD i ds = x at *
  obtain ⟨a, c⟩ := x
  obtain ⟨-, -, h3, h4⟩ := srt_parts hs
  rw [e, List.filter_append, List.filter_cons]
  simp only [ltK_irrefl, Bool.false_eq_true, if_false]
  rw [List.filter_eq_nil_iff.2 (fun y hy => by have := ltK_asymm (h3 y hy); simp [this]), List.nil_append]
  rw [← e]
  exact List.filter_eq_self.2 (fun y hy => h4 y hy)
theorem keys_part {S : Sk} {lo hi : List UInt8} : keysF lo hi 32 S = ((rngS lo hi S).take 32).map (·.1) := by
  have e : rangeF lo hi S = (rngS lo hi S).map (·.1) := by
    unfold rangeF rngS
    rw [List.filter_map]
    rfl
  unfold keysF
  rw [e, List.map_take]
  rfl
theorem scanR_append (p l : Int) (Q R : Sk) : scanR p l (Q ++ R) = scanR p l Q ++ scanR p l R := by
  unfold scanR
  rw [List.filterMap_append]
/-- What stands behind the first pairs, when the next part of the keys is gathered. -/
theorem part_take (p l : Int) (R : Sk) (m n : Nat) : ((scanR p l (R.take m)).take n ++ scanR p l ((R.drop m).take 32)).take n = (scanR p l (R.take (m + 32))).take n := by
  have e : R.take (m + 32) = R.take m ++ (R.drop m).take 32 := by
    rw [List.take_add]
  rw [e, scanR_append]
  generalize scanR p l (R.take m) = A
  generalize scanR p l ((R.drop m).take 32) = B
  rw [List.take_append, List.take_append, List.take_take, Nat.min_self, List.length_take]
  congr 2
  omega
theorem part_end {lo hi : List UInt8} {p l limit : Int} {S : Sk} {m : Nat} (hm : (rngS lo hi S).length ≤ m) : scanS lo hi p l limit S = (scanR p l ((rngS lo hi S).take m)).take (min limit 32).toNat := by
  rw [List.take_of_length_le hm]
  rfl
theorem part_full {lo hi : List UInt8} {p l limit : Int} {S : Sk} {m : Nat} (h : ((scanR p l ((rngS lo hi S).take m)).take (min limit 32).toNat).length = (min limit 32).toNat) : scanS lo hi p l limit S = (scanR p l ((rngS lo hi S).take m)).take (min limit 32).toNat := by
  have e : rngS lo hi S = (rngS lo hi S).take m ++ (rngS lo hi S).drop m := (List.take_append_drop _ _).symm
  unfold scanS
  generalize (min limit 32).toNat = n at *
  generalize rngS lo hi S = R at *
  rw [List.length_take] at h
  conv => lhs; rw [e]
  rw [scanR_append, List.take_append_of_le_length (by omega)]
end Go.Proofs.Ytcfhkggijdjagaa
