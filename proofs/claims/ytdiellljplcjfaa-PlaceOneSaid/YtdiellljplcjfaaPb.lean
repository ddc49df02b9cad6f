/-
  The bits of the shards that have a write, gathered write by write.
-/
import Derived.Test.YtdiellljplcjfaaSs
namespace Go.Proofs.Ytdiellljplcjfaa

/-- One write more. -/
def partS (n : Int) (P : Nat) (x : Wr) : Nat := if (shardF x.key n).2 = 0 then P ||| 2 ^ (shardF x.key n).1.toNat else P
def partsF (l : List Wr) (n : Int) : Nat := l.foldl (partS n) 0
theorem parts_step {l : List Wr} {n : Int} {m : Nat} (h : m < l.length) : partsF (l.take (m + 1)) n = partS n (partsF (l.take m) n) (l.getD m dw) := by
  unfold partsF
  rw [List.take_succ_eq_append_getElem h, List.foldl_append, show l.getD m dw = l[m] from by simp [List.getD, h]]
  rfl
theorem bits_test (L : List (List Wr)) : ∀ m i, (bitsF m L).testBit i = (decide (m ≤ i) && decide (i < m + L.length) && !(L.getD (i - m) []).isEmpty) := by
  induction L with
  | nil => intro m i; simp [bitsF]
  | cons r L ih =>
    intro m i
    unfold bitsF
    rw [Nat.testBit_or, ih]
    by_cases h : i = m
    · subst h
      have h9 : ¬ i + 1 ≤ i := by omega
      cases r with
      | nil => simp [h9]
      | cons a t => simp
    · have h1 : (if r.isEmpty = true then 0 else 2 ^ m).testBit i = false := by
        split
        · simp
        · rw [Nat.testBit_two_pow]; simp; omega
      rw [h1, Bool.false_or]
      by_cases hlt : m ≤ i
      · have e : i - m = (i - (m + 1)) + 1 := by omega
        have hm : m + 1 ≤ i := by omega
        rw [e, List.getD_cons_succ, List.length_cons]
        simp only [hlt, hm, decide_true, Bool.true_and]
        have e2 : decide (i < m + 1 + L.length) = decide (i < m + (L.length + 1)) := by
          rw [decide_eq_decide]
          omega
        rw [e2]
      · have : ¬ m + 1 ≤ i := by omega
        simp [hlt, this]
theorem part_test (n : Int) (P : Nat) (x : Wr) (i : Nat) : (partS n P x).testBit i = (P.testBit i || decide (shardF x.key n = ((i : Int), 0))) := by
  unfold partS
  have hr := shard_range x.key n
  generalize shardF x.key n = u at *
  obtain ⟨a, b⟩ := u
  dsimp only at *
  by_cases hb : b = 0
  · subst hb
    obtain ⟨h0, _⟩ := hr rfl
    rw [if_pos rfl, Nat.testBit_or, Nat.testBit_two_pow]
    congr 1
    simp only [Prod.mk.injEq, and_true, decide_eq_decide]
    omega
  · rw [if_neg hb]
    simp [hb]
theorem parts_test (l : List Wr) (n : Int) (i : Nat) : ∀ P, (l.foldl (partS n) P).testBit i = (P.testBit i || l.any fun x => decide (shardF x.key n = ((i : Int), 0))) := by
  induction l with
  | nil => intro P; simp
  | cons x l ih =>
    intro P
    rw [List.foldl_cons, ih, part_test, List.any_cons, Bool.or_assoc]
/-- Gathered so, the bits are those of the rows. -/
theorem parts_bits (l : List Wr) (n : Int) : partsF l n = bitsL (splitF l n) := by
  apply Nat.eq_of_testBit_eq
  intro i
  unfold partsF bitsL
  rw [parts_test, bits_test, Nat.zero_testBit, Bool.false_or, Nat.zero_add, Nat.sub_zero]
  unfold splitF
  by_cases hn : 1 ≤ n ∧ n ≤ 8
  · rw [if_pos hn]
    by_cases hi : i < n.toNat
    · have e : ((List.range n.toNat).map (fun k : Nat => ownF l n (k : Int))).getD i [] = ownF l n (i : Int) := by simp [List.getD, hi]
      rw [e]
      simp only [Nat.zero_le, decide_true, Bool.true_and, List.length_map, List.length_range, hi]
      unfold ownF
      rw [Bool.eq_iff_iff]
      simp only [List.any_eq_true, decide_eq_true_eq, Bool.not_eq_true', List.isEmpty_eq_false_iff, ne_eq, List.filter_eq_nil_iff, beq_iff_eq]
      constructor
      · rintro ⟨x, hx, h⟩ hall
        exact hall x hx h
      · intro h
        exact Classical.byContradiction fun hc => h fun x hx hs => hc ⟨x, hx, hs⟩
    · simp only [List.length_map, List.length_range, hi, decide_false, Bool.and_false, Bool.false_and]
      rw [List.any_eq_false]
      intro x _
      simp only [decide_eq_true_eq]
      intro hs
      have := shard_range x.key n (by rw [hs])
      rw [hs] at this
      dsimp only at this
      omega
  · rw [if_neg hn]
    simp only [List.length_nil, Nat.not_lt_zero, decide_false, Bool.and_false, Bool.false_and]
    rw [List.any_eq_false]
    intro x _
    simp only [decide_eq_true_eq]
    intro hs
    unfold shardF at hs
    rw [if_neg (fun h => hn h.2)] at hs
    simp at hs
theorem parts_lt (l : List Wr) (n : Int) : partsF l n < 256 := by
  rw [parts_bits]
  exact bitsL_lt (split_len l n)
end Go.Proofs.Ytdiellljplcjfaa
