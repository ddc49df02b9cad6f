/-
  Words of binary64 that stand for whole numbers below 2 to the 53 (a zero of either sign): sums, differences, products, comparisons, conversions are exact.
-/
import Derived.Laws.Cover2
import Derived.Laws.FloatArith
import Derived.Laws.ComplexArith
namespace Go.Proofs.Ytdiellljplcjfaa
open Ieee

/-- The places below the point of the least float. -/
def fq : Nat := 1074
theorem fq_eq : fq = 1074 := rfl
theorem lp_eq : double.leastPlace = -(fq : Int) := by decide
theorem binade_eq : double.binade = 4503599627370496 := by decide
theorem infRung_eq : double.infRung = 9218868437227405312 := by decide
theorem signW_eq : double.signWeight = 9223372036854775808 := by decide
theorem frac_eq : double.fractionBits = 52 := rfl
theorem f64_eq : FloatKind.f64.format = double := rfl

theorem two_pow_posI (k : Nat) : (0 : Int) < 2 ^ k := Int.pow_pos (by decide)
theorem signed_eq (s : Bool) (m i : Nat) : signed s m i = (if s then -1 else 1) * ((m : Int) * 2 ^ i) := by
  unfold signed
  rw [Nat.shiftLeft_eq]
  cases s <;> simp

theorem log2_shift (a k : Nat) (h : a ≠ 0) : (a * 2 ^ k).log2 = a.log2 + k := by
  have h1 := Nat.log2_self_le h
  have h2 := @Nat.lt_log2_self a
  have hp : 0 < 2 ^ k := Nat.two_pow_pos k
  rw [Nat.log2_eq_iff (Nat.mul_ne_zero h (Nat.pos_iff_ne_zero.1 hp))]
  refine ⟨?_, ?_⟩
  · rw [Nat.pow_add]; exact Nat.mul_le_mul_right _ h1
  · rw [show a.log2 + k + 1 = (a.log2 + 1) + k by omega, Nat.pow_add]; exact Nat.mul_lt_mul_of_pos_right h2 hp

theorem cut_zero (s : Bool) (x : Nat) : Toward.even.cut s x 0 = x := by
  simp [Toward.cut, Nat.mod_one]

theorem cut_exact (s : Bool) (x k : Nat) (hx : 2 ^ 52 ≤ x) : Toward.even.cut s (x * 2 ^ k) k = x := by
  have hx0 : x ≠ 0 := by have := Nat.two_pow_pos 52; omega
  have hp : 0 < 2 ^ k := Nat.two_pow_pos k
  unfold Toward.cut
  rw [log2_shift x k hx0, Nat.min_eq_left (by omega), Nat.shiftLeft_eq, Nat.one_mul]
  have e1 : x * 2 ^ k / 2 ^ k = x := Nat.mul_div_cancel _ hp
  have e2 : x * 2 ^ k % 2 ^ k = 0 := Nat.mul_mod_left _ _
  simp only [e1, e2]
  have : (2 ^ k == 2 * 0) = false := by simp
  simp [this]

/-- The rung of the whole number N. -/
def rungOf (N : Nat) : Nat := (N.log2 + 1022) * 4503599627370496 + N * 2 ^ (52 - N.log2)

theorem top_bounds (N : Nat) (h0 : N ≠ 0) (h : N < 2 ^ 53) : N.log2 ≤ 52 ∧ 4503599627370496 ≤ N * 2 ^ (52 - N.log2) ∧ N * 2 ^ (52 - N.log2) < 9007199254740992 := by
  have h1 := Nat.log2_self_le h0
  have h2 := @Nat.lt_log2_self N
  have hl : N.log2 < 53 := (Nat.log2_lt h0).2 h
  have hp : 0 < 2 ^ (52 - N.log2) := Nat.two_pow_pos _
  refine ⟨by omega, ?_, ?_⟩
  · calc 4503599627370496 = 2 ^ N.log2 * 2 ^ (52 - N.log2) := by rw [← Nat.pow_add, show N.log2 + (52 - N.log2) = 52 by omega]
      _ ≤ _ := Nat.mul_le_mul_right _ h1
  · calc N * 2 ^ (52 - N.log2) < 2 ^ (N.log2 + 1) * 2 ^ (52 - N.log2) := Nat.mul_lt_mul_of_pos_right h2 hp
      _ = _ := by rw [← Nat.pow_add, show N.log2 + 1 + (52 - N.log2) = 53 by omega]

theorem near_canon (s : Bool) (m i N : Nat) (h : m * 2 ^ i = N * 2 ^ fq) (h0 : N ≠ 0) (hN : N < 2 ^ 53) : double.nearest s m (-(fq : Int) + i) = double.word s (rungOf N) := by
  obtain ⟨hl, hlo, hhi⟩ := top_bounds N h0 hN
  have hm : m ≠ 0 := by
    intro e
    rw [e, Nat.zero_mul] at h
    exact Nat.mul_ne_zero h0 (Nat.pos_iff_ne_zero.1 (Nat.two_pow_pos fq)) h.symm
  have hlog : m.log2 + i = N.log2 + fq := by rw [← log2_shift m i hm, h, log2_shift N fq h0]
  have hq := fq_eq
  unfold Format.nearest
  rw [if_neg hm, lp_eq, frac_eq, binade_eq, infRung_eq]
  have hlast : max (-(fq : Int) + (i : Int) + (m.log2 : Int) - ((52 : Nat) : Int)) (-(fq : Int)) = (N.log2 : Int) - 52 := by omega
  simp only [hlast]
  have hkept : Toward.even.cut s (m <<< (-(fq : Int) + (i : Int) - ((N.log2 : Int) - 52)).toNat) ((N.log2 : Int) - 52 - (-(fq : Int) + (i : Int))).toNat = N * 2 ^ (52 - N.log2) := by
    by_cases hc : N.log2 + fq ≤ i + 52
    · have e1 : (-(fq : Int) + (i : Int) - ((N.log2 : Int) - 52)).toNat = i + 52 - N.log2 - fq := by omega
      have e2 : ((N.log2 : Int) - 52 - (-(fq : Int) + (i : Int))).toNat = 0 := by omega
      rw [e1, e2, cut_zero, Nat.shiftLeft_eq]
      have hp : 0 < 2 ^ (N.log2 + fq - 52) := Nat.two_pow_pos _
      refine Nat.eq_of_mul_eq_mul_right hp ?_
      rw [Nat.mul_assoc, ← Nat.pow_add, Nat.mul_assoc, ← Nat.pow_add, show i + 52 - N.log2 - fq + (N.log2 + fq - 52) = i by omega, show 52 - N.log2 + (N.log2 + fq - 52) = fq by omega]
      exact h
    · have e1 : (-(fq : Int) + (i : Int) - ((N.log2 : Int) - 52)).toNat = 0 := by omega
      have e2 : ((N.log2 : Int) - 52 - (-(fq : Int) + (i : Int))).toNat = N.log2 + fq - 52 - i := by omega
      rw [e1, e2, Nat.shiftLeft_zero]
      have hmm : m = N * 2 ^ (52 - N.log2) * 2 ^ (N.log2 + fq - 52 - i) := by
        refine Nat.eq_of_mul_eq_mul_right (Nat.two_pow_pos i) ?_
        rw [h, Nat.mul_assoc, Nat.mul_assoc, ← Nat.pow_add, ← Nat.pow_add, show 52 - N.log2 + (N.log2 + fq - 52 - i + i) = fq by omega]
      rw [hmm]
      exact cut_exact s _ _ (by omega)
  rw [hkept]
  have e3 : ((N.log2 : Int) - 52 - -(fq : Int)).toNat = N.log2 + 1022 := by omega
  rw [e3, Nat.min_eq_left (by omega)]
  rfl

theorem read_rung (s : Bool) (N : Nat) (h0 : N ≠ 0) (hN : N < 2 ^ 53) : double.read (double.word s (rungOf N)) = .number s (N * 2 ^ (52 - N.log2)) (-(fq : Int) + ((N.log2 + 1022 : Nat) : Int)) := by
  obtain ⟨hl, hlo, hhi⟩ := top_bounds N h0 hN
  unfold Format.read Format.word
  rw [signW_eq, binade_eq, infRung_eq, lp_eq]
  unfold rungOf
  generalize N * 2 ^ (52 - N.log2) = X at hlo hhi
  generalize N.log2 = L at hl
  have hr : (if s = true then 9223372036854775808 + ((L + 1022) * 4503599627370496 + X) else (L + 1022) * 4503599627370496 + X) % 9223372036854775808 = (L + 1022) * 4503599627370496 + X := by
    cases s <;> simp <;> omega
  have hs : ((if s = true then 9223372036854775808 + ((L + 1022) * 4503599627370496 + X) else (L + 1022) * 4503599627370496 + X) / 9223372036854775808 % 2 == 1) = s := by
    cases s <;> simp <;> omega
  simp only [hr, hs]
  rw [if_neg (by omega), if_pos (by omega)]
  have e1 : ((L + 1022) * 4503599627370496 + X) % 4503599627370496 = X - 4503599627370496 := by omega
  have e2 : ((L + 1022) * 4503599627370496 + X) / 4503599627370496 = L + 1023 := by omega
  rw [e1, e2, show 4503599627370496 + (X - 4503599627370496) = X by omega, show L + 1023 - 1 = L + 1022 by omega]

theorem ofInt_eq (n : Int) : floatOfInt .f64 n = double.nearest (decide (n < 0)) n.natAbs 0 := rfl

theorem near_int (s : Bool) (m i : Nat) (n : Int) (h : signed s m i = n * 2 ^ fq) (hn : n.natAbs < 2 ^ 53) (hz : n = 0 → s = false) : double.nearest s m (-(fq : Int) + i) = floatOfInt .f64 n := by
  have hp : (0 : Int) < 2 ^ i := two_pow_posI i
  have hpq : (0 : Int) < 2 ^ fq := two_pow_posI fq
  rw [signed_eq] at h
  by_cases h0 : n = 0
  · have hs := hz h0
    subst hs
    rw [h0, Int.zero_mul] at h
    simp only [Bool.false_eq_true, if_false, Int.one_mul] at h
    have hm : m = 0 := by
      rcases Int.mul_eq_zero.1 h with h | h
      · exact_mod_cast h
      · omega
    rw [hm, h0, ofInt_eq]
    simp [Format.nearest]
  · have habs : m * 2 ^ i = n.natAbs * 2 ^ fq := by
      have := congrArg Int.natAbs h
      rw [Int.natAbs_mul, Int.natAbs_mul, Int.natAbs_mul, Int.natAbs_pow, Int.natAbs_pow] at this
      have e : (if s = true then (-1 : Int) else 1).natAbs = 1 := by cases s <;> rfl
      rw [e, Nat.one_mul] at this
      simpa using this
    have hs : s = decide (n < 0) := by
      have hm0 : (0 : Int) ≤ (m : Int) * 2 ^ i := Int.mul_nonneg (by omega) (by omega)
      cases s
      · simp only [Bool.false_eq_true, if_false, Int.one_mul] at h
        have : ¬ n < 0 := fun hlt => by
          have := Int.mul_neg_of_neg_of_pos hlt hpq
          omega
        simp [this]
      · simp only [if_true] at h
        have : n < 0 := by
          rcases Int.lt_or_le n 0 with h1 | h1
          · exact h1
          · have := Int.mul_nonneg h1 (Int.le_of_lt hpq)
            have h2 : n * 2 ^ fq = 0 := by omega
            rcases Int.mul_eq_zero.1 h2 with h3 | h3
            · exact absurd h3 h0
            · omega
        simp [this]
    have hnn : n.natAbs ≠ 0 := by omega
    rw [near_canon s m i n.natAbs habs hnn hn, ofInt_eq, ← hs]
    have := near_canon s n.natAbs fq n.natAbs rfl hnn hn
    rw [show (-(fq : Int) + (fq : Int)) = 0 by omega] at this
    exact this.symm

theorem read_int (n : Int) (hn : n.natAbs < 2 ^ 53) : ∃ m i : Nat, double.read (floatOfInt .f64 n) = .number (decide (n < 0)) m (-(fq : Int) + i) ∧ signed (decide (n < 0)) m i = n * 2 ^ fq := by
  by_cases h0 : n = 0
  · subst h0
    refine ⟨0, 0, ?_, ?_⟩
    · decide
    · rw [signed_eq]; simp
  · have hnn : n.natAbs ≠ 0 := by omega
    have hc := near_canon (decide (n < 0)) n.natAbs fq n.natAbs rfl hnn hn
    rw [show (-(fq : Int) + (fq : Int)) = 0 by omega] at hc
    refine ⟨n.natAbs * 2 ^ (52 - n.natAbs.log2), n.natAbs.log2 + 1022, ?_, ?_⟩
    · rw [ofInt_eq, hc]
      exact read_rung _ _ hnn hn
    · obtain ⟨hl, _, _⟩ := top_bounds _ hnn hn
      rw [signed_eq]
      have e : ((n.natAbs * 2 ^ (52 - n.natAbs.log2) : Nat) : Int) * 2 ^ (n.natAbs.log2 + 1022) = (n.natAbs : Int) * 2 ^ fq := by
        rw [Int.natCast_mul, Int.natCast_pow, Int.mul_assoc]
        show (n.natAbs : Int) * ((2 : Int) ^ _ * _) = _
        rw [← Int.pow_add, show 52 - n.natAbs.log2 + (n.natAbs.log2 + 1022) = fq by have := fq_eq; omega]
      rw [e, ← Int.mul_assoc]
      congr 1
      by_cases hlt : n < 0
      · simp [hlt]; omega
      · simp [hlt]; omega

theorem signed_scale (s : Bool) (m i k : Nat) (h : k ≤ i) : signed s m (i - k) * 2 ^ k = signed s m i := by
  rw [signed_eq, signed_eq, Int.mul_assoc, Int.mul_assoc, ← Int.pow_add, Nat.sub_add_cancel h]

theorem compare_scale (a b c : Int) (hc : 0 < c) : compare (a * c) (b * c) = compare a b := by
  have h1 : a * c < b * c ↔ a < b := Int.mul_lt_mul_right hc
  have h2 : a * c = b * c ↔ a = b := Int.mul_eq_mul_right_iff (by omega)
  show compareOfLessAndEq _ _ = compareOfLessAndEq _ _
  simp only [compareOfLessAndEq, h1, h2]

theorem place_sub (i j : Nat) : (-(fq : Int) + (i : Int) - min (-(fq : Int) + (i : Int)) (-(fq : Int) + (j : Int))).toNat = i - min i j := by omega
theorem place_sub' (i j : Nat) : (-(fq : Int) + (j : Int) - min (-(fq : Int) + (i : Int)) (-(fq : Int) + (j : Int))).toNat = j - min i j := by omega
theorem place_min (i j : Nat) : min (-(fq : Int) + (i : Int)) (-(fq : Int) + (j : Int)) = -(fq : Int) + ((min i j : Nat) : Int) := by omega

/-- Exact floats are ordered as their numbers are. -/
theorem order_int (a b : Int) (ha : a.natAbs < 2 ^ 53) (hb : b.natAbs < 2 ^ 53) : double.order (floatOfInt .f64 a) (floatOfInt .f64 b) = some (compare a b) := by
  obtain ⟨m, i, h1, h2⟩ := read_int a ha
  obtain ⟨n, j, h3, h4⟩ := read_int b hb
  unfold Format.order
  rw [h1, h3]
  show some (compare (signed (decide (a < 0)) m _) (signed (decide (b < 0)) n _)) = _
  rw [place_sub, place_sub']
  have hp : (0 : Int) < 2 ^ (min i j) := two_pow_posI (min i j)
  have hpq : (0 : Int) < 2 ^ fq := two_pow_posI fq
  rw [← compare_scale _ _ _ hp, signed_scale _ _ _ _ (Nat.min_le_left i j), signed_scale _ _ _ _ (Nat.min_le_right i j), h2, h4, compare_scale _ _ _ hpq]

/-- The difference of exact floats is the float of the difference. -/
theorem sub_int (a b : Int) (ha : a.natAbs < 2 ^ 53) (hb : b.natAbs < 2 ^ 53) (hd : (b - a).natAbs < 2 ^ 53) : double.sub (floatOfInt .f64 b) (floatOfInt .f64 a) = some (floatOfInt .f64 (b - a)) := by
  obtain ⟨m, i, h1, h2⟩ := read_int b hb
  obtain ⟨n, j, h3, h4⟩ := read_int a ha
  unfold Format.sub
  rw [h1, h3]
  show some (double.nearest (if signed (decide (b < 0)) m _ + signed (!decide (a < 0)) n _ = 0 then decide (b < 0) && !decide (a < 0) else decide (signed (decide (b < 0)) m _ + signed (!decide (a < 0)) n _ < 0)) (signed (decide (b < 0)) m _ + signed (!decide (a < 0)) n _).natAbs _) = _
  rw [place_sub, place_sub', place_min]
  have hopp : signed (!decide (a < 0)) n (j - min i j) = -signed (decide (a < 0)) n (j - min i j) := by
    rw [signed_eq, signed_eq]; cases decide (a < 0) <;> simp
  rw [hopp]
  have ht : (signed (decide (b < 0)) m (i - min i j) + -signed (decide (a < 0)) n (j - min i j)) * 2 ^ (min i j) = (b - a) * 2 ^ fq := by
    rw [Int.add_mul, Int.neg_mul, signed_scale _ _ _ _ (Nat.min_le_left i j), signed_scale _ _ _ _ (Nat.min_le_right i j), h2, h4, Int.sub_mul]; rfl
  generalize signed (decide (b < 0)) m (i - min i j) + -signed (decide (a < 0)) n (j - min i j) = T at ht
  have hpq : (0 : Int) < 2 ^ fq := two_pow_posI fq
  have hp : (0 : Int) < 2 ^ (min i j) := two_pow_posI (min i j)
  refine congrArg some (near_int _ _ _ _ ?_ hd ?_)
  · rw [signed_eq, ← ht, ← Int.mul_assoc]
    congr 1
    by_cases h : T = 0
    · simp [h]
    · by_cases hlt : T < 0
      · simp [h, hlt]; omega
      · simp [h, hlt]; omega
  · intro hz
    have hT : T = 0 := by
      rw [hz, Int.zero_mul] at ht
      rcases Int.mul_eq_zero.1 ht with h | h
      · exact h
      · omega
    rw [if_pos hT]
    have : b = a := by omega
    subst this
    cases decide (b < 0) <;> rfl

theorem ofInt_zero : floatOfInt .f64 0 = 0 := by decide
end Go.Proofs.Ytdiellljplcjfaa
