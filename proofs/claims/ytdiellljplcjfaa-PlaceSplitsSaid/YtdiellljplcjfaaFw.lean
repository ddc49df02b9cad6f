/-
  A word of binary64 that stands for a whole number below 2 to the 53, a zero of either sign: what is reckoned with such words is exact.
-/
import Derived.Test.YtdiellljplcjfaaFloat
namespace Go.Proofs.Ytdiellljplcjfaa
open Ieee

/-- The word x stands for n. -/
structure Fw (x : Nat) (n : Int) : Prop where
  eq : x = floatOfInt .f64 n ∨ n = 0 ∧ x = 9223372036854775808
  lt : n.natAbs < 2 ^ 53
theorem fw_int (n : Int) (h : n.natAbs < 2 ^ 53) : Fw (floatOfInt .f64 n) n := ⟨.inl rfl, h⟩
theorem fw_zero : Fw 0 0 := ⟨.inl (by decide), by decide⟩
theorem fw_read {x : Nat} {n : Int} (h : Fw x n) : ∃ (s : Bool) (m i : Nat), double.read x = .number s m (-(fq : Int) + i) ∧ signed s m i = n * 2 ^ fq ∧ (n ≠ 0 → fq ≤ i + i) := by
  rcases h.eq with rfl | ⟨rfl, rfl⟩
  · by_cases h0 : n = 0
    · obtain ⟨m, i, h1, h2⟩ := read_int n h.lt
      exact ⟨_, m, i, h1, h2, fun hn => absurd h0 hn⟩
    · have hnn : n.natAbs ≠ 0 := by omega
      have hc := near_canon (decide (n < 0)) n.natAbs fq n.natAbs rfl hnn h.lt
      rw [show (-(fq : Int) + (fq : Int)) = 0 by omega] at hc
      obtain ⟨m, i, h1, h2⟩ := read_int n h.lt
      rw [ofInt_eq, hc, read_rung _ _ hnn h.lt] at h1
      injection h1 with e1 e2 e3
      refine ⟨_, _, _, by rw [ofInt_eq, hc]; exact read_rung _ _ hnn h.lt, ?_, fun _ => by have := fq_eq; omega⟩
      have e4 : n.natAbs.log2 + 1022 = i := by omega
      rw [e4, e2]
      exact h2
  · refine ⟨true, 0, 0, by decide, ?_, fun hn => absurd rfl hn⟩
    rw [signed_eq]
    simp
/-- What is nearest to a whole number is its word. -/
theorem fw_near (s : Bool) (m i : Nat) (n : Int) (h : signed s m i = n * 2 ^ fq) (hn : n.natAbs < 2 ^ 53) : Fw (double.nearest s m (-(fq : Int) + i)) n := by
  by_cases h0 : n = 0
  · subst h0
    have hm : m = 0 := by
      have hp : (0 : Int) < 2 ^ i := two_pow_posI i
      rw [signed_eq, Int.zero_mul] at h
      have h1 : (m : Int) * 2 ^ i = 0 := by cases s <;> simp only [Bool.false_eq_true, if_false, if_true] at h <;> omega
      rcases Int.mul_eq_zero.1 h1 with h2 | h2
      · exact_mod_cast h2
      · omega
    subst hm
    refine ⟨?_, hn⟩
    cases s
    · left; simp [Format.nearest, Format.word, ofInt_zero]
    · right; exact ⟨rfl, by simp [Format.nearest, Format.word, signW_eq]⟩
  · exact ⟨.inl (near_int s m i n h hn (fun hz => absurd hz h0)), hn⟩
theorem sum_near (s t : Bool) (m n i j : Nat) (a b : Int) (h1 : signed s m i = a * 2 ^ fq) (h2 : signed t n j = b * 2 ^ fq) (hn : (a + b).natAbs < 2 ^ 53) :
    ∃ z, ((Datum.number s m (-(fq : Int) + i)).sum (Datum.number t n (-(fq : Int) + j))).map double.write = some z ∧ Fw z (a + b) := by
  refine ⟨_, rfl, ?_⟩
  show Fw (double.nearest (if signed s m _ + signed t n _ = 0 then s && t else decide (signed s m _ + signed t n _ < 0)) (signed s m _ + signed t n _).natAbs _) _
  rw [place_sub, place_sub', place_min]
  have ht : (signed s m (i - min i j) + signed t n (j - min i j)) * 2 ^ (min i j) = (a + b) * 2 ^ fq := by
    rw [Int.add_mul, signed_scale _ _ _ _ (Nat.min_le_left i j), signed_scale _ _ _ _ (Nat.min_le_right i j), h1, h2, Int.add_mul]
  generalize signed s m (i - min i j) + signed t n (j - min i j) = T at ht
  refine fw_near _ _ _ _ ?_ hn
  rw [signed_eq, ← ht, ← Int.mul_assoc]
  congr 1
  by_cases h : T = 0
  · simp [h]
  · by_cases hlt : T < 0
    · simp [h, hlt]; omega
    · simp [h, hlt]; omega
theorem Fw.add {x y : Nat} {a b : Int} (hx : Fw x a) (hy : Fw y b) (h : (a + b).natAbs < 2 ^ 53) : ∃ z, double.add x y = some z ∧ Fw z (a + b) := by
  obtain ⟨s, m, i, r1, e1, _⟩ := fw_read hx
  obtain ⟨t, n, j, r2, e2, _⟩ := fw_read hy
  unfold Format.add
  rw [r1, r2]
  exact sum_near s t m n i j a b e1 e2 h
theorem Fw.sub {x y : Nat} {a b : Int} (hx : Fw x a) (hy : Fw y b) (h : (a - b).natAbs < 2 ^ 53) : ∃ z, double.sub x y = some z ∧ Fw z (a - b) := by
  obtain ⟨s, m, i, r1, e1, _⟩ := fw_read hx
  obtain ⟨t, n, j, r2, e2, _⟩ := fw_read hy
  unfold Format.sub
  rw [r1, r2]
  have e3 : signed (!t) n j = (-b) * 2 ^ fq := by
    rw [Int.neg_mul, ← e2, signed_eq, signed_eq]
    cases t <;> simp
  have := sum_near s (!t) m n i j a (-b) e1 e3 (by rw [← Int.sub_eq_add_neg]; exact h)
  rw [← Int.sub_eq_add_neg] at this
  exact this
theorem Fw.mul {x y : Nat} {a b : Int} (hx : Fw x a) (hy : Fw y b) (h : (a * b).natAbs < 2 ^ 53) : ∃ z, double.mul x y = some z ∧ Fw z (a * b) := by
  obtain ⟨s, m, i, r1, e1, g1⟩ := fw_read hx
  obtain ⟨t, n, j, r2, e2, g2⟩ := fw_read hy
  unfold Format.mul
  rw [r1, r2]
  refine ⟨_, rfl, ?_⟩
  show Fw (double.nearest (s ^^ t) (m * n) (-(fq : Int) + (i : Int) + (-(fq : Int) + (j : Int)))) _
  by_cases h0 : a * b = 0
  · have hmn : m * n = 0 := by
      have hp : ∀ k : Nat, (0 : Int) < 2 ^ k := two_pow_posI
      have z : ∀ {u : Bool} {p k : Nat} {c : Int}, signed u p k = c * 2 ^ fq → c = 0 → p = 0 := fun {u p k c} e hc => by
        rw [hc, signed_eq, Int.zero_mul] at e
        have h1 : (p : Int) * 2 ^ k = 0 := by cases u <;> simp only [Bool.false_eq_true, if_false, if_true] at e <;> omega
        rcases Int.mul_eq_zero.1 h1 with h2 | h2
        · exact_mod_cast h2
        · have := hp k; omega
      rcases Int.mul_eq_zero.1 h0 with e | e
      · rw [z e1 e, Nat.zero_mul]
      · rw [z e2 e, Nat.mul_zero]
    rw [hmn, h0]
    refine ⟨?_, by decide⟩
    cases (s ^^ t)
    · left; simp [Format.nearest, Format.word, ofInt_zero]
    · right; exact ⟨rfl, by simp [Format.nearest, Format.word, signW_eq]⟩
  · have ha : a ≠ 0 := fun e => h0 (by rw [e, Int.zero_mul])
    have hb : b ≠ 0 := fun e => h0 (by rw [e, Int.mul_zero])
    have g3 := g1 ha
    have g4 := g2 hb
    have hij : fq ≤ i + j := by omega
    rw [show (-(fq : Int) + (i : Int) + (-(fq : Int) + (j : Int))) = -(fq : Int) + ((i + j - fq : Nat) : Int) by omega]
    refine fw_near _ _ _ _ ?_ h
    have hq : (2 : Int) ^ fq ≠ 0 := by have := two_pow_posI fq; omega
    refine Int.eq_of_mul_eq_mul_right hq ?_
    rw [signed_eq] at e1 e2 ⊢
    have e5 : ((m * n : Nat) : Int) * 2 ^ (i + j - fq) * 2 ^ fq = ((m : Int) * 2 ^ i) * ((n : Int) * 2 ^ j) := by
      rw [Int.mul_assoc, ← Int.pow_add, Nat.sub_add_cancel hij, Int.pow_add, Int.natCast_mul]
      simp only [Int.mul_assoc, Int.mul_left_comm]
    have e6 : (if (s ^^ t) = true then (-1 : Int) else 1) = (if s = true then -1 else 1) * (if t = true then -1 else 1) := by cases s <;> cases t <;> rfl
    rw [Int.mul_assoc, e5, e6]
    rw [show a * b * 2 ^ fq * 2 ^ fq = (a * 2 ^ fq) * (b * 2 ^ fq) by simp only [Int.mul_assoc, Int.mul_left_comm, Int.mul_comm], ← e1, ← e2]
    simp only [Int.mul_assoc, Int.mul_left_comm]
theorem Fw.order {x y : Nat} {a b : Int} (hx : Fw x a) (hy : Fw y b) : double.order x y = some (compare a b) := by
  obtain ⟨s, m, i, r1, e1, _⟩ := fw_read hx
  obtain ⟨t, n, j, r2, e2, _⟩ := fw_read hy
  unfold Format.order
  rw [r1, r2]
  show some (compare (signed s m _) (signed t n _)) = _
  rw [place_sub, place_sub']
  have hp : (0 : Int) < 2 ^ (min i j) := two_pow_posI (min i j)
  have hpq : (0 : Int) < 2 ^ fq := two_pow_posI fq
  rw [← compare_scale _ _ _ hp, signed_scale _ _ _ _ (Nat.min_le_left i j), signed_scale _ _ _ _ (Nat.min_le_right i j), e1, e2, compare_scale _ _ _ hpq]
theorem Fw.beq {x y : Nat} {a b : Int} (hx : Fw x a) (hy : Fw y b) : (double.order x y == some .eq) = (a == b) := by
  rw [hx.order hy, Bool.eq_iff_iff]
  simp only [beq_iff_eq, Option.some.injEq]
  exact Int.compare_eq_eq
end Go.Proofs.Ytdiellljplcjfaa
