/-
  The walk of the law ClockCounts: at every stamp, reading and count it returns true, and turns no memory that was there.
-/
import Derived.Test.YtiknfijaadbmeaaAwake
namespace Go.Proofs.Ytiknfijaadbmeaa
open Go.RowKit

def stP (p l k : Int) : Int := p + (l + k) / 4096
def stL (l k : Int) : Int := (l + k) % 4096
theorem st_next (p l k : Int) (h0 : 0 ≤ p) (h1 : 0 ≤ l) (h2 : l ≤ 4095) (h3 : p ≤ 140737488355328) (hk : 0 ≤ k) (hk2 : k < 9000) :
    nextF (stP p l k) (stL l k) = (stP p l (k + 1), stL l (k + 1), 0) := by
  have hr : rightB (stP p l k) (stL l k) = true := rightB_iff.2 (by unfold stP stL; omega)
  unfold nextF
  rw [hr]
  by_cases h : stL l k < 4095
  · have h' := h
    unfold stL at h'
    simp only [h, if_pos]
    refine Prod.ext ?_ (Prod.ext ?_ rfl)
    · show stP p l k = stP p l (k + 1); unfold stP; omega
    · show stL l k + 1 = stL l (k + 1); unfold stL; omega
  · have hp : stP p l k < 281474976710656 := by unfold stP; omega
    have h' := h
    unfold stL at h'
    simp only [if_true, h, hp, if_false]
    refine Prod.ext ?_ (Prod.ext ?_ rfl)
    · show stP p l k + 1 = stP p l (k + 1); unfold stP; omega
    · show 0 = stL l (k + 1); unfold stL; omega
theorem st_tick (p l f k : Int) (h0 : 0 ≤ p) (h1 : 0 ≤ l) (h2 : l ≤ 4095) (h3 : p ≤ 140737488355328) (hf : f ≤ p) (hk : 0 ≤ k) (hk2 : k < 9000) :
    tickF (stP p l k) (stL l k) f = (stP p l (k + 1), stL l (k + 1), 0) := by
  have hr : rightB (stP p l k) (stL l k) = true := rightB_iff.2 (by unfold stP stL; omega)
  have e1 : f ≤ 281474976710656 := by omega
  have e2 : ¬ stP p l k < f := by unfold stP; omega
  unfold tickF
  rw [hr, if_pos rfl, if_pos e1, if_neg e2]
  exact st_next p l k h0 h1 h2 h3 hk hk2

theorem below1 {w w1 : World} {o1 : Obj} (hb : Below (w.alloc o1).heap.size (w.alloc o1) w1) : Below w.heap.size w w1 :=
  ((Below.refl _ _).alloc (Nat.le_refl _) _).trans (hb.mono (by simp))

set_option maxHeartbeats 400000 in
/-- The ways on which the law asks nothing. -/
theorem counts_out (p l f n : Int) (w : World) (h : rightB p l = false ∨ 140737488355328 < p ∨ p < f ∨ n < 0 ∨ 5000 < n) :
    Calls Try.prog 7 #[.agg #[.int .u64 p, .int .u32 l], .int .u64 f, .int .i64 n] w fun e w' => e = .returned (.bool true) ∧ Below w.heap.size w w' := by
  cases hr : rightB p l
  · have HR : Hid (rightB p l = false) := hr
    clear hr h
    go_enter Try.func7, Try.ntmps7
    go_wp2_with fail
    refine (awake8 _).mono ?_
    rintro e w1 ⟨rfl, hb1⟩
    obtain ⟨hc1, hf1⟩ := bcell hb1
    have hz1 : w.heap.size < w1.heap.size := by have := hb1.size; simp at this; omega
    go_wp2_with fail
    refine (right18 _ _ _).mono ?_
    rw [HR.out]
    rintro e w2 ⟨rfl, hb2⟩
    go_wp2
    go_ret
    exact ⟨rfl, (below1 hb1).trans (hb2.mono (by omega))⟩
  · have HR : Hid (rightB p l = true) := hr
    have h' : 140737488355328 < p ∨ (¬ 140737488355328 < p ∧ p < f) ∨ (¬ 140737488355328 < p ∧ ¬ p < f ∧ n < 0) ∨ (¬ 140737488355328 < p ∧ ¬ p < f ∧ ¬ n < 0 ∧ 5000 < n) := by
      rcases h with h | h | h | h | h
      · rw [hr] at h; cases h
      · omega
      · omega
      · omega
      · omega
    clear hr h
    rcases h' with h | ⟨h, h2⟩ | ⟨h, h2, h3⟩ | ⟨h, h2, h3, h4⟩
    all_goals
      go_enter Try.func7, Try.ntmps7
      go_wp2_with fail
      refine (awake8 _).mono ?_
      rintro e w1 ⟨rfl, hb1⟩
      obtain ⟨hc1, hf1⟩ := bcell hb1
      have hz1 : w.heap.size < w1.heap.size := by have := hb1.size; simp at this; omega
      go_wp2_with fail
      refine (right18 _ _ _).mono ?_
      rw [HR.out]
      rintro e w2 ⟨rfl, hb2⟩
      obtain ⟨hc2, hf2⟩ := bcell hb2
      go_wp2
      go_ret
      exact ⟨rfl, (below1 hb1).trans (hb2.mono (by omega))⟩

theorem next_st (p l k : Int) (w : World) (h0 : 0 ≤ p) (h1 : 0 ≤ l) (h2 : l ≤ 4095) (h3 : p ≤ 140737488355328) (hk : 0 ≤ k) (hk2 : k < 9000) :
    Calls Try.prog 19 #[.agg #[.int .u64 (stP p l k), .int .u32 (stL l k)]] w fun e w' => e = .returned (.tuple #[.agg #[.int .u64 (stP p l (k + 1)), .int .u32 (stL l (k + 1))], .int .i64 0]) ∧ Below w.heap.size w w' := by
  have h := next19 (stP p l k) (stL l k) w (by unfold stP; omega) (by unfold stL; omega)
  rw [st_next p l k h0 h1 h2 h3 hk hk2] at h
  exact h
theorem tick_st (p l f k : Int) (w : World) (h0 : 0 ≤ p) (h1 : 0 ≤ l) (h2 : l ≤ 4095) (h3 : p ≤ 140737488355328) (hf0 : 0 ≤ f) (hf : f ≤ p) (hk : 0 ≤ k) (hk2 : k < 9000) :
    Calls Try.prog 9 #[.agg #[.int .u64 (stP p l k), .int .u32 (stL l k)], .int .u64 f] w fun e w' => e = .returned (.tuple #[.agg #[.int .u64 (stP p l (k + 1)), .int .u32 (stL l (k + 1))], .int .i64 0]) ∧ Below w.heap.size w w' := by
  have h := tick9 (stP p l k) (stL l k) f w (by unfold stP; omega) (by unfold stL; omega) hf0
  rw [st_tick p l f k h0 h1 h2 h3 hf hk hk2] at h
  exact h

set_option maxHeartbeats 1000000 in
theorem counts_in (p l f n : Int) (w : World) (h0 : 0 ≤ p) (h1 : 0 ≤ l) (h2 : l ≤ 4095) (h3 : ¬ 140737488355328 < p) (hf0 : 0 ≤ f) (hf : ¬ p < f) (hn0 : ¬ n < 0) (hn1 : ¬ 5000 < n) :
    Calls Try.prog 7 #[.agg #[.int .u64 p, .int .u32 l], .int .u64 f, .int .i64 n] w fun e w' => e = .returned (.bool true) ∧ Below w.heap.size w w' := by
  have hr : rightB p l = true := rightB_iff.2 (by omega)
  have HR : Hid (rightB p l = true) := hr
  clear hr
  obtain ⟨m, rfl⟩ := Int.eq_ofNat_of_zero_le (show 0 ≤ n by omega)
  have hd1 : decide (140737488355328 < p) = false := by simp; omega
  have hd0 : decide (p < f) = false := by simp; omega
  have hd2 : decide ((m : Int) < 0) = false := by simp
  have hd3 : decide (5000 < (m : Int)) = false := by simp; omega
  go_enter Try.func7, Try.ntmps7
  go_wp2_with fail
  refine (awake8 _).mono ?_
  rintro e w1 ⟨rfl, hb1⟩
  obtain ⟨hc1, hf1⟩ := bcell hb1
  have hz1 : w.heap.size < w1.heap.size := by have := hb1.size; simp at this; omega
  go_wp2_with fail
  refine (right18 _ _ _).mono ?_
  rw [HR.out]
  rintro e w2 ⟨rfl, hb2⟩
  obtain ⟨hc2, hf2⟩ := bcell hb2
  have hz2 : w.heap.size < w2.heap.size := by have := hb2.size; omega
  have hB : Below w.heap.size w w2 := (below1 hb1).trans (hb2.mono (by omega))
  have e0 : w2.cell? ⟨w.heap.size, 0, none⟩ = some (.int .u64 p) := by rw [hc2 _ _ hz1, hc1 _ _ (by simp)]; simp
  have e1 : w2.cell? ⟨w.heap.size, 1, none⟩ = some (.int .u32 l) := by rw [hc2 _ _ hz1, hc1 _ _ (by simp)]; simp
  clear hc1 hf1 hc2 hf2 hb1 hb2
  go_wp2_with fail
  go_loopw [38] (fun i wr => ∃ k : Nat, k ≤ m ∧ i = .int .i64 k ∧ Below w.heap.size w wr ∧ w2.heap.size < wr.heap.size ∧ wr.cell? ⟨w2.heap.size, 0, none⟩ = some (.int .u64 (stP p l k)) ∧ wr.cell? ⟨w2.heap.size, 1, none⟩ = some (.int .u32 (stL l k)) ∧ wr.frozen? ⟨w2.heap.size, 0, none⟩ = false ∧ wr.frozen? ⟨w2.heap.size, 1, none⟩ = false) (fun i _ => m - (intOf i).toNat)
  case atStart =>
    refine ⟨0, Nat.zero_le _, rfl, hB.alloc hB.size _, by simp, ?_, ?_, by simp, by simp⟩
    · simp [go_sem, stP]; omega
    · simp [go_sem, stL]; omega
  case round =>
    obtain ⟨k, hk, rfl, hBr, hzr, x0, x1, f0, f1⟩ := hrel
    by_cases hlt : k < m
    · have hd4 : decide ((k : Int) < m) = true := by simp; omega
      go_wp2_with fail
      refine (tick_st p l f k _ h0 h1 h2 (by omega) hf0 (by omega) (by omega) (by omega)).mono ?_
      rintro e w3 ⟨rfl, hb3⟩
      obtain ⟨hc3, hf3⟩ := bcell hb3
      have hz3 : w2.heap.size < w3.heap.size := by have := hb3.size; omega
      have hz4 : w.heap.size < wr.heap.size := by omega
      go_wp2_with fail
      refine (next_st p l k _ h0 h1 h2 (by omega) (by omega) (by omega)).mono ?_
      rintro e w4 ⟨rfl, hb4⟩
      obtain ⟨hc4, hf4⟩ := bcell hb4
      have hz5 : w3.heap.size < w4.heap.size := by have := hb4.size; simp at this; omega
      have hz6 : w2.heap.size < w4.heap.size := by omega
      have hz7 : w2.heap.size < w3.heap.size + 1 := by omega
      have heq := run_neq25 (stP p l (k + 1)) (stL l (k + 1)) (stP p l (k + 1)) (stL l (k + 1))
      have hee : eqB (stP p l (k + 1)) (stL l (k + 1)) (stP p l (k + 1)) (stL l (k + 1)) = true := by simp [eqB]
      go_wp2
      go_roundw
      case rel =>
        refine ⟨k + 1, by omega, by go_num, ?_, by simp; omega, ?_, ?_, ?_, ?_⟩
        · exact (((((hBr.trans (hb3.mono (by omega))).alloc (by omega) _).trans (hb4.mono (by simp; omega))).setCell (by simp; omega) _).setCell (by simp; omega) _).alloc (by simp; omega) _
        all_goals simp [go_sem, hc3, hf3, hc4, hf4, hz3, hz6, hz7, hzr, x0, x1, f0, f1]
      case measure => simp [intOf]; omega
    · have hd4 : decide ((k : Int) < m) = false := by simp; omega
      have hkm : k = m := by omega
      subst hkm
      go_wp2
      go_ret
      exact ⟨rfl, hBr⟩

theorem counts_any (p l f n : Int) (w : World) (h0 : 0 ≤ p) (_h : p ≤ 18446744073709551615) (h1 : 0 ≤ l) (h2 : 0 ≤ f) :
    Calls Try.prog 7 #[.agg #[.int .u64 p, .int .u32 l], .int .u64 f, .int .i64 n] w fun e w' => e = .returned (.bool true) ∧ Below w.heap.size w w' := by
  by_cases h : rightB p l = false ∨ 140737488355328 < p ∨ p < f ∨ n < 0 ∨ 5000 < n
  · exact counts_out p l f n w h
  · simp only [not_or, Bool.not_eq_false] at h
    exact counts_in p l f n w h0 h1 (rightB_iff.1 h.1).2 h.2.1 h2 h.2.2.1 h.2.2.2.1 h.2.2.2.2
end Go.Proofs.Ytiknfijaadbmeaa
