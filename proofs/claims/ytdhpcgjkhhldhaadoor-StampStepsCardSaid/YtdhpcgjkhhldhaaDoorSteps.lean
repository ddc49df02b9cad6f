/-
  The walk of the law StampSteps: at every stamp and every count it returns true, and turns no memory that was there.
-/
import Derived.Test.YtdhpcgjkhhldhaaDoorAwake
namespace Go.Proofs.YtdhpcgjkhhldhaaDoor
open Go.RowKit

def stP (p l k : Int) : Int := p + (l + k) / 4096
def stL (l k : Int) : Int := (l + k) % 4096
theorem st_next (p l k : Int) (h0 : 0 ≤ p) (h1 : 0 ≤ l) (h2 : l ≤ 4095) (h3 : p ≤ 140737488355328) (hk : 0 ≤ k) (hk2 : k < 9000) :
    nextF (stP p l k) (stL l k) = (stP p l (k + 1), stL l (k + 1), 0) := by
  have hr : rightB (stP p l k) (stL l k) = true := rightB_iff.2 (by unfold stP stL; omega)
  unfold nextF
  rw [hr]
  by_cases h : stL l k < 4095
  · have h' := h
    unfold stL at h'
    simp only [h, if_pos]
    refine Prod.ext ?_ (Prod.ext ?_ rfl)
    · show stP p l k = stP p l (k + 1); unfold stP; omega
    · show stL l k + 1 = stL l (k + 1); unfold stL; omega
  · have hp : stP p l k < 281474976710656 := by unfold stP; omega
    have h' := h
    unfold stL at h'
    simp only [if_true, h, hp, if_false]
    refine Prod.ext ?_ (Prod.ext ?_ rfl)
    · show stP p l k + 1 = stP p l (k + 1); unfold stP; omega
    · show 0 = stL l (k + 1); unfold stL; omega

theorem below1 {w w1 : World} {o1 : Obj} (hb : Below (w.alloc o1).heap.size (w.alloc o1) w1) : Below w.heap.size w w1 :=
  ((Below.refl _ _).alloc (Nat.le_refl _) _).trans (hb.mono (by simp))

set_option maxHeartbeats 400000 in
/-- The ways on which the law asks nothing. -/
theorem steps_out (p l n : Int) (w : World) (h : rightB p l = false ∨ 140737488355328 < p ∨ n < 0 ∨ 9000 < n) :
    Calls Tryd.prog 5 #[.agg #[.int .u64 p, .int .u32 l], .int .i64 n] w fun e w' => e = .returned (.bool true) ∧ Below w.heap.size w w' := by
  cases hr : rightB p l
  · have HR : Hid (rightB p l = false) := hr
    clear hr h
    go_enter Tryd.func5, Tryd.ntmps5
    go_wp2_with fail
    refine (awake7 _).mono ?_
    rintro e w1 ⟨rfl, hb1⟩
    obtain ⟨hc1, hf1⟩ := bcell hb1
    have hz1 : w.heap.size < w1.heap.size := by have := hb1.size; simp at this; omega
    go_wp2_with fail
    refine (right10 _ _ _).mono ?_
    rw [HR.out]
    rintro e w2 ⟨rfl, hb2⟩
    go_wp2
    go_ret
    exact ⟨rfl, (below1 hb1).trans (hb2.mono (by omega))⟩
  · have HR : Hid (rightB p l = true) := hr
    have h' : 140737488355328 < p ∨ (¬ 140737488355328 < p ∧ n < 0) ∨ (¬ 140737488355328 < p ∧ ¬ n < 0 ∧ 9000 < n) := by
      rcases h with h | h | h | h
      · rw [hr] at h; cases h
      · omega
      · omega
      · omega
    clear hr h
    rcases h' with h | ⟨h, h2⟩ | ⟨h, h2, h3⟩
    all_goals
      go_enter Tryd.func5, Tryd.ntmps5
      go_wp2_with fail
      refine (awake7 _).mono ?_
      rintro e w1 ⟨rfl, hb1⟩
      obtain ⟨hc1, hf1⟩ := bcell hb1
      have hz1 : w.heap.size < w1.heap.size := by have := hb1.size; simp at this; omega
      go_wp2_with fail
      refine (right10 _ _ _).mono ?_
      rw [HR.out]
      rintro e w2 ⟨rfl, hb2⟩
      obtain ⟨hc2, hf2⟩ := bcell hb2
      go_wp2
      go_ret
      exact ⟨rfl, (below1 hb1).trans (hb2.mono (by omega))⟩

theorem next_st (p l k : Int) (w : World) (h0 : 0 ≤ p) (h1 : 0 ≤ l) (h2 : l ≤ 4095) (h3 : p ≤ 140737488355328) (hk : 0 ≤ k) (hk2 : k < 9000) :
    Calls Tryd.prog 8 #[.agg #[.int .u64 (stP p l k), .int .u32 (stL l k)]] w fun e w' => e = .returned (.tuple #[.agg #[.int .u64 (stP p l (k + 1)), .int .u32 (stL l (k + 1))], .int .i64 0]) ∧ Below w.heap.size w w' := by
  have h := next8 (stP p l k) (stL l k) w (by unfold stP; omega) (by unfold stL; omega)
  rw [st_next p l k h0 h1 h2 h3 hk hk2] at h
  exact h

set_option maxHeartbeats 1000000 in
theorem steps_in (p l n : Int) (w : World) (h0 : 0 ≤ p) (h1 : 0 ≤ l) (h2 : l ≤ 4095) (h3 : ¬ 140737488355328 < p) (hn0 : ¬ n < 0) (hn1 : ¬ 9000 < n) :
    Calls Tryd.prog 5 #[.agg #[.int .u64 p, .int .u32 l], .int .i64 n] w fun e w' => e = .returned (.bool true) ∧ Below w.heap.size w w' := by
  have hr : rightB p l = true := rightB_iff.2 (by omega)
  have HR : Hid (rightB p l = true) := hr
  clear hr
  obtain ⟨m, rfl⟩ := Int.eq_ofNat_of_zero_le (show 0 ≤ n by omega)
  have hd1 : decide (140737488355328 < p) = false := by simp; omega
  have hd2 : decide ((m : Int) < 0) = false := by simp
  have hd3 : decide (9000 < (m : Int)) = false := by simp; omega
  go_enter Tryd.func5, Tryd.ntmps5
  go_wp2_with fail
  refine (awake7 _).mono ?_
  rintro e w1 ⟨rfl, hb1⟩
  obtain ⟨hc1, hf1⟩ := bcell hb1
  have hz1 : w.heap.size < w1.heap.size := by have := hb1.size; simp at this; omega
  go_wp2_with fail
  refine (right10 _ _ _).mono ?_
  rw [HR.out]
  rintro e w2 ⟨rfl, hb2⟩
  obtain ⟨hc2, hf2⟩ := bcell hb2
  have hz2 : w.heap.size < w2.heap.size := by have := hb2.size; omega
  have hB : Below w.heap.size w w2 := (below1 hb1).trans (hb2.mono (by omega))
  have e0 : w2.cell? ⟨w.heap.size, 0, none⟩ = some (.int .u64 p) := by rw [hc2 _ _ hz1, hc1 _ _ (by simp)]; simp
  have e1 : w2.cell? ⟨w.heap.size, 1, none⟩ = some (.int .u32 l) := by rw [hc2 _ _ hz1, hc1 _ _ (by simp)]; simp
  clear hc1 hf1 hc2 hf2 hb1 hb2
  go_wp2_with fail
  go_loopw [29] (fun i wr => ∃ k : Nat, k ≤ m ∧ i = .int .i64 k ∧ Below w.heap.size w wr ∧ w2.heap.size < wr.heap.size ∧ wr.cell? ⟨w.heap.size, 0, none⟩ = some (.int .u64 p) ∧ wr.cell? ⟨w.heap.size, 1, none⟩ = some (.int .u32 l) ∧ wr.cell? ⟨w2.heap.size, 0, none⟩ = some (.int .u64 (stP p l k)) ∧ wr.cell? ⟨w2.heap.size, 1, none⟩ = some (.int .u32 (stL l k)) ∧ wr.frozen? ⟨w2.heap.size, 0, none⟩ = false ∧ wr.frozen? ⟨w2.heap.size, 1, none⟩ = false) (fun i _ => m - (intOf i).toNat)
  case atStart =>
    refine ⟨0, Nat.zero_le _, rfl, hB.alloc hB.size _, by simp, ?_, ?_, ?_, ?_, by simp, by simp⟩
    · rw [World.cell?_alloc_past _ _ _ hz2]; exact e0
    · rw [World.cell?_alloc_past _ _ _ hz2]; exact e1
    · simp [go_sem, stP]; omega
    · simp [go_sem, stL]; omega
  case round =>
    obtain ⟨k, hk, rfl, hBr, hzr, r0, r1, x0, x1, f0, f1⟩ := hrel
    by_cases hlt : k < m
    · have hd4 : decide ((k : Int) < m) = true := by simp; omega
      go_wp2_with fail
      refine (next_st p l k _ h0 h1 h2 h3 (by omega) (by omega)).mono ?_
      rintro e w3 ⟨rfl, hb3⟩
      obtain ⟨hc3, hf3⟩ := bcell hb3
      have hz3 : w2.heap.size < w3.heap.size := by have := hb3.size; omega
      have hz4 : w.heap.size < wr.heap.size := by omega
      go_wp2
      go_roundw
      case rel =>
        have hz5 : w.heap.size < w3.heap.size := by omega
        refine ⟨k + 1, by omega, by go_num, ?_, by simp; omega, ?_, ?_, ?_, ?_, ?_, ?_⟩
        · exact (((hBr.trans (hb3.mono (by omega))).setCell (by simp; omega) _).setCell (by simp; omega) _).alloc (by simp; omega) _
        all_goals simp [go_sem, hc3, hf3, hz3, hz4, hz5, hzr, r0, r1, x0, x1, f0, f1]
      case measure => simp [intOf]; omega
    · have hd4 : decide ((k : Int) < m) = false := by simp; omega
      have hkm : k = m := by omega
      subst hkm
      go_wp2
      go_ret
      exact ⟨rfl, hBr⟩
end Go.Proofs.YtdhpcgjkhhldhaaDoor
