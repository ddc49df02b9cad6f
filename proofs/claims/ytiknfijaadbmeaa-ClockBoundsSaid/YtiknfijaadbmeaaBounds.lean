/-
  The walk of the law ClockBounds: at every stamp and list of readings it returns true, and turns no memory that was there.
-/
import Derived.Test.YtiknfijaadbmeaaCounts
namespace Go.Proofs.Ytiknfijaadbmeaa
open Go.RowKit

/-- The stamp (tp, tl) can be shown behind k ticks that began at (p, l). -/
def TInv (p k tp tl : Int) : Prop := 0 ≤ tl ∧ tl ≤ 4095 ∧ p ≤ tp ∧ tp ≤ p + 63 ∧ (tp = p ∨ tl ≤ k)

theorem TInv.tick {p k tp tl y : Int} (h : TInv p k tp tl) (hp : p ≤ 140737488355328) (hk : 0 ≤ k) (hk2 : k < 100) (hy : 0 ≤ y) (hy2 : y ≤ 63) :
    ∃ n0 n1, tickF tp tl (p + y) = (n0, n1, 0) ∧ TInv p (k + 1) n0 n1 ∧ lessB (p + 64) 4095 n0 n1 = false ∧ lessB tp tl n0 n1 = true := by
  obtain ⟨h1, h2, h3, h4, h5⟩ := h
  have hr : rightB tp tl = true := rightB_iff.2 (by omega)
  have e1 : p + y ≤ 281474976710656 := by omega
  unfold tickF
  rw [hr, if_pos rfl, if_pos e1]
  by_cases h6 : tp < p + y
  · rw [if_pos h6]
    exact ⟨_, _, rfl, ⟨by omega, by omega, by omega, by omega, by omega⟩, lessB_not.2 (by omega), lessB_iff.2 (by omega)⟩
  · rw [if_neg h6]
    unfold nextF
    rw [hr, if_pos rfl]
    by_cases h7 : tl < 4095
    · rw [if_pos h7]
      exact ⟨_, _, rfl, ⟨by omega, by omega, by omega, by omega, by omega⟩, lessB_not.2 (by omega), lessB_iff.2 (by omega)⟩
    · rw [if_neg h7, if_pos (by omega)]
      exact ⟨_, _, rfl, ⟨by omega, by omega, by omega, by omega, by omega⟩, lessB_not.2 (by omega), lessB_iff.2 (by omega)⟩

theorem tmod64 (x : Int) (h : 0 ≤ x) : ∃ y, Int.tmod x 64 = y ∧ 0 ≤ y ∧ y ≤ 63 := by
  refine ⟨Int.tmod x 64, rfl, ?_, ?_⟩
  · rw [Int.tmod_eq_emod_of_nonneg h]; omega
  · rw [Int.tmod_eq_emod_of_nonneg h]; omega

set_option maxHeartbeats 400000 in
/-- The ways on which the law asks nothing. -/
theorem bounds_out (p l : Int) (ao : Option Addr) (n cap : Nat) (w : World) (h : rightB p l = false ∨ 140737488355328 < p ∨ 100 < (n : Int)) :
    Calls Try.prog 5 #[.agg #[.int .u64 p, .int .u32 l], .slice ao n cap] w fun e w' => e = .returned (.bool true) ∧ Below w.heap.size w w' := by
  cases hr : rightB p l
  · have HR : Hid (rightB p l = false) := hr
    clear hr h
    go_enter Try.func5, Try.ntmps5
    go_wp2_with fail
    refine (awake8 _).mono ?_
    rintro e w1 ⟨rfl, hb1⟩
    obtain ⟨hc1, hf1⟩ := bcell hb1
    have hz1 : w.heap.size < w1.heap.size := by have := hb1.size; simp at this; omega
    go_wp2_with fail
    refine (right18 _ _ _).mono ?_
    rw [HR.out]
    rintro e w2 ⟨rfl, hb2⟩
    go_wp2
    go_ret
    exact ⟨rfl, (below1 hb1).trans (hb2.mono (by omega))⟩
  · have HR : Hid (rightB p l = true) := hr
    have h' : 140737488355328 < p ∨ (¬ 140737488355328 < p ∧ 100 < (n : Int)) := by
      rcases h with h | h | h
      · rw [hr] at h; cases h
      · omega
      · omega
    clear hr h
    rcases h' with h | ⟨h, h2⟩
    all_goals
      go_enter Try.func5, Try.ntmps5
      go_wp2_with fail
      refine (awake8 _).mono ?_
      rintro e w1 ⟨rfl, hb1⟩
      obtain ⟨hc1, hf1⟩ := bcell hb1
      have hz1 : w.heap.size < w1.heap.size := by have := hb1.size; simp at this; omega
      go_wp2_with fail
      refine (right18 _ _ _).mono ?_
      rw [HR.out]
      rintro e w2 ⟨rfl, hb2⟩
      obtain ⟨hc2, hf2⟩ := bcell hb2
      go_wp2
      go_ret
      exact ⟨rfl, (below1 hb1).trans (hb2.mono (by omega))⟩

set_option maxHeartbeats 2000000 in
theorem bounds_in (p l : Int) (rs : List Int) (ao : Option Addr) (b off cap : Nat) (w : World) (h0 : 0 ≤ p) (h1 : 0 ≤ l) (h2 : l ≤ 4095) (h3 : ¬ 140737488355328 < p) (hn : ¬ 100 < (rs.length : Int))
    (hao : Hid (0 < rs.length → ao = some ⟨b, off, none⟩)) (hcell : Hid (∀ i, i < rs.length → w.cell? ⟨b, off + i, none⟩ = some (.int .u64 (rs.getD i 0)))) (hbd : Hid (∀ i, 0 ≤ rs.getD i 0)) :
    Calls Try.prog 5 #[.agg #[.int .u64 p, .int .u32 l], .slice ao rs.length cap] w fun e w' => e = .returned (.bool true) ∧ Below w.heap.size w w' := by
  have hr : rightB p l = true := rightB_iff.2 (by omega)
  have HR : Hid (rightB p l = true) := hr
  have HBd : Hid (boundF p l = (p + 64, 4095)) := show boundF p l = (p + 64, 4095) by simp [boundF, hr]; omega
  clear hr
  have hd1 : decide (140737488355328 < p) = false := by simp; omega
  generalize hln : rs.length = n at hn hao hcell
  have Hln : Hid (rs.length = n) := hln
  clear hln
  have hd3 : decide (100 < (n : Int)) = false := by simp; omega
  go_enter Try.func5, Try.ntmps5
  go_wp2_with fail
  refine (awake8 _).mono ?_
  rintro e w1 ⟨rfl, hb1⟩
  obtain ⟨hc1, hf1⟩ := bcell hb1
  have hz1 : w.heap.size < w1.heap.size := by have := hb1.size; simp at this; omega
  go_wp2_with fail
  refine (right18 _ _ _).mono ?_
  rw [HR.out]
  rintro e w2 ⟨rfl, hb2⟩
  obtain ⟨hc2, hf2⟩ := bcell hb2
  have hz2 : w.heap.size < w2.heap.size := by have := hb2.size; omega
  have hB : Below w.heap.size w w2 := (below1 hb1).trans (hb2.mono (by omega))
  have e0 : w2.cell? ⟨w.heap.size, 0, none⟩ = some (.int .u64 p) := by rw [hc2 _ _ hz1, hc1 _ _ (by simp)]; simp
  have e1 : w2.cell? ⟨w.heap.size, 1, none⟩ = some (.int .u32 l) := by rw [hc2 _ _ hz1, hc1 _ _ (by simp)]; simp
  clear hc1 hf1 hc2 hf2 hb1 hb2
  go_wp2_with fail
  refine (bound13 _ _ _ h0 h1).mono ?_
  rw [HBd.out]
  rintro e w3 ⟨rfl, hb3⟩
  obtain ⟨hc3, hf3⟩ := bcell hb3
  have hz3 : w.heap.size < w3.heap.size := by have := hb3.size; omega
  have hB3 : Below w.heap.size w w3 := hB.trans (hb3.mono (by omega))
  have d0 : w3.cell? ⟨w.heap.size, 0, none⟩ = some (.int .u64 p) := by rw [hc3 _ _ hz2]; exact e0
  have d1 : w3.cell? ⟨w.heap.size, 1, none⟩ = some (.int .u32 l) := by rw [hc3 _ _ hz2]; exact e1
  clear hc3 hf3 hb3 e0 e1 hB
  go_wp2_with fail
  go_loopw [31] (fun i wr => ∃ (k : Nat) (tp tl : Int), k ≤ n ∧ i = .int .i64 k ∧ TInv p k tp tl ∧ Below w.heap.size w wr ∧ w3.heap.size + 1 < wr.heap.size ∧ wr.cell? ⟨w.heap.size, 0, none⟩ = some (.int .u64 p) ∧ wr.cell? ⟨w.heap.size, 1, none⟩ = some (.int .u32 l) ∧ wr.cell? ⟨w3.heap.size, 0, none⟩ = some (.int .u64 (p + 64)) ∧ wr.cell? ⟨w3.heap.size, 1, none⟩ = some (.int .u32 4095) ∧ wr.cell? ⟨w3.heap.size + 1, 0, none⟩ = some (.int .u64 tp) ∧ wr.cell? ⟨w3.heap.size + 1, 1, none⟩ = some (.int .u32 tl) ∧ wr.frozen? ⟨w3.heap.size + 1, 0, none⟩ = false ∧ wr.frozen? ⟨w3.heap.size + 1, 1, none⟩ = false) (fun i _ => n - (intOf i).toNat)
  case atStart =>
    have hz4 : w.heap.size < w3.heap.size + 1 := by omega
    refine ⟨0, p, l, Nat.zero_le _, rfl, ⟨h1, h2, by omega, by omega, .inl rfl⟩, (hB3.alloc hB3.size _).alloc (by simp; omega) _, by simp, ?_, ?_, ?_, ?_, ?_, ?_, ?_, ?_⟩
    all_goals simp [go_sem, hz3, hz4, d0, d1]
  case round =>
    obtain ⟨k, tp, tl, hk, rfl, hI0, hBr, hzr, r0, r1, s0, s1, x0, x1, f0, f1⟩ := hrel
    have HI : Hid (TInv p k tp tl) := hI0
    clear hI0
    have hzw : w.heap.size < wr.heap.size := by omega
    have hzw3 : w3.heap.size < wr.heap.size := by omega
    by_cases hlt : k < n
    · have hd4 : decide ((k : Int) < n) = true := by simp; omega
      obtain ⟨hI1, hI2, hI3, hI4, -⟩ := HI.out
      obtain rfl := hao.out (by omega)
      have hcl : wr.cell? ⟨b, off + k, none⟩ = some (.int .u64 (rs.getD k 0)) := by
        rw [hBr.cell (World.block_lt_of_cell? _ _ (hcell.out k hlt))]; exact hcell.out k hlt
      obtain ⟨y, hy, hy0, hy1⟩ := tmod64 _ (hbd.out k)
      generalize rs.getD k 0 = z at hcl hy
      obtain ⟨n0, n1, hT0, hI', g1, g2⟩ := HI.out.tick (by omega) (by omega) (by omega) hy0 hy1
      have HT : Hid (tickF tp tl (p + y) = (n0, n1, 0)) := hT0
      have HI' : Hid (TInv p (k + 1) n0 n1) := hI'
      have G1 : Hid (lessB (p + 64) 4095 n0 n1 = false) := g1
      have G2 : Hid (lessB tp tl n0 n1 = true) := g2
      clear hT0 hI' g1 g2
      go_wp2_with fail
      have ht : Calls Try.prog 9 #[.agg #[.int .u64 tp, .int .u32 tl], .int .u64 (p + y)] wr fun e w' => e = .returned (.tuple #[.agg #[.int .u64 n0, .int .u32 n1], .int .i64 0]) ∧ Below wr.heap.size wr w' := by
        have h := tick9 tp tl (p + y) wr (by omega) (by omega) (by omega)
        rw [HT.out] at h
        exact h
      refine ht.mono ?_
      rintro e w4 ⟨rfl, hb4⟩
      obtain ⟨hc4, hf4⟩ := bcell hb4
      have hs4 := hb4.size
      have hz4 : w3.heap.size + 1 < w4.heap.size := by omega
      have hz5 : w3.heap.size < w4.heap.size := by omega
      have hz6 : w.heap.size < w4.heap.size := by omega
      go_wp2_with fail
      refine (less17 _ _ _ _ _).mono ?_
      rw [G1.out]
      rintro e w5 ⟨rfl, hb5⟩
      obtain ⟨hc5, hf5⟩ := bcell hb5
      have hs5 := hb5.size
      simp at hs5
      have hz7 : w3.heap.size + 1 < w5.heap.size := by omega
      have hz8 : w4.heap.size < w5.heap.size := by omega
      have hz9 : w3.heap.size + 1 < w4.heap.size + 1 := by omega
      have hz10 : w3.heap.size < w4.heap.size + 1 := by omega
      have hz11 : w.heap.size < w4.heap.size + 1 := by omega
      go_wp2_with fail
      refine (less17 _ _ _ _ _).mono ?_
      rw [G2.out]
      rintro e w6 ⟨rfl, hb6⟩
      obtain ⟨hc6, hf6⟩ := bcell hb6
      have hs6 := hb6.size
      have hz12 : w3.heap.size + 1 < w6.heap.size := by omega
      have hz13 : w3.heap.size < w5.heap.size := by omega
      have hz14 : w.heap.size < w5.heap.size := by omega
      go_wp2
      go_roundw
      case rel =>
        refine ⟨k + 1, n0, n1, by omega, by go_num, HI'.out, ?_, by simp; omega, ?_, ?_, ?_, ?_, ?_, ?_, ?_, ?_⟩
        · exact (((((hBr.trans (hb4.mono (by omega))).alloc (by omega) _).trans (hb5.mono (by simp; omega))).trans (hb6.mono (by omega))).setCell (by simp; omega) _).setCell (by simp; omega) _
        all_goals simp [go_sem, hc4, hf4, hc5, hf5, hc6, hf6, hz4, hz5, hz6, hz7, hz9, hz10, hz11, hz13, hz14, hzr, hzw, hzw3, r0, r1, s0, s1, x0, x1, f0, f1]
      case measure => simp [intOf]; omega
    · have hd4 : decide ((k : Int) < n) = false := by simp; omega
      go_wp2_with fail
      refine (late15 _ _ _ _ _ h0 (by omega) (by omega)).mono ?_
      rw [show lateB p (p + 64) = false from by simp [lateB, beyB]]
      rintro e w4 ⟨rfl, hb4⟩
      obtain ⟨hc4, hf4⟩ := bcell hb4
      go_wp2_with fail
      refine (late15 _ _ _ _ _ h0 (by omega) (by omega)).mono ?_
      rw [show lateB p (p + 101) = true from by simp [lateB, beyB]]
      rintro e w5 ⟨rfl, hb5⟩
      go_wp2
      go_ret
      exact ⟨rfl, (hBr.trans (hb4.mono (by omega))).trans (hb5.mono (by have := hb4.size; omega))⟩

theorem bounds_any (p l : Int) (rs : List Int) (ao : Option Addr) (b off cap : Nat) (w : World) (h0 : 0 ≤ p) (h1 : 0 ≤ l)
    (hao : 0 < rs.length → ao = some ⟨b, off, none⟩) (hcell : ∀ i, i < rs.length → w.cell? ⟨b, off + i, none⟩ = some (.int .u64 (rs.getD i 0))) (hbd : ∀ i, 0 ≤ rs.getD i 0) :
    Calls Try.prog 5 #[.agg #[.int .u64 p, .int .u32 l], .slice ao rs.length cap] w fun e w' => e = .returned (.bool true) ∧ Below w.heap.size w w' := by
  by_cases h : rightB p l = false ∨ 140737488355328 < p ∨ 100 < (rs.length : Int)
  · exact bounds_out p l ao rs.length cap w h
  · simp only [not_or, Bool.not_eq_false] at h
    exact bounds_in p l rs ao b off cap w h0 h1 (rightB_iff.1 h.1).2 h.2.1 h.2.2 hao hcell hbd
end Go.Proofs.Ytiknfijaadbmeaa
