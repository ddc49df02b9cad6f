/-
  The contract of stamp.Max: of the stamps of a slice it returns the greatest, the zero stamp of none, and turns no memory that was there.
-/
import Derived.Test.YtgmgceacdmcmlaaBs
namespace Go.Proofs.Ytgmgceacdmcmlaa
open Go.RowKit

/-- The greatest of a list, from a first one on. -/
def maxL (xs : List (Int × Int)) : Int × Int := xs.foldl (fun m t => maxF m.1 m.2 t.1 t.2) (0, 0)
theorem maxL_snoc (xs : List (Int × Int)) (t : Int × Int) : maxL (xs ++ [t]) = maxF (maxL xs).1 (maxL xs).2 t.1 t.2 := by simp [maxL]

set_option maxHeartbeats 400000 in
theorem max14_nil (w : World) : Calls Try.prog 14 #[.slice none 0 0] w fun e w' => e = .returned (.agg #[.int .u64 0, .int .u32 0]) ∧ Below w.heap.size w w' := by
  go_enter Try.func14, Try.ntmps14
  go_wp2
  go_loop [8] (fun i => i = .int .i64 0) (fun _ => 0)
  case atStart => rfl
  case round =>
    subst hrel
    go_wp2
    exact bodyPost_ret (v := .agg #[.int .u64 0, .int .u32 0]) (by simp [results, Try.results14, go_sem]) rfl ⟨rfl, ((Below.refl _ _).alloc (Nat.le_refl _) _).alloc (by simp) _⟩

set_option maxHeartbeats 400000 in
theorem max14_row (bk : Nat) (w : World) (hbk : bk < w.heap.size) (n : Nat) (xs : List (Int × Int)) (hn : xs.length = n) (hn2 : n ≤ 1000)
   (hc : ∀ i : Nat, i < n → w.cell? ⟨bk, i * 2, none⟩ = some (.int .u64 (xs[i]?.getD (0, 0)).1) ∧ w.cell? ⟨bk, i * 2 + 1, none⟩ = some (.int .u32 (xs[i]?.getD (0, 0)).2)) :
    Calls Try.prog 14 #[.slice (some ⟨bk, 0, none⟩) n n] w fun e w' => e = .returned (.agg #[.int .u64 (maxL xs).1, .int .u32 (maxL xs).2]) ∧ Below w.heap.size w w' := by
  go_enter Try.func14, Try.ntmps14
  go_wp2
  go_loopw [8] (fun i wr => ∃ k : Nat, k ≤ n ∧ i = .int .i64 k ∧ Below w.heap.size w wr ∧ w.heap.size + 1 < wr.heap.size ∧ wr.frozen? ⟨w.heap.size, 0, none⟩ = false ∧ wr.frozen? ⟨w.heap.size, 1, none⟩ = false ∧ wr.cell? ⟨w.heap.size, 0, none⟩ = some (.int .u64 0) ∧ wr.cell? ⟨w.heap.size, 1, none⟩ = some (.int .u32 0)
     ∧ wr.frozen? ⟨w.heap.size + 1, 0, none⟩ = false ∧ wr.frozen? ⟨w.heap.size + 1, 1, none⟩ = false ∧ wr.cell? ⟨w.heap.size + 1, 0, none⟩ = some (.int .u64 (maxL (xs.take k)).1) ∧ wr.cell? ⟨w.heap.size + 1, 1, none⟩ = some (.int .u32 (maxL (xs.take k)).2)) (fun i _ => n - (intOf i).toNat)
  case atStart =>
    exact ⟨0, Nat.zero_le _, rfl, ((Below.refl _ _).alloc (Nat.le_refl _) _).alloc (by simp) _, by simp, by simp [go_sem], by simp [go_sem], by simp [go_sem], by simp [go_sem], by simp [go_sem], by simp [go_sem], by simp [go_sem, maxL], by simp [go_sem, maxL]⟩
  case round =>
    obtain ⟨k, hk, rfl, hBr, hzr, f0, f1, r0, r1, f2, f3, m0, m1⟩ := hrel
    by_cases hlt : k < n
    · have hd4 : decide ((k : Int) < n) = true := by simp; omega
      have e0 : wr.cell? ⟨bk, k * 2, none⟩ = some (.int .u64 (xs[k]?.getD (0, 0)).1) := by rw [hBr.cell hbk]; exact (hc k hlt).1
      have e1 : wr.cell? ⟨bk, k * 2 + 1, none⟩ = some (.int .u32 (xs[k]?.getD (0, 0)).2) := by rw [hBr.cell hbk]; exact (hc k hlt).2
      have HX : Hid (maxL (xs.take (k + 1)) = maxF (maxL (xs.take k)).1 (maxL (xs.take k)).2 xs[k].1 xs[k].2) := by
        rw [List.take_succ_eq_append_getElem (by omega)]; exact maxL_snoc _ _
      cases hl : lessB (maxL (xs.take k)).1 (maxL (xs.take k)).2 xs[k].1 xs[k].2
      · have HL : Hid (lessB (maxL (xs.take k)).1 (maxL (xs.take k)).2 xs[k].1 xs[k].2 = false) := hl
        have hm : maxL (xs.take (k + 1)) = maxL (xs.take k) := by rw [HX.out]; simp [maxF, hl]
        have HM : Hid (maxL (xs.take (k + 1)) = maxL (xs.take k)) := hm
        clear hl hm
        go_wp2_with fail
        refine (less17 _ _ _ _ _).mono ?_
        rw [HL.out]
        rintro e w3 ⟨rfl, hb3⟩
        obtain ⟨hc3, hf3⟩ := bcell hb3
        have hz3 : w.heap.size + 1 < w3.heap.size := by have := hb3.size; simp at this; omega
        have hz4 : w.heap.size < wr.heap.size := by omega
        go_wp2
        go_roundw
        case rel =>
          refine ⟨k + 1, by omega, by go_num, ?_, hz3, ?_, ?_, ?_, ?_, ?_, ?_, ?_, ?_⟩
          · exact (hBr.alloc hBr.size _).trans (hb3.mono (by simp; omega))
          all_goals try rw [HM.out]
          all_goals simp [go_sem, hc3, hf3, Nat.lt_succ_of_lt hz4, Nat.lt_succ_of_lt hzr, hz4, hzr, f0, f1, f2, f3, r0, r1, m0, m1]
        case measure => simp [intOf]; omega
      · have HL : Hid (lessB (maxL (xs.take k)).1 (maxL (xs.take k)).2 xs[k].1 xs[k].2 = true) := hl
        have hm : maxL (xs.take (k + 1)) = xs[k] := by rw [HX.out]; simp [maxF, hl]
        have HM : Hid (maxL (xs.take (k + 1)) = xs[k]) := hm
        clear hl hm
        go_wp2_with fail
        refine (less17 _ _ _ _ _).mono ?_
        rw [HL.out]
        rintro e w3 ⟨rfl, hb3⟩
        obtain ⟨hc3, hf3⟩ := bcell hb3
        have hz3 : w.heap.size + 1 < w3.heap.size := by have := hb3.size; simp at this; omega
        have hz4 : w.heap.size < wr.heap.size := by omega
        go_wp2
        go_roundw
        case rel =>
          refine ⟨k + 1, by omega, by go_num, ?_, by simpa using hz3, ?_, ?_, ?_, ?_, ?_, ?_, ?_, ?_⟩
          · exact (((hBr.alloc hBr.size _).trans (hb3.mono (by simp; omega))).setCell (by simp) _).setCell (by simp) _
          all_goals try rw [HM.out]
          all_goals simp [go_sem, hc3, hf3, Nat.lt_succ_of_lt hz4, Nat.lt_succ_of_lt hzr, hz4, hzr, f0, f1, f2, f3, r0, r1, m0, m1]
        case measure => simp [intOf]; omega
    · have hd4 : decide ((k : Int) < n) = false := by simp; omega
      have hkm : xs.take k = xs := List.take_of_length_le (by omega)
      rw [hkm] at m0 m1
      go_wp2
      refine bodyPost_ret (v := .agg #[.int .u64 (maxL xs).1, .int .u32 (maxL xs).2]) (by simp [results, Try.results14, go_sem, r0, r1]) rfl ⟨rfl, ?_⟩
      exact (hBr.setCell (by simp) _).setCell (by simp) _
end Go.Proofs.Ytgmgceacdmcmlaa
