/-
  The greater of two stamps.
-/
import Derived.Test.YtknfkpnicjellaaAmg
namespace Go.Proofs.Ytknfkpnicjellaa
open Go.RowKit

theorem three_boxes (w : World) (a b c : Obj) : ((((w.alloc a).alloc b).alloc c).heap[w.heap.size]? = some a) ∧ ((((w.alloc a).alloc b).alloc c).heap[w.heap.size + 1]? = some b) ∧ ((((w.alloc a).alloc b).alloc c).heap[w.heap.size + 2]? = some c) ∧ Below w.heap.size w (((w.alloc a).alloc b).alloc c) := by
  have h1 : Below (w.alloc a).heap.size (w.alloc a) ((w.alloc a).alloc b) := al _
  have h2 : Below ((w.alloc a).alloc b).heap.size ((w.alloc a).alloc b) (((w.alloc a).alloc b).alloc c) := al _
  have s1 : (w.alloc a).heap.size = w.heap.size + 1 := by simp
  have s2 : ((w.alloc a).alloc b).heap.size = w.heap.size + 2 := by simp
  refine ⟨?_, ?_, ?_, ?_⟩
  · rw [h2.block _ (by omega), h1.block _ (by omega)]; exact heap_alloc_new w a
  · rw [h2.block _ (by omega), ← s1]; exact heap_alloc_new (w.alloc a) b
  · rw [← s2]; exact heap_alloc_new _ c
  · exact ((al a).trans (h1.mono (by omega))).trans (h2.mono (by omega))

set_option maxHeartbeats 800000 in
set_option maxRecDepth 100000 in
theorem max36 (p l q m : Int) (w : World) :
    Calls Try.prog 40 #[.agg #[.int .u64 p, .int .u32 l], .agg #[.int .u64 q, .int .u32 m]] w fun e w' => e = .returned (.agg #[.int .u64 (if lessB p l q m then q else p), .int .u32 (if lessB p l q m then m else l)]) ∧ Below w.heap.size w w' := by
  have CL : Hid (∀ W : World, 1 = 1 → Calls Try.prog 45 #[.agg #[.int .u64 p, .int .u32 l], .agg #[.int .u64 q, .int .u32 m]] W fun e w' => e = .returned (.bool (lessB p l q m)) ∧ Below W.heap.size W w') := fun W _ => lessR p l q m W
  generalize lessB p l q m = z at *
  go_enter Try.func40, Try.ntmps40
  go_wp2_with fail
  obtain ⟨W0, hW0⟩ : ∃ W0, (((w.alloc (.cells #[.int .u64 p, .int .u32 l] 35)).alloc (.cells #[.int .u64 q, .int .u32 m] 35)).alloc (.cells #[.int .u64 0, .int .u32 0] 35)) = W0 := ⟨_, rfl⟩
  have HB0 : Hid (W0.heap[w.heap.size]? = some (.cells #[.int .u64 p, .int .u32 l] 35 (0, 0)) ∧ W0.heap[w.heap.size + 1]? = some (.cells #[.int .u64 q, .int .u32 m] 35 (0, 0)) ∧ W0.heap[w.heap.size + 2]? = some (.cells #[.int .u64 0, .int .u32 0] 35 (0, 0)) ∧ Below w.heap.size w W0) := by
    rw [← hW0]
    exact three_boxes w _ _ _
  rw [hW0]
  clear hW0
  refine (CL.out _ (by trivial)).mono ?_
  rintro e w1 ⟨rfl, hb⟩
  have HB1 : Hid (w1.heap[w.heap.size]? = some (.cells #[.int .u64 p, .int .u32 l] 35 (0, 0)) ∧ w1.heap[w.heap.size + 1]? = some (.cells #[.int .u64 q, .int .u32 m] 35 (0, 0)) ∧ w1.heap[w.heap.size + 2]? = some (.cells #[.int .u64 0, .int .u32 0] 35 (0, 0)) ∧ Below w.heap.size w w1) := by
    obtain ⟨h1, h2, h3, h4⟩ := HB0.out
    exact ⟨by rw [hb.block _ (Array.getElem?_eq_some_iff.1 h1).1]; exact h1, by rw [hb.block _ (Array.getElem?_eq_some_iff.1 h2).1]; exact h2, by rw [hb.block _ (Array.getElem?_eq_some_iff.1 h3).1]; exact h3, h4.trans (hb.mono h4.size)⟩
  clear hb CL HB0
  obtain ⟨h1, h2, h3, h4⟩ := HB1.out
  have a0 : w1.cell? ⟨w.heap.size, 0, none⟩ = some (.int .u64 p) := block_cell h1 rfl
  have a1 : w1.cell? ⟨w.heap.size, 1, none⟩ = some (.int .u32 l) := block_cell h1 rfl
  have b0 : w1.cell? ⟨w.heap.size + 1, 0, none⟩ = some (.int .u64 q) := block_cell h2 rfl
  have b1 : w1.cell? ⟨w.heap.size + 1, 1, none⟩ = some (.int .u32 m) := block_cell h2 rfl
  have c0 : w1.cell? ⟨w.heap.size + 2, 0, none⟩ = some (.int .u64 0) := block_cell h3 rfl
  have c1 : w1.cell? ⟨w.heap.size + 2, 1, none⟩ = some (.int .u32 0) := block_cell h3 rfl
  have f0 := block_frozen h3 0
  have f1 := block_frozen h3 1
  clear h1 h2 h3 h4
  have HW : Hid (∀ yp yl, (((w1.setCell ⟨w.heap.size + 2, 0, none⟩ (.int .u64 yp)).setCell ⟨w.heap.size + 2, 1, none⟩ (.int .u32 yl)).heap[w.heap.size + 2]? = some (.cells #[.int .u64 yp, .int .u32 yl] 35 (0, 0))) ∧ Below w.heap.size w ((w1.setCell ⟨w.heap.size + 2, 0, none⟩ (.int .u64 yp)).setCell ⟨w.heap.size + 2, 1, none⟩ (.int .u32 yl))) := fun yp yl => ⟨block_set _ (block_set _ HB1.out.2.2.1), (HB1.out.2.2.2.setCell (p := ⟨w.heap.size + 2, 0, none⟩) (Nat.le_add_right _ _) _).setCell (p := ⟨w.heap.size + 2, 1, none⟩) (Nat.le_add_right _ _) _⟩
  cases z
  · have d0 := block_cell (j := 0) (HW.out p l).1 rfl
    have d1 := block_cell (j := 1) (HW.out p l).1 rfl
    go_wp2_with fail
    refine bodyPost_ret (v := .agg #[.int .u64 p, .int .u32 l]) (by simp [results, Try.results40, go_sem, d0, d1]) rfl ?_
    exact ⟨rfl, (HW.out p l).2⟩
  · have d0 := block_cell (j := 0) (HW.out q m).1 rfl
    have d1 := block_cell (j := 1) (HW.out q m).1 rfl
    go_wp2_with fail
    refine bodyPost_ret (v := .agg #[.int .u64 q, .int .u32 m]) (by simp [results, Try.results40, go_sem, d0, d1]) rfl ?_
    exact ⟨rfl, (HW.out q m).2⟩
end Go.Proofs.Ytknfkpnicjellaa
