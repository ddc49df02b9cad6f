/-
  The document's bare: an entry with just the fields of its kind.
-/
import Derived.Test.YtmgjlpgjjeknpaaEe
namespace Go.Proofs.Ytmgjlpgjjeknpaa
open Go.RowKit

/-- An entry's box, written cell by cell. -/
theorem bx13 {W : World} {b : Nat} {a0 a1 a2 a3 a4 a5 a6 a7 a8 a9 a10 a11 a12 : Value} (v0 v1 v2 v3 v4 v5 v6 v7 v8 v9 v10 v11 v12 : Value) (h0 : W.heap[b]? = some (.cells #[a0, a1, a2, a3, a4, a5, a6, a7, a8, a9, a10, a11, a12] 30 (0, 0))) : (((((((((((((W.setCell ⟨b, 0, none⟩ (v0)).setCell ⟨b, 1, none⟩ (v1)).setCell ⟨b, 2, none⟩ (v2)).setCell ⟨b, 3, none⟩ (v3)).setCell ⟨b, 4, none⟩ (v4)).setCell ⟨b, 5, none⟩ (v5)).setCell ⟨b, 6, none⟩ (v6)).setCell ⟨b, 7, none⟩ (v7)).setCell ⟨b, 8, none⟩ (v8)).setCell ⟨b, 9, none⟩ (v9)).setCell ⟨b, 10, none⟩ (v10)).setCell ⟨b, 11, none⟩ (v11)).setCell ⟨b, 12, none⟩ (v12)).heap[b]? = some (.cells #[v0, v1, v2, v3, v4, v5, v6, v7, v8, v9, v10, v11, v12] 30 (0, 0)) := by
  have h1 : (W.setCell ⟨b, 0, none⟩ v0).heap[b]? = some (.cells #[v0, a1, a2, a3, a4, a5, a6, a7, a8, a9, a10, a11, a12] 30 (0, 0)) := block_set _ h0
  generalize W.setCell ⟨b, 0, none⟩ v0 = W1 at *
  have h2 : (W1.setCell ⟨b, 1, none⟩ v1).heap[b]? = some (.cells #[v0, v1, a2, a3, a4, a5, a6, a7, a8, a9, a10, a11, a12] 30 (0, 0)) := block_set _ h1
  generalize W1.setCell ⟨b, 1, none⟩ v1 = W2 at *
  have h3 : (W2.setCell ⟨b, 2, none⟩ v2).heap[b]? = some (.cells #[v0, v1, v2, a3, a4, a5, a6, a7, a8, a9, a10, a11, a12] 30 (0, 0)) := block_set _ h2
  generalize W2.setCell ⟨b, 2, none⟩ v2 = W3 at *
  have h4 : (W3.setCell ⟨b, 3, none⟩ v3).heap[b]? = some (.cells #[v0, v1, v2, v3, a4, a5, a6, a7, a8, a9, a10, a11, a12] 30 (0, 0)) := block_set _ h3
  generalize W3.setCell ⟨b, 3, none⟩ v3 = W4 at *
  have h5 : (W4.setCell ⟨b, 4, none⟩ v4).heap[b]? = some (.cells #[v0, v1, v2, v3, v4, a5, a6, a7, a8, a9, a10, a11, a12] 30 (0, 0)) := block_set _ h4
  generalize W4.setCell ⟨b, 4, none⟩ v4 = W5 at *
  have h6 : (W5.setCell ⟨b, 5, none⟩ v5).heap[b]? = some (.cells #[v0, v1, v2, v3, v4, v5, a6, a7, a8, a9, a10, a11, a12] 30 (0, 0)) := block_set _ h5
  generalize W5.setCell ⟨b, 5, none⟩ v5 = W6 at *
  have h7 : (W6.setCell ⟨b, 6, none⟩ v6).heap[b]? = some (.cells #[v0, v1, v2, v3, v4, v5, v6, a7, a8, a9, a10, a11, a12] 30 (0, 0)) := block_set _ h6
  generalize W6.setCell ⟨b, 6, none⟩ v6 = W7 at *
  have h8 : (W7.setCell ⟨b, 7, none⟩ v7).heap[b]? = some (.cells #[v0, v1, v2, v3, v4, v5, v6, v7, a8, a9, a10, a11, a12] 30 (0, 0)) := block_set _ h7
  generalize W7.setCell ⟨b, 7, none⟩ v7 = W8 at *
  have h9 : (W8.setCell ⟨b, 8, none⟩ v8).heap[b]? = some (.cells #[v0, v1, v2, v3, v4, v5, v6, v7, v8, a9, a10, a11, a12] 30 (0, 0)) := block_set _ h8
  generalize W8.setCell ⟨b, 8, none⟩ v8 = W9 at *
  have h10 : (W9.setCell ⟨b, 9, none⟩ v9).heap[b]? = some (.cells #[v0, v1, v2, v3, v4, v5, v6, v7, v8, v9, a10, a11, a12] 30 (0, 0)) := block_set _ h9
  generalize W9.setCell ⟨b, 9, none⟩ v9 = W10 at *
  have h11 : (W10.setCell ⟨b, 10, none⟩ v10).heap[b]? = some (.cells #[v0, v1, v2, v3, v4, v5, v6, v7, v8, v9, v10, a11, a12] 30 (0, 0)) := block_set _ h10
  generalize W10.setCell ⟨b, 10, none⟩ v10 = W11 at *
  have h12 : (W11.setCell ⟨b, 11, none⟩ v11).heap[b]? = some (.cells #[v0, v1, v2, v3, v4, v5, v6, v7, v8, v9, v10, v11, a12] 30 (0, 0)) := block_set _ h11
  generalize W11.setCell ⟨b, 11, none⟩ v11 = W12 at *
  have h13 : (W12.setCell ⟨b, 12, none⟩ v12).heap[b]? = some (.cells #[v0, v1, v2, v3, v4, v5, v6, v7, v8, v9, v10, v11, v12] 30 (0, 0)) := block_set _ h12
  exact h13
theorem bx13_below {B b : Nat} {w W : World} (v0 v1 v2 v3 v4 v5 v6 v7 v8 v9 v10 v11 v12 : Value) (h : Below B w W) (hb : B ≤ b) : Below B w (((((((((((((W.setCell ⟨b, 0, none⟩ (v0)).setCell ⟨b, 1, none⟩ (v1)).setCell ⟨b, 2, none⟩ (v2)).setCell ⟨b, 3, none⟩ (v3)).setCell ⟨b, 4, none⟩ (v4)).setCell ⟨b, 5, none⟩ (v5)).setCell ⟨b, 6, none⟩ (v6)).setCell ⟨b, 7, none⟩ (v7)).setCell ⟨b, 8, none⟩ (v8)).setCell ⟨b, 9, none⟩ (v9)).setCell ⟨b, 10, none⟩ (v10)).setCell ⟨b, 11, none⟩ (v11)).setCell ⟨b, 12, none⟩ (v12)) := (((((((((((((h.setCell (p := ⟨b, 0, none⟩) hb _).setCell (p := ⟨b, 1, none⟩) hb _).setCell (p := ⟨b, 2, none⟩) hb _).setCell (p := ⟨b, 3, none⟩) hb _).setCell (p := ⟨b, 4, none⟩) hb _).setCell (p := ⟨b, 5, none⟩) hb _).setCell (p := ⟨b, 6, none⟩) hb _).setCell (p := ⟨b, 7, none⟩) hb _).setCell (p := ⟨b, 8, none⟩) hb _).setCell (p := ⟨b, 9, none⟩) hb _).setCell (p := ⟨b, 10, none⟩) hb _).setCell (p := ⟨b, 11, none⟩) hb _).setCell (p := ⟨b, 12, none⟩) hb _)
/-- Its writes' slice. -/
def bareS (k : Int) (v : Value) : Value := if hasWs k then v else .slice none 0 0
/-- bare's three boxes: the entry, the answer, what is made of it. -/
structure Bz (w : World) (b1 b2 b3 : Nat) (vs cs : Array Value) (W : World) : Prop where
  bel : Below w.heap.size w W
  x1 : W.heap[b1]? = some (.cells vs 30 (0, 0))
  x2 : W.heap[b2]? = some (.cells #[.int .i64 0, .int .u32 0, .int .u32 0, .int .u64 0, .int .u32 0, .int .u64 0, .int .u32 0, .int .u64 0, .int .u32 0, .string ⟨#[]⟩, .int .u8 0, .bool false, .slice none 0 0] 30 (0, 0))
  x3 : W.heap[b3]? = some (.cells cs 30 (0, 0))
  n1 : b1 ≠ b3
  n2 : b2 ≠ b3
  l2 : w.heap.size ≤ b2
  l3 : w.heap.size ≤ b3
theorem Bz.st {w W : World} {b1 b2 b3 : Nat} {vs cs : Array Value} (h : Bz w b1 b2 b3 vs cs W) (j : Nat) (v : Value) : Bz w b1 b2 b3 vs (cs.setIfInBounds j v) (W.setCell ⟨b3, j, none⟩ v) := by
  have hk := set_kept' W b3 j v
  exact ⟨h.bel.setCell (p := ⟨b3, j, none⟩) h.l3 _, by rw [hk.block b1 (Array.getElem?_eq_some_iff.1 h.x1).1 h.n1]; exact h.x1, by rw [hk.block b2 (Array.getElem?_eq_some_iff.1 h.x2).1 h.n2]; exact h.x2, block_set _ h.x3, h.n1, h.n2, h.l2, h.l3⟩
theorem bz_new {w : World} (vs cs : Array Value) : Bz w w.heap.size (w.heap.size + 1) (w.heap.size + 1 + 1) vs cs (((w.alloc (.cells vs 30)).alloc (.cells #[.int .i64 0, .int .u32 0, .int .u32 0, .int .u64 0, .int .u32 0, .int .u64 0, .int .u32 0, .int .u64 0, .int .u32 0, .string ⟨#[]⟩, .int .u8 0, .bool false, .slice none 0 0] 30)).alloc (.cells cs 30)) := by
  have k1 : (w.alloc (.cells vs 30)).heap[w.heap.size]? = some (.cells vs 30 (0, 0)) := heap_alloc_new w _
  generalize hW1 : w.alloc (.cells vs 30) = W1 at *
  have s1 : W1.heap.size = w.heap.size + 1 := by rw [← hW1]; simp
  have k2 : (W1.alloc (.cells #[.int .i64 0, .int .u32 0, .int .u32 0, .int .u64 0, .int .u32 0, .int .u64 0, .int .u32 0, .int .u64 0, .int .u32 0, .string ⟨#[]⟩, .int .u8 0, .bool false, .slice none 0 0] 30)).heap[w.heap.size + 1]? = some (.cells #[.int .i64 0, .int .u32 0, .int .u32 0, .int .u64 0, .int .u32 0, .int .u64 0, .int .u32 0, .int .u64 0, .int .u32 0, .string ⟨#[]⟩, .int .u8 0, .bool false, .slice none 0 0] 30 (0, 0)) := by rw [← s1]; exact heap_alloc_new W1 _
  have k12 : (W1.alloc (.cells #[.int .i64 0, .int .u32 0, .int .u32 0, .int .u64 0, .int .u32 0, .int .u64 0, .int .u32 0, .int .u64 0, .int .u32 0, .string ⟨#[]⟩, .int .u8 0, .bool false, .slice none 0 0] 30)).heap[w.heap.size]? = some (.cells vs 30 (0, 0)) := by rw [(al (W := W1) _).block _ (Array.getElem?_eq_some_iff.1 k1).1]; exact k1
  have b1 : Below w.heap.size w W1 := by rw [← hW1]; exact al _
  generalize hW2 : W1.alloc (.cells #[.int .i64 0, .int .u32 0, .int .u32 0, .int .u64 0, .int .u32 0, .int .u64 0, .int .u32 0, .int .u64 0, .int .u32 0, .string ⟨#[]⟩, .int .u8 0, .bool false, .slice none 0 0] 30) = W2 at *
  have s2 : W2.heap.size = w.heap.size + 1 + 1 := by rw [← hW2, size_al, s1]
  have b2 : Below w.heap.size w W2 := by rw [← hW2]; exact b1.alloc b1.size _
  refine ⟨b2.alloc b2.size _, ?_, ?_, ?_, by omega, by omega, by omega, by omega⟩
  · rw [(al (W := W2) _).block _ (Array.getElem?_eq_some_iff.1 k12).1]; exact k12
  · rw [(al (W := W2) _).block _ (Array.getElem?_eq_some_iff.1 k2).1]; exact k2
  · rw [← s2]; exact heap_alloc_new W2 _
end Go.Proofs.Ytmgjlpgjjeknpaa
