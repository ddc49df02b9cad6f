/-
  A text's bytes in a row of their own, one of them set, and back as a text.
-/
import Derived.Test.YtncjcipbkeljdaaWake
import Derived.Laws.IdiomStrings
namespace Go.Proofs.Ytncjcipbkeljdaa
open Go.RowKit Go.Sort

/-- The row in block g has the bytes l (and what may lie behind them). -/
structure ByAt (g : Nat) (l : List UInt8) (w : World) : Prop where
  row : ∃ cs fz, w.heap[g]? = some (.cells cs 5 fz) ∧ ∀ j, j < l.length → cs[j]? = some (.int .u8 (l.getD j 0).toNat)
  free : ∀ j, j < l.length → w.frozen? ⟨g, j, none⟩ = false

theorem ByAt.cell {g : Nat} {l : List UInt8} {w : World} (h : ByAt g l w) {j : Nat} (hj : j < l.length) : w.cell? ⟨g, j, none⟩ = some (.int .u8 (l.getD j 0).toNat) := by
  obtain ⟨cs, fz, hg, hc⟩ := h.row
  simp [World.cell?, hg, hc j hj]

theorem ByAt.lt {g : Nat} {l : List UInt8} {w : World} (h : ByAt g l w) : g < w.heap.size := by
  obtain ⟨cs, fz, hg, _⟩ := h.row
  exact lt_of_block hg

theorem ByAt.drewN {g : Nat} {l : List UInt8} {w : World} (h : ByAt g l w) (n : Nat) : ByAt g l (w.drewN n) := ⟨h.row, h.free⟩
theorem ByAt.drew {g : Nat} {l : List UInt8} {w : World} (h : ByAt g l w) : ByAt g l w.drew := ⟨h.row, h.free⟩

theorem ByAt.set {g : Nat} {l : List UInt8} {w : World} (h : ByAt g l w) {i : Nat} (hi : i < l.length) (d : UInt8) (X : Int) (hX : X = (d.toNat : Int)) : ByAt g (l.set i d) (w.setCell ⟨g, i, none⟩ (.int .u8 X)) := by
  subst hX
  obtain ⟨cs, fz, hg, hc⟩ := h.row
  refine ⟨⟨cs.setIfInBounds i (.int .u8 d.toNat), fz, ?_, ?_⟩, ?_⟩
  · simp [World.setCell, Array.getElem?_modify, hg]
  · intro j hj
    rw [List.length_set] at hj
    have hjc := hc j hj
    have hjs : j < cs.size := (Array.getElem?_eq_some_iff.1 hjc).1
    by_cases hij : i = j
    · subst hij
      rw [Array.getElem?_setIfInBounds_self_of_lt hjs]
      simp [List.getD, hi]
    · rw [Array.getElem?_setIfInBounds_ne hij, hjc]
      simp [List.getD, hij]
  · intro j hj
    rw [List.length_set] at hj
    rw [World.frozen?_setCell]
    exact h.free j hj

theorem ByAt.text {g : Nat} {l : List UInt8} {w : World} (h : ByAt g l w) (cap : Nat) : (convert 42 9 (.slice (some ⟨g, 0, none⟩) l.length cap)).run Try.prog w = .ok (.string (bs l)) w := by
  refine run_convert_bytes_back w 42 9 5 ⟨g, 0, none⟩ cap l Try.underlying42 Try.underlying5 Try.underlying9 ?_
  intro j hj
  have := h.cell hj
  rw [show (⟨g, 0, none⟩ : Addr).add j = ⟨g, j, none⟩ by simp [Addr.add_lit], this]
  simp [List.getD, hj]

theorem bytes_of (l : List UInt8) (w : World) : ∃ cap W, (convert 9 42 (.string (bs l))).run Try.prog w = .ok (.slice (some ⟨w.heap.size, 0, none⟩) l.length cap) W ∧ ByAt w.heap.size l W ∧ Below w.heap.size w W := by
  have h := run_bytes_of_string (P := Try.prog) w 9 42 5 (bs l) Try.underlying9 Try.underlying42 Try.underlying5
  rw [bs_size] at h
  refine ⟨_, _, h, ⟨⟨_, _, heap_alloc_new w.drew _, ?_⟩, ?_⟩, (((Below.refl _ _).drew).alloc (Nat.le_refl _) _)⟩
  · intro j hj
    simp [bytesRow, bs, Array.getElem?_append, List.getD, hj]
  · intro j hj
    have hn : (w.drew.alloc (.cells (bytesRow (bs l) (grownCap w l.length 0 5)) 5 ((bytesRow (bs l) (grownCap w l.length 0 5)).size, (bytesRow (bs l) (grownCap w l.length 0 5)).size + 1))).heap[w.heap.size]? = _ := heap_alloc_new w.drew _
    unfold World.frozen?
    rw [hn]
    have hsz : l.length ≤ (bytesRow (bs l) (grownCap w l.length 0 5)).size := by simp [bytesRow, bs]
    simp
    omega

theorem xor_ne {c d : UInt8} (h : d ≠ 0) : c ^^^ d ≠ c := by
  intro e
  apply h
  have := congrArg (fun z => c ^^^ z) e
  simpa [← UInt8.xor_assoc] using this

end Go.Proofs.Ytncjcipbkeljdaa
