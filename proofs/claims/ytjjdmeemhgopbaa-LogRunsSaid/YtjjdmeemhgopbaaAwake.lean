/-
  Contract of awake: it answers true, and turns no memory that was there.
-/
import Derived.Test.YtjjdmeemhgopbaaMethods
namespace Go.Proofs.Ytjjdmeemhgopbaa
open Go.RowKit

theorem ownsRow_of_blocks {w w' : World} {base : Nat} {v : Value} {n : Nat} {xs : List Value} (h : w.ownsRow base 5 1 v n xs) (hb : ∀ (g : Nat) (cs : Array Value), w.heap[g]? = some (Obj.cells cs 5 (0, 0)) → w'.heap[g]? = some (Obj.cells cs 5 (0, 0))) : w'.ownsRow base 5 1 v n xs := by
  refine ⟨h.1, ?_⟩
  rcases h.2 with h2 | ⟨g, cap, cur, hv, hg, hh, r⟩
  · exact .inl h2
  · exact .inr ⟨g, cap, cur, hv, hg, hb g cur hh, r⟩

theorem WrAt.sole {pb rb : Nat} {l : List UInt8} {st : St} {w w' : World} (h : WrAt pb l w) (hr : RdAt 144 rb st w) (hs : Sole rb w w') : WrAt pb l w' := by
  obtain ⟨v, hv, hown⟩ := h
  refine ⟨v, ?_, ownsRow_of_blocks hown ?_⟩
  · rw [hs.block pb (lt_of_block hv) (by rintro rfl; unfold RdAt at hr; rw [hv] at hr; simp at hr), hv]
  · intro g cs hg
    rw [hs.block g (lt_of_block hg) (by rintro rfl; unfold RdAt at hr; rw [hg] at hr; simp at hr), hg]

theorem WrAt.on {pb : Nat} {l : List UInt8} {w w' : World} (h : WrAt pb l w) (hb : Below w.heap.size w w') : WrAt pb l w' := by
  obtain ⟨v, hv, hown⟩ := h
  refine ⟨v, ?_, ownsRow_of_blocks hown ?_⟩
  · rw [hb.block pb (lt_of_block hv), hv]
  · intro g cs hg
    rw [hb.block g (lt_of_block hg), hg]

theorem RdAt.lt {T rb : Nat} {st : St} {w : World} (h : RdAt T rb st w) : rb < w.heap.size := lt_of_block h
theorem RdAt.on {T rb : Nat} {st : St} {w w' : World} (h : RdAt T rb st w) (hb : Below w.heap.size w w') : RdAt T rb st w' := by
  unfold RdAt
  rw [hb.block rb h.lt]
  exact h

/-- A new Writer. -/
theorem wr_new (w : World) : WrAt w.heap.size [] (w.alloc (.cells #[.slice none 0 0] 119)) := ⟨_, heap_alloc_new w _, World.ownsRow_nil _ _ _ _⟩

theorem form256 : numForm 256 = [249, 1, 0] := by
  simp [numForm, nb_pos, nb_zero, dg_pos, dg_zero]
theorem form2 : numForm 2 = [2] := by simp [numForm]

theorem awake_num : rdNum 300 ⟨[249, 1, 0, 2, 97, 98], 0⟩ = (256, ⟨[2, 97, 98], 0⟩) := by
  simp [rdNum, rdFirst, vl, sz, nb_pos, nb_zero]
theorem awake_text : rdText 1 5 ⟨[2, 97, 98], 0⟩ = ([97, 98], ⟨[], 0⟩) := by
  simp [rdText, rdNum, rdFirst]

end Go.Proofs.Ytjjdmeemhgopbaa
