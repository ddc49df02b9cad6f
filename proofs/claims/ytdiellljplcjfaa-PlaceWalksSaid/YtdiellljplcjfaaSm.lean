/-
  Rows of writes in one block of slices, each appended to in its place.
-/
import Derived.Test.YtdiellljplcjfaaPs
import Derived.Deep.RegionLaw
namespace Go.Proofs.Ytdiellljplcjfaa
open Go.RowKit Go.Sort

/-- A block g of slices, each of a row of its own. -/
structure Sm (B g : Nat) (vs : List Value) (L : List (List Wr)) (W : World) : Prop where
  len : vs.length = L.length
  x : W.heap[g]? = some (.cells vs.toArray 36 (0, 0))
  gB : B ≤ g
  ins : ∀ i, i < L.length → W.ownsRow B 40 3 (vs.getD i nv) (L.getD i []).length (rowC wrc (L.getD i []))
  ag : ∀ i, i < L.length → (vs.getD i nv).ownBlock ≠ some g
  ap : ∀ i j, i < L.length → j < L.length → i ≠ j → ∀ k, (vs.getD i nv).ownBlock = some k → (vs.getD j nv).ownBlock ≠ some k
variable {B g : Nat} {vs : List Value} {L : List (List Wr)} {W W' : World}
theorem Sm.on (h : Sm B g vs L W) (hb : Below W.heap.size W W') : Sm B g vs L W' :=
  ⟨h.len, by rw [hb.block g (Array.getElem?_eq_some_iff.1 h.x).1]; exact h.x, h.gB, fun i hi => own_on (h.ins i hi) hb, h.ag, h.ap⟩
theorem Sm.cell (h : Sm B g vs L W) {i : Nat} (hi : i < L.length) : W.cell? ⟨g, i, none⟩ = some (vs.getD i nv) :=
  block_cell h.x (by have := h.len; simp [List.getD, show i < vs.length by omega])
theorem Sm.ss (h : Sm B g vs L W) (hl : L.length ≤ 1000) : SsAt (.slice (some ⟨g, 0, none⟩) L.length L.length) L W := by
  refine ⟨vs, h.len, ⟨some ⟨g, 0, none⟩, L.length, rfl, by rw [h.len, Nat.mul_one], Nat.le_refl _, by omega, fun _ => ⟨g, 0, rfl, fun _ => (Array.getElem?_eq_some_iff.1 h.x).1, fun j u hj => ?_⟩⟩, fun i hi => rw_own (h.ins i hi)⟩
  rw [Nat.zero_add]
  exact block_cell h.x (by simpa using hj)
theorem getD_set {vs : List Value} {i j : Nat} {u : Value} (h : i < vs.length) : (vs.set i u).getD j nv = if j = i then u else vs.getD j nv := by
  by_cases hj : j = i
  · subst hj; simp [List.getD, h]
  · rw [if_neg hj]; simp [List.getD, Ne.symm hj]
theorem getL_set {L : List (List Wr)} {i j : Nat} {u : List Wr} (h : i < L.length) : (L.set i u).getD j [] = if j = i then u else L.getD j [] := by
  by_cases hj : j = i
  · subst hj; simp [List.getD, h]
  · rw [if_neg hj]; simp [List.getD, Ne.symm hj]
/-- One more write behind row i: grown, and its slice stored again. -/
theorem Sm.push (h : Sm B g vs L W) (x : Wr) {i : Nat} (hi : i < L.length) {v' : Value} (hown : W'.ownsRow B 40 3 v' ((L.getD i []).length + 1) (rowC wrc (L.getD i []) ++ rowC wrc [x])) (hg : W.grownBy W' (vs.getD i nv).ownBlock) (hat : v'.ownBlock = (vs.getD i nv).ownBlock ∨ v'.ownBlock = some W.heap.size) :
    W'.heap[g]? = some (.cells vs.toArray 36 (0, 0)) ∧ Sm B g (vs.set i v') (L.set i (L.getD i [] ++ [x])) (W'.setCell ⟨g, i, none⟩ v') := by
  have hk := grown_kept hg
  have hl := h.len
  have hgl := (Array.getElem?_eq_some_iff.1 h.x).1
  have hx : W'.heap[g]? = some (.cells vs.toArray 36 (0, 0)) := by rw [hk.block g hgl (h.ag i hi)]; exact h.x
  have hv'g : v'.ownBlock ≠ some g := by
    rcases hat with e | e
    · rw [e]; exact h.ag i hi
    · rw [e]; intro e2; injection e2 with e2; omega
  have hks := set_kept' W' g i v'
  have hlen : (L.set i (L.getD i [] ++ [x])).length = L.length := List.length_set
  refine ⟨hx, ⟨by rw [List.length_set, hlen, hl], ?_, h.gB, fun j hj => ?_, fun j hj => ?_, fun a b ha hb hab k => ?_⟩⟩
  · have := block_set (j := i) v' hx
    simpa using this
  · rw [hlen] at hj
    rw [getD_set (by omega), getL_set hi]
    by_cases hji : j = i
    · rw [if_pos hji, if_pos hji, rowC_append, List.length_append]
      exact own_kept hown hks (fun k h1 h2 => hv'g (by rw [← h2]; exact h1))
    · rw [if_neg hji, if_neg hji]
      exact own_kept (own_kept (h.ins j hj) hk (fun k h1 h2 => h.ap j i hj hi hji k h1 h2)) hks (fun k h1 h2 => h.ag j hj (by rw [← h2]; exact h1))
  · rw [hlen] at hj
    rw [getD_set (by omega)]
    by_cases hji : j = i
    · rw [if_pos hji]; exact hv'g
    · rw [if_neg hji]; exact h.ag j hj
  · rw [hlen] at ha hb
    rw [getD_set (by omega), getD_set (by omega)]
    have key : ∀ j, j < L.length → j ≠ i → ∀ k, (vs.getD j nv).ownBlock = some k → v'.ownBlock ≠ some k := fun j hj hji k h1 h2 => by
      rcases hat with e | e
      · rw [e] at h2
        exact h.ap j i hj hi hji k h1 h2
      · rw [e] at h2
        injection h2 with h2
        have := World.ownsRow.lt (h.ins j hj) k h1
        omega
    by_cases hai : a = i
    · rw [if_pos hai]
      have hbi : b ≠ i := fun e => hab (by rw [hai, e])
      rw [if_neg hbi]
      exact fun h1 h2 => key b hb hbi k h2 h1
    · rw [if_neg hai]
      by_cases hbi : b = i
      · rw [if_pos hbi]
        exact fun h1 => key a ha hai k h1
      · rw [if_neg hbi]
        exact h.ap a b ha hb hab k
end Go.Proofs.Ytdiellljplcjfaa
