/-
  Rows of things of so many cells each, whatever they are. (Of no seat: to be carried.)
-/
import Derived.Test.YtgmgceacdmcmlaaRw
namespace Go.Proofs.Ytgmgceacdmcmlaa
open Go.RowKit

section
variable {α : Type} (vc : α → List Value)
def rowC (L : List α) : List Value := L.flatMap vc
theorem rowC_nil : rowC vc [] = [] := rfl
theorem rowC_one (x : α) : rowC vc [x] = vc x := by simp [rowC]
theorem rowC_cons (x : α) (L : List α) : rowC vc (x :: L) = vc x ++ rowC vc L := by simp [rowC]
theorem rowC_append (L R : List α) : rowC vc (L ++ R) = rowC vc L ++ rowC vc R := by simp [rowC]
theorem rowC_cells (h : ∀ a, ∀ u ∈ vc a, u.oneCell' = true) (L : List α) : ∀ u ∈ rowC vc L, u.oneCell' = true := fun u hu => by
  obtain ⟨a, _, ha⟩ := List.mem_flatMap.1 hu
  exact h a u ha
variable {vc} {sz : Nat}
theorem rowC_length (hsz : ∀ a, (vc a).length = sz) (L : List α) : (rowC vc L).length = L.length * sz := by
  induction L with
  | nil => simp [rowC]
  | cons a L ih => rw [rowC_cons, List.length_append, ih, hsz, List.length_cons, Nat.succ_mul]; omega
theorem rowC_get (hsz : ∀ a, (vc a).length = sz) (d : α) : ∀ (L : List α) (i j : Nat), i < L.length → j < sz → (rowC vc L)[i * sz + j]? = (vc (L.getD i d))[j]?
  | [], _, _, h, _ => absurd h (by simp)
  | a :: r, 0, j, _, hj => by
    rw [rowC_cons, Nat.zero_mul, Nat.zero_add, List.getElem?_append_left (by rw [hsz]; exact hj)]
    rfl
  | a :: r, i + 1, j, h, hj => by
    rw [rowC_cons, List.getElem?_append_right (by rw [hsz, Nat.succ_mul]; omega), hsz, show (i + 1) * sz + j - sz = i * sz + j from by rw [Nat.succ_mul]; omega, rowC_get hsz d r i j (by simpa using h) hj]
    rfl
theorem rowC_take (hsz : ∀ a, (vc a).length = sz) : ∀ (L : List α) (k : Nat), (rowC vc L).take (k * sz) = rowC vc (L.take k)
  | [], k => by simp [rowC]
  | a :: r, 0 => by simp [rowC]
  | a :: r, k + 1 => by
    rw [rowC_cons, List.take_succ_cons, rowC_cons, List.take_append, hsz, List.take_of_length_le (by rw [hsz, Nat.succ_mul]; omega), show (k + 1) * sz - sz = k * sz from by rw [Nat.succ_mul]; omega, rowC_take hsz r k]
theorem rowC_drop (hsz : ∀ a, (vc a).length = sz) : ∀ (L : List α) (k : Nat), (rowC vc L).drop (k * sz) = rowC vc (L.drop k)
  | [], k => by simp [rowC]
  | a :: r, 0 => by simp [rowC]
  | a :: r, k + 1 => by
    rw [rowC_cons, List.drop_succ_cons, List.drop_append, hsz, List.drop_of_length_le (by rw [hsz, Nat.succ_mul]; omega), show (k + 1) * sz - sz = k * sz from by rw [Nat.succ_mul]; omega, rowC_drop hsz r k]
    rfl
/-- The i-th thing's cells. -/
theorem rowC_el (hsz : ∀ a, (vc a).length = sz) (d : α) (h0 : 0 < sz) {B : Nat} {ao : Option Addr} {cap n : Nat} {L : List α} {w : World} (hn : n = L.length) (h : RwAt B sz (.slice ao n cap) n (rowC vc L) w) {i : Nat} (hi : i < n) : ∃ b off, ao = some ⟨b, off, none⟩ ∧ ∀ j u, j < sz → (vc (L.getD i d))[j]? = some u → w.cell? ⟨b, off + i * sz + j, none⟩ = some u := by
  subst hn
  have hlt : i * sz < (rowC vc L).length := by rw [rowC_length hsz]; exact Nat.mul_lt_mul_of_pos_right hi h0
  obtain ⟨b, off, e, _, hc⟩ := RwAt.cellAt h (j := i * sz) hlt
  refine ⟨b, off, e, fun j u hj hu => ?_⟩
  rw [Nat.add_assoc]
  exact hc _ _ (by rw [rowC_get hsz d L i j hi hj]; exact hu)
end
/-- One thing, in a box of its own. -/
theorem row_one {α : Type} (vc : α → List Value) (sz : Nat) (hsz : ∀ a, (vc a).length = sz) (x : α) (ty : TypeId) (w : World) (hc : ∀ j u, (vc x)[j]? = some u → (w.alloc (.cells (vc x).toArray ty)).cell? ⟨w.heap.size, j, none⟩ = some u) : RwAt (w.heap.size + 1) sz (.slice (some ⟨w.heap.size, 0, none⟩) 1 1) 1 (rowC vc [x]) (w.alloc (.cells (vc x).toArray ty)) := by
  rw [rowC_one]
  refine ⟨_, 1, rfl, by rw [hsz, Nat.one_mul], Nat.le_refl _, by omega, fun _ => ⟨w.heap.size, 0, rfl, fun _ => Nat.lt_succ_self _, fun j u hj => ?_⟩⟩
  rw [Nat.zero_add]
  exact hc j u hj
end Go.Proofs.Ytgmgceacdmcmlaa
