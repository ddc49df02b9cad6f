/-
  What the laws ask of the program's place.
-/
import Derived.Test.YtdiellljplcjfaaSn
namespace Go.Proofs.Ytdiellljplcjfaa
open Go.RowKit Go.Sort

theorem placeIfq : Ifq where
  p := {
    wk := fun key w _ => (walk10 key w).mono fun _ _ h => ⟨h.1, by rw [h.2]; exact Below.refl _ _⟩
    sh := fun key n w _ _ _ => (shard11 key n w).mono fun _ _ h => ⟨h.1, by rw [h.2]; exact Below.refl _ _⟩
    nd := fun s n w _ _ _ _ => (node13 s n w).mono fun _ _ h => ⟨h.1, by rw [h.2]; exact Below.refl _ _⟩ }
  sp := fun l ao cp n w hl _ _ _ hws => split15 l ao cp n w hl hws
  pa := fun l ao cp n w hl _ _ _ hws => parts17 l ao cp n w hl hws
end Go.Proofs.Ytdiellljplcjfaa
