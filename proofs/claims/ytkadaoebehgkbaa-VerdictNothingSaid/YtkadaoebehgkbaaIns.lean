/-
  The landed book keeps to what the laws ask of a book.
-/
import Derived.Test.YtkadaoebehgkbaaAl
namespace Go.Proofs.Ytkadaoebehgkbaa
open Go.RowKit

theorem mono_M {p hb : Nat} {M : Nat → Prop} {w w' : World} {X : (Nat → Prop) → Prop} (hM : ∀ k, M k ↔ k = p ∨ k = hb) (h : ∃ M', X M' ∧ Kept (fun k => k = p ∨ k = hb) w w' ∧ ∀ i, M' i → (i = p ∨ i = hb) ∨ w.heap.size ≤ i) : ∃ M', X M' ∧ Kept M w w' ∧ ∀ i, M' i → M i ∨ w.heap.size ≤ i := by
  obtain ⟨M', h1, h2, h3⟩ := h
  refine ⟨M', h1, ⟨h2.os, h2.tape, h2.output, h2.size, fun k hk hn => h2.block k hk (fun e => hn ((hM k).2 e))⟩, fun i hi => ?_⟩
  rcases h3 i hi with e | e
  · exact .inl ((hM i).2 e)
  · exact .inr e
theorem bookIfv : Ifv BoAt := {
  lt := fun h k hk => h.lt k hk
  keep := fun h hk hM => h.keep hk hM
  ok := fun h => by obtain ⟨_, _, h, _⟩ := h; exact h.rel.srt
  new := new8
  set := fun v h _ _ => by
    obtain ⟨hb, m, h, hM⟩ := h
    refine (set9 v h).mono ?_
    rintro e w' ⟨he, hx⟩
    exact ⟨he, mono_M hM hx⟩
  done := fun c n h _ _ => by
    obtain ⟨hb, m, h, hM⟩ := h
    refine (done11 c n h).mono ?_
    rintro e w' ⟨he, hx⟩
    exact ⟨he, mono_M hM hx⟩
  retire := fun sp sl L v h hl _ _ hz hv _ => by
    obtain ⟨hb, m, h, hM⟩ := h
    refine (retire13 sp sl L v h hl hz hv).mono ?_
    rintro e w' ⟨he, hx⟩
    exact ⟨he, mono_M hM hx⟩
  of := fun c n h _ _ => by
    obtain ⟨hb, m, h, hM⟩ := h
    exact of15 c n h
  all := fun h hl => by
    obtain ⟨hb, m, h, hM⟩ := h
    refine (all18 h hl).mono ?_
    rintro e w' ⟨v', rfl, h1, h2, h3⟩
    refine ⟨v', rfl, h1, fun k hk => ?_, h3⟩
    rcases h2 k hk with e | e
    · exact .inl ((hM k).2 e)
    · exact .inr e
  set0 := fun v w _ => set9_nil v w
  done0 := fun c n w _ => done11_nil c n w
  retire0 := fun sp sl _ v w _ _ _ _ => retire13_nil sp sl v w
  of0 := fun c n w _ => of15_nil c n w
  all0 := all18_nil }
end Go.Proofs.Ytkadaoebehgkbaa
