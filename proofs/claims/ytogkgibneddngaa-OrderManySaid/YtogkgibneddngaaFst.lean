/-
  Contract of first: the node of the lowest key.
-/
import Derived.Test.YtogkgibneddngaaNode
namespace Go.Proofs.Ytogkgibneddngaa
open Go.RowKit

set_option maxHeartbeats 800000 in
theorem first26 {b : Nat} {l r : Tr} {k : List UInt8} {v : Int} {x : Nat} {w : World} (h : TrAt nl (.node b l k v x r) w) :
    Calls Try.prog 26 #[.pointer (some ⟨b, 0, none⟩)] w fun e w' => ∃ c q u y m s, e = .returned (.pointer (some ⟨c, 0, none⟩)) ∧ w' = w ∧ w.heap[c]? = some (.cells (nl.cells q u y m s) nl.ty (0, 0)) ∧ c ∈ (Tr.node b l k v x r).blocks ∧ ∃ R, (Tr.node b l k v x r).toL = (q, u) :: R := by
  obtain ⟨szAt, szAt_eq⟩ := szAt_ex
  have HSz : Hid (∀ {w : World} {s : Tr}, TrAt nl s w → szAt w s.ptr = s.size) := szAt_eq
  clear szAt_eq
  have HT : Hid (TrAt nl (.node b l k v x r) w) := h
  have HB : Hid (TrAt nl (.node b l k v x r) w → ∃ c m q u y s, (Value.pointer (some ⟨b, 0, none⟩) : Value) = .pointer (some ⟨c, 0, none⟩) ∧ TrAt nl (.node c m q u y s) w ∧ (∀ i ∈ (Tr.node c m q u y s).blocks, i ∈ (Tr.node b l k v x r).blocks) ∧ ∃ R, (Tr.node b l k v x r).toL = (Tr.node c m q u y s).toL ++ R) := fun h => ⟨b, l, k, v, x, r, rfl, h, fun _ hi => hi, [], by simp⟩
  clear h
  generalize Tr.node b l k v x r = t at *
  go_enter Try.func26, Try.ntmps26
  go_wp2_with fail
  go_loopw [0] (fun n wr => wr = w ∧ ∃ c m q u y s, n = .pointer (some ⟨c, 0, none⟩) ∧ TrAt nl (.node c m q u y s) w ∧ (∀ i ∈ (Tr.node c m q u y s).blocks, i ∈ t.blocks) ∧ ∃ R, t.toL = (Tr.node c m q u y s).toL ++ R) (fun n _ => szAt w n)
  case atStart => exact ⟨rfl, HB.out HT.out⟩
  case round =>
    obtain ⟨rfl, c, m, q, u, y, s, rfl, hc, hbl, R, hR⟩ := hrel
    cases m using Tr.cas with
    | nil =>
      obtain ⟨-, -, c2, -, -⟩ := nd_cells hc.1
      have HR : Hid (wr.heap[c]? = some (.cells (nl.cells q u y (Tr.ptr .nil) s.ptr) nl.ty (0, 0)) ∧ c ∈ t.blocks ∧ ∃ R, t.toL = (q, u) :: R) := ⟨hc.1, hbl c (by simp [Tr.blocks]), s.toL ++ R, by rw [hR]; simp [Tr.toL]⟩
      simp only [Tr.ptr] at c2
      clear hc hbl hR HB HT
      go_wp2_with fail
      go_ret
      exact ⟨c, q, u, y, _, _, rfl, rfl, HR.out⟩
    | node c' m' q' u' y' s' =>
      obtain ⟨-, -, c2, -, -⟩ := nd_cells hc.1
      have HR : Hid (∃ c m q u y s, (Value.pointer (some ⟨c', 0, none⟩) : Value) = .pointer (some ⟨c, 0, none⟩) ∧ TrAt nl (.node c m q u y s) wr ∧ (∀ i ∈ (Tr.node c m q u y s).blocks, i ∈ t.blocks) ∧ ∃ R, t.toL = (Tr.node c m q u y s).toL ++ R) :=
        ⟨c', m', q', u', y', s', rfl, hc.2.1, fun i hi => hbl i (by simp only [Tr.blocks, List.mem_cons, List.mem_append] at hi ⊢; exact .inr (.inl hi)), (q, u) :: s.toL ++ R, by rw [hR]; simp [Tr.toL]⟩
      have HM : Hid (szAt wr (.pointer (some ⟨c', 0, none⟩)) < szAt wr (.pointer (some ⟨c, 0, none⟩))) := by
        have e1 := HSz.out hc.2.1
        have e2 := HSz.out hc
        simp only [Tr.ptr] at e1 e2
        show _ < _
        rw [e1, e2]
        simp only [Tr.size]
        omega
      simp only [Tr.ptr] at c2
      clear hc hbl hR HB HT
      go_wp2_with fail
      go_roundw
      case rel => exact ⟨trivial, HR.out⟩
      case measure => exact HM.out
end Go.Proofs.Ytogkgibneddngaa
