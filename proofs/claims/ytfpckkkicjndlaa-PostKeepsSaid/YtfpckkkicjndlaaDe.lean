/-
  One text taken out of a row of the call's own; a row copied.
-/
import Derived.Test.YtfpckkkicjndlaaShp
import Derived.Test.YtfpckkkicjndlaaPl2
import Derived.Lib.OwnBridge
namespace Go.Proofs.Ytfpckkkicjndlaa
open Go.RowKit Go.Sort

theorem rowC_enc (K : Kq) : rowC txc K = K.map encStr := by
  induction K with
  | nil => rfl
  | cons a r ih => rw [rowC_cons, ih]; rfl
theorem erase_take (K : Kq) (i : Nat) (hi : i < K.length) : (K.take i ++ K.drop (i + 1) ++ List.replicate (i + 1 - i) []).take (K.length - 1) = K.eraseIdx i := by
  rw [erase_parts, List.take_append_of_le_length (by simp; omega), List.take_of_length_le (by simp; omega)]
theorem putRow_kept {w : World} {q g : Nat} {d : Array (List UInt8)} : Kept (fun k => k = g) w (putRow encStr (Sort.ahead w q) g 0 d) :=
  ⟨rfl, rfl, rfl, by simp [putRow, mapBlock, Sort.ahead], fun k _ hk => by simp [putRow, mapBlock, Sort.ahead, Array.getElem?_modify, Ne.symm hk]⟩
theorem del18 {base g cap i : Nat} {K : Kq} {w : World} (h : w.ownsRow base 9 1 (.slice (some ⟨g, 0, none⟩) K.length cap) K.length (rowC txc K)) (hi : i < K.length) :
    Calls Try.prog 18 #[.slice (some ⟨g, 0, none⟩) K.length cap, .int .i64 i, .int .i64 ((i : Int) + 1)] w fun e w' => e = .returned (.slice (some ⟨g, 0, none⟩) (K.length - 1) cap) ∧ w'.ownsRow base 9 1 (.slice (some ⟨g, 0, none⟩) (K.length - 1) cap) (K.eraseIdx i).length (rowC txc (K.eraseIdx i)) ∧ Kept (fun k => k = g) w w' := by
  rw [rowC_enc] at h
  obtain ⟨g', cap', e, -, -, hnc, hcm, -, hH⟩ := Go.Lib.holds_of_ownsRow h (by simp)
  simp only [Value.slice.injEq, Option.some.injEq, Addr.mk.injEq, and_true, true_and] at e
  obtain ⟨rfl, rfl⟩ := e
  have hc := Try.slices_Delete_string g 0 cap i (i + 1) K w hH hnc (by unfold maxLen at hcm; omega) (by omega) (by omega)
  have e1 : K.length - (i + 1 - i) = K.length - 1 := by omega
  rw [e1] at hc
  refine hc.mono ?_
  rintro e w' ⟨rfl, q, rfl⟩
  refine ⟨rfl, ?_, putRow_kept⟩
  have := Go.Lib.ownsRow_putRow (q := q) (k := K.length - 1) (ys := K.take i ++ K.drop (i + 1) ++ List.replicate (i + 1 - i) []) h (by simp; omega) (by omega)
  rw [erase_take K i hi] at this
  rw [rowC_enc, show (K.eraseIdx i).length = K.length - 1 from by rw [List.length_eraseIdx, if_pos hi]]
  exact this
theorem clone20 {base : Nat} {v : Value} {K : Kq} {w : World} (h : w.ownsRow base 9 1 v K.length (rowC txc K)) (hl : K.length ≤ 200) :
    Calls Try.prog 20 #[v] w fun e w' => ∃ v', e = .returned v' ∧ w'.ownsRow w.heap.size 9 1 v' K.length (rowC txc K) ∧ Below w.heap.size w w' := by
  have hr := rw_own h
  rcases h.2 with ⟨rfl, h0⟩ | ⟨g, cap, cur, rfl, -⟩
  · have : K = [] := List.eq_nil_of_length_eq_zero h0
    subst this
    refine (Try.slices_Clone_string_nil 0 0 w).mono ?_
    rintro e w' ⟨rfl, rfl⟩
    exact ⟨_, rfl, World.ownsRow_nil _ _ _ _, Below.refl _ _⟩
  · have hc := Try.slices_Clone_string g 0 K.length cap (K.map bs) w (by simp) (by omega) (fun j hj => by
      have hj' : j < K.length := by simpa using hj
      obtain ⟨b, off, e, hc⟩ := KsAt.el (L := K) hr hj'
      simp only [Option.some.injEq, Addr.mk.injEq, and_true] at e
      obtain ⟨rfl, rfl⟩ := e
      rw [hc]
      simp [List.getD, hj'])
    refine hc.mono ?_
    rintro e w' ⟨v', rfl, ho, -, hb⟩
    refine ⟨v', rfl, ?_, hb⟩
    rw [rowC_enc]
    rw [List.take_of_length_le (by simp), List.map_map] at ho
    exact ho
end Go.Proofs.Ytfpckkkicjndlaa
