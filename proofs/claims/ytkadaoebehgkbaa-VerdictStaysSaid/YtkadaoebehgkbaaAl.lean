/-
  slices.SortedFunc, and the program's All; the landed book keeps to what the laws ask.
-/
import Derived.Test.YtkadaoebehgkbaaAp
import Derived.Test.YtkadaoebehgkbaaSr
namespace Go.Proofs.Ytkadaoebehgkbaa
open Go.RowKit Go.Shelf

set_option maxRecDepth 100000 in
set_option maxHeartbeats 800000 in
theorem sorted31 (Bm b : Nat) (m K : Bk) (w : World) (hBm : Bm < w.heap.size) (hm : w.cell? ⟨Bm, 0, none⟩ = some (.map (some b))) (hown : Gv.At kd vdV b m w) (hr : Rl m K) (hl : K.length < 10000) :
    Calls Try.prog 31 #[.func (.func 39) #[] #[.pointer (some ⟨Bm, 0, none⟩)], .func (.func 33) #[] #[]] w fun e w' => ∃ v', e = .returned v' ∧ VsAt w'.heap.size v' K w' ∧ (∀ k, v'.ownBlock = some k → w.heap.size ≤ k) ∧ Below w.heap.size w w' := by
  have hlm : m.length < 10000 := by rw [hr.len]; exact hl
  have CC : Hid (1 = 1 → Calls Try.prog 37 #[.func (.func 39) #[] #[.pointer (some ⟨Bm, 0, none⟩)]] w fun e w' => ∃ ao k cap, e = .returned (.slice ao k cap) ∧ Hid (∃ xs, xs.Perm m ∧ k = xs.length ∧ w'.ownsRow w.heap.size 37 8 (.slice ao k cap) k (rowC vdc xs) ∧ Below w.heap.size w w')) := fun _ => by
    refine (callsIn_wide.1 (collect37 Fence.wide 10 trivial trivial trivial rfl (by omega) Bm b m w hBm hm hown (by omega))).mono ?_
    rintro e w' ⟨v, xs, rfl, h1, h2, h3⟩
    rcases h2.2 with ⟨rfl, h0⟩ | ⟨g, cap, cur, rfl, _⟩
    · exact ⟨none, 0, 0, rfl, xs, h1, h0.symm, by rw [h0] at h2; exact h2, h3⟩
    · exact ⟨_, _, cap, rfl, xs, h1, rfl, h2, h3⟩
  have CS : Hid (∀ ao k cap W, Hid (∃ xs, xs.Perm m ∧ k = xs.length ∧ W.ownsRow w.heap.size 37 8 (.slice ao k cap) k (rowC vdc xs) ∧ Below w.heap.size w W) → Calls Try.prog 38 #[.slice ao k cap, .func (.func 33) #[] #[]] W fun e w' => e = .returned (.tuple #[]) ∧ Hid (VsAt w'.heap.size (.slice ao k cap) K w' ∧ (∀ i, (Value.slice ao k cap).ownBlock = some i → w.heap.size ≤ i) ∧ Below w.heap.size w w')) := fun ao k cap W h => by
    obtain ⟨xs, h1, rfl, h2, h3⟩ := h.out
    have hxl : xs.length = K.length := h1.length_eq.trans hr.len
    rcases h2.2 with ⟨e, h0⟩ | ⟨g, cap', cur, e, hb, _⟩
    · simp only [Value.slice.injEq] at e
      obtain ⟨rfl, _, rfl⟩ := e
      have hx0 : xs = [] := List.eq_nil_of_length_eq_zero h0
      have hK0 : K = [] := List.eq_nil_of_length_eq_zero (by omega)
      subst hx0 hK0
      refine (sort38_nil none 0 W).mono ?_
      rintro e w' ⟨rfl, rfl⟩
      exact ⟨rfl, RwAt.nil _ _ _, fun i hi => by simp [Value.ownBlock] at hi, h3⟩
    · simp only [Value.slice.injEq, true_and] at e
      obtain ⟨rfl, rfl⟩ := e
      refine (sort38 w.heap.size g cap xs W h2 (by omega)).mono ?_
      rintro e w' ⟨rfl, L, p1, p2, p3, p4⟩
      have hLK : L = K := hr.sorted (p1.trans h1) p2
      subst hLK
      refine ⟨rfl, p3, fun i hi => ?_, h3.trans (p4.below h3.size (fun k e => by rw [e]; exact hb))⟩
      have : g = i := by simpa [Value.ownBlock] using hi
      rw [← this]
      exact hb
  clear hown hr hl hlm hm hBm
  go_enter Try.func31, Try.ntmps31
  go_wp2_with fail
  refine (CC.out (by simp)).mono ?_
  rintro e w1 ⟨ao, k, cap, rfl, H1⟩
  clear CC
  go_wp2_with fail
  refine (CS.out _ _ _ _ H1).mono ?_
  rintro e w2 ⟨rfl, H2⟩
  clear CS H1
  go_wp2_with fail
  go_ret
  exact ⟨_, rfl, H2.out⟩

set_option maxRecDepth 100000 in
set_option maxHeartbeats 800000 in
theorem all18 {B p hb : Nat} {m K : Bk} {w : World} (h : Bo B p hb m K w) (hl : K.length < 10000) :
    Calls Try.prog 18 #[.pointer (some ⟨p, 0, none⟩)] w fun e w' => ∃ v', e = .returned v' ∧ VsAt w'.heap.size v' K w' ∧ (∀ k, v'.ownBlock = some k → (k = p ∨ k = hb) ∨ w.heap.size ≤ k) ∧ Below w.heap.size w w' := by
  have c0 := h.cell
  have CV : Hid (1 = 1 → Calls Try.prog 32 #[.map (some hb)] w fun e w' => e = .returned (.func (.func 39) #[] #[.pointer (some ⟨w.heap.size, 0, none⟩)]) ∧ w' = w.alloc (.cells #[.map (some hb)] 55)) := fun _ => callsIn_wide.1 (values32 Fence.wide 10 trivial rfl (some hb) w)
  have CS : Hid (1 = 1 → Calls Try.prog 31 #[.func (.func 39) #[] #[.pointer (some ⟨w.heap.size, 0, none⟩)], .func (.func 33) #[] #[]] (w.alloc (.cells #[.map (some hb)] 55)) fun e w' => ∃ v', e = .returned v' ∧ Hid (VsAt w'.heap.size v' K w' ∧ (∀ k, v'.ownBlock = some k → (k = p ∨ k = hb) ∨ w.heap.size ≤ k) ∧ Below w.heap.size w w')) := fun _ => by
    have hb' : Below w.heap.size w (w.alloc (.cells #[.map (some hb)] 55)) := al _
    refine (sorted31 w.heap.size hb m K _ (by simp) (block_cell (heap_alloc_new w _) rfl) (h.map.on hb') h.rel hl).mono ?_
    rintro e w' ⟨v', rfl, h1, h2, h3⟩
    refine ⟨v', rfl, h1, fun k hk => .inr (Nat.le_trans hb'.size (h2 k hk)), hb'.trans (h3.mono hb'.size)⟩
  clear h hl
  go_enter Try.func18, Try.ntmps18
  go_wp2_with fail
  refine (CV.out (by simp)).mono ?_
  rintro e w1 ⟨rfl, rfl⟩
  clear CV
  go_wp2_with fail
  refine (CS.out (by simp)).mono ?_
  rintro e w2 ⟨v', rfl, H2⟩
  clear CS
  go_wp2_with fail
  go_ret
  exact ⟨_, rfl, H2.out⟩
set_option maxHeartbeats 400000 in
set_option maxRecDepth 100000 in
theorem all18_nil (w : World) : Calls Try.prog 18 #[.pointer none] w fun e w' => ∃ ao cap, e = .returned (.slice ao 0 cap) ∧ Below w.heap.size w w' := by
  go_enter Try.func18, Try.ntmps18
  go_wp2_with fail
  go_ret
  exact ⟨_, _, rfl, Below.refl _ _⟩
end Go.Proofs.Ytkadaoebehgkbaa
