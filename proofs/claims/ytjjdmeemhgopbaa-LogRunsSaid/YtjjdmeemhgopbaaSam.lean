/-
  Contract of the document's Same: are two lists of texts the same?
-/
import Derived.Test.YtjjdmeemhgopbaaHead
namespace Go.Proofs.Ytjjdmeemhgopbaa
open Go.RowKit Go.Sort

theorem getD_ext {A B : List (List UInt8)} (hl : A.length = B.length) (h : ∀ i, i < A.length → A.getD i [] = B.getD i []) : A = B := by
  apply List.ext_getElem hl
  intro i h1 h2
  have := h i h1
  simpa [List.getD, List.getElem?_eq_getElem h1, List.getElem?_eq_getElem h2] using this

set_option maxHeartbeats 1600000 in
theorem same13 (pa pc : Nat) (A B : List (List UInt8)) (va vb : Value) (w : World) (ha : StrsAt pa va A w) (hb : StrsAt pc vb B w) (hA : A.length < 9223372036854775807) :
    Calls Try.prog 13 #[va, vb] w fun e w' => e = .returned (.bool (decide (A = B))) ∧ Below w.heap.size w w' := by
  obtain ⟨ao, ca, rfl, hax⟩ := ha
  obtain ⟨bo, cb, rfl, hbx⟩ := hb
  obtain ⟨r, hr⟩ : ∃ r, decide (A = B) = r := ⟨_, rfl⟩
  rw [hr]
  have HR : Hid _ := hr
  clear hr
  have HA : Hid _ := hax
  have HB : Hid _ := hbx
  clear hax hbx
  by_cases hl : A.length = B.length
  · have hl' : ((A.length : Int) != B.length) = false := by simp [hl]
    have HL : Hid _ := hl
    clear hl
    go_enter Try.func13, Try.ntmps13
    go_wp2_with fail
    go_loopw [5] (fun i wr => ∃ k : Nat, k ≤ A.length ∧ i = .int .i64 k ∧ (∀ j, j < k → A.getD j [] = B.getD j []) ∧ ∃ n, wr = w.drewN n) (fun i _ => A.length - (intOf i).toNat)
    case atStart => exact ⟨0, Nat.zero_le _, rfl, fun j hj => absurd hj (by omega), 0, rfl⟩
    case round =>
      obtain ⟨k, hk, rfl, hall, n, rfl⟩ := hrel
      have HE : Hid (∀ j, j < k → A.getD j [] = B.getD j []) := hall
      clear hall
      by_cases hkl : k < A.length
      · obtain ⟨b1, o1, rfl, hn1, h1, hx1⟩ := HA.out (by omega)
        obtain ⟨b2, o2, rfl, hn2, h2, hx2⟩ := HB.out (by have := HL.out; omega)
        clear hx1 hx2 hn1 hn2
        have c1 := h1 k hkl
        have c2 := h2 k (by have := HL.out; omega)
        clear h1 h2
        have hkb : (k : Int) < B.length := by have := HL.out; omega
        have HK : Hid (A.getD k [] = B.getD k [] → ∀ j, j < k + 1 → A.getD j [] = B.getD j []) := fun h j hj => by
          by_cases hjk : j = k
          · subst hjk; exact h
          · exact HE.out j (by omega)
        have HN : Hid (A.getD k [] ≠ B.getD k [] → r = false) := fun h => by
          rw [← HR.out]
          simp
          intro e
          exact h (by rw [e])
        generalize A.getD k [] = s at c1 HK HN
        generalize B.getD k [] = t at c2 HK HN
        have hkl' : (k : Int) < A.length := by omega
        by_cases hst : s = t
        · have teq : ((bs s).toList == (bs t).toList) = true := beq_bs hst
          have HX : Hid _ := HK.out hst
          clear hst
          go_wp2_with fail
          go_quiet (fail)
          go_wp2
          go_roundw
          case rel => exact ⟨k + 1, by omega, by go_num, HX.out, _, rfl⟩
          case measure => simp [intOf]; omega
        · have teq : ((bs s).toList == (bs t).toList) = false := bne_bs hst
          have HX : Hid _ := HN.out hst
          clear hst
          go_wp2_with fail
          go_quiet (fail)
          go_wp2
          go_ret
          rw [HX.out]
          exact ⟨rfl, below_drewN (below_drewN (Below.refl _ _) _) _⟩
      · have hkl' : ¬ (k : Int) < A.length := by omega
        have HX : Hid (r = true) := by
          show _ = _
          rw [← HR.out]
          exact decide_eq_true (getD_ext HL.out fun i hi => HE.out i (by omega))
        go_wp2
        go_ret
        rw [HX.out]
        exact ⟨rfl, below_drewN (Below.refl _ _) _⟩
  · have hl' : ((A.length : Int) != B.length) = true := by simp; omega
    have HX : Hid (r = false) := by
      show _ = _
      rw [← HR.out]
      exact decide_eq_false fun e => hl (by rw [e])
    clear hl
    go_enter Try.func13, Try.ntmps13
    go_wp2
    go_ret
    rw [HX.out]
    exact ⟨rfl, Below.refl _ _⟩

end Go.Proofs.Ytjjdmeemhgopbaa
