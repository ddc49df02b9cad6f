/-
  The walk of PackSizes: at all numbers it answers true, and turns no memory that was there.
-/
import Derived.Test.YtgkbefeiknfjcabAwake
namespace Go.Proofs.Ytgkbefeiknfjcab
open Go.RowKit

set_option maxHeartbeats 400000 in
theorem size5 (n : Nat) (w : World) (hn : n < 18446744073709551616) :
    Calls Try.prog 5 #[.int .u64 n] w fun e w' => e = .returned (.int .i64 (sz n)) ∧ Below w.heap.size w w' := by
  have hl := numForm_length n
  have hbl := bs_size (numForm n)
  go_enter Try.func5, Try.ntmps5
  go_wp2_with fail
  refine (num10 w.heap.size [] n _ hn (wr_new w) (by simp)).mono ?_
  rintro e w1 ⟨rfl, h1, k1⟩
  rw [List.nil_append] at h1
  have H1 : Hid (WrAt w.heap.size (numForm n) w1 ∧ Below w.heap.size w w1) := ⟨h1, ((Below.refl _ _).alloc (Nat.le_refl _) _).trans k1.below⟩
  clear h1 k1
  go_wp2_with (go_at_call 7; refine (bytes18 w.heap.size _ _ H1.out.1).mono ?_; rintro e w2 ⟨rfl, rfl⟩)
  go_ret
  exact ⟨rfl, H1.out.2⟩

theorem sz_mono {a b : Nat} (h : a ≤ b) : sz a ≤ sz b := by
  have := nb_mono h
  unfold sz
  split <;> split <;> omega

set_option maxHeartbeats 1000000 in
theorem sizes3 (a b : Nat) (w : World) (ha : a < 18446744073709551616) (hb : b < 18446744073709551616) :
    Calls Try.prog 3 #[.int .u64 a, .int .u64 b] w fun e w' => e = .returned (.bool true) ∧ Below w.heap.size w w' := by
  by_cases h : a ≤ 247
  · have h' : ¬ (247 : Int) < a := by omega
    have hs : sz a = 1 := by simp [sz, h]
    have hz : ((sz a : Int) == 1) = true := by rw [hs]; rfl
    go_enter Try.func3, Try.ntmps3
    go_wp2_with (go_at_call 4; refine (awake9 _).mono ?_; rintro e w1 ⟨rfl, hb1⟩; have HB : Hid (Below w.heap.size w w1) := hb1; clear hb1)
    refine (size5 a _ ha).mono ?_
    rintro e w2 ⟨rfl, hb2⟩
    have HB2 : Hid (Below w.heap.size w w2) := HB.out.trans (hb2.mono HB.out.size)
    clear hb2 HB
    by_cases hab : a ≤ b
    · have hab' : ¬ (b : Int) < a := by omega
      have hle := sz_mono hab
      have hle' : (sz a : Int) ≤ sz b := by omega
      go_wp2_with fail
      refine (size5 a _ ha).mono ?_
      rintro e w3 ⟨rfl, hb2⟩
      have HB3 : Hid (Below w.heap.size w w3) := HB2.out.trans (hb2.mono HB2.out.size)
      clear hb2 HB2
      go_wp2_with fail
      refine (size5 b _ hb).mono ?_
      rintro e w4 ⟨rfl, hb2⟩
      have HB4 : Hid (Below w.heap.size w w4) := HB3.out.trans (hb2.mono HB3.out.size)
      clear hb2 HB3
      go_wp2
      go_ret
      have e1 : (decide (b < a) || decide (1 ≤ (sz b : Int))) = true := by have := sz_pos b; simp; omega
      refine ⟨?_, HB4.out⟩
      show Ending.returned (.bool (decide (b < a) || decide (1 ≤ (sz b : Int)))) = _
      rw [e1]
    · have hab' : (b : Int) < a := by omega
      go_wp2
      go_ret
      exact ⟨rfl, HB2.out⟩
  · have h' : (247 : Int) < a := by omega
    have hs : sz a = 1 + nb a := by simp [sz, h]
    have hk := nb_le8 ha
    go_enter Try.func3, Try.ntmps3
    go_wp2_with (go_at_call 4; refine (awake9 _).mono ?_; rintro e w1 ⟨rfl, hb1⟩; have HB : Hid (Below w.heap.size w w1) := hb1; clear hb1)
    go_loopw [6, 7] (fun j m wr => ∃ J M : Nat, j = .int .i64 J ∧ m = .int .u64 M ∧ J + nb M = 1 + nb a ∧ M ≤ a ∧ wr = w1) (fun _ m _ => (intOf m).toNat)
    case atStart => exact ⟨1, a, rfl, rfl, rfl, Nat.le_refl _, rfl⟩
    case round =>
      obtain ⟨J, M, rfl, rfl, hJ, hM, rfl⟩ := hrel
      by_cases hM0 : M = 0
      · subst hM0
        rw [nb_zero] at hJ
        have hz : ((sz a : Int) == (J : Int)) = true := by rw [hs]; simp; omega
        go_wp2_with fail
        refine (size5 a _ ha).mono ?_
        rintro e w2 ⟨rfl, hb2⟩
        have HB2 : Hid (Below w.heap.size w w2) := HB.out.trans (hb2.mono HB.out.size)
        clear hb2 HB
        by_cases hab : a ≤ b
        · have hab' : ¬ (b : Int) < a := by omega
          have hle := sz_mono hab
          have hle' : (sz a : Int) ≤ sz b := by omega
          go_wp2_with fail
          refine (size5 a _ ha).mono ?_
          rintro e w3 ⟨rfl, hb2⟩
          have HB3 : Hid (Below w.heap.size w w3) := HB2.out.trans (hb2.mono HB2.out.size)
          clear hb2 HB2
          go_wp2_with fail
          refine (size5 b _ hb).mono ?_
          rintro e w4 ⟨rfl, hb2⟩
          have HB4 : Hid (Below w.heap.size w w4) := HB3.out.trans (hb2.mono HB3.out.size)
          clear hb2 HB3
          go_wp2
          go_ret
          have e1 : (decide (b < a) || decide (J ≤ sz b)) = true := by simp; omega
          refine ⟨?_, HB4.out⟩
          show Ending.returned (.bool (decide (b < a) || decide (J ≤ sz b))) = _
          rw [e1]
        · have hab' : (b : Int) < a := by omega
          go_wp2
          go_ret
          exact ⟨rfl, HB2.out⟩
      · have hM' : (0 : Int) < M := by omega
        have hn := nb_pos hM0
        go_wp2
        go_roundw
        case rel => exact ⟨J + 1, M / 256, by go_num, by go_num, by omega, by omega, by trivial⟩
        case measure => simp [intOf]; omega

end Go.Proofs.Ytgkbefeiknfjcab
