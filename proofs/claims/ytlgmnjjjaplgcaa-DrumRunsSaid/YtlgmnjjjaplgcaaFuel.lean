/-
  DrumFuel's walk: with so much fuel a drum does just so many steps.
-/
import Derived.Test.YtlgmnjjjaplgcaaAwake
namespace Go.Proofs.Ytlgmnjjjaplgcaa
open Go.RowKit

theorem down13d (pb : Nat) (D : Dr) (w : World) (hD : DrumAt pb D w) : Calls Try.prog 13 #[.pointer (some ⟨pb, 0, none⟩)] w fun e w' => e = .returned (.bool D.down) ∧ w = w' := by
  obtain ⟨vs, hD⟩ := hD
  exact down13 pb _ w hD.down

/-- A drum behind k tries with fuel for n. -/
def fs (n k : Nat) : Dr := ⟨fun i => if i = 0 then ⟨true, List.replicate (min n k) 120, 0⟩ else Pt.none, 1000, ((n - min n k : Nat) : Int), decide (n < k)⟩

theorem fs_start (n : Nat) : ({ ((Dr.new 1000).lay 0).2 with fuel := (n : Int) } : Dr) = fs n 0 := by
  simp [fs, Dr.lay, Dr.step, Dr.new, Dr.set, Dr.burn, Pt.none]

theorem fs_used (n k : Nat) : (fs n k).used = min n k := by simp [Dr.used, fs, Pt.none]

theorem step_down {D : Dr} (h : D.down = true) (a : Int) (r : Pt → Int) (f : Pt → Pt) : D.step a r f = (11, D) := by rw [Dr.step, if_pos h]

theorem fs_same (n k : Nat) (h : n < k) : fs n (k + 1) = fs n k := by
  have h1 : min n (k + 1) = min n k := by omega
  have h2 : n < k + 1 := by omega
  simp [fs, h1, h, h2]

theorem fs_write (n k : Nat) (hn : n ≤ 50) : (fs n k).write 0 [120] = (if k < n then 0 else 11, fs n (k + 1)) := by
  by_cases h : n < k
  · rw [Dr.write, step_down (by simp [fs, h]), fs_same n k h, if_neg (by omega)]
  · have hu := fs_used n k
    have hd : (fs n k).down = false := by simp [fs, h]
    have hp : (fs n k).p 0 = ⟨true, List.replicate (min n k) 120, 0⟩ := by simp [fs]
    have hr : (fs n k).room = 1000 := rfl
    have hf : (fs n k).fuel = ((n - min n k : Nat) : Int) := rfl
    rw [Dr.write, Dr.step, if_neg (by simp [hd]), if_neg (by simp)]
    simp only [Int.toNat_zero, hp, hr, hu, List.length_cons, List.length_nil]
    rw [if_neg (by simp; omega)]
    by_cases hk : k < n
    · rw [if_neg (by rw [hf]; omega), if_pos hk]
      refine Prod.ext rfl ?_
      have h1 : min n (k + 1) = min n k + 1 := by omega
      simp only [Dr.set, Dr.burn, fs, h1]
      simp only [Dr.mk.injEq, true_and]
      refine ⟨?_, by omega, ?_⟩
      · funext i
        by_cases hi : i = 0
        · subst hi; simp [List.replicate_succ']
        · simp [hi]
      · have h3 : ¬ n < k + 1 := by omega
        simp [h, h3]
    · have hkn : k = n := by omega
      rw [if_pos (by rw [hf]; omega), if_neg hk]
      refine Prod.ext rfl ?_
      subst hkn
      simp [fs]

theorem fs_ok (n k : Nat) (hn : n ≤ 50) : (fs n k).Ok := by
  refine ⟨by simp [fs], by simp [fs], by rw [fs_used]; show ((min n k : Nat) : Int) ≤ 1000; omega, ?_, ?_, ?_, ?_⟩
  · intro i
    by_cases hi : i = 0 <;> simp [fs, hi, Pt.none]
  · intro i
    by_cases hi : i = 0 <;> simp [fs, hi, Pt.none]
  · show -9223372036854775808 ≤ ((n - min n k : Nat) : Int)
    omega
  · show ((n - min n k : Nat) : Int) ≤ 9223372036854775807
    omega

/-- .. behind the fall. -/
theorem fs_fall_used (n k : Nat) (hn : n ≤ 50) : ((fs n k).fall [1099511627776]).used = min n k := by
  have hl : (fs n k).left [1099511627776] 0 = min n k := by
    simp [Dr.left, fs]
    omega
  simp only [Dr.used, Dr.fall, Pt.settle_len, hl]
  simp [fs, Pt.none]

theorem fs_fall_write (n k : Nat) (hn : n ≤ 50) : (((fs n k).fall [1099511627776]).write 0 [122]).1 = 0 := by
  have hu := fs_fall_used n k hn
  have hd : ((fs n k).fall [1099511627776]).down = false := rfl
  have hp : (((fs n k).fall [1099511627776]).p 0).there = true := by simp [Dr.fall, Pt.settle, fs]
  have hr : ((fs n k).fall [1099511627776]).room = 1000 := rfl
  have hf : ((fs n k).fall [1099511627776]).fuel = -1 := rfl
  rw [Dr.write, Dr.step, if_neg (by simp [hd]), if_neg (by simp)]
  simp only [Int.toNat_zero, hp, hr, hu, hf, List.length_cons, List.length_nil]
  rw [if_neg (by simp; omega)]
  simp

set_option maxHeartbeats 1000000 in
theorem fuel5 (n t : Int) (w : World) (hn0 : -9223372036854775808 ≤ n) (hn1 : n ≤ 9223372036854775807) (ht0 : -9223372036854775808 ≤ t) (ht1 : t ≤ 9223372036854775807) :
    Calls Try.prog 5 #[.int .i64 n, .int .i64 t] w fun e w' => e = .returned (.bool true) ∧ Below w.heap.size w w' := by
  by_cases hg : n < 0 ∨ 50 < n ∨ t < 0 ∨ 100 < t
  · go_enter Try.func5, Try.ntmps5
    go_wp2_with fail
    refine (awake7 _).mono ?_
    rintro e w1 ⟨rfl, k1⟩
    have K1 : Hid (Below w.heap.size w w1) := k1
    clear k1
    by_cases h1 : n < 0
    · clear hg
      go_wp2
      go_ret
      exact ⟨rfl, K1.out⟩
    · by_cases h2 : 50 < n
      · clear hg
        go_wp2
        go_ret
        exact ⟨rfl, K1.out⟩
      · by_cases h3 : t < 0
        · clear hg
          go_wp2
          go_ret
          exact ⟨rfl, K1.out⟩
        · have h4 : 100 < t := by omega
          clear hg
          go_wp2
          go_ret
          exact ⟨rfl, K1.out⟩
  · obtain ⟨N, rfl⟩ := Int.eq_ofNat_of_zero_le (by omega : 0 ≤ n)
    obtain ⟨T, rfl⟩ := Int.eq_ofNat_of_zero_le (by omega : 0 ≤ t)
    have hN : N ≤ 50 := by omega
    have hT : T ≤ 100 := by omega
    clear hg hn0 hn1 ht0 ht1
    go_enter Try.func5, Try.ntmps5
    go_wp2_with fail
    refine (awake7 _).mono ?_
    rintro e w1 ⟨rfl, k1⟩
    have K1 : Hid (Below w.heap.size w w1) := k1
    clear k1
    go_wp2_with fail
    refine (new8 1000 _ (by omega) (by omega)).mono ?_
    rintro e w2 ⟨rfl, h2, k2⟩
    obtain ⟨pb, hpb⟩ : ∃ pb, pb = w1.heap.size := ⟨_, rfl⟩
    rw [← hpb] at h2 k2 ⊢
    have H2 : Hid (DrumAt pb (Dr.new 1000) w2 ∧ Below w.heap.size w w2 ∧ w.heap.size ≤ pb) := by
      have := K1.out.size
      exact ⟨h2, K1.out.trans (k2.mono (by omega)), by omega⟩
    clear hpb h2 k2 K1
    go_wp2_with fail
    refine (lay11 pb _ 0 _ H2.out.1 (Dr.Ok.new 1000 (by omega) (by omega))).mono ?_
    rintro e w3 ⟨rfl, h3, k3⟩
    have H3 : Hid (DrumAt pb ((Dr.new 1000).lay 0).2 w3 ∧ Below w.heap.size w w3 ∧ w.heap.size ≤ pb) := ⟨h3, H2.out.2.1.trans (k3.below.mono H2.out.2.2), H2.out.2.2⟩
    clear H2 h3 k3
    go_wp2_with fail
    refine (fuel27 pb _ N _ H3.out.1).mono ?_
    rw [fs_start]
    rintro e w4 ⟨rfl, h4, k4⟩
    have H4 : Hid (DrumAt pb (fs N 0) w4 ∧ Below w.heap.size w w4 ∧ w.heap.size ≤ pb) := ⟨h4, H3.out.2.1.trans (k4.below.mono H3.out.2.2), H3.out.2.2⟩
    clear H3 h4 k4
    generalize ((Dr.new 1000).lay 0).1 = r0
    go_wp2_with fail
    go_loopw [7, 34] (fun d i wr => ∃ k : Nat, k ≤ T ∧ i = .int .i64 k ∧ d = .int .i64 (min N k : Nat) ∧ DrumAt pb (fs N k) wr ∧ Below w.heap.size w wr) (fun _ i _ => T - (intOf i).toNat)
    case atStart => exact ⟨0, by omega, rfl, by simp, H4.out.1, H4.out.2.1⟩
    case round =>
      obtain ⟨k, hk, rfl, rfl, hwr, hbe⟩ := hrel
      have HW : Hid (DrumAt pb (fs N k) wr ∧ Below w.heap.size w wr ∧ w.heap.size ≤ pb) := ⟨hwr, hbe, H4.out.2.2⟩
      clear hwr hbe
      by_cases hlt : k < T
      · by_cases hkN : k < N
        · have HMin : Hid (((min N k : Nat) : Int) + 1 = ((min N (k + 1) : Nat) : Int)) := (by omega : ((min N k : Nat) : Int) + 1 = ((min N (k + 1) : Nat) : Int))
          have hm : min N k ≤ 50 := by omega
          generalize min N k = m at *
          go_wp2_with (go_at_call 12; refine (write12 pb _ 0 [120] _ HW.out.1 (fs_ok N k hN)).mono ?_; rw [fs_write N k hN, if_pos hkN]; rintro e w5 ⟨rfl, h5, k5⟩; have H5 : Hid _ := And.intro h5 k5; clear h5 k5)
          go_roundw
          case rel => exact ⟨k + 1, by omega, by go_num, by rw [← HMin.out], H5.out.1, HW.out.2.1.trans (H5.out.2.below.mono HW.out.2.2)⟩
          case measure => simp [intOf]; omega
        · have HD : Hid ((fs N (k + 1)).down = true) := by
            show _ = _
            simp [fs]
            omega
          have HM : Hid (min N k = min N (k + 1)) := (by omega : min N k = min N (k + 1))
          go_wp2_with fail
          refine (write12 pb _ 0 [120] _ HW.out.1 (fs_ok N k hN)).mono ?_
          rw [fs_write N k hN, if_neg hkN]
          rintro e w5 ⟨rfl, h5, k5⟩
          have H5 : Hid (DrumAt pb (fs N (k + 1)) w5 ∧ Below w.heap.size w w5) := ⟨h5, HW.out.2.1.trans (k5.below.mono HW.out.2.2)⟩
          clear h5 k5
          go_wp2_with fail
          refine (down13d pb _ _ H5.out.1).mono ?_
          rw [HD.out]
          rintro e w6 ⟨rfl, rfl⟩
          go_wp2_with fail
          refine (write12 pb _ 0 [121] _ H5.out.1 (fs_ok N (k + 1) hN)).mono ?_
          rw [Dr.write, step_down HD.out]
          rintro e w7 ⟨rfl, h7, k7⟩
          have H7 : Hid (DrumAt pb (fs N (k + 1)) w7 ∧ Below w.heap.size w w7) := ⟨h7, H5.out.2.trans (k7.below.mono HW.out.2.2)⟩
          clear h7 k7
          go_wp2_with fail
          refine (lay11 pb _ 2 _ H7.out.1 (fs_ok N (k + 1) hN)).mono ?_
          rw [Dr.lay, step_down HD.out]
          rintro e w8 ⟨rfl, h8, k8⟩
          have H8 : Hid (DrumAt pb (fs N (k + 1)) w8 ∧ Below w.heap.size w w8) := ⟨h8, H7.out.2.trans (k8.below.mono HW.out.2.2)⟩
          clear h8 k8
          go_wp2_with fail
          refine (sync28 pb _ 0 _ H8.out.1 (fs_ok N (k + 1) hN)).mono ?_
          rw [Dr.sync, step_down HD.out]
          rintro e w9 ⟨rfl, h9, k9⟩
          have H9 : Hid (DrumAt pb (fs N (k + 1)) w9 ∧ Below w.heap.size w w9) := ⟨h9, H8.out.2.trans (k9.below.mono HW.out.2.2)⟩
          clear h9 k9
          go_wp2
          go_roundw
          case rel => exact ⟨k + 1, by omega, by go_num, by rw [← HM.out], H9.out.1, H9.out.2⟩
          case measure => simp [intOf]; omega
      · have hkT : k = T := by omega
        subst hkT
        rcases (by omega : k < N ∨ k = N ∨ N < k) with hc | hc | hc
        · have HU : Hid ((fs N k).used = k) := by
            show _ = _
            rw [fs_used]
            omega
          have HD : Hid ((fs N k).down = false) := by
            show _ = _
            simp [fs]
            omega
          have HF : Hid (((fs N k).fall [1099511627776]).down = false ∧ ((fs N k).fall [1099511627776]).used = k ∧ (((fs N k).fall [1099511627776]).write 0 [122]).1 = 0) := ⟨rfl, by rw [fs_fall_used N k hN]; omega, fs_fall_write N k hN⟩
          rw [show min N k = k from by omega]
          go_wp2_with fail
          refine (down13d pb _ _ HW.out.1).mono ?_
          rw [HD.out]
          rintro e w6 ⟨rfl, rfl⟩
          go_wp2_with fail
          refine (used14 pb _ _ HW.out.1 (by rw [HU.out]; omega)).mono ?_
          rw [HU.out]
          rintro e w6 ⟨rfl, rfl⟩
          go_wp2_with fail
          refine (fall26 pb _ _ [1099511627776] _ (HW.out.1.alloc _) (fs_ok N k hN) (keep_one _ HW.out.1.lt) (keep_bounds _ (by omega) (by omega)) (by simp)).mono ?_
          rintro e w7 ⟨rfl, h7, k7⟩
          have H7 : Hid (DrumAt pb ((fs N k).fall [1099511627776]) w7 ∧ Below w.heap.size w w7) := ⟨h7, (HW.out.2.1.alloc HW.out.2.1.size _).trans (k7.below.mono HW.out.2.2)⟩
          clear h7 k7
          go_wp2_with fail
          refine (down13d pb _ _ H7.out.1).mono ?_
          rw [HF.out.1]
          rintro e w8 ⟨rfl, rfl⟩
          go_wp2_with fail
          refine (used14 pb _ _ H7.out.1 (by rw [HF.out.2.1]; omega)).mono ?_
          rw [HF.out.2.1]
          rintro e w8 ⟨rfl, rfl⟩
          go_wp2_with fail
          refine (write12 pb _ 0 [122] _ H7.out.1 ((fs_ok N k hN).fall _)).mono ?_
          rw [HF.out.2.2]
          rintro e w9 ⟨rfl, h9, k9⟩
          have H9 : Hid (Below w.heap.size w w9) := H7.out.2.trans (k9.below.mono HW.out.2.2)
          clear h9 k9
          go_wp2
          go_ret
          exact ⟨rfl, H9.out⟩
        · subst hc
          have HU : Hid ((fs k k).used = k) := by
            show _ = _
            rw [fs_used]
            omega
          have HD : Hid ((fs k k).down = false) := by
            show _ = _
            simp [fs]
          have HF : Hid (((fs k k).fall [1099511627776]).down = false ∧ ((fs k k).fall [1099511627776]).used = k ∧ (((fs k k).fall [1099511627776]).write 0 [122]).1 = 0) := ⟨rfl, by rw [fs_fall_used k k hN]; omega, fs_fall_write k k hN⟩
          rw [show min k k = k from by omega]
          go_wp2_with fail
          refine (down13d pb _ _ HW.out.1).mono ?_
          rw [HD.out]
          rintro e w6 ⟨rfl, rfl⟩
          go_wp2_with fail
          refine (used14 pb _ _ HW.out.1 (by rw [HU.out]; omega)).mono ?_
          rw [HU.out]
          rintro e w6 ⟨rfl, rfl⟩
          go_wp2_with fail
          refine (fall26 pb _ _ [1099511627776] _ (HW.out.1.alloc _) (fs_ok k k hN) (keep_one _ HW.out.1.lt) (keep_bounds _ (by omega) (by omega)) (by simp)).mono ?_
          rintro e w7 ⟨rfl, h7, k7⟩
          have H7 : Hid (DrumAt pb ((fs k k).fall [1099511627776]) w7 ∧ Below w.heap.size w w7) := ⟨h7, (HW.out.2.1.alloc HW.out.2.1.size _).trans (k7.below.mono HW.out.2.2)⟩
          clear h7 k7
          go_wp2_with fail
          refine (down13d pb _ _ H7.out.1).mono ?_
          rw [HF.out.1]
          rintro e w8 ⟨rfl, rfl⟩
          go_wp2_with fail
          refine (used14 pb _ _ H7.out.1 (by rw [HF.out.2.1]; omega)).mono ?_
          rw [HF.out.2.1]
          rintro e w8 ⟨rfl, rfl⟩
          go_wp2_with fail
          refine (write12 pb _ 0 [122] _ H7.out.1 ((fs_ok k k hN).fall _)).mono ?_
          rw [HF.out.2.2]
          rintro e w9 ⟨rfl, h9, k9⟩
          have H9 : Hid (Below w.heap.size w w9) := H7.out.2.trans (k9.below.mono HW.out.2.2)
          clear h9 k9
          go_wp2
          go_ret
          exact ⟨rfl, H9.out⟩
        · have HU : Hid ((fs N k).used = N) := by
            show _ = _
            rw [fs_used]
            omega
          have HD : Hid ((fs N k).down = true) := by
            show _ = _
            simp [fs]
            omega
          have HF : Hid (((fs N k).fall [1099511627776]).down = false ∧ ((fs N k).fall [1099511627776]).used = N ∧ (((fs N k).fall [1099511627776]).write 0 [122]).1 = 0) := ⟨rfl, by rw [fs_fall_used N k hN]; omega, fs_fall_write N k hN⟩
          rw [show min N k = N from by omega]
          go_wp2_with fail
          refine (down13d pb _ _ HW.out.1).mono ?_
          rw [HD.out]
          rintro e w6 ⟨rfl, rfl⟩
          go_wp2_with fail
          refine (used14 pb _ _ HW.out.1 (by rw [HU.out]; omega)).mono ?_
          rw [HU.out]
          rintro e w6 ⟨rfl, rfl⟩
          go_wp2_with fail
          refine (fall26 pb _ _ [1099511627776] _ (HW.out.1.alloc _) (fs_ok N k hN) (keep_one _ HW.out.1.lt) (keep_bounds _ (by omega) (by omega)) (by simp)).mono ?_
          rintro e w7 ⟨rfl, h7, k7⟩
          have H7 : Hid (DrumAt pb ((fs N k).fall [1099511627776]) w7 ∧ Below w.heap.size w w7) := ⟨h7, (HW.out.2.1.alloc HW.out.2.1.size _).trans (k7.below.mono HW.out.2.2)⟩
          clear h7 k7
          go_wp2_with fail
          refine (down13d pb _ _ H7.out.1).mono ?_
          rw [HF.out.1]
          rintro e w8 ⟨rfl, rfl⟩
          go_wp2_with fail
          refine (used14 pb _ _ H7.out.1 (by rw [HF.out.2.1]; omega)).mono ?_
          rw [HF.out.2.1]
          rintro e w8 ⟨rfl, rfl⟩
          go_wp2_with fail
          refine (write12 pb _ 0 [122] _ H7.out.1 ((fs_ok N k hN).fall _)).mono ?_
          rw [HF.out.2.2]
          rintro e w9 ⟨rfl, h9, k9⟩
          have H9 : Hid (Below w.heap.size w w9) := H7.out.2.trans (k9.below.mono HW.out.2.2)
          clear h9 k9
          go_wp2
          go_ret
          exact ⟨rfl, H9.out⟩

end Go.Proofs.Ytlgmnjjjaplgcaa
