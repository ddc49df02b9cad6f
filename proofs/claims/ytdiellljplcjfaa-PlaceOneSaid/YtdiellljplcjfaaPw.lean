/-
  The program's Walk, Shard and Node.
-/
import Derived.Test.YtdiellljplcjfaaSt
import Derived.Test.YtdiellljplcjfaaFi
namespace Go.Proofs.Ytdiellljplcjfaa
open Go.RowKit Go.Sort

theorem walk_bd {l : List UInt8} (h : l.length ≤ 32) : (walkL l (0, 0)).1.natAbs ≤ 8192 ∧ (walkL l (0, 0)).2.natAbs ≤ 8192 := by
  have := walk_bound l (0, 0) 0 (by decide) (by decide)
  omega
/-- A step: a quarter turn, a byte and one more. -/
theorem step_bits {x y : Nat} {p : Int × Int} (h : Cw x y p) (b : UInt8) (h1 : p.1.natAbs ≤ 8192) (h2 : p.2.natAbs ≤ 8192) :
    ∃ e f r g k, cMulBits x y 0 4607182418800017408 = some (e, f) ∧ floatBits .add .f64 (floatOfInt .f64 (b.toNat : Int)) 4607182418800017408 = some r ∧ cSumBits .add .f64 e f r 0 = some (g, k) ∧ Cw g k (stepW p b) := by
  have hb : b.toNat < 256 := UInt8.toNat_lt b
  obtain ⟨e, f, m1, c1⟩ := turn_bits h
  obtain ⟨r, a1, c2⟩ := (fw_int (b.toNat : Int) (by omega)).add fw_one (by omega)
  obtain ⟨g, k, s1, c3⟩ := sum_bits c1 (show Cw r 0 ((b.toNat : Int) + 1, 0) from ⟨c2, fw_zero⟩) (by unfold rot; simp only; omega) (by unfold rot; simp only; omega)
  refine ⟨e, f, r, g, k, m1, a1, s1, ?_⟩
  have : addP (rot p) ((b.toNat : Int) + 1, 0) = stepW p b := by
    unfold addP rot stepW
    simp only [Prod.mk.injEq]
    omega
  rw [this] at c3
  exact c3
set_option maxHeartbeats 1600000 in
set_option maxRecDepth 100000 in
theorem walk10 (key : List UInt8) (w : World) : Calls Try.prog 10 #[.string (bs key)] w fun r w' => (∃ x y, r = .returned (.complex .f64 x y) ∧ Fw x (walkF key).1 ∧ Fw y (walkF key).2) ∧ w = w' := by
  have hsz : (bs key).size = key.length := bs_size key
  by_cases hc : (32 : Int) < key.length
  · have HK : Hid (32 ≤ key.length ∧ 32 ≤ 32) := ⟨by omega, by omega⟩
    have HW : Hid (walkF key = walkL (key.take 32) (0, 0)) := by
      show _ = _
      unfold walkF
      rfl
    go_enter Try.func10, Try.ntmps10
    go_wp2_with fail
    go_loopw [3, 8] (fun z i wr => ∃ (m x y : Nat), m ≤ 32 ∧ i = .int .i64 m ∧ z = .complex .f64 x y ∧ Hid (Cw x y (walkL (key.take m) (0, 0))) ∧ w = wr) (fun _ i _ => 32 - (intOf i).toNat)
    case atStart => exact ⟨0, 0, 0, by omega, rfl, rfl, ⟨fw_zero, fw_zero⟩, rfl⟩
    case round =>
      obtain ⟨m, x, y, hmk, rfl, rfl, HC, rfl⟩ := hrel
      have hbd := walk_bd (l := key.take m) (by rw [List.length_take]; have := HK.out; omega)
      by_cases h2 : m < 32
      · have hj : (m : Int) < 32 := by omega
        have h1 : m < key.length := by have := HK.out; omega
        have hi : (m : Int) < key.length := by omega
        have HS : Hid _ := walk_take h1
        obtain ⟨b, hb⟩ : ∃ b, key.getD m 0 = b := ⟨_, rfl⟩
        have hget : ∀ h : m < (bs key).size, (bs key)[m]'h = b := fun h => by rw [← hb]; exact bs_get key m h1 h
        rw [hb] at HS
        clear hb
        have HM : Hid (m + 1 ≤ 32) := h2
        obtain ⟨e, f, r, g, j, m1, a1, s1, c1⟩ := step_bits HC.out b hbd.1 hbd.2
        rw [← HS.out] at c1
        have HD : Hid (Cw g j (walkL (key.take (m + 1)) (0, 0))) := c1
        have e1 : ∀ W : World, (binOp .mul 26 (.complex .f64 x y) (.complex .f64 0 4607182418800017408)).run Try.prog W = .ok (.complex .f64 e f) W := fun W => run_complex_mul W 26 _ _ _ _ _ _ m1
        have e2 : ∀ W : World, (binOp .add 34 (.float .f64 (floatOfInt .f64 (b.toNat : Int))) (.float .f64 4607182418800017408)).run Try.prog W = .ok (.float .f64 r) W := fun W => run_float_arith W .add 34 .f64 _ _ _ a1
        have e3 : ∀ W : World, (binOp .add 26 (.complex .f64 e f) (.complex .f64 r 0)).run Try.prog W = .ok (.complex .f64 g j) W := fun W => run_complex_sum W .add (.inl rfl) 26 .f64 _ _ _ _ _ _ s1
        clear HC HS m1 a1 s1 c1 hbd hmk
        go_wp2_with fail
        go_roundw
        case rel => exact ⟨m + 1, g, j, HM.out, by go_num, rfl, HD.out, by first | trivial | rfl⟩
        case measure => simp [intOf]; omega
      · have hj : ¬ (m : Int) < 32 := by omega
        have HQ : Hid (walkF key = walkL (key.take m) (0, 0)) := by
          show _ = _
          rw [HW.out, show m = 32 by omega]
        go_wp2_with fail
        go_ret
        exact ⟨⟨x, y, rfl, by rw [HQ.out]; exact HC.out.re, by rw [HQ.out]; exact HC.out.im⟩, rfl⟩
  · have HK : Hid (key.length ≤ key.length ∧ key.length ≤ 32) := ⟨by omega, by omega⟩
    have HW : Hid (walkF key = walkL (key.take key.length) (0, 0)) := by
      show _ = _
      unfold walkF
      rw [List.take_of_length_le (show key.length ≤ 32 by omega), List.take_of_length_le (Nat.le_refl _)]
    go_enter Try.func10, Try.ntmps10
    go_wp2_with fail
    go_loopw [3, 8] (fun z i wr => ∃ (m x y : Nat), m ≤ key.length ∧ i = .int .i64 m ∧ z = .complex .f64 x y ∧ Hid (Cw x y (walkL (key.take m) (0, 0))) ∧ w = wr) (fun _ i _ => key.length - (intOf i).toNat)
    case atStart => exact ⟨0, 0, 0, by omega, rfl, rfl, ⟨fw_zero, fw_zero⟩, rfl⟩
    case round =>
      obtain ⟨m, x, y, hmk, rfl, rfl, HC, rfl⟩ := hrel
      have hbd := walk_bd (l := key.take m) (by rw [List.length_take]; have := HK.out; omega)
      by_cases h2 : m < key.length
      · have hj : (m : Int) < key.length := by omega
        have h1 : m < key.length := by have := HK.out; omega
        have hi : (m : Int) < key.length := by omega
        have HS : Hid _ := walk_take h1
        obtain ⟨b, hb⟩ : ∃ b, key.getD m 0 = b := ⟨_, rfl⟩
        have hget : ∀ h : m < (bs key).size, (bs key)[m]'h = b := fun h => by rw [← hb]; exact bs_get key m h1 h
        rw [hb] at HS
        clear hb
        have HM : Hid (m + 1 ≤ key.length) := h2
        obtain ⟨e, f, r, g, j, m1, a1, s1, c1⟩ := step_bits HC.out b hbd.1 hbd.2
        rw [← HS.out] at c1
        have HD : Hid (Cw g j (walkL (key.take (m + 1)) (0, 0))) := c1
        have e1 : ∀ W : World, (binOp .mul 26 (.complex .f64 x y) (.complex .f64 0 4607182418800017408)).run Try.prog W = .ok (.complex .f64 e f) W := fun W => run_complex_mul W 26 _ _ _ _ _ _ m1
        have e2 : ∀ W : World, (binOp .add 34 (.float .f64 (floatOfInt .f64 (b.toNat : Int))) (.float .f64 4607182418800017408)).run Try.prog W = .ok (.float .f64 r) W := fun W => run_float_arith W .add 34 .f64 _ _ _ a1
        have e3 : ∀ W : World, (binOp .add 26 (.complex .f64 e f) (.complex .f64 r 0)).run Try.prog W = .ok (.complex .f64 g j) W := fun W => run_complex_sum W .add (.inl rfl) 26 .f64 _ _ _ _ _ _ s1
        clear HC HS m1 a1 s1 c1 hbd hmk
        go_wp2_with fail
        go_roundw
        case rel => exact ⟨m + 1, g, j, HM.out, by go_num, rfl, HD.out, by first | trivial | rfl⟩
        case measure => simp [intOf]; omega
      · have hj : ¬ (m : Int) < key.length := by omega
        have HQ : Hid (walkF key = walkL (key.take m) (0, 0)) := by
          show _ = _
          rw [HW.out, show m = key.length by omega]
        go_wp2_with fail
        go_ret
        exact ⟨⟨x, y, rfl, by rw [HQ.out]; exact HC.out.re, by rw [HQ.out]; exact HC.out.im⟩, rfl⟩
/-- Whether there may be so many shards. -/
def mbB (n : Int) : Bool := decide (1 ≤ n ∧ n ≤ 8)
set_option maxHeartbeats 1600000 in
set_option maxRecDepth 100000 in
theorem mb18 (n : Int) (w : World) : Calls Try.prog 18 #[.int .i64 n] w fun r w' => r = .returned (.bool (mbB n)) ∧ w = w' := by
  by_cases h1 : 1 ≤ n
  · by_cases h2 : n ≤ 8
    · have HB : Hid (mbB n = true) := by show _ = _; unfold mbB; exact decide_eq_true ⟨h1, h2⟩
      rw [HB.out]
      go_enter Try.func18, Try.ntmps18
      go_wp2_with fail
      go_ret
      exact ⟨rfl, rfl⟩
    · have HB : Hid (mbB n = false) := by show _ = _; unfold mbB; exact decide_eq_false (by omega)
      rw [HB.out]
      go_enter Try.func18, Try.ntmps18
      go_wp2_with fail
      go_ret
      exact ⟨rfl, rfl⟩
  · have HB : Hid (mbB n = false) := by show _ = _; unfold mbB; exact decide_eq_false (by omega)
    rw [HB.out]
    go_enter Try.func18, Try.ntmps18
    go_wp2_with fail
    go_ret
    exact ⟨rfl, rfl⟩
set_option maxHeartbeats 1600000 in
set_option maxRecDepth 100000 in
theorem node13 (s n : Int) (w : World) : Calls Try.prog 13 #[.int .i64 s, .int .i64 n] w fun r w' => r = .returned (.tuple #[.int .i64 (nodeF s n).1, .int .i64 (nodeF s n).2]) ∧ w = w' := by
  by_cases h : 0 ≤ s ∧ s ≤ 7 ∧ 1 ≤ n ∧ n ≤ 4
  · obtain ⟨h1, h2, h3, h4⟩ := h
    have i1 : ¬ s < 0 := by omega
    have i2 : ¬ 8 ≤ s := by omega
    have i3 : ¬ n < 1 := by omega
    have i4 : ¬ 4 < n := by omega
    have i5 : ¬ n = 0 := by omega
    have HN : Hid (nodeF s n = (s % n, 0)) := by
      show _ = _
      unfold nodeF
      rw [if_pos ⟨h1, h2, h3, h4⟩]
    rw [HN.out]
    clear h1 h2 h3 h4 HN
    go_enter Try.func13, Try.ntmps13
    go_wp2_with fail
    go_ret2
    exact ⟨rfl, rfl⟩
  · have HN : Hid (nodeF s n = (0, 1)) := by
      show _ = _
      unfold nodeF
      rw [if_neg h]
    rw [HN.out]
    clear HN
    by_cases i1 : s < 0
    · clear h
      go_enter Try.func13, Try.ntmps13
      go_wp2_with fail
      go_ret2
      exact ⟨rfl, rfl⟩
    by_cases i2 : 8 ≤ s
    · clear h
      go_enter Try.func13, Try.ntmps13
      go_wp2_with fail
      go_ret2
      exact ⟨rfl, rfl⟩
    by_cases i3 : n < 1
    · clear h
      go_enter Try.func13, Try.ntmps13
      go_wp2_with fail
      go_ret2
      exact ⟨rfl, rfl⟩
    have i4 : 4 < n := by omega
    clear h
    go_enter Try.func13, Try.ntmps13
    go_wp2_with fail
    go_ret2
    exact ⟨rfl, rfl⟩
theorem keyB_false {key : List UInt8} (h : key.length < 1 ∨ 32 < key.length) : keyB key = false := by
  unfold keyB
  simp only [Bool.and_eq_false_iff, decide_eq_false_iff_not]
  omega
theorem keyB_true {key : List UInt8} (h1 : ¬ key.length < 1) (h2 : ¬ 32 < key.length) : keyB key = true := by
  unfold keyB
  simp only [Bool.and_eq_true, decide_eq_true_eq]
  omega
theorem shard_no {key : List UInt8} {n : Int} (h : ¬ (keyB key = true ∧ 1 ≤ n ∧ n ≤ 8)) : shardF key n = (0, 1) := by
  unfold shardF
  rw [if_neg h]
set_option maxHeartbeats 1600000 in
set_option maxRecDepth 100000 in
theorem shard11 (key : List UInt8) (n : Int) (w : World) : Calls Try.prog 11 #[.string (bs key), .int .i64 n] w fun r w' => r = .returned (.tuple #[.int .i64 (shardF key n).1, .int .i64 (shardF key n).2]) ∧ w = w' := by
  have hsz : (bs key).size = key.length := bs_size key
  have C2 : Hid (1 = 1 → Calls Try.prog 10 #[.string (bs key)] w fun r w' => (∃ x y, r = .returned (.complex .f64 x y) ∧ Fw x (walkF key).1 ∧ Fw y (walkF key).2) ∧ w = w') := fun _ => walk10 key w
  have hbd := walkF_bound key
  have C3 : Hid (1 = 1 → Calls Try.prog 18 #[.int .i64 n] w fun r w' => r = .returned (.bool (mbB n)) ∧ w = w') := fun _ => mb18 n w
  by_cases h1 : key.length < 1
  · have i1 : (key.length : Int) < 1 := by omega
    rw [shard_no (by rw [keyB_false (.inl h1)]; simp)]
    clear h1 C2 C3 hbd
    go_enter Try.func11, Try.ntmps11
    go_wp2_with fail
    go_ret2
    exact ⟨rfl, rfl⟩
  by_cases h2 : 32 < key.length
  · have i1 : ¬ (key.length : Int) < 1 := by omega
    have i2 : (32 : Int) < key.length := by omega
    rw [shard_no (by rw [keyB_false (.inr h2)]; simp)]
    clear h1 h2 C2 C3 hbd
    go_enter Try.func11, Try.ntmps11
    go_wp2_with fail
    go_ret2
    exact ⟨rfl, rfl⟩
  have i1 : ¬ (key.length : Int) < 1 := by omega
  have i2 : ¬ (32 : Int) < key.length := by omega
  have hkb := keyB_true h1 h2
  by_cases h3 : mbB n = false
  · have h3' : ¬ (1 ≤ n ∧ n ≤ 8) := by simpa [mbB] using h3
    rw [shard_no (by omega)]
    have HB : Hid (mbB n = false) := h3
    clear h1 h2 C2 hbd hkb h3 h3'
    go_enter Try.func11, Try.ntmps11
    go_wp2_with fail
    refine (C3.out (by trivial)).mono ?_
    rintro r wx ⟨rfl, rfl⟩
    rw [HB.out]
    go_wp2_with fail
    go_ret2
    exact ⟨rfl, rfl⟩
  have h4 : 1 ≤ n ∧ n ≤ 8 := by simpa [mbB] using h3
  have HB : Hid (mbB n = true) := by show _ = _; simpa using h3
  clear h3
  have HN : Hid (shardF key n = ((3 * (walkF key).1 + 5 * (walkF key).2) % n, 0)) := by
    show _ = _
    unfold shardF
    rw [if_pos ⟨hkb, by omega, by omega⟩]
  rw [HN.out]
  generalize walkF key = p at *
  obtain ⟨px, py⟩ := p
  dsimp only at *
  have i3 : ¬ n = 0 := by omega
  have HQ : Hid _ := rem_up (3 * px + 5 * py) n (by omega)
  have e1 := w64 (n := 3 * px) (by omega) (by omega)
  have e2 := w64 (n := 5 * py) (by omega) (by omega)
  have e3 := w64 (n := 3 * px + 5 * py) (by omega) (by omega)
  clear h1 h2 hkb HN
  have K : ∀ neg : Bool, decide ((3 * px + 5 * py).tmod n < 0) = neg → Calls Try.prog 11 #[.string (bs key), .int .i64 n] w fun r w' => r = .returned (.tuple #[.int .i64 ((3 * px + 5 * py) % n), .int .i64 0]) ∧ w = w' := by
    intro neg hneg
    cases neg
    · have hneg' : ¬ (3 * px + 5 * py).tmod n < 0 := by simpa using hneg
      have HE : Hid ((3 * px + 5 * py).tmod n = (3 * px + 5 * py) % n) := by
        have := HQ.out
        rw [if_neg hneg'] at this
        exact this
      clear hneg HQ
      go_enter Try.func11, Try.ntmps11
      go_wp2_with fail
      refine (C3.out (by trivial)).mono ?_
      rintro r wx ⟨rfl, rfl⟩
      rw [HB.out]
      go_wp2_with fail
      refine (C2.out (by trivial)).mono ?_
      rintro r wx ⟨⟨x, y, rfl, f1, f2⟩, rfl⟩
      have q1 : ∀ W : World, (convert 34 3 (.float .f64 x)).run Try.prog W = .ok (.int .i64 px) W := fun W => run_convert_float_int W 34 3 .f64 .i64 x px (by rw [Try.underlying34]; rfl) Try.underlying3 f1.cut
      have q2 : ∀ W : World, (convert 34 3 (.float .f64 y)).run Try.prog W = .ok (.int .i64 py) W := fun W => run_convert_float_int W 34 3 .f64 .i64 y py (by rw [Try.underlying34]; rfl) Try.underlying3 f2.cut
      clear f1 f2 C2 C3
      go_wp2_with fail
      go_ret2
      exact ⟨by rw [← HE.out]; rfl, rfl⟩
    · have hneg' : (3 * px + 5 * py).tmod n < 0 := by simpa using hneg
      have HE : Hid (wrap64 ((3 * px + 5 * py).tmod n + n) = (3 * px + 5 * py) % n) := by
        have := HQ.out
        rw [if_pos hneg'] at this
        show _ = _
        have a1 := Int.emod_nonneg (3 * px + 5 * py) (show n ≠ 0 by omega)
        have a2 := Int.emod_lt_of_pos (3 * px + 5 * py) (show 0 < n by omega)
        rw [this]
        exact w64 (by omega) (by omega)
      clear hneg HQ
      go_enter Try.func11, Try.ntmps11
      go_wp2_with fail
      refine (C3.out (by trivial)).mono ?_
      rintro r wx ⟨rfl, rfl⟩
      rw [HB.out]
      go_wp2_with fail
      refine (C2.out (by trivial)).mono ?_
      rintro r wx ⟨⟨x, y, rfl, f1, f2⟩, rfl⟩
      have q1 : ∀ W : World, (convert 34 3 (.float .f64 x)).run Try.prog W = .ok (.int .i64 px) W := fun W => run_convert_float_int W 34 3 .f64 .i64 x px (by rw [Try.underlying34]; rfl) Try.underlying3 f1.cut
      have q2 : ∀ W : World, (convert 34 3 (.float .f64 y)).run Try.prog W = .ok (.int .i64 py) W := fun W => run_convert_float_int W 34 3 .f64 .i64 y py (by rw [Try.underlying34]; rfl) Try.underlying3 f2.cut
      clear f1 f2 C2 C3
      go_wp2_with fail
      go_ret2
      exact ⟨by rw [← HE.out]; rfl, rfl⟩
  exact K _ rfl
end Go.Proofs.Ytdiellljplcjfaa
