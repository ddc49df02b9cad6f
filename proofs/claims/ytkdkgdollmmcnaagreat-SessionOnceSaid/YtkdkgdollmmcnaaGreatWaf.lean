import Derived.Laws.BytesArg
import Derived.Deep.RegionLaw
import Derived.Laws.MakeOwn
import Derived.Test.YtkdkgdollmmcnaaGreatWae
set_option maxHeartbeats 4000000
set_option maxRecDepth 100000
set_option linter.unusedVariables false
set_option linter.unusedSimpArgs false
namespace Go.Proofs.YtkdkgdollmmcnaaGreat.Pla
open Ieee
theorem zcut (s : Bool) (x k d : Nat) (h : x = k * 2 ^ d) : Toward.zero.cut s x d = k := by
 subst h
 have hp : 0 < 2 ^ d := Nat.two_pow_pos d
 unfold Toward.cut
 by_cases hk : k = 0
 ·subst hk
  simp
 ·rw [log2_shift k d hk, Nat.min_eq_left (by omega), Nat.shiftLeft_eq, Nat.one_mul]
  simp only [Nat.mul_div_cancel _ hp, Bool.toNat_false, Nat.add_zero]
theorem Fw.toInt {x : Nat} {n : Int} (h : Fw x n) : (double.read x).toInt .zero = some n := by
 obtain ⟨s, m, i, r, e, -⟩ := fw_read h
 rw [r]
 unfold Datum.toInt Datum.integral
 dsimp only
 have hp : (0 : Int) < 2 ^ i := two_pow_posI i
 have hq : (0 : Int) < 2 ^ fq := two_pow_posI fq
 rw [signed_eq] at e
 have habs : m * 2 ^ i = n.natAbs * 2 ^ fq := by
  have := congrArg Int.natAbs e
  rw [Int.natAbs_mul, Int.natAbs_mul, Int.natAbs_mul, Int.natAbs_pow, Int.natAbs_pow] at this
  have e1 : (if s = true then (-1 : Int) else 1).natAbs = 1 := by cases s <;> rfl
  rw [e1, Nat.one_mul] at this
  simpa using this
 have hc : Toward.zero.cut s (m <<< (-(fq : Int) + (i : Int)).toNat) (-(-(fq : Int) + (i : Int))).toNat = n.natAbs := by
  by_cases hi : fq ≤ i
  ·rw [show (-(fq : Int) + (i : Int)).toNat = i - fq by omega, show (-(-(fq : Int) + (i : Int))).toNat = 0 by omega, Nat.shiftLeft_eq]
   refine zcut s _ _ 0 ?_
   rw [Nat.pow_zero, Nat.mul_one]
   refine Nat.eq_of_mul_eq_mul_right (Nat.two_pow_pos fq) ?_
   rw [Nat.mul_assoc, ← Nat.pow_add, Nat.sub_add_cancel hi]
   exact habs
  ·rw [show (-(fq : Int) + (i : Int)).toNat = 0 by omega, show (-(-(fq : Int) + (i : Int))).toNat = fq - i by omega, Nat.shiftLeft_zero]
   refine zcut s _ _ _ ?_
   refine Nat.eq_of_mul_eq_mul_right (Nat.two_pow_pos i) ?_
   rw [Nat.mul_assoc, ← Nat.pow_add, Nat.sub_add_cancel (by omega)]
   exact habs
 rw [hc, signed_eq, Int.pow_zero, Int.mul_one]
 congr 1
 have hm0 : (0 : Int) ≤ (m : Int) * 2 ^ i := Int.mul_nonneg (by omega) (by omega)
 cases s
 ·simp only [Bool.false_eq_true, if_false, Int.one_mul] at e ⊢
  have : 0 ≤ n := by
   rcases Int.lt_or_le n 0 with h1 | h1
   ·have := Int.mul_neg_of_neg_of_pos h1 hq
    omega
   ·exact h1
  omega
 ·simp only [if_true] at e ⊢
  have : n ≤ 0 := by
   rcases Int.lt_or_le 0 n with h1 | h1
   ·have := Int.mul_pos h1 hq
    omega
   ·exact h1
  omega
theorem Fw.cut {x : Nat} {n : Int} (h : Fw x n) : floatToIntVal .f64 x .i64 = some n := by
 have h1 : (FloatKind.f64.decode x).toInt .zero = some n := h.toInt
 have hb := h.lt
 unfold floatToIntVal
 rw [h1]
 have h2 : (IntKind.i64.min : Int) = -9223372036854775808 := by decide
 have h3 : (IntKind.i64.max : Int) = 9223372036854775807 := by decide
 simp only
 rw [if_pos (by omega)]
open Go.RowKit Go.Sort
theorem walk_bd {l : List UInt8} (h : l.length ≤ 32) : (walkL l (0, 0)).1.natAbs ≤ 8192 ∧ (walkL l (0, 0)).2.natAbs ≤ 8192 := by
 have := walk_bound l (0, 0) 0 (by decide) (by decide)
 omega
theorem step_bits {x y : Nat} {p : Int × Int} (h : Cw x y p) (b : UInt8) (h1 : p.1.natAbs ≤ 8192) (h2 : p.2.natAbs ≤ 8192) :
  ∃ e f r g k, cMulBits x y 0 4607182418800017408 = some (e, f) ∧ floatBits .add .f64 (floatOfInt .f64 (b.toNat : Int)) 4607182418800017408 = some r ∧ cSumBits .add .f64 e f r 0 = some (g, k) ∧ Cw g k (stepW p b) := by
 have hb : b.toNat < 256 := UInt8.toNat_lt b
 obtain ⟨e, f, m1, c1⟩ := turn_bits h
 obtain ⟨r, a1, c2⟩ := (fw_int (b.toNat : Int) (by omega)).add fw_one (by omega)
 obtain ⟨g, k, s1, c3⟩ := sum_bits c1 (show Cw r 0 ((b.toNat : Int) + 1, 0) from ⟨c2, fw_zero⟩) (by unfold rot; simp only; omega) (by unfold rot; simp only; omega)
 refine ⟨e, f, r, g, k, m1, a1, s1, ?_⟩
 have : addP (rot p) ((b.toNat : Int) + 1, 0) = stepW p b := by
  unfold addP rot stepW
  simp only [Prod.mk.injEq]
  omega
 rw [this] at c3
 exact c3
theorem walk10 (key : List UInt8) (w : World) : Calls Tryz.prog 73 #[sd key] w fun r w' => (∃ x y, r = .returned (.complex .f64 x y) ∧ Fw x (walkF key).1 ∧ Fw y (walkF key).2) ∧ w = w' := by
 have hsz : (bs key).size = key.length := bs_size key
 by_cases hc : (32 : Int) < key.length
 ·have HK : Hid (32 ≤ key.length ∧ 32 ≤ 32) := ⟨by omega, by omega⟩
  have HW : Hid (walkF key = walkL (key.take 32) (0, 0)) := by
   show _ = _
   unfold walkF
   rfl
  go_enter Tryz.func73, Tryz.ntmps73
  go_wp2_with fail
  go_loopw [3, 8] (fun z i wr => ∃ (m x y : Nat), m ≤ 32 ∧ i = iw m ∧ z = .complex .f64 x y ∧ Hid (Cw x y (walkL (key.take m) (0, 0))) ∧ w = wr) (fun _ i _ => 32 - (intOf i).toNat)
  case atStart => exact ⟨0, 0, 0, by omega, rfl, rfl, ⟨fw_zero, fw_zero⟩, rfl⟩
  case round =>
   obtain ⟨m, x, y, hmk, rfl, rfl, HC, rfl⟩ := hrel
   have hbd := walk_bd (l := key.take m) (by rw [List.length_take]; have := HK.out; omega)
   by_cases h2 : m < 32
   ·have hj : (m : Int) < 32 := by omega
    have h1 : m < key.length := by have := HK.out; omega
    have hi : (m : Int) < key.length := by omega
    have HS : Hid _ := walk_take h1
    obtain ⟨b, hb⟩ := xj (key.getD m 0)
    have hget : ∀ h : m < (bs key).size, (bs key)[m]'h = b := fun h => by rw [← hb]; exact bs_get key m h1 h
    rw [hb] at HS
    clear hb
    have HM : Hid (m + 1 ≤ 32) := h2
    obtain ⟨e, f, r, g, j, m1, a1, s1, c1⟩ := step_bits HC.out b hbd.1 hbd.2
    rw [← HS.out] at c1
    have HD : Hid (Cw g j (walkL (key.take (m + 1)) (0, 0))) := c1
    have e1 : ∀ W : World, (binOp .mul 115 (.complex .f64 x y) (.complex .f64 0 4607182418800017408)).run Tryz.prog W = .ok (.complex .f64 e f) W := fun W => run_complex_mul W 26 _ _ _ _ _ _ m1
    have e2 : ∀ W : World, (binOp .add 117 (.float .f64 (floatOfInt .f64 (b.toNat : Int))) (.float .f64 4607182418800017408)).run Tryz.prog W = .ok (.float .f64 r) W := fun W => run_float_arith W .add 34 .f64 _ _ _ a1
    have e3 : ∀ W : World, (binOp .add 115 (.complex .f64 e f) (.complex .f64 r 0)).run Tryz.prog W = .ok (.complex .f64 g j) W := fun W => run_complex_sum W .add (.inl rfl) 26 .f64 _ _ _ _ _ _ s1
    clear HC HS m1 a1 s1 c1 hbd hmk
    go_wp2_with fail
    go_roundw
    case rel => exact ⟨m + 1, g, j, HM.out, by go_num, rfl, HD.out, by first | trivial | rfl⟩
    case measure => simp [intOf]; omega
   ·have hj : ¬ (m : Int) < 32 := by omega
    have HQ : Hid (walkF key = walkL (key.take m) (0, 0)) := by
     show _ = _
     rw [HW.out, show m = 32 by omega]
    go_wp2_with fail
    go_ret
    exact ⟨⟨x, y, rfl, by rw [HQ.out]; exact HC.out.re, by rw [HQ.out]; exact HC.out.im⟩, rfl⟩
 ·have HK : Hid (key.length ≤ key.length ∧ key.length ≤ 32) := ⟨by omega, by omega⟩
  have HW : Hid (walkF key = walkL (key.take key.length) (0, 0)) := by
   show _ = _
   unfold walkF
   rw [List.take_of_length_le (show key.length ≤ 32 by omega), List.take_of_length_le (Nat.le_refl _)]
  go_enter Tryz.func73, Tryz.ntmps73
  go_wp2_with fail
  go_loopw [3, 8] (fun z i wr => ∃ (m x y : Nat), m ≤ key.length ∧ i = iw m ∧ z = .complex .f64 x y ∧ Hid (Cw x y (walkL (key.take m) (0, 0))) ∧ w = wr) (fun _ i _ => key.length - (intOf i).toNat)
  case atStart => exact ⟨0, 0, 0, by omega, rfl, rfl, ⟨fw_zero, fw_zero⟩, rfl⟩
  case round =>
   obtain ⟨m, x, y, hmk, rfl, rfl, HC, rfl⟩ := hrel
   have hbd := walk_bd (l := key.take m) (by rw [List.length_take]; have := HK.out; omega)
   by_cases h2 : m < key.length
   ·have hj : (m : Int) < key.length := by omega
    have h1 : m < key.length := by have := HK.out; omega
    have hi : (m : Int) < key.length := by omega
    have HS : Hid _ := walk_take h1
    obtain ⟨b, hb⟩ := xj (key.getD m 0)
    have hget : ∀ h : m < (bs key).size, (bs key)[m]'h = b := fun h => by rw [← hb]; exact bs_get key m h1 h
    rw [hb] at HS
    clear hb
    have HM : Hid (m + 1 ≤ key.length) := h2
    obtain ⟨e, f, r, g, j, m1, a1, s1, c1⟩ := step_bits HC.out b hbd.1 hbd.2
    rw [← HS.out] at c1
    have HD : Hid (Cw g j (walkL (key.take (m + 1)) (0, 0))) := c1
    have e1 : ∀ W : World, (binOp .mul 115 (.complex .f64 x y) (.complex .f64 0 4607182418800017408)).run Tryz.prog W = .ok (.complex .f64 e f) W := fun W => run_complex_mul W 26 _ _ _ _ _ _ m1
    have e2 : ∀ W : World, (binOp .add 117 (.float .f64 (floatOfInt .f64 (b.toNat : Int))) (.float .f64 4607182418800017408)).run Tryz.prog W = .ok (.float .f64 r) W := fun W => run_float_arith W .add 34 .f64 _ _ _ a1
    have e3 : ∀ W : World, (binOp .add 115 (.complex .f64 e f) (.complex .f64 r 0)).run Tryz.prog W = .ok (.complex .f64 g j) W := fun W => run_complex_sum W .add (.inl rfl) 26 .f64 _ _ _ _ _ _ s1
    clear HC HS m1 a1 s1 c1 hbd hmk
    go_wp2_with fail
    go_roundw
    case rel => exact ⟨m + 1, g, j, HM.out, by go_num, rfl, HD.out, by first | trivial | rfl⟩
    case measure => simp [intOf]; omega
   ·have hj : ¬ (m : Int) < key.length := by omega
    have HQ : Hid (walkF key = walkL (key.take m) (0, 0)) := by
     show _ = _
     rw [HW.out, show m = key.length by omega]
    go_wp2_with fail
    go_ret
    exact ⟨⟨x, y, rfl, by rw [HQ.out]; exact HC.out.re, by rw [HQ.out]; exact HC.out.im⟩, rfl⟩
def mbB (n : Int) : Bool := decide (1 ≤ n ∧ n ≤ 8)
theorem mb18 (n : Int) (w : World) : Calls Tryz.prog 72 #[iw n] w fun r w' => r = .returned (.bool (mbB n)) ∧ w = w' := by
 by_cases h1 : 1 ≤ n
 ·by_cases h2 : n ≤ 8
  ·have HB : Hid (mbB n = true) := by show _ = _; unfold mbB; exact decide_eq_true ⟨h1, h2⟩
   rw [HB.out]
   go_enter Tryz.func72, Tryz.ntmps72
   go_wp2_with fail
   go_ret
   exact ⟨rfl, rfl⟩
  ·have HB : Hid (mbB n = false) := by show _ = _; unfold mbB; exact decide_eq_false (by omega)
   rw [HB.out]
   go_enter Tryz.func72, Tryz.ntmps72
   go_wp2_with fail
   go_ret
   exact ⟨rfl, rfl⟩
 ·have HB : Hid (mbB n = false) := by show _ = _; unfold mbB; exact decide_eq_false (by omega)
  rw [HB.out]
  go_enter Tryz.func72, Tryz.ntmps72
  go_wp2_with fail
  go_ret
  exact ⟨rfl, rfl⟩
theorem keyB_false {key : List UInt8} (h : key.length < 1 ∨ 32 < key.length) : keyB key = false := by
 unfold keyB
 simp only [Bool.and_eq_false_iff, decide_eq_false_iff_not]
 omega
theorem keyB_true {key : List UInt8} (h1 : ¬ key.length < 1) (h2 : ¬ 32 < key.length) : keyB key = true := by
 unfold keyB
 simp only [Bool.and_eq_true, decide_eq_true_eq]
 omega
theorem shard_no {key : List UInt8} {n : Int} (h : ¬ (keyB key = true ∧ 1 ≤ n ∧ n ≤ 8)) : shardF key n = (0, 1) := by
 unfold shardF
 rw [if_neg h]
theorem shard11 (key : List UInt8) (n : Int) (w : World) : Calls Tryz.prog 26 #[sd key, iw n] w fun r w' => r = .returned (.tuple #[iw (shardF key n).1, iw (shardF key n).2]) ∧ w = w' := by
 have hsz : (bs key).size = key.length := bs_size key
 have C2 : Hid (1 = 1 → Calls Tryz.prog 73 #[sd key] w fun r w' => (∃ x y, r = .returned (.complex .f64 x y) ∧ Fw x (walkF key).1 ∧ Fw y (walkF key).2) ∧ w = w') := fun _ => walk10 key w
 have hbd := walkF_bound key
 have C3 : Hid (1 = 1 → Calls Tryz.prog 72 #[iw n] w fun r w' => r = .returned (.bool (mbB n)) ∧ w = w') := fun _ => mb18 n w
 by_cases h1 : key.length < 1
 ·have i1 : (key.length : Int) < 1 := by omega
  rw [shard_no (by rw [keyB_false (.inl h1)]; simp)]
  clear h1 C2 C3 hbd
  go_enter Tryz.func26, Tryz.ntmps26
  go_wp2_with fail
  go_ret2
  exact ⟨rfl, rfl⟩
 by_cases h2 : 32 < key.length
 ·have i1 : ¬ (key.length : Int) < 1 := by omega
  have i2 : (32 : Int) < key.length := by omega
  rw [shard_no (by rw [keyB_false (.inr h2)]; simp)]
  clear h1 h2 C2 C3 hbd
  go_enter Tryz.func26, Tryz.ntmps26
  go_wp2_with fail
  go_ret2
  exact ⟨rfl, rfl⟩
 have i1 : ¬ (key.length : Int) < 1 := by omega
 have i2 : ¬ (32 : Int) < key.length := by omega
 have hkb := keyB_true h1 h2
 by_cases h3 : mbB n = false
 ·have h3' : ¬ (1 ≤ n ∧ n ≤ 8) := by simpa [mbB] using h3
  rw [shard_no (by omega)]
  have HB : Hid (mbB n = false) := h3
  clear h1 h2 C2 hbd hkb h3 h3'
  go_enter Tryz.func26, Tryz.ntmps26
  go_wp2_with fail
  refine (C3.out (by trivial)).mono ?_
  rintro r wx ⟨rfl, rfl⟩
  rw [HB.out]
  go_wp2_with fail
  go_ret2
  exact ⟨rfl, rfl⟩
 have h4 : 1 ≤ n ∧ n ≤ 8 := by simpa [mbB] using h3
 have HB : Hid (mbB n = true) := by show _ = _; simpa using h3
 clear h3
 have HN : Hid (shardF key n = ((3 * (walkF key).1 + 5 * (walkF key).2) % n, 0)) := by
  show _ = _
  unfold shardF
  rw [if_pos ⟨hkb, by omega, by omega⟩]
 rw [HN.out]
 generalize walkF key = p at *
 obtain ⟨px, py⟩ := p
 dsimp only at *
 have i3 : ¬ n = 0 := by omega
 have HQ : Hid _ := rem_up (3 * px + 5 * py) n (by omega)
 have e1 := w64 (n := 3 * px) (by omega) (by omega)
 have e2 := w64 (n := 5 * py) (by omega) (by omega)
 have e3 := w64 (n := 3 * px + 5 * py) (by omega) (by omega)
 clear h1 h2 hkb HN
 have K : ∀ neg : Bool, decide ((3 * px + 5 * py).tmod n < 0) = neg → Calls Tryz.prog 26 #[sd key, iw n] w fun r w' => r = .returned (.tuple #[iw ((3 * px + 5 * py) % n), iw 0]) ∧ w = w' := by
  intro neg hneg
  cases neg
  ·have hneg' : ¬ (3 * px + 5 * py).tmod n < 0 := by simpa using hneg
   have HE : Hid ((3 * px + 5 * py).tmod n = (3 * px + 5 * py) % n) := by
    have := HQ.out
    rw [if_neg hneg'] at this
    exact this
   clear hneg HQ
   go_enter Tryz.func26, Tryz.ntmps26
   go_wp2_with fail
   refine (C3.out (by trivial)).mono ?_
   rintro r wx ⟨rfl, rfl⟩
   rw [HB.out]
   go_wp2_with fail
   refine (C2.out (by trivial)).mono ?_
   rintro r wx ⟨⟨x, y, rfl, f1, f2⟩, rfl⟩
   have q1 : ∀ W : World, (convert 117 3 (.float .f64 x)).run Tryz.prog W = .ok (iw px) W := fun W => run_convert_float_int W 117 3 .f64 .i64 x px (by rw [Tryz.underlying117]; rfl) Tryz.underlying3 f1.cut
   have q2 : ∀ W : World, (convert 117 3 (.float .f64 y)).run Tryz.prog W = .ok (iw py) W := fun W => run_convert_float_int W 117 3 .f64 .i64 y py (by rw [Tryz.underlying117]; rfl) Tryz.underlying3 f2.cut
   clear f1 f2 C2 C3
   go_wp2_with fail
   go_ret2
   exact ⟨by rw [← HE.out]; rfl, rfl⟩
  ·have hneg' : (3 * px + 5 * py).tmod n < 0 := by simpa using hneg
   have HE : Hid (wrap64 ((3 * px + 5 * py).tmod n + n) = (3 * px + 5 * py) % n) := by
    have := HQ.out
    rw [if_pos hneg'] at this
    show _ = _
    have a1 := Int.emod_nonneg (3 * px + 5 * py) (show n ≠ 0 by omega)
    have a2 := Int.emod_lt_of_pos (3 * px + 5 * py) (show 0 < n by omega)
    rw [this]
    exact w64 (by omega) (by omega)
   clear hneg HQ
   go_enter Tryz.func26, Tryz.ntmps26
   go_wp2_with fail
   refine (C3.out (by trivial)).mono ?_
   rintro r wx ⟨rfl, rfl⟩
   rw [HB.out]
   go_wp2_with fail
   refine (C2.out (by trivial)).mono ?_
   rintro r wx ⟨⟨x, y, rfl, f1, f2⟩, rfl⟩
   have q1 : ∀ W : World, (convert 117 3 (.float .f64 x)).run Tryz.prog W = .ok (iw px) W := fun W => run_convert_float_int W 117 3 .f64 .i64 x px (by rw [Tryz.underlying117]; rfl) Tryz.underlying3 f1.cut
   have q2 : ∀ W : World, (convert 117 3 (.float .f64 y)).run Tryz.prog W = .ok (iw py) W := fun W => run_convert_float_int W 117 3 .f64 .i64 y py (by rw [Tryz.underlying117]; rfl) Tryz.underlying3 f2.cut
   clear f1 f2 C2 C3
   go_wp2_with fail
   go_ret2
   exact ⟨by rw [← HE.out]; rfl, rfl⟩
 exact K _ rfl
theorem or8 (f g : Nat) (hf : f < 256) (hg : g < 256) : bits BinOp.or IntKind.u8 (f : Int) (g : Int) = ((f ||| g : Nat) : Int) := by
 have hlt : f ||| g < 256 := Nat.or_lt_two_pow (n := 8) hf hg
 unfold bits
 simp
 have e1 : f % 2 ^ IntKind.u8.bits = f := Nat.mod_eq_of_lt (by show f < 2 ^ 8; omega)
 have e2 : g % 2 ^ IntKind.u8.bits = g := Nat.mod_eq_of_lt (by show g < 2 ^ 8; omega)
 rw [e1, e2]
 generalize f ||| g = x at *
 simp [IntKind.wrap, IntKind.signed, IntKind.bits]
 omega
theorem pm8 (m : Nat) (h : m < 8) : (2 : Int) ^ m % 256 = ((2 ^ m : Nat) : Int) := by
 match m, h with
 | 0, _ => rfl
 | 1, _ => rfl
 | 2, _ => rfl
 | 3, _ => rfl
 | 4, _ => rfl
 | 5, _ => rfl
 | 6, _ => rfl
 | 7, _ => rfl
def nv : Value := sy
theorem info70 : (Tryz.prog.info? 70).map (fun i => (i.zero, i.size, i.bytes)) = some (some (.agg #[su, su, .bool false]), 3, 40) := by kernel_rfl
theorem info50 : (Tryz.prog.info? 50).map (fun i => (i.zero, i.size, i.bytes)) = some (some sy, 1, 24) := by kernel_rfl
variable {B : Nat} {vo vw : Value} {vs : List Value} {L : List (List Wr)} {own : List Wr} {W W' : World}
theorem own_step {l : List Wr} {n k : Int} {m : Nat} (h : m < l.length) : ownF (l.take (m + 1)) n k = ownF (l.take m) n k ++ (if shardF (l.getD m dw).key n = (k, 0) then [l.getD m dw] else []) := by
 unfold ownF
 rw [List.take_succ_eq_append_getElem h, List.filter_append, show l.getD m dw = l[m] from by simp [List.getD, h]]
 congr 1
 by_cases hc : shardF l[m].key n = (k, 0)
 ·rw [if_pos hc, List.filter_cons_of_pos (by simpa using hc)]; rfl
 ·rw [if_neg hc, List.filter_cons_of_neg (by simpa using hc)]; rfl
theorem own_len (l : List Wr) (n k : Int) : (ownF l n k).length ≤ l.length := List.length_filter_le _ _
theorem wr_ow {base n : Nat} {va : Value} {l : List Wr} {w : World} (x : Wr) (ho : w.ownsRow base 70 3 va n (rowC wrc l)) (hb : base ≤ w.heap.size) (hl : n < 1000000) :
  Ow base 70 3 va n (rowC wrc l) (w.heap.size + 1) (.slice (some ⟨w.heap.size, 0, none⟩) 1 1) 1 (rowC wrc [x]) (w.alloc (.cells #[sd x.key, sd x.val, .bool x.dead] 70)) :=
 ⟨World.ownsRow.alloc ho _, row_one wrc 3 wrc_len x 70 w (fun j u hj => block_cell (heap_alloc_new w _) (by simpa using hj)), rowC_cells wrc wrc_one _, Nat.le_trans hb (by simp), by omega⟩
structure Pq (w : World) (v : Value) (l : List Wr) (W : World) : Prop where
 bel : Below w.heap.size w W
 ws : WsAt w.heap.size v l W
theorem Pq.on {w W W' : World} {v : Value} {l : List Wr} (h : Pq w v l W) (hb : Below W.heap.size W W') : Pq w v l W' := ⟨h.bel.trans (hb.mono h.bel.size), h.ws.on (hb.mono h.bel.size)⟩
theorem parts17 (l : List Wr) (ao : Option Addr) (cp : Nat) (n : Int) (w : World) (hl : l.length ≤ 1000) (hws : WsAt w.heap.size (.slice ao l.length cp) l w) : Calls Tryz.prog 136 #[.slice ao l.length cp, iw n] w fun r w' => r = .returned (.int .u8 (bitsL (splitF l n) : Int)) ∧ Below w.heap.size w w' := by
 rw [← parts_bits]
 have HW : Hid (Pq w (.slice ao l.length cp) l w) := ⟨Below.refl _ _, hws⟩
 have CS : Hid (∀ (key : List UInt8) (W : World), 1 = 1 → Calls Tryz.prog 26 #[sd key, iw n] W fun r w' => r = .returned (.tuple #[iw (shardF key n).1, iw (shardF key n).2]) ∧ W = w') := fun key W _ => shard11 key n W
 have hn8 : ∀ key, (shardF key n).2 = 0 → n ≤ 8 := fun key h => by
  rcases shard_code key n with ⟨_, _, _, h3⟩ | ⟨h1, _⟩
  ·exact h3
  ·rw [h1] at h; simp at h
 have HN8 : Hid _ := hn8
 clear hws hn8
 go_enter Tryz.func136, Tryz.ntmps136
 go_wp2_with fail
 go_loopw [5, 12] (fun q i wr => ∃ m : Nat, m ≤ l.length ∧ i = iw m ∧ q = .int .u8 (partsF (l.take m) n : Int) ∧ Hid (Pq w (.slice ao l.length cp) l wr)) (fun _ i _ => l.length - (intOf i).toNat)
 case atStart => exact ⟨0, Nat.zero_le _, rfl, rfl, HW.out⟩
 case round =>
  obtain ⟨m, hm, rfl, rfl, HE⟩ := hrel
  clear HW
  by_cases hml : m < l.length
  ·have hml1 : (m : Int) < l.length := by omega
   have HM : Hid (m + 1 ≤ l.length) := hml
   have HST : Hid _ := parts_step (n := n) hml
   have hP := parts_lt (l.take m) n
   obtain ⟨b1, o1, rfl, d0, d1, d2⟩ := HE.out.ws.el hml
   generalize l.getD m dw = x at *
   generalize partsF (l.take m) n = P at *
   have HSR : Hid _ := shard_range x.key n
   have HN : Hid _ := HN8.out x.key
   have HB0 : Hid (Pq w (.slice (some ⟨b1, o1, none⟩) l.length cp) l (wr.alloc (.cells #[sd x.key, sd x.val, .bool x.dead] 70)) ∧ (wr.alloc (.cells #[sd x.key, sd x.val, .bool x.dead] 70)).heap[wr.heap.size]? = some (.cells #[sd x.key, sd x.val, .bool x.dead] 70 (0, 0))) := ⟨HE.out.on (al _), heap_alloc_new wr _⟩
   have HPS : Hid (partS n P x = if (shardF x.key n).2 = 0 then P ||| 2 ^ (shardF x.key n).1.toNat else P) := rfl
   have HC : Hid _ := CS.out x.key
   generalize shardF x.key n = u at *
   obtain ⟨ua, ub⟩ := u
   dsimp only at *
   go_upto_region 5 with fail
   obtain ⟨y0, hy⟩ := xj (wr.alloc (.cells #[sd x.key, sd x.val, .bool x.dead] 70))
   obtain ⟨bw, hbw⟩ := xj wr.heap.size
   rw [hy, hbw] at HB0
   rw [hy, hbw]
   have g0 : y0.cell? ⟨bw, 0, none⟩ = some (sd x.key) := block_cell HB0.out.2 rfl
   clear hy hbw HE d0 d1 d2
   go_wp2_with fail
   refine (HC.out _ (by trivial)).mono ?_
   rintro r wx ⟨rfl, rfl⟩
   clear HC g0
   by_cases hb0 : ub = 0
   ·subst hb0
    obtain ⟨h0, h1⟩ := HSR.out rfl
    have hn8 := HN.out rfl
    obtain ⟨k, rfl⟩ : ∃ k : Nat, ua = (k : Int) := ⟨ua.toNat, by omega⟩
    have hk8 : k < 8 := by omega
    have HP2 : Hid _ := pm8 k hk8
    have HO : Hid (bits BinOp.or IntKind.u8 (P : Int) ((2 ^ k : Nat) : Int) = ((P ||| 2 ^ k : Nat) : Int)) := or8 _ _ hP (Nat.pow_lt_pow_right (a := 2) (n := 8) (by decide) hk8)
    rw [if_pos rfl, Int.toNat_natCast] at HPS
    clear HSR HN
    go_wp2_with fail
    go_roundw
    case rel => exact ⟨m + 1, HM.out, by go_num, by rw [HST.out, HPS.out, ← HO.out, HP2.out], HB0.out.1⟩
    case measure => simp [intOf]; omega
   ·rw [if_neg hb0] at HPS
    clear HSR HN
    go_wp2_with fail
    go_roundw
    case rel => exact ⟨m + 1, HM.out, by go_num, by rw [HST.out, HPS.out], HB0.out.1⟩
    case measure => simp [intOf]; omega
  ·have hml1 : ¬ (m : Int) < l.length := by omega
   have HTL : Hid (partsF (l.take m) n = partsF l n) := by show _ = _; rw [List.take_of_length_le (by omega)]
   go_wp2_with fail
   go_ret
   exact ⟨by rw [← HTL.out]; rfl, HE.out.bel⟩
end Go.Proofs.YtkdkgdollmmcnaaGreat.Pla
namespace Go.Proofs.YtkdkgdollmmcnaaGreat.Pla
open Go.RowKit Go.Sort
structure Sm (B g : Nat) (vs : List Value) (L : List (List Wr)) (W : World) : Prop where
 len : vs.length = L.length
 x : W.heap[g]? = some (.cells vs.toArray 50 (0, 0))
 gB : B ≤ g
 ins : ∀ i, i < L.length → W.ownsRow B 70 3 (vs.getD i nv) (L.getD i []).length (rowC wrc (L.getD i []))
 ag : ∀ i, i < L.length → (vs.getD i nv).ownBlock ≠ some g
 ap : ∀ i j, i < L.length → j < L.length → i ≠ j → ∀ k, (vs.getD i nv).ownBlock = some k → (vs.getD j nv).ownBlock ≠ some k
variable {B g : Nat} {vs : List Value} {L : List (List Wr)} {W W' : World}
theorem Sm.on (h : Sm B g vs L W) (hb : Below W.heap.size W W') : Sm B g vs L W' :=
 ⟨h.len, by rw [hb.block g (Array.getElem?_eq_some_iff.1 h.x).1]; exact h.x, h.gB, fun i hi => own_on (h.ins i hi) hb, h.ag, h.ap⟩
theorem Sm.cell (h : Sm B g vs L W) {i : Nat} (hi : i < L.length) : W.cell? ⟨g, i, none⟩ = some (vs.getD i nv) :=
 block_cell h.x (by have := h.len; simp [List.getD, show i < vs.length by omega])
theorem Sm.ss (h : Sm B g vs L W) (hl : L.length ≤ 1000) : SsAt (.slice (some ⟨g, 0, none⟩) L.length L.length) L W := by
 refine ⟨vs, h.len, ⟨some ⟨g, 0, none⟩, L.length, rfl, by rw [h.len, Nat.mul_one], Nat.le_refl _, by omega, fun _ => ⟨g, 0, rfl, fun _ => (Array.getElem?_eq_some_iff.1 h.x).1, fun j u hj => ?_⟩⟩, fun i hi => rw_own (h.ins i hi)⟩
 rw [Nat.zero_add]
 exact block_cell h.x (by simpa using hj)
theorem getD_set {vs : List Value} {i j : Nat} {u : Value} (h : i < vs.length) : (vs.set i u).getD j nv = if j = i then u else vs.getD j nv := by
 by_cases hj : j = i
 ·subst hj; simp [List.getD, h]
 ·rw [if_neg hj]; simp [List.getD, Ne.symm hj]
theorem getL_set {L : List (List Wr)} {i j : Nat} {u : List Wr} (h : i < L.length) : (L.set i u).getD j [] = if j = i then u else L.getD j [] := by
 by_cases hj : j = i
 ·subst hj; simp [List.getD, h]
 ·rw [if_neg hj]; simp [List.getD, Ne.symm hj]
theorem Sm.push (h : Sm B g vs L W) (x : Wr) {i : Nat} (hi : i < L.length) {v' : Value} (hown : W'.ownsRow B 70 3 v' ((L.getD i []).length + 1) (rowC wrc (L.getD i []) ++ rowC wrc [x])) (hg : W.grownBy W' (vs.getD i nv).ownBlock) (hat : v'.ownBlock = (vs.getD i nv).ownBlock ∨ v'.ownBlock = some W.heap.size) :
  W'.heap[g]? = some (.cells vs.toArray 50 (0, 0)) ∧ Sm B g (vs.set i v') (L.set i (L.getD i [] ++ [x])) (W'.setCell ⟨g, i, none⟩ v') := by
 have hk := grown_kept hg
 have hl := h.len
 have hgl := (Array.getElem?_eq_some_iff.1 h.x).1
 have hx : W'.heap[g]? = some (.cells vs.toArray 50 (0, 0)) := by rw [hk.block g hgl (h.ag i hi)]; exact h.x
 have hv'g : v'.ownBlock ≠ some g := by
  rcases hat with e | e
  ·rw [e]; exact h.ag i hi
  ·rw [e]; intro e2; injection e2 with e2; omega
 have hks := set_kept' W' g i v'
 have hlen : (L.set i (L.getD i [] ++ [x])).length = L.length := List.length_set
 refine ⟨hx, ⟨by rw [List.length_set, hlen, hl], ?_, h.gB, fun j hj => ?_, fun j hj => ?_, fun a b ha hb hab k => ?_⟩⟩
 ·have := block_set (j := i) v' hx
  simpa using this
 ·rw [hlen] at hj
  rw [getD_set (by omega), getL_set hi]
  by_cases hji : j = i
  ·rw [if_pos hji, if_pos hji, rowC_append, List.length_append]
   exact own_kept hown hks (fun k h1 h2 => hv'g (by rw [← h2]; exact h1))
  ·rw [if_neg hji, if_neg hji]
   exact own_kept (own_kept (h.ins j hj) hk (fun k h1 h2 => h.ap j i hj hi hji k h1 h2)) hks (fun k h1 h2 => h.ag j hj (by rw [← h2]; exact h1))
 ·rw [hlen] at hj
  rw [getD_set (by omega)]
  by_cases hji : j = i
  ·rw [if_pos hji]; exact hv'g
  ·rw [if_neg hji]; exact h.ag j hj
 ·rw [hlen] at ha hb
  rw [getD_set (by omega), getD_set (by omega)]
  have key : ∀ j, j < L.length → j ≠ i → ∀ k, (vs.getD j nv).ownBlock = some k → v'.ownBlock ≠ some k := fun j hj hji k h1 h2 => by
   rcases hat with e | e
   ·rw [e] at h2
    exact h.ap j i hj hi hji k h1 h2
   ·rw [e] at h2
    injection h2 with h2
    have := World.ownsRow.lt (h.ins j hj) k h1
    omega
  by_cases hai : a = i
  ·rw [if_pos hai]
   have hbi : b ≠ i := fun e => hab (by rw [hai, e])
   rw [if_neg hbi]
   exact fun h1 h2 => key b hb hbi k h2 h1
  ·rw [if_neg hai]
   by_cases hbi : b = i
   ·rw [if_pos hbi]
    exact fun h1 => key a ha hai k h1
   ·rw [if_neg hbi]
    exact h.ap a b ha hb hab k
end Go.Proofs.YtkdkgdollmmcnaaGreat.Pla
namespace Go.Proofs.YtkdkgdollmmcnaaGreat.Pla
open Go.RowKit Go.Sort
theorem step_append_rw {P : Program} {base t e size bytes B n m : Nat} {v vx : Value} {xs cs : List Value} {i : TypeInfo} {z : Value} {ops : Array Oper} {o : Oper} {a : Act} {K : Act → World → Prop} {Q : Exit → Act → World → Prop} {E : Prop} {w : World} (H : Ow base e size v n xs B vx m cs w)
  (ht : P.underlying t = some (.slice e)) (hi : P.info? e = some i) (hz : i.zero = some z) (hsize : i.size = size) (hby : i.bytes = bytes) (hzs : z.cells.size = size) (hsz : 0 < size) (hb : bytes ≤ 1000)
  (s x : Operand) (ho : o.op = .call { callee := .builtin .append, args := #[s, x], argTypes := #[t, t] }) (hw : Region.wanted o (yielded ops a.tmps) = true) (hs : a.eval s = v) (hx : a.eval x = vx)
  (h : ∀ v' w', w'.ownsRow base e size v' (n + m) (xs ++ cs) → w.grownBy w' v.ownBlock → (v'.ownBlock = v.ownBlock ∨ v'.ownBlock = some w.heap.size) → K (a.put o.dst v') w') : if Region.wanted o (yielded ops a.tmps) = true then Oper.wp P o a w K Q else E := by
 rw [if_pos hw]
 obtain ⟨v', w', hr, h2, h3, h4⟩ := run_append_rw (ty := o.type) ht hi hz hsize hby hzs hsz hb H
 unfold Oper.wp execOp
 simp only [ho, resolve, invoke, builtin, Sem.run_bind, Sem.run_pure, Result.andThen_ok, List.map_toArray, List.map_cons, List.map_nil, hs, hx, hr]
 exact h v' w' h2 h3 h4
end Go.Proofs.YtkdkgdollmmcnaaGreat.Pla
namespace Go.Proofs.YtkdkgdollmmcnaaGreat
open Go.RowKit Go.Sort
theorem Ow.drew {base e size B n m : Nat} {v vx : Value} {xs cs : List Value} {w : World} (h : Ow base e size v n xs B vx m cs w) : Ow base e size v n xs B vx m cs w.drew := ⟨h.own.drew, RwAt.on h.new (Below.refl _ _).drew, h.one, h.size, h.len⟩
end Go.Proofs.YtkdkgdollmmcnaaGreat
namespace Go.Proofs.YtkdkgdollmmcnaaGreat.Pla
open Go.RowKit Go.Sort
def rowsF (l : List Wr) (n : Int) (N : Nat) : List (List Wr) := (List.range N).map (fun k : Nat => ownF l n (k : Int))
theorem rows_len (l : List Wr) (n : Int) (N : Nat) : (rowsF l n N).length = N := by simp [rowsF]
theorem rows_get (l : List Wr) (n : Int) (N : Nat) {k : Nat} (h : k < N) : (rowsF l n N).getD k [] = ownF l n (k : Int) := by simp [rowsF, List.getD, h]
theorem rows_hit {l : List Wr} {n : Int} {N m k : Nat} (h : m < l.length) (hk : k < N) (hs : shardF (l.getD m dw).key n = ((k : Int), 0)) : rowsF (l.take (m + 1)) n N = (rowsF (l.take m) n N).set k ((rowsF (l.take m) n N).getD k [] ++ [l.getD m dw]) := by
 apply List.ext_getElem
 ·rw [List.length_set, rows_len, rows_len]
 ·intro j h1 h2
  rw [rows_len] at h1
  rw [List.getElem_set]
  have e : ∀ (q : List Wr), (rowsF q n N)[j]'(by rw [rows_len]; exact h1) = ownF q n (j : Int) := fun q => by simp [rowsF]
  rw [e, e, own_step h]
  by_cases hkj : k = j
  ·subst hkj
   rw [if_pos rfl, if_pos hs, rows_get _ _ _ hk]
  ·rw [if_neg hkj, if_neg (fun h9 => hkj (by rw [hs] at h9; injection h9 with h9; omega)), List.append_nil]
theorem rows_miss {l : List Wr} {n : Int} {N m : Nat} (h : m < l.length) (hs : (shardF (l.getD m dw).key n).2 ≠ 0) : rowsF (l.take (m + 1)) n N = rowsF (l.take m) n N := by
 apply List.ext_getElem
 ·rw [rows_len, rows_len]
 ·intro j h1 h2
  rw [rows_len] at h1
  have e : ∀ (q : List Wr), (rowsF q n N)[j]'(by rw [rows_len]; exact h1) = ownF q n (j : Int) := fun q => by simp [rowsF]
  rw [e, e, own_step h, if_neg (fun h9 => hs (by rw [h9])), List.append_nil]
theorem made_nil (N : Nat) : madeCells (Value.slice none 0 0).cells (N * 1) = (List.replicate N nv).toArray := by
 apply Array.ext'
 apply List.ext_getElem
 ·simp [madeCells]
 ·intro i h1 h2
  simp [madeCells, Value.cells, nv, Nat.mod_one]
theorem sm_new (w : World) (n : Int) (N : Nat) : Sm w.heap.size w.heap.size (List.replicate N nv) (rowsF [] n N) (w.alloc (.cells (List.replicate N nv).toArray 50)) := by
 have hg : ∀ i, (List.replicate N nv).getD i nv = nv := fun i => by
  by_cases h : i < N
  ·simp [List.getD, h]
  ·simp [List.getD, h]
 have hr : ∀ i, i < (rowsF [] n N).length → (rowsF [] n N).getD i [] = [] := fun i hi => by rw [rows_len] at hi; rw [rows_get _ _ _ hi]; rfl
 refine ⟨by rw [rows_len]; simp, heap_alloc_new w _, Nat.le_refl _, fun i hi => ?_, fun i _ => by rw [hg]; simp [nv, Value.ownBlock], fun i j _ _ _ k hk => by rw [hg] at hk; simp [nv, Value.ownBlock] at hk⟩
 rw [hg, hr i hi]
 exact own_nil _ _ _ _
structure Sj (w : World) (v : Value) (l : List Wr) (g : Nat) (vs : List Value) (L : List (List Wr)) (W : World) : Prop where
 q : Pq w v l W
 s : Sm w.heap.size g vs L W
theorem Sj.on {w W W' : World} {v : Value} {l : List Wr} {g : Nat} {vs : List Value} {L : List (List Wr)} (h : Sj w v l g vs L W) (hb : Below W.heap.size W W') : Sj w v l g vs L W' := ⟨h.q.on hb, h.s.on hb⟩
theorem Sj.push {w W1 W' : World} {v : Value} {l : List Wr} {g : Nat} {vs : List Value} {L : List (List Wr)} (h1 : Sj w v l g vs L W1) (x : Wr) {i : Nat} (hi : i < L.length) {v' vk : Value} (hvk : vs.getD i nv = vk) (hown : W'.ownsRow w.heap.size 70 3 v' ((L.getD i []).length + 1) (rowC wrc (L.getD i []) ++ rowC wrc [x])) (hg : W1.grownBy W' vk.ownBlock) (hat : v'.ownBlock = vk.ownBlock ∨ v'.ownBlock = some W1.heap.size) :
  W'.heap[g]? = some (.cells vs.toArray 50 (0, 0)) ∧ Sj w v l g (vs.set i v') (L.set i (L.getD i [] ++ [x])) (W'.setCell ⟨g, i, none⟩ v') := by
 subst hvk
 obtain ⟨p1, p2⟩ := h1.s.push x hi hown hg hat
 have hb : Below w.heap.size W1 W' := (grown_kept hg).below h1.q.bel.size (fun k hf => (World.ownsRow.lt (h1.s.ins i hi) k hf).1)
 have hb2 : Below w.heap.size W' (W'.setCell ⟨g, i, none⟩ v') := (Below.refl _ _).setCell (p := ⟨g, i, none⟩) h1.s.gB v'
 exact ⟨p1, ⟨⟨(h1.q.bel.trans hb).trans hb2, (h1.q.ws.on hb).on hb2⟩, p2⟩⟩
theorem split15 (l : List Wr) (ao : Option Addr) (cp : Nat) (n : Int) (w : World) (hl : l.length ≤ 1000) (hws : WsAt w.heap.size (.slice ao l.length cp) l w) : Calls Tryz.prog 90 #[.slice ao l.length cp, iw n] w fun r w' => (∃ v, r = .returned v ∧ SsAt v (splitF l n) w' ∧ (1 ≤ n ∧ n ≤ 8 → ∃ g vs, v = .slice (some ⟨g, 0, none⟩) (splitF l n).length (splitF l n).length ∧ Sm w.heap.size g vs (splitF l n) w')) ∧ Below w.heap.size w w' := by
 by_cases hn : 1 ≤ n ∧ n ≤ 8
 ·obtain ⟨N, rfl⟩ : ∃ N : Nat, n = (N : Int) := ⟨n.toNat, by omega⟩
  have i1 : ¬ (N : Int) < 1 := by omega
  have i2 : ¬ (8 : Int) < (N : Int) := by omega
  have HS : Hid (splitF l (N : Int) = rowsF l N N) := by
   show _ = _
   unfold splitF rowsF
   rw [if_pos hn]
   rfl
  have CT : Hid (∀ (key : List UInt8) (W : World), 1 = 1 → Calls Tryz.prog 26 #[sd key, iw (N : Int)] W fun r w' => r = .returned (.tuple #[iw (shardF key N).1, iw (shardF key N).2]) ∧ W = w') := fun key W _ => shard11 key N W
  obtain ⟨j0, jin, j1, j2, j3⟩ := info_parts info70
  obtain ⟨k0, kin, k1, k2, k3⟩ := info_parts info50
  have mk : (Instr.makeSlice 132 (iw (N : Int)) (iw (N : Int))).run Tryz.prog w = .ok (.slice (some ⟨w.heap.size, 0, none⟩) N N) (w.alloc (.cells (List.replicate N nv).toArray 50)) := by
   have := run_make (P := Tryz.prog) w 132 50 k0 _ Tryz.underlying132 kin k1 .i64 .i64 (N : Int) (N : Int) (by omega) (by omega) (by rw [k3]; omega) (by omega)
   rw [k2, Int.toNat_natCast, made_nil] at this
   exact this
  have HW : Hid (Sj w (.slice ao l.length cp) l w.heap.size (List.replicate N nv) (rowsF [] N N) (w.alloc (.cells (List.replicate N nv).toArray 50))) := ⟨⟨al _, hws.on (al _)⟩, sm_new w N N⟩
  have hN : N ≤ 8 := by omega
  generalize hw1 : w.alloc (.cells (List.replicate N nv).toArray 50) = w1 at *
  obtain ⟨g, hgg⟩ := xj w.heap.size
  have HG : Hid (Sj w (.slice ao l.length cp) l g (List.replicate N nv) (rowsF [] N N) w1) := by rw [← hgg]; exact HW.out
  clear HW hws
  rw [hgg] at mk
  clear hgg hw1
  have HB : Hid (mbB (N : Int) = true) := by show _ = _; unfold mbB; exact decide_eq_true hn
  have C3 : Hid (1 = 1 → Calls Tryz.prog 72 #[iw (N : Int)] w fun r w' => r = .returned (.bool (mbB (N : Int))) ∧ w = w') := fun _ => mb18 (N : Int) w
  clear hn
  go_enter Tryz.func90, Tryz.ntmps90
  go_wp2_with fail
  refine (C3.out (by trivial)).mono ?_
  rintro r wx ⟨rfl, rfl⟩
  rw [HB.out]
  clear C3
  go_wp2_with fail
  have HN0 : Hid (rowsF [] N N = rowsF (l.take 0) N N) := rfl
  go_loopw [17] (fun i wr => ∃ (m : Nat) (vs : List Value), m ≤ l.length ∧ i = iw m ∧ Hid (Sj w (.slice ao l.length cp) l g vs (rowsF (l.take m) N N) wr)) (fun i _ => l.length - (intOf i).toNat)
  case atStart => exact ⟨0, _, Nat.zero_le _, rfl, HG.out⟩
  case round =>
   obtain ⟨m, vs, hm, rfl, HE⟩ := hrel
   clear HG HN0 mk
   by_cases hml : m < l.length
   ·have hml1 : (m : Int) < l.length := by omega
    have HM : Hid (m + 1 ≤ l.length) := hml
    obtain ⟨b1, o1, rfl, d0, d1, d2⟩ := HE.out.q.ws.el hml
    have HH : Hid (∀ k : Nat, k < N → shardF (l.getD m dw).key (N : Int) = ((k : Int), 0) → _) := fun k hk hs => rows_hit (N := N) hml hk hs
    have HX : Hid _ := rows_miss (n := (N : Int)) (N := N) hml
    have HLn : Hid (∀ k : Nat, k < N → ((rowsF (l.take m) N N).getD k []).length < 1000000) := fun k hk => by
     rw [rows_get _ _ _ hk]
     have h1 := own_len (l.take m) (N : Int) (k : Int)
     rw [List.length_take] at h1
     omega
    have hRL : (rowsF (l.take m) N N).length = N := rows_len _ _ _
    generalize l.getD m dw = x at *
    generalize rowsF (l.take m) N N = L at *
    have HC : Hid _ := CT.out x.key
    have HSR : Hid _ := shard_range x.key (N : Int)
    generalize shardF x.key (N : Int) = u at *
    obtain ⟨ua, ub⟩ := u
    dsimp only at *
    have HB0 : Hid (Sj w (.slice (some ⟨b1, o1, none⟩) l.length cp) l g vs L (wr.alloc (.cells #[sd x.key, sd x.val, .bool x.dead] 70)) ∧ (wr.alloc (.cells #[sd x.key, sd x.val, .bool x.dead] 70)).heap[wr.heap.size]? = some (.cells #[sd x.key, sd x.val, .bool x.dead] 70 (0, 0))) := ⟨HE.out.on (al _), heap_alloc_new wr _⟩
    go_upto_region 7 with fail
    obtain ⟨y0, hy⟩ := xj (wr.alloc (.cells #[sd x.key, sd x.val, .bool x.dead] 70))
    obtain ⟨bw, hbw⟩ := xj wr.heap.size
    rw [hy, hbw] at HB0
    rw [hy, hbw]
    have g0 : y0.cell? ⟨bw, 0, none⟩ = some (sd x.key) := block_cell HB0.out.2 rfl
    clear hy hbw HE d0 d1 d2
    go_wp2_with fail
    refine (HC.out _ (by trivial)).mono ?_
    rintro r wx ⟨rfl, rfl⟩
    clear HC g0
    by_cases hb0 : ub = 0
    ·subst hb0
     obtain ⟨h0, h1⟩ := HSR.out rfl
     obtain ⟨k, rfl⟩ : ∃ k : Nat, ua = (k : Int) := ⟨ua.toNat, by omega⟩
     have hkN : k < N := by omega
     have hkN1 : (k : Int) < N := by omega
     have HHk : Hid _ := HH.out k hkN rfl
     obtain ⟨vk, hvk⟩ := xj (vs.getD k nv)
     have HVK : Hid (vs.getD k nv = vk) := hvk
     have HD : Hid (Sj w (.slice (some ⟨b1, o1, none⟩) l.length cp) l g vs L y0.drew) := HB0.out.1.on (Below.refl _ _).drew
     have HDA : Hid (Sj w (.slice (some ⟨b1, o1, none⟩) l.length cp) l g vs L (y0.alloc (.cells #[sd x.key, sd x.val, .bool x.dead] 70)).drew) := HB0.out.1.on ((al _).drew)
     have pg : y0.drew.cell? ⟨g, k, none⟩ = some vk := by rw [← hvk]; exact HD.out.s.cell (by omega)
     have q0 : y0.drew.cell? ⟨bw, 0, none⟩ = some (sd x.key) := block_cell HB0.out.2 rfl
     have q1 : y0.drew.cell? ⟨bw, 1, none⟩ = some (sd x.val) := block_cell HB0.out.2 rfl
     have q2 : y0.drew.cell? ⟨bw, 2, none⟩ = some (.bool x.dead) := block_cell HB0.out.2 rfl
     have pa : ((y0.alloc (.cells #[sd x.key, sd x.val, .bool x.dead] 70)).drew).cell? ⟨g, k, none⟩ = some vk := by rw [← hvk]; exact HDA.out.s.cell (by omega)
     have HOw : Hid (Ow w.heap.size 70 3 (vs.getD k nv) (L.getD k []).length (rowC wrc (L.getD k [])) (y0.heap.size + 1) (.slice (some ⟨y0.heap.size, 0, none⟩) 1 1) 1 (rowC wrc [x]) (y0.alloc (.cells #[sd x.key, sd x.val, .bool x.dead] 70)).drew) := (wr_ow x (HB0.out.1.s.ins k (by omega)) HB0.out.1.q.bel.size (HLn.out k hkN)).drew
     rw [hvk] at HOw
     obtain ⟨rk, hrk⟩ := xj (L.getD k [])
     have HRK : Hid (L.getD k [] = rk) := hrk
     rw [hrk] at HOw
     clear hrk
     clear hvk HSR HH HX
     go_upto_region 9 with fail
     go_region_law (refine step_append_rw HOw.out Tryz.underlying50 jin j1 j2 j3 rfl (by decide) (by decide) (.tmp 35) (.tmp 37) (by rfl) (by rfl) (by rfl) (by rfl) ?_; intro v9 w9 hown hg hat; obtain ⟨sa, sc, rfl, -, -, -, -⟩ := rw_own hown; obtain ⟨hx9, hs9⟩ := HDA.out.push x (by omega) HVK.out (by rw [HRK.out]; exact hown) hg hat; have H9 : Hid (Sj w (.slice (some ⟨b1, o1, none⟩) l.length cp) l g _ _ _) := hs9; have g12 : w9.cell? ⟨g, k, none⟩ = some vk := block_cell hx9 (by rw [← HVK.out]; have := HD.out.s.len; simp [List.getD, show k < vs.length by omega]); have f12 : w9.frozen? ⟨g, k, none⟩ = false := block_frozen hx9 k; clear hown hg hat hx9 hs9)
     all_goals
      rw [← HHk.out] at H9
      obtain ⟨y9, hy9⟩ := xj (w9.setCell ⟨g, k, none⟩ (.slice sa (rk.length + 1) sc))
      rw [hy9] at H9
      rw [hy9]
      clear HOw HD HDA HB0 pg pa q0 q1 q2 g12 f12 hy9
      go_wp2_with fail
      go_roundw
      case rel => exact ⟨m + 1, _, HM.out, by go_num, H9.out⟩
      case measure => simp [intOf]; omega
    ·have HXx : Hid _ := HX.out hb0
     clear HSR HH HX
     go_wp2_with fail
     go_roundw
     case rel => exact ⟨m + 1, vs, HM.out, by go_num, by rw [HXx.out]; exact HB0.out.1⟩
     case measure => simp [intOf]; omega
   ·have hml1 : ¬ (m : Int) < l.length := by omega
    have HTL : Hid (splitF l (N : Int) = rowsF (l.take m) N N) := by show _ = _; rw [HS.out, List.take_of_length_le (by omega)]
    have hss := HE.out.s.ss (by rw [rows_len]; omega)
    rw [rows_len, ← HTL.out] at hss
    have HSS : Hid _ := hss
    clear hss
    go_wp2_with fail
    go_ret
    first | refine ⟨⟨_, rfl, HSS.out, _, ?_, _, (by rw [HTL.out]; exact HE.out.s)⟩, HE.out.q.bel⟩ | refine ⟨⟨_, rfl, HSS.out, _, _, ?_, (by rw [HTL.out]; exact HE.out.s)⟩, HE.out.q.bel⟩
    rw [HTL.out, rows_len]
    rfl
 ·have HS : Hid (splitF l n = []) := by
   show _ = _
   unfold splitF
   rw [if_neg hn]
  rw [HS.out]
  have HV : Hid (SsAt sy [] w) := ⟨[], rfl, RwAt.nil _ _ _, fun i hi => absurd hi (by simp)⟩
  have HB : Hid (mbB n = false) := by show _ = _; unfold mbB; exact decide_eq_false hn
  have C3 : Hid (1 = 1 → Calls Tryz.prog 72 #[iw n] w fun r w' => r = .returned (.bool (mbB n)) ∧ w = w') := fun _ => mb18 n w
  clear hn
  go_enter Tryz.func90, Tryz.ntmps90
  go_wp2_with fail
  refine (C3.out (by trivial)).mono ?_
  rintro r wx ⟨rfl, rfl⟩
  rw [HB.out]
  go_wp2_with fail
  go_ret
  first | exact ⟨⟨_, rfl, HV.out⟩, Below.refl _ _⟩ | exact ⟨⟨_, rfl, HV.out, fun h => absurd (decide_eq_true h) (by have g := HB.out; unfold mbB at g; rw [g]; decide)⟩, Below.refl _ _⟩ | exact ⟨⟨_, rfl, HV.out, fun h1 h2 => absurd (decide_eq_true (And.intro h1 h2)) (by have g := HB.out; unfold mbB at g; rw [g]; decide)⟩, Below.refl _ _⟩
end Go.Proofs.YtkdkgdollmmcnaaGreat.Pla
