/-
  What the laws ask of the program's place; complex numbers whose parts are whole; awake.
-/
import Derived.Test.YtdiellljplcjfaaRf
import Derived.Test.YtdiellljplcjfaaFw
namespace Go.Proofs.Ytdiellljplcjfaa
open Go.RowKit Go.Sort

/-- What the laws ask of the program's Walk, Shard and Node. -/
structure Ifp : Prop where
  wk : ∀ (key : List UInt8) (w : World), key.length ≤ 281474976710656 → Calls Try.prog 10 #[.string (bs key)] w fun r w' => (∃ x y, r = .returned (.complex .f64 x y) ∧ Fw x (walkF key).1 ∧ Fw y (walkF key).2) ∧ Below w.heap.size w w'
  sh : ∀ (key : List UInt8) (n : Int) (w : World), key.length ≤ 281474976710656 → -9223372036854775808 ≤ n → n ≤ 9223372036854775807 → Calls Try.prog 11 #[.string (bs key), .int .i64 n] w fun r w' => r = .returned (.tuple #[.int .i64 (shardF key n).1, .int .i64 (shardF key n).2]) ∧ Below w.heap.size w w'
  nd : ∀ (s n : Int) (w : World), -9223372036854775808 ≤ s → s ≤ 9223372036854775807 → -9223372036854775808 ≤ n → n ≤ 9223372036854775807 → Calls Try.prog 13 #[.int .i64 s, .int .i64 n] w fun r w' => r = .returned (.tuple #[.int .i64 (nodeF s n).1, .int .i64 (nodeF s n).2]) ∧ Below w.heap.size w w'
/-- A complex number whose parts are whole numbers. -/
structure Cw (x y : Nat) (p : Int × Int) : Prop where
  re : Fw x p.1
  im : Fw y p.2
theorem sum_bits {x y c d : Nat} {p q : Int × Int} (h : Cw x y p) (k : Cw c d q) (hp : (p.1 + q.1).natAbs < 2 ^ 53) (hq : (p.2 + q.2).natAbs < 2 ^ 53) : ∃ e f, cSumBits .add .f64 x y c d = some (e, f) ∧ Cw e f (addP p q) := by
  obtain ⟨e, h1, f1⟩ := h.re.add k.re hp
  obtain ⟨f, h2, f2⟩ := h.im.add k.im hq
  refine ⟨e, f, ?_, f1, f2⟩
  show ((Ieee.double.add x c).bind fun re => (Ieee.double.add y d).bind fun im => some (re, im)) = _
  rw [h1, h2]
  rfl
def oneW : Nat := 4607182418800017408
theorem fw_one : Fw 4607182418800017408 1 := ⟨.inl (by decide), by decide⟩
/-- Times i: a quarter turn. -/
theorem turn_bits {x y : Nat} {p : Int × Int} (h : Cw x y p) : ∃ e f, cMulBits x y 0 4607182418800017408 = some (e, f) ∧ Cw e f (rot p) := by
  have b1 := h.re.lt
  have b2 := h.im.lt
  obtain ⟨ac, h1, f1⟩ := h.re.mul fw_zero (by rw [Int.mul_zero]; decide)
  obtain ⟨bd, h2, f2⟩ := h.im.mul fw_one (by rw [Int.mul_one]; exact b2)
  obtain ⟨re, h3, f3⟩ := f1.sub f2 (by rw [Int.mul_zero, Int.mul_one]; omega)
  obtain ⟨ad, h4, f4⟩ := h.re.mul fw_one (by rw [Int.mul_one]; exact b1)
  obtain ⟨bc, h5, f5⟩ := h.im.mul fw_zero (by rw [Int.mul_zero]; decide)
  obtain ⟨im, h6, f6⟩ := f4.add f5 (by rw [Int.mul_zero, Int.mul_one]; omega)
  refine ⟨re, im, ?_, ?_⟩
  · show ((Ieee.double.mul x 0).bind fun ac => (Ieee.double.mul y 4607182418800017408).bind fun bd => (Ieee.double.sub ac bd).bind fun re => (Ieee.double.mul x 4607182418800017408).bind fun ad => (Ieee.double.mul y 0).bind fun bc => (Ieee.double.add ad bc).bind fun im => some (re, im)) = _
    rw [h1, h2]
    simp only [Option.bind_some]
    rw [h3, h4, h5]
    simp only [Option.bind_some]
    rw [h6]
    rfl
  · rw [Int.mul_zero, Int.mul_one, Int.zero_sub] at f3
    rw [Int.mul_zero, Int.mul_one, Int.add_zero] at f6
    exact ⟨f3, f6⟩
theorem f64f : FloatKind.f64.format = Ieee.double := rfl
section
variable {P : Program}
theorem run_ceq (t : TypeId) {x y c d : Nat} {p q : Int × Int} (h : Cw x y p) (k : Cw c d q) (w : World) : (binOp .eql t (.complex .f64 x y) (.complex .f64 c d)).run P w = .ok (.bool (p.1 == q.1 && p.2 == q.2)) w := by
  have h1 := h.re.beq k.re
  have h2 := h.im.beq k.im
  simp [go_sem]
  rw [f64f, h1, h2]
theorem run_cne (t : TypeId) {x y c d : Nat} {p q : Int × Int} (h : Cw x y p) (k : Cw c d q) (w : World) : (binOp .neq t (.complex .f64 x y) (.complex .f64 c d)).run P w = .ok (.bool (!(p.1 == q.1 && p.2 == q.2))) w := by
  have h1 := h.re.beq k.re
  have h2 := h.im.beq k.im
  simp [go_sem]
  rw [f64f, h1, h2]
theorem run_feq (t : TypeId) {x y : Nat} {a b : Int} (h : Fw x a) (k : Fw y b) (w : World) : (binOp .eql t (.float .f64 x) (.float .f64 y)).run P w = .ok (.bool (a == b)) w := by
  have h1 := h.beq k
  simp [go_sem]
  rw [f64f, h1]
end
theorem cw_99 : Cw 4636666922610458624 4636596553866280960 (99, 98) := ⟨⟨.inl (by decide), by decide⟩, ⟨.inl (by decide), by decide⟩⟩
theorem wa1 : shardF [97] 4 = (2, 0) := by decide
theorem wa2 : walkF [97, 98] = (99, 98) := by decide
set_option maxHeartbeats 800000 in
set_option maxRecDepth 100000 in
theorem awake8 (I : Ifp) (w : World) : Calls Try.prog 8 #[] w fun e w' => e = .returned (.bool true) ∧ Below w.heap.size w w' := by
  have C1 : Hid (1 = 1 → Calls Try.prog 11 #[.string ⟨#[97]⟩, .int .i64 4] w fun r w' => r = .returned (.tuple #[.int .i64 2, .int .i64 0]) ∧ Below w.heap.size w w') := fun _ => by
    have := I.sh [97] 4 w (by simp) (by decide) (by decide)
    rw [wa1] at this
    exact this
  have C2 : Hid (∀ W : World, 1 = 1 → Calls Try.prog 10 #[.string ⟨#[97, 98]⟩] W fun r w' => (∃ x y, r = .returned (.complex .f64 x y) ∧ Cw x y (99, 98)) ∧ Below W.heap.size W w') := fun W _ => by
    refine (I.wk [97, 98] W (by simp)).mono ?_
    rintro r w' ⟨⟨x, y, rfl, h1, h2⟩, hb⟩
    rw [wa2] at h1 h2
    exact ⟨⟨x, y, rfl, h1, h2⟩, hb⟩
  go_enter Try.func8, Try.ntmps8
  go_wp2_with fail
  refine (C1.out (by trivial)).mono ?_
  rintro r w1 ⟨rfl, hb1⟩
  have H1 : Hid (Below w.heap.size w w1) := hb1
  clear hb1 C1
  go_wp2_with fail
  refine (C2.out _ (by trivial)).mono ?_
  rintro r w2 ⟨⟨x, y, rfl, hc⟩, hb2⟩
  have H2 : Hid (Below w.heap.size w w2) := H1.out.trans (hb2.mono H1.out.size)
  have e1 := run_ceq (P := Try.prog) 26 hc cw_99
  clear hb2 C2 H1 hc
  go_wp2_with fail
  go_ret
  exact ⟨rfl, H2.out⟩
end Go.Proofs.Ytdiellljplcjfaa
