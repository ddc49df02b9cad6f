/-
  Contracts of clock.beyond, Late, Bound and Merge, and of the document's Late, Bound and Merge: each returns what the plain function below says, and turns no memory that was there.
-/
import Derived.Test.YtiknfijaadbmeaaMax
namespace Go.Proofs.Ytiknfijaadbmeaa
open Go.RowKit

/-- Is a more than m above b? -/
def beyB (a b m : Int) : Bool := decide (b + m < a)

set_option maxHeartbeats 400000 in
theorem beyond22 (a b m : Int) (w : World) (_h0 : 0 ≤ a) (_h1 : a ≤ 18446744073709551615) (_h2 : 0 ≤ b) (_h3 : 0 ≤ m) :
    Calls Try.prog 22 #[.int .u64 a, .int .u64 b, .int .u64 m] w fun e w' => e = .returned (.bool (beyB a b m)) ∧ Below w.heap.size w w' := by
  by_cases h : b < a
  · go_enter Try.func22, Try.ntmps22
    go_wp2
    go_ret
    exact ⟨ret_bool (by simp [beyB]; omega), Below.refl _ _⟩
  · go_enter Try.func22, Try.ntmps22
    go_wp2
    go_ret
    exact ⟨ret_bool (by simp [beyB]; omega), Below.refl _ _⟩

def lateB (p q : Int) : Bool := beyB q p 100

set_option maxHeartbeats 400000 in
theorem late15 (p l q m : Int) (w : World) (h0 : 0 ≤ p) (h1 : 0 ≤ q) (h2 : q ≤ 18446744073709551615) :
    Calls Try.prog 15 #[.agg #[.int .u64 p, .int .u32 l], .agg #[.int .u64 q, .int .u32 m]] w fun e w' => e = .returned (.bool (lateB p q)) ∧ Below w.heap.size w w' := by
  go_enter Try.func15, Try.ntmps15
  go_wp2_with fail
  refine (beyond22 _ _ _ _ h1 h2 h0 (by omega)).mono ?_
  rintro e w1 ⟨rfl, hb⟩
  go_wp2
  go_ret
  exact ⟨rfl, below2 hb⟩
set_option maxHeartbeats 400000 in
theorem late16 (p l q m : Int) (w : World) (_h0 : 0 ≤ p) (_h1 : 0 ≤ q) (_h2 : q ≤ 18446744073709551615) :
    Calls Try.prog 16 #[.agg #[.int .u64 p, .int .u32 l], .agg #[.int .u64 q, .int .u32 m]] w fun e w' => e = .returned (.bool (lateB p q)) ∧ Below w.heap.size w w' := by
  by_cases h : p < q
  · go_enter Try.func16, Try.ntmps16
    go_wp2
    go_ret
    exact ⟨ret_bool (by simp [lateB, beyB]; omega), ((Below.refl _ _).alloc (Nat.le_refl _) _).alloc (by simp) _⟩
  · go_enter Try.func16, Try.ntmps16
    go_wp2
    go_ret
    exact ⟨ret_bool (by simp [lateB, beyB]; omega), ((Below.refl _ _).alloc (Nat.le_refl _) _).alloc (by simp) _⟩

/-- What Bound answers. -/
def boundF (p l : Int) : Int × Int := if rightB p l then (min (p + 64) 281474976710656, 4095) else (0, 0)

set_option maxHeartbeats 400000 in
theorem bound13_0 (p l : Int) (w : World) (_h0 : 0 ≤ p) (_h1 : 0 ≤ l) (h : rightB p l = false) :
    Calls Try.prog 13 #[.agg #[.int .u64 p, .int .u32 l]] w fun e w' => e = .returned (.agg #[.int .u64 0, .int .u32 0]) ∧ Below w.heap.size w w' := by
  have HR : Hid (rightB p l = false) := h
  clear h
  go_enter Try.func13, Try.ntmps13
  go_wp2_with fail
  refine (right18 _ _ _).mono ?_
  rw [HR.out]
  rintro e w1 ⟨rfl, hb⟩
  obtain ⟨hc, hf⟩ := bcell hb
  have hz : w.heap.size + 1 < w1.heap.size := by have := hb.size; simp at this; omega
  go_wp2
  exact bodyPost_ret (v := .agg #[.int .u64 0, .int .u32 0]) (by simp [results, Try.results13, go_sem, hc]) rfl ⟨rfl, below2s hb _ _⟩
set_option maxHeartbeats 400000 in
theorem bound13_1 (p l : Int) (w : World) (_h0 : 0 ≤ p) (_h1 : 0 ≤ l) (h : rightB p l = true) (h3 : p + 64 < 281474976710656) :
    Calls Try.prog 13 #[.agg #[.int .u64 p, .int .u32 l]] w fun e w' => e = .returned (.agg #[.int .u64 (p + 64), .int .u32 4095]) ∧ Below w.heap.size w w' := by
  have hr := rightB_iff.1 h
  have HR : Hid (rightB p l = true) := h
  clear h
  go_enter Try.func13, Try.ntmps13
  go_wp2_with fail
  refine (right18 _ _ _).mono ?_
  rw [HR.out]
  rintro e w1 ⟨rfl, hb⟩
  obtain ⟨hc, hf⟩ := bcell hb
  have hz : w.heap.size + 1 < w1.heap.size := by have := hb.size; simp at this; omega
  go_wp2
  exact bodyPost_ret (v := .agg #[.int .u64 (p + 64), .int .u32 4095]) (by simp [results, Try.results13, go_sem, hc]) rfl ⟨rfl, below2s hb _ _⟩
set_option maxHeartbeats 400000 in
theorem bound13_2 (p l : Int) (w : World) (_h0 : 0 ≤ p) (_h1 : 0 ≤ l) (h : rightB p l = true) (h3 : p + 64 = 281474976710656) :
    Calls Try.prog 13 #[.agg #[.int .u64 p, .int .u32 l]] w fun e w' => e = .returned (.agg #[.int .u64 281474976710656, .int .u32 4095]) ∧ Below w.heap.size w w' := by
  have hr := rightB_iff.1 h
  obtain rfl : p = 281474976710592 := by omega
  have HR : Hid (rightB 281474976710592 l = true) := h
  clear h
  go_enter Try.func13, Try.ntmps13
  go_wp2_with fail
  refine (right18 _ _ _).mono ?_
  rw [HR.out]
  rintro e w1 ⟨rfl, hb⟩
  obtain ⟨hc, hf⟩ := bcell hb
  have hz : w.heap.size + 1 < w1.heap.size := by have := hb.size; simp at this; omega
  go_wp2
  exact bodyPost_ret (v := .agg #[.int .u64 281474976710656, .int .u32 4095]) (by simp [results, Try.results13, go_sem, hc]) rfl ⟨rfl, below2s hb _ _⟩
set_option maxHeartbeats 400000 in
theorem bound13_3 (p l : Int) (w : World) (_h0 : 0 ≤ p) (_h1 : 0 ≤ l) (h : rightB p l = true) (h3 : 281474976710656 < p + 64) :
    Calls Try.prog 13 #[.agg #[.int .u64 p, .int .u32 l]] w fun e w' => e = .returned (.agg #[.int .u64 281474976710656, .int .u32 4095]) ∧ Below w.heap.size w w' := by
  have hr := rightB_iff.1 h
  have HR : Hid (rightB p l = true) := h
  clear h
  go_enter Try.func13, Try.ntmps13
  go_wp2_with fail
  refine (right18 _ _ _).mono ?_
  rw [HR.out]
  rintro e w1 ⟨rfl, hb⟩
  obtain ⟨hc, hf⟩ := bcell hb
  have hz : w.heap.size + 1 < w1.heap.size := by have := hb.size; simp at this; omega
  go_wp2
  exact bodyPost_ret (v := .agg #[.int .u64 281474976710656, .int .u32 4095]) (by simp [results, Try.results13, go_sem, hc]) rfl ⟨rfl, below2s hb _ _⟩
theorem bound13 (p l : Int) (w : World) (h0 : 0 ≤ p) (h1 : 0 ≤ l) :
    Calls Try.prog 13 #[.agg #[.int .u64 p, .int .u32 l]] w fun e w' => e = .returned (.agg #[.int .u64 (boundF p l).1, .int .u32 (boundF p l).2]) ∧ Below w.heap.size w w' := by
  cases h : rightB p l
  · rw [show boundF p l = (0, 0) from by simp [boundF, h]]; exact bound13_0 p l w h0 h1 h
  · rcases Int.lt_trichotomy (p + 64) 281474976710656 with h3 | h3 | h3
    · rw [show boundF p l = (p + 64, 4095) from by simp [boundF, h]; omega]; exact bound13_1 p l w h0 h1 h h3
    · rw [show boundF p l = (281474976710656, 4095) from by simp [boundF, h]; omega]; exact bound13_2 p l w h0 h1 h h3
    · rw [show boundF p l = (281474976710656, 4095) from by simp [boundF, h]; omega]; exact bound13_3 p l w h0 h1 h h3

set_option maxHeartbeats 400000 in
theorem bound14_0 (p l : Int) (w : World) (_h0 : 0 ≤ p) (_h1 : 0 ≤ l) (h : rightB p l = false) :
    Calls Try.prog 14 #[.agg #[.int .u64 p, .int .u32 l]] w fun e w' => e = .returned (.agg #[.int .u64 0, .int .u32 0]) ∧ Below w.heap.size w w' := by
  have HR : Hid (rightB p l = false) := h
  clear h
  go_enter Try.func14, Try.ntmps14
  go_wp2_with fail
  refine (right20 _ _ _).mono ?_
  rw [HR.out]
  rintro e w1 ⟨rfl, hb⟩
  obtain ⟨hc, hf⟩ := bcell hb
  have hz : w.heap.size + 1 < w1.heap.size := by have := hb.size; simp at this; omega
  go_wp2
  exact bodyPost_ret (v := .agg #[.int .u64 0, .int .u32 0]) (by simp [results, Try.results14, go_sem, hc]) rfl ⟨rfl, below2s hb _ _⟩
set_option maxHeartbeats 400000 in
theorem bound14_1 (p l : Int) (w : World) (_h0 : 0 ≤ p) (_h1 : 0 ≤ l) (h : rightB p l = true) (h3 : p + 64 < 281474976710656) :
    Calls Try.prog 14 #[.agg #[.int .u64 p, .int .u32 l]] w fun e w' => e = .returned (.agg #[.int .u64 (p + 64), .int .u32 4095]) ∧ Below w.heap.size w w' := by
  have hr := rightB_iff.1 h
  have HR : Hid (rightB p l = true) := h
  clear h
  go_enter Try.func14, Try.ntmps14
  go_wp2_with fail
  refine (right20 _ _ _).mono ?_
  rw [HR.out]
  rintro e w1 ⟨rfl, hb⟩
  obtain ⟨hc, hf⟩ := bcell hb
  have hz : w.heap.size + 1 < w1.heap.size := by have := hb.size; simp at this; omega
  go_wp2
  exact bodyPost_ret (v := .agg #[.int .u64 (p + 64), .int .u32 4095]) (by simp [results, Try.results14, go_sem, hc]) rfl ⟨rfl, below2s hb _ _⟩
set_option maxHeartbeats 400000 in
theorem bound14_2 (p l : Int) (w : World) (_h0 : 0 ≤ p) (_h1 : 0 ≤ l) (h : rightB p l = true) (h3 : p + 64 = 281474976710656) :
    Calls Try.prog 14 #[.agg #[.int .u64 p, .int .u32 l]] w fun e w' => e = .returned (.agg #[.int .u64 281474976710656, .int .u32 4095]) ∧ Below w.heap.size w w' := by
  have hr := rightB_iff.1 h
  obtain rfl : p = 281474976710592 := by omega
  have HR : Hid (rightB 281474976710592 l = true) := h
  clear h
  go_enter Try.func14, Try.ntmps14
  go_wp2_with fail
  refine (right20 _ _ _).mono ?_
  rw [HR.out]
  rintro e w1 ⟨rfl, hb⟩
  obtain ⟨hc, hf⟩ := bcell hb
  have hz : w.heap.size + 1 < w1.heap.size := by have := hb.size; simp at this; omega
  go_wp2
  exact bodyPost_ret (v := .agg #[.int .u64 281474976710656, .int .u32 4095]) (by simp [results, Try.results14, go_sem, hc]) rfl ⟨rfl, below2s hb _ _⟩
set_option maxHeartbeats 400000 in
theorem bound14_3 (p l : Int) (w : World) (_h0 : 0 ≤ p) (_h1 : 0 ≤ l) (h : rightB p l = true) (h3 : 281474976710656 < p + 64) :
    Calls Try.prog 14 #[.agg #[.int .u64 p, .int .u32 l]] w fun e w' => e = .returned (.agg #[.int .u64 281474976710656, .int .u32 4095]) ∧ Below w.heap.size w w' := by
  have hr := rightB_iff.1 h
  have HR : Hid (rightB p l = true) := h
  clear h
  go_enter Try.func14, Try.ntmps14
  go_wp2_with fail
  refine (right20 _ _ _).mono ?_
  rw [HR.out]
  rintro e w1 ⟨rfl, hb⟩
  obtain ⟨hc, hf⟩ := bcell hb
  have hz : w.heap.size + 1 < w1.heap.size := by have := hb.size; simp at this; omega
  go_wp2
  exact bodyPost_ret (v := .agg #[.int .u64 281474976710656, .int .u32 4095]) (by simp [results, Try.results14, go_sem, hc]) rfl ⟨rfl, below2s hb _ _⟩
theorem bound14 (p l : Int) (w : World) (h0 : 0 ≤ p) (h1 : 0 ≤ l) :
    Calls Try.prog 14 #[.agg #[.int .u64 p, .int .u32 l]] w fun e w' => e = .returned (.agg #[.int .u64 (boundF p l).1, .int .u32 (boundF p l).2]) ∧ Below w.heap.size w w' := by
  cases h : rightB p l
  · rw [show boundF p l = (0, 0) from by simp [boundF, h]]; exact bound14_0 p l w h0 h1 h
  · rcases Int.lt_trichotomy (p + 64) 281474976710656 with h3 | h3 | h3
    · rw [show boundF p l = (p + 64, 4095) from by simp [boundF, h]; omega]; exact bound14_1 p l w h0 h1 h h3
    · rw [show boundF p l = (281474976710656, 4095) from by simp [boundF, h]; omega]; exact bound14_2 p l w h0 h1 h h3
    · rw [show boundF p l = (281474976710656, 4095) from by simp [boundF, h]; omega]; exact bound14_3 p l w h0 h1 h h3

/-- What Merge answers: both parts and the error's number. -/
def mergeF (p l f q m : Int) : Int × Int × Int :=
  if rightB p l && rightB q m then (if beyB q f 1000 then (0, 0, 21) else ((maxF p l q m).1, (maxF p l q m).2, 0)) else (0, 0, 1)

theorem maxL_two {p l q m : Int} (h0 : 0 ≤ p) (h1 : 0 ≤ l) : maxL [(p, l), (q, m)] = maxF p l q m := by
  have : maxF 0 0 p l = (p, l) := by
    unfold maxF
    by_cases h : lessB 0 0 p l = true
    · rw [if_pos h]
    · rw [if_neg h]; simp only [lessB, decide_eq_true_eq] at h; simp only [Prod.mk.injEq]; omega
  simp [maxL, this]
theorem below3' {w w1 : World} {o1 o2 o3 : Obj} (hb : Below (((w.alloc o1).alloc o2).alloc o3).heap.size (((w.alloc o1).alloc o2).alloc o3) w1) : (w.heap.size + 1 + 1 < w1.heap.size) ∧ w.heap.size + 1 < w1.heap.size ∧ w.heap.size < w1.heap.size := by
  have := hb.size; simp at this; omega

set_option maxHeartbeats 400000 in
theorem merge11_0 (p l f q m : Int) (w : World) (_h0 : 0 ≤ p) (_h1 : 0 ≤ l) (_h2 : 0 ≤ f) (_h3 : 0 ≤ q) (_h4 : 0 ≤ m) (_h5 : q ≤ 18446744073709551615) (h : rightB p l = false) :
    Calls Try.prog 11 #[.agg #[.int .u64 p, .int .u32 l], .int .u64 f, .agg #[.int .u64 q, .int .u32 m]] w fun e w' => e = .returned (.tuple #[.agg #[.int .u64 0, .int .u32 0], .int .i64 1]) ∧ Below w.heap.size w w' := by
  have HR : Hid (rightB p l = false) := h
  clear h
  go_enter Try.func11, Try.ntmps11
  go_wp2_with fail
  refine (right18 _ _ _).mono ?_
  rw [HR.out]
  rintro e w1 ⟨rfl, hb⟩
  obtain ⟨hc, hf⟩ := bcell hb
  obtain ⟨hz2, hz1, hz0⟩ := below3' hb
  go_wp2
  exact bodyPost_ret (v := .tuple #[.agg #[.int .u64 0, .int .u32 0], .int .i64 1]) (by simp [results, Try.results11, go_sem, hc]) rfl ⟨rfl, below3s hb _ _⟩
set_option maxHeartbeats 400000 in
theorem merge11_1 (p l f q m : Int) (w : World) (_h0 : 0 ≤ p) (_h1 : 0 ≤ l) (_h2 : 0 ≤ f) (_h3 : 0 ≤ q) (_h4 : 0 ≤ m) (_h5 : q ≤ 18446744073709551615) (h : rightB p l = true) (h' : rightB q m = false) :
    Calls Try.prog 11 #[.agg #[.int .u64 p, .int .u32 l], .int .u64 f, .agg #[.int .u64 q, .int .u32 m]] w fun e w' => e = .returned (.tuple #[.agg #[.int .u64 0, .int .u32 0], .int .i64 1]) ∧ Below w.heap.size w w' := by
  have HR : Hid (rightB p l = true) := h
  have HQ : Hid (rightB q m = false) := h'
  clear h h'
  go_enter Try.func11, Try.ntmps11
  go_wp2_with fail
  refine (right18 _ _ _).mono ?_
  rw [HR.out]
  rintro e w1 ⟨rfl, hb⟩
  obtain ⟨hc, hf⟩ := bcell hb
  obtain ⟨hz2, hz1, hz0⟩ := below3' hb
  go_wp2_with fail
  refine (right18 _ _ _).mono ?_
  rw [HQ.out]
  rintro e w2 ⟨rfl, hb2⟩
  obtain ⟨hc2, hf2⟩ := bcell hb2
  have hy2 : w.heap.size + 1 + 1 < w2.heap.size := by have := hb2.size; omega
  go_wp2
  exact bodyPost_ret (v := .tuple #[.agg #[.int .u64 0, .int .u32 0], .int .i64 1]) (by simp [results, Try.results11, go_sem, hc2, hc, hz2]) rfl ⟨rfl, (((below3 hb).trans (hb2.mono (by omega))).setCell (by simp; omega) _).setCell (by simp; omega) _⟩
set_option maxHeartbeats 400000 in
theorem merge11_2 (p l f q m : Int) (w : World) (_h0 : 0 ≤ p) (_h1 : 0 ≤ l) (_h2 : 0 ≤ f) (_h3 : 0 ≤ q) (_h4 : 0 ≤ m) (_h5 : q ≤ 18446744073709551615) (h : rightB p l = true) (h' : rightB q m = true) (h'' : beyB q f 1000 = true) :
    Calls Try.prog 11 #[.agg #[.int .u64 p, .int .u32 l], .int .u64 f, .agg #[.int .u64 q, .int .u32 m]] w fun e w' => e = .returned (.tuple #[.agg #[.int .u64 0, .int .u32 0], .int .i64 21]) ∧ Below w.heap.size w w' := by
  have HR : Hid (rightB p l = true) := h
  have HQ : Hid (rightB q m = true) := h'
  have HB : Hid (beyB q f 1000 = true) := h''
  clear h h' h''
  go_enter Try.func11, Try.ntmps11
  go_wp2_with fail
  refine (right18 _ _ _).mono ?_
  rw [HR.out]
  rintro e w1 ⟨rfl, hb⟩
  obtain ⟨hc, hf⟩ := bcell hb
  obtain ⟨hz2, hz1, hz0⟩ := below3' hb
  go_wp2_with fail
  refine (right18 _ _ _).mono ?_
  rw [HQ.out]
  rintro e w2 ⟨rfl, hb2⟩
  obtain ⟨hc2, hf2⟩ := bcell hb2
  have hy2 : w.heap.size + 1 + 1 < w2.heap.size := by have := hb2.size; omega
  have hy1 : w.heap.size + 1 < w2.heap.size := by omega
  have hy0 : w.heap.size < w2.heap.size := by omega
  go_wp2_with fail
  refine (beyond22 _ _ _ _ _h3 _h5 _h2 (by omega)).mono ?_
  rw [HB.out]
  rintro e w3 ⟨rfl, hb3⟩
  obtain ⟨hc3, hf3⟩ := bcell hb3
  have hx2 : w.heap.size + 1 + 1 < w3.heap.size := by have := hb3.size; omega
  go_wp2
  exact bodyPost_ret (v := .tuple #[.agg #[.int .u64 0, .int .u32 0], .int .i64 21]) (by simp [results, Try.results11, go_sem, hc3, hc2, hc, hz2, hy2]) rfl ⟨rfl, ((((below3 hb).trans (hb2.mono (by omega))).trans (hb3.mono (by omega))).setCell (by simp; omega) _).setCell (by simp; omega) _⟩
set_option maxHeartbeats 400000 in
theorem merge11_3 (p l f q m : Int) (w : World) (_h0 : 0 ≤ p) (_h1 : 0 ≤ l) (_h2 : 0 ≤ f) (_h3 : 0 ≤ q) (_h4 : 0 ≤ m) (_h5 : q ≤ 18446744073709551615) (h : rightB p l = true) (h' : rightB q m = true) (h'' : beyB q f 1000 = false) :
    Calls Try.prog 11 #[.agg #[.int .u64 p, .int .u32 l], .int .u64 f, .agg #[.int .u64 q, .int .u32 m]] w fun e w' => e = .returned (.tuple #[.agg #[.int .u64 (maxF p l q m).1, .int .u32 (maxF p l q m).2], .int .i64 0]) ∧ Below w.heap.size w w' := by
  have HR : Hid (rightB p l = true) := h
  have HQ : Hid (rightB q m = true) := h'
  have HB : Hid (beyB q f 1000 = false) := h''
  clear h h' h''
  go_enter Try.func11, Try.ntmps11
  go_wp2_with fail
  refine (right18 _ _ _).mono ?_
  rw [HR.out]
  rintro e w1 ⟨rfl, hb⟩
  obtain ⟨hc, hf⟩ := bcell hb
  obtain ⟨hz2, hz1, hz0⟩ := below3' hb
  go_wp2_with fail
  refine (right18 _ _ _).mono ?_
  rw [HQ.out]
  rintro e w2 ⟨rfl, hb2⟩
  obtain ⟨hc2, hf2⟩ := bcell hb2
  have hy2 : w.heap.size + 1 + 1 < w2.heap.size := by have := hb2.size; omega
  have hy1 : w.heap.size + 1 < w2.heap.size := by omega
  have hy0 : w.heap.size < w2.heap.size := by omega
  go_wp2_with fail
  refine (beyond22 _ _ _ _ _h3 _h5 _h2 (by omega)).mono ?_
  rw [HB.out]
  rintro e w3 ⟨rfl, hb3⟩
  obtain ⟨hc3, hf3⟩ := bcell hb3
  have hx2 : w.heap.size + 1 + 1 < w3.heap.size := by have := hb3.size; omega
  have hx1 : w.heap.size + 1 < w3.heap.size := by omega
  have hx0 : w.heap.size < w3.heap.size := by omega
  go_wp2_with fail
  refine (max23_row w3.heap.size _ (by simp) 2 [(p, l), (q, m)] rfl (by omega) ?_).mono ?_
  · intro i hi
    obtain rfl | rfl : i = 0 ∨ i = 1 := by omega
    · simp [go_sem]
    · simp [go_sem]
  rw [maxL_two _h0 _h1]
  rintro e w4 ⟨rfl, hb4⟩
  obtain ⟨hc4, hf4⟩ := bcell hb4
  have hu2 : w.heap.size + 1 + 1 < w4.heap.size := by have := hb4.size; simp at this; omega
  have hv2 : w.heap.size + 1 + 1 < w3.heap.size + 1 := by omega
  go_wp2
  exact bodyPost_ret (v := .tuple #[.agg #[.int .u64 (maxF p l q m).1, .int .u32 (maxF p l q m).2], .int .i64 0]) (by simp [results, Try.results11, go_sem, hc4, hc3, hc2, hc, hz2, hy2, hx2, hv2]) rfl ⟨rfl, ((((((below3 hb).trans (hb2.mono (by omega))).trans (hb3.mono (by omega))).alloc (by omega) _).trans (hb4.mono (by simp; omega))).setCell (by simp; omega) _).setCell (by simp; omega) _⟩
theorem merge11 (p l f q m : Int) (w : World) (_h0 : 0 ≤ p) (_h1 : 0 ≤ l) (_h2 : 0 ≤ f) (_h3 : 0 ≤ q) (_h4 : 0 ≤ m) (_h5 : q ≤ 18446744073709551615) :
    Calls Try.prog 11 #[.agg #[.int .u64 p, .int .u32 l], .int .u64 f, .agg #[.int .u64 q, .int .u32 m]] w fun e w' => e = .returned (.tuple #[.agg #[.int .u64 (mergeF p l f q m).1, .int .u32 (mergeF p l f q m).2.1], .int .i64 (mergeF p l f q m).2.2]) ∧ Below w.heap.size w w' := by
  cases h : rightB p l
  · rw [show mergeF p l f q m = (0, 0, 1) from by simp [mergeF, h]]; exact merge11_0 p l f q m w _h0 _h1 _h2 _h3 _h4 _h5 h
  · cases h' : rightB q m
    · rw [show mergeF p l f q m = (0, 0, 1) from by simp [mergeF, h']]; exact merge11_1 p l f q m w _h0 _h1 _h2 _h3 _h4 _h5 h h'
    · cases h'' : beyB q f 1000
      · rw [show mergeF p l f q m = ((maxF p l q m).1, (maxF p l q m).2, 0) from by simp [mergeF, h, h', h'']]; exact merge11_3 p l f q m w _h0 _h1 _h2 _h3 _h4 _h5 h h' h''
      · rw [show mergeF p l f q m = (0, 0, 21) from by simp [mergeF, h, h', h'']]; exact merge11_2 p l f q m w _h0 _h1 _h2 _h3 _h4 _h5 h h' h''

set_option maxHeartbeats 400000 in
theorem merge12_0 (p l f q m : Int) (w : World) (_h0 : 0 ≤ p) (_h1 : 0 ≤ l) (_h2 : 0 ≤ f) (_h3 : 0 ≤ q) (_h4 : 0 ≤ m) (_h5 : q ≤ 18446744073709551615) (h : rightB p l = false) :
    Calls Try.prog 12 #[.agg #[.int .u64 p, .int .u32 l], .int .u64 f, .agg #[.int .u64 q, .int .u32 m]] w fun e w' => e = .returned (.tuple #[.agg #[.int .u64 0, .int .u32 0], .int .i64 1]) ∧ Below w.heap.size w w' := by
  have HR : Hid (rightB p l = false) := h
  clear h
  go_enter Try.func12, Try.ntmps12
  go_wp2_with fail
  refine (right20 _ _ _).mono ?_
  rw [HR.out]
  rintro e w1 ⟨rfl, hb⟩
  obtain ⟨hc, hf⟩ := bcell hb
  obtain ⟨hz2, hz1, hz0⟩ := below3' hb
  go_wp2
  exact bodyPost_ret (v := .tuple #[.agg #[.int .u64 0, .int .u32 0], .int .i64 1]) (by simp [results, Try.results12, go_sem, hc]) rfl ⟨rfl, below3s hb _ _⟩
set_option maxHeartbeats 400000 in
theorem merge12_1 (p l f q m : Int) (w : World) (_h0 : 0 ≤ p) (_h1 : 0 ≤ l) (_h2 : 0 ≤ f) (_h3 : 0 ≤ q) (_h4 : 0 ≤ m) (_h5 : q ≤ 18446744073709551615) (h : rightB p l = true) (h' : rightB q m = false) :
    Calls Try.prog 12 #[.agg #[.int .u64 p, .int .u32 l], .int .u64 f, .agg #[.int .u64 q, .int .u32 m]] w fun e w' => e = .returned (.tuple #[.agg #[.int .u64 0, .int .u32 0], .int .i64 1]) ∧ Below w.heap.size w w' := by
  have HR : Hid (rightB p l = true) := h
  have HQ : Hid (rightB q m = false) := h'
  clear h h'
  go_enter Try.func12, Try.ntmps12
  go_wp2_with fail
  refine (right20 _ _ _).mono ?_
  rw [HR.out]
  rintro e w1 ⟨rfl, hb⟩
  obtain ⟨hc, hf⟩ := bcell hb
  obtain ⟨hz2, hz1, hz0⟩ := below3' hb
  go_wp2_with fail
  refine (right20 _ _ _).mono ?_
  rw [HQ.out]
  rintro e w2 ⟨rfl, hb2⟩
  obtain ⟨hc2, hf2⟩ := bcell hb2
  have hy2 : w.heap.size + 1 + 1 < w2.heap.size := by have := hb2.size; omega
  go_wp2
  exact bodyPost_ret (v := .tuple #[.agg #[.int .u64 0, .int .u32 0], .int .i64 1]) (by simp [results, Try.results12, go_sem, hc2, hc, hz2]) rfl ⟨rfl, (((below3 hb).trans (hb2.mono (by omega))).setCell (by simp; omega) _).setCell (by simp; omega) _⟩
set_option maxHeartbeats 400000 in
theorem merge12_2 (p l f q m : Int) (w : World) (_h0 : 0 ≤ p) (_h1 : 0 ≤ l) (_h2 : 0 ≤ f) (_h3 : 0 ≤ q) (_h4 : 0 ≤ m) (_h5 : q ≤ 18446744073709551615) (h : rightB p l = true) (h' : rightB q m = true) (h'' : beyB q f 1000 = true) :
    Calls Try.prog 12 #[.agg #[.int .u64 p, .int .u32 l], .int .u64 f, .agg #[.int .u64 q, .int .u32 m]] w fun e w' => e = .returned (.tuple #[.agg #[.int .u64 0, .int .u32 0], .int .i64 21]) ∧ Below w.heap.size w w' := by
  have HR : Hid (rightB p l = true) := h
  have HQ : Hid (rightB q m = true) := h'
  have HB : Hid (beyB q f 1000 = true) := h''
  have hb1 : f + 1000 < q := by simpa [beyB] using h''
  clear h h' h''
  go_enter Try.func12, Try.ntmps12
  go_wp2_with fail
  refine (right20 _ _ _).mono ?_
  rw [HR.out]
  rintro e w1 ⟨rfl, hb⟩
  obtain ⟨hc, hf⟩ := bcell hb
  obtain ⟨hz2, hz1, hz0⟩ := below3' hb
  go_wp2_with fail
  refine (right20 _ _ _).mono ?_
  rw [HQ.out]
  rintro e w2 ⟨rfl, hb2⟩
  obtain ⟨hc2, hf2⟩ := bcell hb2
  have hy2 : w.heap.size + 1 + 1 < w2.heap.size := by have := hb2.size; omega
  have hy1 : w.heap.size + 1 < w2.heap.size := by omega
  have hy0 : w.heap.size < w2.heap.size := by omega
  go_wp2
  exact bodyPost_ret (v := .tuple #[.agg #[.int .u64 0, .int .u32 0], .int .i64 21]) (by simp [results, Try.results12, go_sem, hc2, hc, hz2]) rfl ⟨rfl, (((below3 hb).trans (hb2.mono (by omega))).setCell (by simp; omega) _).setCell (by simp; omega) _⟩
set_option maxHeartbeats 400000 in
theorem merge12_3 (p l f q m : Int) (w : World) (_h0 : 0 ≤ p) (_h1 : 0 ≤ l) (_h2 : 0 ≤ f) (_h3 : 0 ≤ q) (_h4 : 0 ≤ m) (_h5 : q ≤ 18446744073709551615) (h : rightB p l = true) (h' : rightB q m = true) (h'' : beyB q f 1000 = false) :
    Calls Try.prog 12 #[.agg #[.int .u64 p, .int .u32 l], .int .u64 f, .agg #[.int .u64 q, .int .u32 m]] w fun e w' => e = .returned (.tuple #[.agg #[.int .u64 (maxF p l q m).1, .int .u32 (maxF p l q m).2], .int .i64 0]) ∧ Below w.heap.size w w' := by
  have HR : Hid (rightB p l = true) := h
  have HQ : Hid (rightB q m = true) := h'
  have HB : Hid (beyB q f 1000 = false) := h''
  have hb1 : q ≤ f + 1000 := by simpa [beyB] using h''
  clear h h' h''
  by_cases hlt : f < q
  all_goals
    go_enter Try.func12, Try.ntmps12
    go_wp2_with fail
    refine (right20 _ _ _).mono ?_
    rw [HR.out]
    rintro e w1 ⟨rfl, hb⟩
    obtain ⟨hc, hf⟩ := bcell hb
    obtain ⟨hz2, hz1, hz0⟩ := below3' hb
    go_wp2_with fail
    refine (right20 _ _ _).mono ?_
    rw [HQ.out]
    rintro e w2 ⟨rfl, hb2⟩
    obtain ⟨hc2, hf2⟩ := bcell hb2
    have hy2 : w.heap.size + 1 + 1 < w2.heap.size := by have := hb2.size; omega
    have hy1 : w.heap.size + 1 < w2.heap.size := by omega
    have hy0 : w.heap.size < w2.heap.size := by omega
    go_wp2_with fail
    refine (max24 _ _ _ _ _).mono ?_
    rintro e w4 ⟨rfl, hb4⟩
    obtain ⟨hc4, hf4⟩ := bcell hb4
    have hu2 : w.heap.size + 1 + 1 < w4.heap.size := by have := hb4.size; omega
    go_wp2
    exact bodyPost_ret (v := .tuple #[.agg #[.int .u64 (maxF p l q m).1, .int .u32 (maxF p l q m).2], .int .i64 0]) (by simp [results, Try.results12, go_sem, hc4, hc2, hc, hz2, hy2]) rfl ⟨rfl, ((((below3 hb).trans (hb2.mono (by omega))).trans (hb4.mono (by omega))).setCell (by simp; omega) _).setCell (by simp; omega) _⟩
theorem merge12 (p l f q m : Int) (w : World) (_h0 : 0 ≤ p) (_h1 : 0 ≤ l) (_h2 : 0 ≤ f) (_h3 : 0 ≤ q) (_h4 : 0 ≤ m) (_h5 : q ≤ 18446744073709551615) :
    Calls Try.prog 12 #[.agg #[.int .u64 p, .int .u32 l], .int .u64 f, .agg #[.int .u64 q, .int .u32 m]] w fun e w' => e = .returned (.tuple #[.agg #[.int .u64 (mergeF p l f q m).1, .int .u32 (mergeF p l f q m).2.1], .int .i64 (mergeF p l f q m).2.2]) ∧ Below w.heap.size w w' := by
  cases h : rightB p l
  · rw [show mergeF p l f q m = (0, 0, 1) from by simp [mergeF, h]]; exact merge12_0 p l f q m w _h0 _h1 _h2 _h3 _h4 _h5 h
  · cases h' : rightB q m
    · rw [show mergeF p l f q m = (0, 0, 1) from by simp [mergeF, h']]; exact merge12_1 p l f q m w _h0 _h1 _h2 _h3 _h4 _h5 h h'
    · cases h'' : beyB q f 1000
      · rw [show mergeF p l f q m = ((maxF p l q m).1, (maxF p l q m).2, 0) from by simp [mergeF, h, h', h'']]; exact merge12_3 p l f q m w _h0 _h1 _h2 _h3 _h4 _h5 h h' h''
      · rw [show mergeF p l f q m = (0, 0, 21) from by simp [mergeF, h, h', h'']]; exact merge12_2 p l f q m w _h0 _h1 _h2 _h3 _h4 _h5 h h' h''

end Go.Proofs.Ytiknfijaadbmeaa
