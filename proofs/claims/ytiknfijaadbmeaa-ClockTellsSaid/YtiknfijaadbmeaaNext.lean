/-
  Contracts of stamp.Next, of the document's Next, Less and Max of two: each returns what the plain function says, and turns no memory that was there.
-/
import Derived.Test.YtiknfijaadbmeaaBase
namespace Go.Proofs.Ytiknfijaadbmeaa
open Go.RowKit

theorem bcell {W w1 : World} (hb : Below W.heap.size W w1) : (∀ b o, b < W.heap.size → w1.cell? ⟨b, o, none⟩ = W.cell? ⟨b, o, none⟩) ∧ (∀ b o, b < W.heap.size → w1.frozen? ⟨b, o, none⟩ = W.frozen? ⟨b, o, none⟩) :=
  ⟨fun b o h => hb.cell (p := ⟨b, o, none⟩) h, fun b o h => hb.frozen (p := ⟨b, o, none⟩) h⟩

theorem below2 {w w1 : World} {o1 o2 : Obj} (hb : Below ((w.alloc o1).alloc o2).heap.size ((w.alloc o1).alloc o2) w1) : Below w.heap.size w w1 :=
  (((Below.refl _ _).alloc (Nat.le_refl _) _).alloc (by simp) _).trans (hb.mono (by simp; omega))
theorem below2s {w w1 : World} {o1 o2 : Obj} (hb : Below ((w.alloc o1).alloc o2).heap.size ((w.alloc o1).alloc o2) w1) (u v : Value) :
    Below w.heap.size w ((w1.setCell ⟨w.heap.size + 1, 0, none⟩ u).setCell ⟨w.heap.size + 1, 1, none⟩ v) :=
  ((below2 hb).setCell (by simp) _).setCell (by simp) _

/-- What Next answers: both parts and the error's number. -/
def nextF (p l : Int) : Int × Int × Int :=
  if rightB p l then (if l < 4095 then (p, l + 1, 0) else if p < 281474976710656 then (p + 1, 0, 0) else (0, 0, 20)) else (0, 0, 1)

theorem rightB_iff {p l : Int} : rightB p l = true ↔ p ≤ 281474976710656 ∧ l ≤ 4095 := by simp [rightB]
set_option maxHeartbeats 400000 in
theorem next19_0 (p l : Int) (w : World) (_h0 : 0 ≤ p) (_h1 : 0 ≤ l) (h : rightB p l = false) :
    Calls Try.prog 19 #[.agg #[.int .u64 p, .int .u32 l]] w fun e w' => e = .returned (.tuple #[.agg #[.int .u64 0, .int .u32 0], .int .i64 1]) ∧ Below w.heap.size w w' := by
  have HR : Hid (rightB p l = false) := h
  clear h
  go_enter Try.func19, Try.ntmps19
  go_wp2_with fail
  refine (right18 _ _ _).mono ?_
  rw [HR.out]
  rintro e w1 ⟨rfl, hb⟩
  obtain ⟨hc, hf⟩ := bcell hb
  have hz : w.heap.size + 1 < w1.heap.size := by have := hb.size; simp at this; omega
  go_wp2
  exact bodyPost_ret (v := .tuple #[.agg #[.int .u64 0, .int .u32 0], .int .i64 1]) (by simp [results, Try.results19, go_sem, hc]) rfl ⟨rfl, below2s hb _ _⟩
set_option maxHeartbeats 400000 in
theorem next19_1 (p l : Int) (w : World) (_h0 : 0 ≤ p) (_h1 : 0 ≤ l) (h : rightB p l = true) (h2 : l < 4095) :
    Calls Try.prog 19 #[.agg #[.int .u64 p, .int .u32 l]] w fun e w' => e = .returned (.tuple #[.agg #[.int .u64 p, .int .u32 (l + 1)], .int .i64 0]) ∧ Below w.heap.size w w' := by
  have hr := rightB_iff.1 h
  have HR : Hid (rightB p l = true) := h
  clear h
  go_enter Try.func19, Try.ntmps19
  go_wp2_with fail
  refine (right18 _ _ _).mono ?_
  rw [HR.out]
  rintro e w1 ⟨rfl, hb⟩
  obtain ⟨hc, hf⟩ := bcell hb
  have hz : w.heap.size + 1 < w1.heap.size := by have := hb.size; simp at this; omega
  go_wp2
  exact bodyPost_ret (v := .tuple #[.agg #[.int .u64 p, .int .u32 (l + 1)], .int .i64 0]) (by simp [results, Try.results19, go_sem, hc]) rfl ⟨rfl, below2s hb _ _⟩
set_option maxHeartbeats 400000 in
theorem next19_2 (p l : Int) (w : World) (_h0 : 0 ≤ p) (_h1 : 0 ≤ l) (h : rightB p l = true) (h2 : ¬ l < 4095) (h3 : p < 281474976710656) :
    Calls Try.prog 19 #[.agg #[.int .u64 p, .int .u32 l]] w fun e w' => e = .returned (.tuple #[.agg #[.int .u64 (p + 1), .int .u32 0], .int .i64 0]) ∧ Below w.heap.size w w' := by
  have hr := rightB_iff.1 h
  have h4 : (p == 281474976710656) = false := by simp; omega
  have HR : Hid (rightB p l = true) := h
  clear h
  go_enter Try.func19, Try.ntmps19
  go_wp2_with fail
  refine (right18 _ _ _).mono ?_
  rw [HR.out]
  rintro e w1 ⟨rfl, hb⟩
  obtain ⟨hc, hf⟩ := bcell hb
  have hz : w.heap.size + 1 < w1.heap.size := by have := hb.size; simp at this; omega
  go_wp2
  exact bodyPost_ret (v := .tuple #[.agg #[.int .u64 (p + 1), .int .u32 0], .int .i64 0]) (by simp [results, Try.results19, go_sem, hc]) rfl ⟨rfl, below2s hb _ _⟩
set_option maxHeartbeats 400000 in
theorem next19_3 (p l : Int) (w : World) (_h0 : 0 ≤ p) (_h1 : 0 ≤ l) (h : rightB p l = true) (h2 : ¬ l < 4095) (h3 : ¬ p < 281474976710656) :
    Calls Try.prog 19 #[.agg #[.int .u64 p, .int .u32 l]] w fun e w' => e = .returned (.tuple #[.agg #[.int .u64 0, .int .u32 0], .int .i64 20]) ∧ Below w.heap.size w w' := by
  have hr := rightB_iff.1 h
  have h4 : (p == 281474976710656) = true := by simp; omega
  have HR : Hid (rightB p l = true) := h
  clear h
  go_enter Try.func19, Try.ntmps19
  go_wp2_with fail
  refine (right18 _ _ _).mono ?_
  rw [HR.out]
  rintro e w1 ⟨rfl, hb⟩
  obtain ⟨hc, hf⟩ := bcell hb
  have hz : w.heap.size + 1 < w1.heap.size := by have := hb.size; simp at this; omega
  go_wp2
  exact bodyPost_ret (v := .tuple #[.agg #[.int .u64 0, .int .u32 0], .int .i64 20]) (by simp [results, Try.results19, go_sem, hc]) rfl ⟨rfl, below2s hb _ _⟩

theorem next19 (p l : Int) (w : World) (_h0 : 0 ≤ p) (_h1 : 0 ≤ l) :
    Calls Try.prog 19 #[.agg #[.int .u64 p, .int .u32 l]] w fun e w' => e = .returned (.tuple #[.agg #[.int .u64 (nextF p l).1, .int .u32 (nextF p l).2.1], .int .i64 (nextF p l).2.2]) ∧ Below w.heap.size w w' := by
  cases h : rightB p l
  · rw [show nextF p l = (0, 0, 1) from by simp [nextF, h]]; exact next19_0 p l w _h0 _h1 h
  · by_cases h2 : l < 4095
    · rw [show nextF p l = (p, l + 1, 0) from by simp [nextF, h, h2]]; exact next19_1 p l w _h0 _h1 h h2
    · by_cases h3 : p < 281474976710656
      · rw [show nextF p l = (p + 1, 0, 0) from by simp [nextF, h, h2, h3]]; exact next19_2 p l w _h0 _h1 h h2 h3
      · rw [show nextF p l = (0, 0, 20) from by simp [nextF, h, h2, h3]]; exact next19_3 p l w _h0 _h1 h h2 h3
set_option maxHeartbeats 400000 in
theorem next21_0 (p l : Int) (w : World) (_h0 : 0 ≤ p) (_h1 : 0 ≤ l) (h : rightB p l = false) :
    Calls Try.prog 21 #[.agg #[.int .u64 p, .int .u32 l]] w fun e w' => e = .returned (.tuple #[.agg #[.int .u64 0, .int .u32 0], .int .i64 1]) ∧ Below w.heap.size w w' := by
  have HR : Hid (rightB p l = false) := h
  clear h
  go_enter Try.func21, Try.ntmps21
  go_wp2_with fail
  refine (right20 _ _ _).mono ?_
  rw [HR.out]
  rintro e w1 ⟨rfl, hb⟩
  obtain ⟨hc, hf⟩ := bcell hb
  have hz : w.heap.size + 1 < w1.heap.size := by have := hb.size; simp at this; omega
  go_wp2
  exact bodyPost_ret (v := .tuple #[.agg #[.int .u64 0, .int .u32 0], .int .i64 1]) (by simp [results, Try.results21, go_sem, hc]) rfl ⟨rfl, below2s hb _ _⟩
set_option maxHeartbeats 400000 in
theorem next21_1 (p l : Int) (w : World) (_h0 : 0 ≤ p) (_h1 : 0 ≤ l) (h : rightB p l = true) (h2 : l < 4095) :
    Calls Try.prog 21 #[.agg #[.int .u64 p, .int .u32 l]] w fun e w' => e = .returned (.tuple #[.agg #[.int .u64 p, .int .u32 (l + 1)], .int .i64 0]) ∧ Below w.heap.size w w' := by
  have hr := rightB_iff.1 h
  have HR : Hid (rightB p l = true) := h
  clear h
  go_enter Try.func21, Try.ntmps21
  go_wp2_with fail
  refine (right20 _ _ _).mono ?_
  rw [HR.out]
  rintro e w1 ⟨rfl, hb⟩
  obtain ⟨hc, hf⟩ := bcell hb
  have hz : w.heap.size + 1 < w1.heap.size := by have := hb.size; simp at this; omega
  go_wp2
  exact bodyPost_ret (v := .tuple #[.agg #[.int .u64 p, .int .u32 (l + 1)], .int .i64 0]) (by simp [results, Try.results21, go_sem, hc]) rfl ⟨rfl, below2s hb _ _⟩
set_option maxHeartbeats 400000 in
theorem next21_2 (p l : Int) (w : World) (_h0 : 0 ≤ p) (_h1 : 0 ≤ l) (h : rightB p l = true) (h2 : ¬ l < 4095) (h3 : p < 281474976710656) :
    Calls Try.prog 21 #[.agg #[.int .u64 p, .int .u32 l]] w fun e w' => e = .returned (.tuple #[.agg #[.int .u64 (p + 1), .int .u32 0], .int .i64 0]) ∧ Below w.heap.size w w' := by
  have hr := rightB_iff.1 h
  have h4 : (p == 281474976710656) = false := by simp; omega
  have HR : Hid (rightB p l = true) := h
  clear h
  go_enter Try.func21, Try.ntmps21
  go_wp2_with fail
  refine (right20 _ _ _).mono ?_
  rw [HR.out]
  rintro e w1 ⟨rfl, hb⟩
  obtain ⟨hc, hf⟩ := bcell hb
  have hz : w.heap.size + 1 < w1.heap.size := by have := hb.size; simp at this; omega
  go_wp2
  exact bodyPost_ret (v := .tuple #[.agg #[.int .u64 (p + 1), .int .u32 0], .int .i64 0]) (by simp [results, Try.results21, go_sem, hc]) rfl ⟨rfl, below2s hb _ _⟩
set_option maxHeartbeats 400000 in
theorem next21_3 (p l : Int) (w : World) (_h0 : 0 ≤ p) (_h1 : 0 ≤ l) (h : rightB p l = true) (h2 : ¬ l < 4095) (h3 : ¬ p < 281474976710656) :
    Calls Try.prog 21 #[.agg #[.int .u64 p, .int .u32 l]] w fun e w' => e = .returned (.tuple #[.agg #[.int .u64 0, .int .u32 0], .int .i64 20]) ∧ Below w.heap.size w w' := by
  have hr := rightB_iff.1 h
  have h4 : (p == 281474976710656) = true := by simp; omega
  have HR : Hid (rightB p l = true) := h
  clear h
  go_enter Try.func21, Try.ntmps21
  go_wp2_with fail
  refine (right20 _ _ _).mono ?_
  rw [HR.out]
  rintro e w1 ⟨rfl, hb⟩
  obtain ⟨hc, hf⟩ := bcell hb
  have hz : w.heap.size + 1 < w1.heap.size := by have := hb.size; simp at this; omega
  go_wp2
  exact bodyPost_ret (v := .tuple #[.agg #[.int .u64 0, .int .u32 0], .int .i64 20]) (by simp [results, Try.results21, go_sem, hc]) rfl ⟨rfl, below2s hb _ _⟩

theorem next21 (p l : Int) (w : World) (_h0 : 0 ≤ p) (_h1 : 0 ≤ l) :
    Calls Try.prog 21 #[.agg #[.int .u64 p, .int .u32 l]] w fun e w' => e = .returned (.tuple #[.agg #[.int .u64 (nextF p l).1, .int .u32 (nextF p l).2.1], .int .i64 (nextF p l).2.2]) ∧ Below w.heap.size w w' := by
  cases h : rightB p l
  · rw [show nextF p l = (0, 0, 1) from by simp [nextF, h]]; exact next21_0 p l w _h0 _h1 h
  · by_cases h2 : l < 4095
    · rw [show nextF p l = (p, l + 1, 0) from by simp [nextF, h, h2]]; exact next21_1 p l w _h0 _h1 h h2
    · by_cases h3 : p < 281474976710656
      · rw [show nextF p l = (p + 1, 0, 0) from by simp [nextF, h, h2, h3]]; exact next21_2 p l w _h0 _h1 h h2 h3
      · rw [show nextF p l = (0, 0, 20) from by simp [nextF, h, h2, h3]]; exact next21_3 p l w _h0 _h1 h h2 h3

set_option maxHeartbeats 400000 in
theorem less25 (p l q m : Int) (w : World) :
    Calls Try.prog 25 #[.agg #[.int .u64 p, .int .u32 l], .agg #[.int .u64 q, .int .u32 m]] w fun e w' => e = .returned (.bool (lessB p l q m)) ∧ Below w.heap.size w w' := by
  by_cases h : p < q
  · go_enter Try.func25, Try.ntmps25
    go_wp2
    go_ret
    exact ⟨ret_bool (by simp [lessB, h]), ((Below.refl _ _).alloc (Nat.le_refl _) _).alloc (by simp) _⟩
  · by_cases h2 : p = q
    · subst h2
      go_enter Try.func25, Try.ntmps25
      go_wp2
      go_ret
      exact ⟨ret_bool (by simp [lessB]), ((Below.refl _ _).alloc (Nat.le_refl _) _).alloc (by simp) _⟩
    · have h3 : (p == q) = false := by simpa using h2
      go_enter Try.func25, Try.ntmps25
      go_wp2
      go_ret
      exact ⟨ret_bool (by simp [lessB, h, h2]), ((Below.refl _ _).alloc (Nat.le_refl _) _).alloc (by simp) _⟩

theorem below3 {w w1 : World} {o1 o2 o3 : Obj} (hb : Below (((w.alloc o1).alloc o2).alloc o3).heap.size (((w.alloc o1).alloc o2).alloc o3) w1) : Below w.heap.size w w1 :=
  ((((Below.refl _ _).alloc (Nat.le_refl _) _).alloc (by simp) _).alloc (by simp; omega) _).trans (hb.mono (by simp; omega))
theorem below3s {w w1 : World} {o1 o2 o3 : Obj} (hb : Below (((w.alloc o1).alloc o2).alloc o3).heap.size (((w.alloc o1).alloc o2).alloc o3) w1) (u v : Value) :
    Below w.heap.size w ((w1.setCell ⟨w.heap.size + 1 + 1, 0, none⟩ u).setCell ⟨w.heap.size + 1 + 1, 1, none⟩ v) :=
  ((below3 hb).setCell (by simp; omega) _).setCell (by simp; omega) _

def maxF (p l q m : Int) : Int × Int := if lessB p l q m then (q, m) else (p, l)
set_option maxHeartbeats 400000 in
theorem max24_t (p l q m : Int) (w : World) (h : lessB p l q m = true) :
    Calls Try.prog 24 #[.agg #[.int .u64 p, .int .u32 l], .agg #[.int .u64 q, .int .u32 m]] w fun e w' => e = .returned (.agg #[.int .u64 q, .int .u32 m]) ∧ Below w.heap.size w w' := by
  have HR : Hid (lessB p l q m = true) := h
  clear h
  go_enter Try.func24, Try.ntmps24
  go_wp2_with fail
  refine (less25 _ _ _ _ _).mono ?_
  rw [HR.out]
  rintro e w1 ⟨rfl, hb⟩
  obtain ⟨hc, hf⟩ := bcell hb
  have hz : w.heap.size + 1 + 1 < w1.heap.size := by have := hb.size; simp at this; omega
  go_wp2
  exact bodyPost_ret (v := .agg #[.int .u64 q, .int .u32 m]) (by simp [results, Try.results24, go_sem, hc]) rfl ⟨rfl, below3s hb _ _⟩
set_option maxHeartbeats 400000 in
theorem max24_f (p l q m : Int) (w : World) (h : lessB p l q m = false) :
    Calls Try.prog 24 #[.agg #[.int .u64 p, .int .u32 l], .agg #[.int .u64 q, .int .u32 m]] w fun e w' => e = .returned (.agg #[.int .u64 p, .int .u32 l]) ∧ Below w.heap.size w w' := by
  have HR : Hid (lessB p l q m = false) := h
  clear h
  go_enter Try.func24, Try.ntmps24
  go_wp2_with fail
  refine (less25 _ _ _ _ _).mono ?_
  rw [HR.out]
  rintro e w1 ⟨rfl, hb⟩
  obtain ⟨hc, hf⟩ := bcell hb
  have hz : w.heap.size + 1 + 1 < w1.heap.size := by have := hb.size; simp at this; omega
  go_wp2
  exact bodyPost_ret (v := .agg #[.int .u64 p, .int .u32 l]) (by simp [results, Try.results24, go_sem, hc]) rfl ⟨rfl, below3s hb _ _⟩
theorem max24 (p l q m : Int) (w : World) :
    Calls Try.prog 24 #[.agg #[.int .u64 p, .int .u32 l], .agg #[.int .u64 q, .int .u32 m]] w fun e w' => e = .returned (.agg #[.int .u64 (maxF p l q m).1, .int .u32 (maxF p l q m).2]) ∧ Below w.heap.size w w' := by
  cases h : lessB p l q m
  · rw [show maxF p l q m = (p, l) from by simp [maxF, h]]; exact max24_f p l q m w h
  · rw [show maxF p l q m = (q, m) from by simp [maxF, h]]; exact max24_t p l q m w h
end Go.Proofs.Ytiknfijaadbmeaa
