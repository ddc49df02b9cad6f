/-
  Stamps: the program's and the document's Right and Less; the document's Max.
-/
import Derived.Test.YtgmgceacdmcmlaaProg
import Derived.Test.YtgmgceacdmcmlaaPl
import Derived.Test.YtgmgceacdmcmlaaGr
namespace Go.Proofs.Ytgmgceacdmcmlaa
open Go.RowKit

theorem ret_bool {a b : Bool} (h : a = b) : Ending.returned (.bool a) = .returned (.bool b) := by rw [h]

set_option maxHeartbeats 400000 in
theorem right18 (p l : Int) (w : World) :
    Calls Try.prog 10 #[.agg #[.int .u64 p, .int .u32 l]] w fun e w' => e = .returned (.bool (rightB p l)) ∧ Below w.heap.size w w' := by
  by_cases h1 : p ≤ 281474976710656 <;> by_cases h2 : l ≤ 4095
  all_goals
    go_enter Try.func10, Try.ntmps10
    go_wp2
    go_ret
    exact ⟨ret_bool (by simp [rightB, h1, h2]), (Below.refl _ _).alloc (Nat.le_refl _) _⟩

set_option maxHeartbeats 400000 in
theorem right20 (p l : Int) (w : World) :
    Calls Try.prog 12 #[.agg #[.int .u64 p, .int .u32 l]] w fun e w' => e = .returned (.bool (rightB p l)) ∧ Below w.heap.size w w' := by
  by_cases h1 : p ≤ 281474976710656 <;> by_cases h2 : l ≤ 4095
  all_goals
    go_enter Try.func12, Try.ntmps12
    go_wp2
    go_ret
    exact ⟨ret_bool (by simp [rightB, h1, h2]), (Below.refl _ _).alloc (Nat.le_refl _) _⟩

set_option maxHeartbeats 400000 in
theorem less17 (p l q m : Int) (w : World) :
    Calls Try.prog 11 #[.agg #[.int .u64 p, .int .u32 l], .agg #[.int .u64 q, .int .u32 m]] w fun e w' => e = .returned (.bool (lessB p l q m)) ∧ Below w.heap.size w w' := by
  by_cases h : p = q
  · subst h
    go_enter Try.func11, Try.ntmps11
    go_wp2
    go_ret
    exact ⟨ret_bool (by simp [lessB]), ((Below.refl _ _).alloc (Nat.le_refl _) _).alloc (by simp) _⟩
  · have h' : (p != q) = true := by simpa using h
    go_enter Try.func11, Try.ntmps11
    go_wp2
    go_ret
    exact ⟨ret_bool (by simp [lessB, h]), ((Below.refl _ _).alloc (Nat.le_refl _) _).alloc (by simp) _⟩

set_option maxHeartbeats 400000 in
theorem less25 (p l q m : Int) (w : World) :
    Calls Try.prog 13 #[.agg #[.int .u64 p, .int .u32 l], .agg #[.int .u64 q, .int .u32 m]] w fun e w' => e = .returned (.bool (lessB p l q m)) ∧ Below w.heap.size w w' := by
  by_cases h : p < q
  · go_enter Try.func13, Try.ntmps13
    go_wp2
    go_ret
    exact ⟨ret_bool (by simp [lessB, h]), ((Below.refl _ _).alloc (Nat.le_refl _) _).alloc (by simp) _⟩
  · by_cases h2 : p = q
    · subst h2
      go_enter Try.func13, Try.ntmps13
      go_wp2
      go_ret
      exact ⟨ret_bool (by simp [lessB]), ((Below.refl _ _).alloc (Nat.le_refl _) _).alloc (by simp) _⟩
    · have h3 : (p == q) = false := by simpa using h2
      go_enter Try.func13, Try.ntmps13
      go_wp2
      go_ret
      exact ⟨ret_bool (by simp [lessB, h, h2]), ((Below.refl _ _).alloc (Nat.le_refl _) _).alloc (by simp) _⟩

theorem below3 {w w1 : World} {o1 o2 o3 : Obj} (hb : Below (((w.alloc o1).alloc o2).alloc o3).heap.size (((w.alloc o1).alloc o2).alloc o3) w1) : Below w.heap.size w w1 :=
  ((((Below.refl _ _).alloc (Nat.le_refl _) _).alloc (by simp) _).alloc (by simp; omega) _).trans (hb.mono (by simp; omega))
theorem below3s {w w1 : World} {o1 o2 o3 : Obj} (hb : Below (((w.alloc o1).alloc o2).alloc o3).heap.size (((w.alloc o1).alloc o2).alloc o3) w1) (u v : Value) :
    Below w.heap.size w ((w1.setCell ⟨w.heap.size + 1 + 1, 0, none⟩ u).setCell ⟨w.heap.size + 1 + 1, 1, none⟩ v) :=
  ((below3 hb).setCell (by simp; omega) _).setCell (by simp; omega) _

set_option maxHeartbeats 400000 in
theorem max24_t (p l q m : Int) (w : World) (h : lessB p l q m = true) :
    Calls Try.prog 15 #[.agg #[.int .u64 p, .int .u32 l], .agg #[.int .u64 q, .int .u32 m]] w fun e w' => e = .returned (.agg #[.int .u64 q, .int .u32 m]) ∧ Below w.heap.size w w' := by
  have HR : Hid (lessB p l q m = true) := h
  clear h
  go_enter Try.func15, Try.ntmps15
  go_wp2_with fail
  refine (less25 _ _ _ _ _).mono ?_
  rw [HR.out]
  rintro e w1 ⟨rfl, hb⟩
  obtain ⟨hc, hf⟩ := bcell hb
  have hz : w.heap.size + 1 + 1 < w1.heap.size := by have := hb.size; simp at this; omega
  go_wp2
  exact bodyPost_ret (v := .agg #[.int .u64 q, .int .u32 m]) (by simp [results, Try.results15, go_sem, hc]) rfl ⟨rfl, below3s hb _ _⟩
set_option maxHeartbeats 400000 in
theorem max24_f (p l q m : Int) (w : World) (h : lessB p l q m = false) :
    Calls Try.prog 15 #[.agg #[.int .u64 p, .int .u32 l], .agg #[.int .u64 q, .int .u32 m]] w fun e w' => e = .returned (.agg #[.int .u64 p, .int .u32 l]) ∧ Below w.heap.size w w' := by
  have HR : Hid (lessB p l q m = false) := h
  clear h
  go_enter Try.func15, Try.ntmps15
  go_wp2_with fail
  refine (less25 _ _ _ _ _).mono ?_
  rw [HR.out]
  rintro e w1 ⟨rfl, hb⟩
  obtain ⟨hc, hf⟩ := bcell hb
  have hz : w.heap.size + 1 + 1 < w1.heap.size := by have := hb.size; simp at this; omega
  go_wp2
  exact bodyPost_ret (v := .agg #[.int .u64 p, .int .u32 l]) (by simp [results, Try.results15, go_sem, hc]) rfl ⟨rfl, below3s hb _ _⟩
theorem max24 (p l q m : Int) (w : World) :
    Calls Try.prog 15 #[.agg #[.int .u64 p, .int .u32 l], .agg #[.int .u64 q, .int .u32 m]] w fun e w' => e = .returned (.agg #[.int .u64 (maxF p l q m).1, .int .u32 (maxF p l q m).2]) ∧ Below w.heap.size w w' := by
  cases h : lessB p l q m
  · rw [show maxF p l q m = (p, l) from by simp [maxF, h]]; exact max24_f p l q m w h
  · rw [show maxF p l q m = (q, m) from by simp [maxF, h]]; exact max24_t p l q m w h
end Go.Proofs.Ytgmgceacdmcmlaa
