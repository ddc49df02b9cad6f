/-
  Contracts of clock.Tick and of the document's Tick: each returns what the plain function below says, and turns no memory that was there.
-/
import Derived.Test.YtiknfijaadbmeaaNext
namespace Go.Proofs.Ytiknfijaadbmeaa
open Go.RowKit

/-- What Tick answers: both parts and the error's number. -/
def tickF (p l f : Int) : Int × Int × Int :=
  if rightB p l then (if f ≤ 281474976710656 then (if p < f then (f, 0, 0) else nextF p l) else (0, 0, 20)) else (0, 0, 1)

set_option maxHeartbeats 400000 in
theorem tick9_0 (p l f : Int) (w : World) (_h0 : 0 ≤ p) (_h1 : 0 ≤ l) (_h2 : 0 ≤ f) (h : rightB p l = false) :
    Calls Try.prog 9 #[.agg #[.int .u64 p, .int .u32 l], .int .u64 f] w fun e w' => e = .returned (.tuple #[.agg #[.int .u64 0, .int .u32 0], .int .i64 1]) ∧ Below w.heap.size w w' := by
  have HR : Hid (rightB p l = false) := h
  clear h
  go_enter Try.func9, Try.ntmps9
  go_wp2_with fail
  refine (right18 _ _ _).mono ?_
  rw [HR.out]
  rintro e w1 ⟨rfl, hb⟩
  obtain ⟨hc, hf⟩ := bcell hb
  have hz : w.heap.size + 1 < w1.heap.size := by have := hb.size; simp at this; omega
  go_wp2
  exact bodyPost_ret (v := .tuple #[.agg #[.int .u64 0, .int .u32 0], .int .i64 1]) (by simp [results, Try.results9, go_sem, hc]) rfl ⟨rfl, below2s hb _ _⟩

set_option maxHeartbeats 400000 in
theorem tick9_1 (p l f : Int) (w : World) (_h0 : 0 ≤ p) (_h1 : 0 ≤ l) (_h2 : 0 ≤ f) (h : rightB p l = true) (h3 : ¬ f ≤ 281474976710656) :
    Calls Try.prog 9 #[.agg #[.int .u64 p, .int .u32 l], .int .u64 f] w fun e w' => e = .returned (.tuple #[.agg #[.int .u64 0, .int .u32 0], .int .i64 20]) ∧ Below w.heap.size w w' := by
  have HR : Hid (rightB p l = true) := h
  clear h
  go_enter Try.func9, Try.ntmps9
  go_wp2_with fail
  refine (right18 _ _ _).mono ?_
  rw [HR.out]
  rintro e w1 ⟨rfl, hb⟩
  obtain ⟨hc, hf⟩ := bcell hb
  have hz : w.heap.size + 1 < w1.heap.size := by have := hb.size; simp at this; omega
  go_wp2
  exact bodyPost_ret (v := .tuple #[.agg #[.int .u64 0, .int .u32 0], .int .i64 20]) (by simp [results, Try.results9, go_sem, hc]) rfl ⟨rfl, below2s hb _ _⟩

set_option maxHeartbeats 400000 in
theorem tick9_2 (p l f : Int) (w : World) (_h0 : 0 ≤ p) (_h1 : 0 ≤ l) (_h2 : 0 ≤ f) (h : rightB p l = true) (h3 : f ≤ 281474976710656) (h4 : p < f) :
    Calls Try.prog 9 #[.agg #[.int .u64 p, .int .u32 l], .int .u64 f] w fun e w' => e = .returned (.tuple #[.agg #[.int .u64 f, .int .u32 0], .int .i64 0]) ∧ Below w.heap.size w w' := by
  have HR : Hid (rightB p l = true) := h
  clear h
  go_enter Try.func9, Try.ntmps9
  go_wp2_with fail
  refine (right18 _ _ _).mono ?_
  rw [HR.out]
  rintro e w1 ⟨rfl, hb⟩
  obtain ⟨hc, hf⟩ := bcell hb
  have hz : w.heap.size + 1 < w1.heap.size := by have := hb.size; simp at this; omega
  go_wp2
  exact bodyPost_ret (v := .tuple #[.agg #[.int .u64 f, .int .u32 0], .int .i64 0]) (by simp [results, Try.results9, go_sem, hc]) rfl ⟨rfl, below2s hb _ _⟩

set_option maxHeartbeats 400000 in
theorem tick9_3 (p l f : Int) (w : World) (_h0 : 0 ≤ p) (_h1 : 0 ≤ l) (_h2 : 0 ≤ f) (h : rightB p l = true) (h3 : f ≤ 281474976710656) (h4 : ¬ p < f) (a b c : Int) (hn : nextF p l = (a, b, c)) :
    Calls Try.prog 9 #[.agg #[.int .u64 p, .int .u32 l], .int .u64 f] w fun e w' => e = .returned (.tuple #[.agg #[.int .u64 a, .int .u32 b], .int .i64 c]) ∧ Below w.heap.size w w' := by
  have HN : Hid (nextF p l = (a, b, c)) := hn
  clear hn
  have HR : Hid (rightB p l = true) := h
  clear h
  go_enter Try.func9, Try.ntmps9
  go_wp2_with fail
  refine (right18 _ _ _).mono ?_
  rw [HR.out]
  rintro e w1 ⟨rfl, hb⟩
  obtain ⟨hc, hf⟩ := bcell hb
  have hz : w.heap.size + 1 < w1.heap.size := by have := hb.size; simp at this; omega
  go_wp2_with fail
  refine (next19 _ _ _ _h0 _h1).mono ?_
  rw [HN.out]
  rintro e w2 ⟨rfl, hb2⟩
  obtain ⟨hc2, hf2⟩ := bcell hb2
  have hz2 : w.heap.size + 1 < w2.heap.size := by have := hb2.size; omega
  have hz0 : w.heap.size < w1.heap.size := by omega
  go_wp2
  exact bodyPost_ret (v := .tuple #[.agg #[.int .u64 a, .int .u32 b], .int .i64 c]) (by simp [results, Try.results9, go_sem, hc2, hc, hz]) rfl ⟨rfl, (((below2 hb).trans (hb2.mono (by omega))).setCell (by simp) _).setCell (by simp) _⟩

theorem tick9 (p l f : Int) (w : World) (_h0 : 0 ≤ p) (_h1 : 0 ≤ l) (_h2 : 0 ≤ f) :
    Calls Try.prog 9 #[.agg #[.int .u64 p, .int .u32 l], .int .u64 f] w fun e w' => e = .returned (.tuple #[.agg #[.int .u64 (tickF p l f).1, .int .u32 (tickF p l f).2.1], .int .i64 (tickF p l f).2.2]) ∧ Below w.heap.size w w' := by
  cases h : rightB p l
  · rw [show tickF p l f = (0, 0, 1) from by simp [tickF, h]]; exact tick9_0 p l f w _h0 _h1 _h2 h
  · by_cases h3 : f ≤ 281474976710656
    · by_cases h4 : p < f
      · rw [show tickF p l f = (f, 0, 0) from by simp [tickF, h, h3, h4]]; exact tick9_2 p l f w _h0 _h1 _h2 h h3 h4
      · rw [show tickF p l f = nextF p l from by simp [tickF, h, h3, h4]]; exact tick9_3 p l f w _h0 _h1 _h2 h h3 h4 _ _ _ rfl
    · rw [show tickF p l f = (0, 0, 20) from by simp [tickF, h, h3]]; exact tick9_1 p l f w _h0 _h1 _h2 h h3

set_option maxHeartbeats 400000 in
theorem tick10_0 (p l f : Int) (w : World) (_h0 : 0 ≤ p) (_h1 : 0 ≤ l) (_h2 : 0 ≤ f) (h : rightB p l = false) :
    Calls Try.prog 10 #[.agg #[.int .u64 p, .int .u32 l], .int .u64 f] w fun e w' => e = .returned (.tuple #[.agg #[.int .u64 0, .int .u32 0], .int .i64 1]) ∧ Below w.heap.size w w' := by
  have HR : Hid (rightB p l = false) := h
  clear h
  go_enter Try.func10, Try.ntmps10
  go_wp2_with fail
  refine (right20 _ _ _).mono ?_
  rw [HR.out]
  rintro e w1 ⟨rfl, hb⟩
  obtain ⟨hc, hf⟩ := bcell hb
  have hz : w.heap.size + 1 < w1.heap.size := by have := hb.size; simp at this; omega
  go_wp2
  exact bodyPost_ret (v := .tuple #[.agg #[.int .u64 0, .int .u32 0], .int .i64 1]) (by simp [results, Try.results10, go_sem, hc]) rfl ⟨rfl, below2s hb _ _⟩

set_option maxHeartbeats 400000 in
theorem tick10_1 (p l f : Int) (w : World) (_h0 : 0 ≤ p) (_h1 : 0 ≤ l) (_h2 : 0 ≤ f) (h : rightB p l = true) (h3 : ¬ f ≤ 281474976710656) :
    Calls Try.prog 10 #[.agg #[.int .u64 p, .int .u32 l], .int .u64 f] w fun e w' => e = .returned (.tuple #[.agg #[.int .u64 0, .int .u32 0], .int .i64 20]) ∧ Below w.heap.size w w' := by
  have HR : Hid (rightB p l = true) := h
  clear h
  go_enter Try.func10, Try.ntmps10
  go_wp2_with fail
  refine (right20 _ _ _).mono ?_
  rw [HR.out]
  rintro e w1 ⟨rfl, hb⟩
  obtain ⟨hc, hf⟩ := bcell hb
  have hz : w.heap.size + 1 < w1.heap.size := by have := hb.size; simp at this; omega
  go_wp2
  exact bodyPost_ret (v := .tuple #[.agg #[.int .u64 0, .int .u32 0], .int .i64 20]) (by simp [results, Try.results10, go_sem, hc]) rfl ⟨rfl, below2s hb _ _⟩

set_option maxHeartbeats 400000 in
theorem tick10_2 (p l f : Int) (w : World) (_h0 : 0 ≤ p) (_h1 : 0 ≤ l) (_h2 : 0 ≤ f) (h : rightB p l = true) (h3 : f ≤ 281474976710656) (h4 : p < f) :
    Calls Try.prog 10 #[.agg #[.int .u64 p, .int .u32 l], .int .u64 f] w fun e w' => e = .returned (.tuple #[.agg #[.int .u64 f, .int .u32 0], .int .i64 0]) ∧ Below w.heap.size w w' := by
  have HR : Hid (rightB p l = true) := h
  clear h
  go_enter Try.func10, Try.ntmps10
  go_wp2_with fail
  refine (right20 _ _ _).mono ?_
  rw [HR.out]
  rintro e w1 ⟨rfl, hb⟩
  obtain ⟨hc, hf⟩ := bcell hb
  have hz : w.heap.size + 1 < w1.heap.size := by have := hb.size; simp at this; omega
  go_wp2
  exact bodyPost_ret (v := .tuple #[.agg #[.int .u64 f, .int .u32 0], .int .i64 0]) (by simp [results, Try.results10, go_sem, hc]) rfl ⟨rfl, below2s hb _ _⟩

set_option maxHeartbeats 400000 in
theorem tick10_3 (p l f : Int) (w : World) (_h0 : 0 ≤ p) (_h1 : 0 ≤ l) (_h2 : 0 ≤ f) (h : rightB p l = true) (h3 : f ≤ 281474976710656) (h4 : ¬ p < f) (a b c : Int) (hn : nextF p l = (a, b, c)) :
    Calls Try.prog 10 #[.agg #[.int .u64 p, .int .u32 l], .int .u64 f] w fun e w' => e = .returned (.tuple #[.agg #[.int .u64 a, .int .u32 b], .int .i64 c]) ∧ Below w.heap.size w w' := by
  have HN : Hid (nextF p l = (a, b, c)) := hn
  clear hn
  have HR : Hid (rightB p l = true) := h
  clear h
  go_enter Try.func10, Try.ntmps10
  go_wp2_with fail
  refine (right20 _ _ _).mono ?_
  rw [HR.out]
  rintro e w1 ⟨rfl, hb⟩
  obtain ⟨hc, hf⟩ := bcell hb
  have hz : w.heap.size + 1 < w1.heap.size := by have := hb.size; simp at this; omega
  go_wp2_with fail
  refine (next21 _ _ _ _h0 _h1).mono ?_
  rw [HN.out]
  rintro e w2 ⟨rfl, hb2⟩
  obtain ⟨hc2, hf2⟩ := bcell hb2
  have hz2 : w.heap.size + 1 < w2.heap.size := by have := hb2.size; omega
  have hz0 : w.heap.size < w1.heap.size := by omega
  go_wp2
  exact bodyPost_ret (v := .tuple #[.agg #[.int .u64 a, .int .u32 b], .int .i64 c]) (by simp [results, Try.results10, go_sem, hc2, hc, hz]) rfl ⟨rfl, (((below2 hb).trans (hb2.mono (by omega))).setCell (by simp) _).setCell (by simp) _⟩

theorem tick10 (p l f : Int) (w : World) (_h0 : 0 ≤ p) (_h1 : 0 ≤ l) (_h2 : 0 ≤ f) :
    Calls Try.prog 10 #[.agg #[.int .u64 p, .int .u32 l], .int .u64 f] w fun e w' => e = .returned (.tuple #[.agg #[.int .u64 (tickF p l f).1, .int .u32 (tickF p l f).2.1], .int .i64 (tickF p l f).2.2]) ∧ Below w.heap.size w w' := by
  cases h : rightB p l
  · rw [show tickF p l f = (0, 0, 1) from by simp [tickF, h]]; exact tick10_0 p l f w _h0 _h1 _h2 h
  · by_cases h3 : f ≤ 281474976710656
    · by_cases h4 : p < f
      · rw [show tickF p l f = (f, 0, 0) from by simp [tickF, h, h3, h4]]; exact tick10_2 p l f w _h0 _h1 _h2 h h3 h4
      · rw [show tickF p l f = nextF p l from by simp [tickF, h, h3, h4]]; exact tick10_3 p l f w _h0 _h1 _h2 h h3 h4 _ _ _ rfl
    · rw [show tickF p l f = (0, 0, 20) from by simp [tickF, h, h3]]; exact tick10_1 p l f w _h0 _h1 _h2 h h3

end Go.Proofs.Ytiknfijaadbmeaa
