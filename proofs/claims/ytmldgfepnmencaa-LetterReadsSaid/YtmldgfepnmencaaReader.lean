/-
  Contracts of the Reader's methods: each answers what the plain function below says of the bytes that are left, and turns the Reader's own memory alone.
-/
import Derived.Test.YtmldgfepnmencaaFirst
import Derived.Lib.Strings
import Derived.Lib.IndexBytes
namespace Go.Proofs.Ytmldgfepnmencaa
open Go.RowKit

/-- What a Reader has: the bytes that are left, the error. -/
structure St where
  l : List UInt8
  e : Nat

/-- The Reader in block rb (of type T) has st. -/
def RdAt (T : Nat) (rb : Nat) (st : St) (w : World) : Prop := w.heap[rb]? = some (.cells #[.string (bs st.l), .int .i64 st.e] T (0, 0))

/-- But for block rb all is as it was; there may be new blocks. -/
structure Sole (rb : Nat) (w w' : World) : Prop where
  os : w'.os = w.os
  tape : w'.tape = w.tape
  output : w'.output = w.output
  size : w.heap.size ≤ w'.heap.size
  block : ∀ k, k < w.heap.size → k ≠ rb → w'.heap[k]? = w.heap[k]?

theorem Sole.refl (rb : Nat) (w : World) : Sole rb w w := ⟨rfl, rfl, rfl, Nat.le_refl _, fun _ _ _ => rfl⟩
theorem Sole.trans {rb : Nat} {a b c : World} (h : Sole rb a b) (k : Sole rb b c) : Sole rb a c :=
  ⟨k.os.trans h.os, k.tape.trans h.tape, k.output.trans h.output, Nat.le_trans h.size k.size, fun i hi hne => (k.block i (Nat.lt_of_lt_of_le hi h.size) hne).trans (h.block i hi hne)⟩
theorem Sole.setCell {rb : Nat} {a w : World} (h : Sole rb a w) (i : Nat) (v : Value) : Sole rb a (w.setCell ⟨rb, i, none⟩ v) :=
  ⟨h.os, h.tape, h.output, by rw [show (w.setCell ⟨rb, i, none⟩ v).heap.size = w.heap.size by simp [World.setCell]]; exact h.size, fun k hk hne => (Below.heap_setCell _ _ _ _ hne).trans (h.block k hk hne)⟩
theorem Sole.alloc {rb : Nat} {a w : World} (h : Sole rb a w) (o : Obj) : Sole rb a (w.alloc o) :=
  ⟨h.os, h.tape, h.output, by have := h.size; simp; omega, fun k hk hne => (Below.heap_alloc w o k (Nat.lt_of_lt_of_le hk h.size)).trans (h.block k hk hne)⟩
theorem Sole.drew {rb : Nat} {a w : World} (h : Sole rb a w) : Sole rb a w.drew := ⟨h.os, h.tape, h.output, h.size, h.block⟩
theorem Sole.below {rb B : Nat} {a w : World} (h : Sole rb a w) (hB : B ≤ rb) (hs : B ≤ a.heap.size) : Below B a w :=
  ⟨h.os, h.tape, h.output, h.size, fun k hk => h.block k (by omega) (by omega)⟩

theorem two_set0 {w : World} {b : Nat} {x y u : Value} {t : TypeId} (h : w.heap[b]? = some (.cells #[x, y] t (0, 0))) : (w.setCell ⟨b, 0, none⟩ u).heap[b]? = some (.cells #[u, y] t (0, 0)) := by
  have := heap_setCell_same w b 0 _ t u h
  simpa using this
theorem two_set1 {w : World} {b : Nat} {x y u : Value} {t : TypeId} (h : w.heap[b]? = some (.cells #[x, y] t (0, 0))) : (w.setCell ⟨b, 1, none⟩ u).heap[b]? = some (.cells #[x, u] t (0, 0)) := by
  have := heap_setCell_same w b 1 _ t u h
  simpa using this

/-- A number that may be most at the highest. -/
def rdNum (most : Nat) (st : St) : Nat × St :=
  if st.e ≠ 0 then (0, st) else
  if (rdFirst st.l).2.2 ≠ 0 then (0, ⟨[], (rdFirst st.l).2.2⟩) else
  if most < (rdFirst st.l).1 then (0, ⟨[], 3⟩) else ((rdFirst st.l).1, ⟨st.l.drop (rdFirst st.l).2.1, 0⟩)

theorem rdFirst_le (l : List UInt8) : (rdFirst l).2.1 ≤ l.length := by
  cases l with
  | nil => exact Nat.zero_le _
  | cons b r =>
    rw [rdFirst]
    have hlc : (b :: r).length = r.length + 1 := rfl
    rw [hlc]
    by_cases h : b.toNat ≤ 247
    · rw [if_pos h]; simp
    · rw [if_neg h]
      by_cases h2 : r.length < b.toNat - 247
      · rw [if_pos h2]; simp
      · rw [if_neg h2]
        split
        · simp; omega
        · simp

theorem rdFirst_lt (l : List UInt8) : (rdFirst l).1 < 18446744073709551616 ∧ (rdFirst l).2.2 ≤ 4 := by
  cases l with
  | nil => exact ⟨by decide, by decide⟩
  | cons b r =>
    rw [rdFirst]
    have hb := u8_lt b
    by_cases h : b.toNat ≤ 247
    · rw [if_pos h]; exact ⟨by show b.toNat < _; omega, by show 0 ≤ 4; omega⟩
    · rw [if_neg h]
      by_cases h2 : r.length < b.toNat - 247
      · rw [if_pos h2]; exact ⟨by decide, by decide⟩
      · rw [if_neg h2]
        split
        · refine ⟨?_, by show 0 ≤ 4; omega⟩
          have h3 := vl_lt (r.take (b.toNat - 247))
          have h4 : (r.take (b.toNat - 247)).length ≤ 8 := by rw [List.length_take]; omega
          have h5 : 256 ^ (r.take (b.toNat - 247)).length ≤ 256 ^ 8 := Nat.pow_le_pow_right (by decide) h4
          dsimp only
          omega
        · exact ⟨by show 0 < 18446744073709551616; omega, by show 2 ≤ 4; omega⟩

theorem bs_eq {s : ByteArray} {l : List UInt8} (h : s.data.toList = l) : s = bs l := by rw [← h, bs_of]
theorem bs_drop (l : List UInt8) (t : Nat) : (bs l).extract t (bs l).size = bs (l.drop t) := by
  apply bs_eq
  rw [Lib.extract_data, bs_data, bs_size, List.take_of_length_le (by simp)]
theorem bs_take (l : List UInt8) (t : Nat) : (bs l).extract 0 t = bs (l.take t) := by
  apply bs_eq
  rw [Lib.extract_data, bs_data]
  rfl

theorem first35' (l : List UInt8) (w : World) (hl : l.length < 9223372036854775808) (n t x : Nat) (hf : rdFirst l = (n, t, x)) :
    Calls Try.prog 58 #[.string (bs l)] w fun e w' => e = .returned (.tuple #[.int .u64 n, .int .i64 t, .int .i64 x]) ∧ w = w' := by
  have h := first35 (bs l) w (by rw [bs_size]; exact hl)
  rw [bs_data, hf] at h
  exact h

set_option maxHeartbeats 400000 in
theorem err32_nil (w : World) : Calls Try.prog 57 #[.pointer none] w fun e w' => e = .returned (.int .i64 1) ∧ w = w' := by
  go_enter Try.func57, Try.ntmps57
  go_wp2
  go_ret
  exact ⟨rfl, rfl⟩

set_option maxHeartbeats 400000 in
theorem err32 (rb : Nat) (st : St) (w : World) (h : RdAt 98 rb st w) : Calls Try.prog 57 #[.pointer (some ⟨rb, 0, none⟩)] w fun e w' => e = .returned (.int .i64 st.e) ∧ w = w' := by
  obtain ⟨c0, c1, f0, f1⟩ := two_cells h
  go_enter Try.func57, Try.ntmps57
  go_wp2
  go_ret
  exact ⟨rfl, rfl⟩

set_option maxHeartbeats 400000 in
theorem fail36 (rb : Nat) (st : St) (x : Nat) (w : World) (h : RdAt 98 rb st w) : Calls Try.prog 59 #[.pointer (some ⟨rb, 0, none⟩), .int .i64 x] w fun e w' => e = .returned (.tuple #[]) ∧ RdAt 98 rb ⟨[], x⟩ w' ∧ Sole rb w w' := by
  obtain ⟨c0, c1, f0, f1⟩ := two_cells h
  have h1 := two_set0 (u := .string ⟨#[]⟩) h
  obtain ⟨d0, d1, g0, g1⟩ := two_cells h1
  have H : Hid (RdAt 98 rb st w) := h
  clear h h1
  go_enter Try.func59, Try.ntmps59
  go_wp2
  go_end0
  exact ⟨rfl, two_set1 (two_set0 H.out), ((Sole.refl rb w).setCell _ _).setCell _ _⟩

set_option maxHeartbeats 400000 in
theorem num20_nil (most : Int) (w : World) : Calls Try.prog 29 #[.pointer none, .int .u64 most] w fun e w' => e = .returned (.int .u64 0) ∧ w = w' := by
  go_enter Try.func29, Try.ntmps29
  go_wp2_with (go_at_call 57; refine (err32_nil _).mono ?_; rintro e w1 ⟨rfl, rfl⟩)
  go_ret
  exact ⟨rfl, rfl⟩

set_option maxHeartbeats 1600000 in
theorem num20 (rb : Nat) (st : St) (most : Nat) (w : World) (h : RdAt 98 rb st w) (hl : st.l.length < 9223372036854775808) :
    Calls Try.prog 29 #[.pointer (some ⟨rb, 0, none⟩), .int .u64 most] w fun e w' => e = .returned (.int .u64 (rdNum most st).1) ∧ RdAt 98 rb (rdNum most st).2 w' ∧ Sole rb w w' := by
  obtain ⟨c0, c1, f0, f1⟩ := two_cells h
  have H : Hid (RdAt 98 rb st w) := h
  clear h
  by_cases he : st.e = 0
  · have he' : ((st.e : Int) != 0) = false := by simp [he]
    have hle := rdFirst_le st.l
    obtain ⟨⟨n, t, x⟩, hf⟩ : ∃ f, f = rdFirst st.l := ⟨_, rfl⟩
    have HF : Hid (rdFirst st.l = (n, t, x)) := hf.symm
    rw [← hf] at hle
    replace hle : t ≤ st.l.length := hle
    clear hf
    by_cases hx : x = 0
    · subst hx
      by_cases hm : most < n
      · have hm' : (most : Int) < n := by omega
        go_enter Try.func29, Try.ntmps29
        go_wp2_with (first
          | (go_at_call 57; refine (err32 rb st _ H.out).mono ?_; rintro e w1 ⟨rfl, rfl⟩)
          | (go_at_call 58; refine (first35' st.l _ hl _ _ _ HF.out).mono ?_; rintro e w1 ⟨rfl, rfl⟩)
          | (go_at_call 59; refine (fail36 rb st 3 _ H.out).mono ?_; rintro e w1 ⟨rfl, hr, hs⟩; have HR : Hid (RdAt 98 rb ⟨[], 3⟩ w1 ∧ Sole rb w w1) := ⟨hr, hs⟩; clear hr hs))
        go_ret
        have hr : rdNum most st = (0, ⟨[], 3⟩) := by simp [rdNum, he, HF.out, hm]
        rw [hr]
        exact ⟨rfl, HR.out⟩
      · have hm' : ¬ (most : Int) < n := by omega
        have ht : t ≤ (bs st.l).size := by rw [bs_size]; exact hle
        go_enter Try.func29, Try.ntmps29
        go_wp2_with (first
          | (go_at_call 57; refine (err32 rb st _ H.out).mono ?_; rintro e w1 ⟨rfl, rfl⟩)
          | (go_at_call 58; refine (first35' st.l _ hl _ _ _ HF.out).mono ?_; rintro e w1 ⟨rfl, rfl⟩))
        go_ret
        have hr : rdNum most st = (n, ⟨st.l.drop t, 0⟩) := by simp [rdNum, he, HF.out, hm]
        rw [hr]
        have h2 := two_set0 (u := .string ((bs st.l).extract t (bs st.l).size)) H.out
        rw [he, bs_drop] at h2
        rw [bs_drop]
        exact ⟨rfl, h2, (Sole.refl rb w).setCell _ _⟩
    · have hx' : ((x : Int) == 0) = false := by simp; omega
      have hx2 : ((x : Int) != 0) = true := by simp; omega
      go_enter Try.func29, Try.ntmps29
      go_wp2_with (first
        | (go_at_call 57; refine (err32 rb st _ H.out).mono ?_; rintro e w1 ⟨rfl, rfl⟩)
        | (go_at_call 58; refine (first35' st.l _ hl _ _ _ HF.out).mono ?_; rintro e w1 ⟨rfl, rfl⟩)
        | (go_at_call 59; refine (fail36 rb st x _ H.out).mono ?_; rintro e w1 ⟨rfl, hr, hs⟩; have HR : Hid (RdAt 98 rb ⟨[], x⟩ w1 ∧ Sole rb w w1) := ⟨hr, hs⟩; clear hr hs))
      go_ret
      have hr : rdNum most st = (0, ⟨[], x⟩) := by simp [rdNum, he, HF.out, hx]
      rw [hr]
      exact ⟨rfl, HR.out⟩
  · have he' : ((st.e : Int) != 0) = true := by simp; omega
    go_enter Try.func29, Try.ntmps29
    go_wp2_with (go_at_call 57; refine (err32 rb st _ H.out).mono ?_; rintro e w1 ⟨rfl, rfl⟩)
    go_ret
    have hr : rdNum most st = (0, st) := by simp [rdNum, he]
    rw [hr]
    exact ⟨rfl, H.out, Sole.refl _ _⟩

end Go.Proofs.Ytmldgfepnmencaa
