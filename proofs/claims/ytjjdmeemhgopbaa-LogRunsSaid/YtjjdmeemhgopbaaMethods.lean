/-
  Contracts of the Reader's further methods.
-/
import Derived.Test.YtjjdmeemhgopbaaReader
namespace Go.Proofs.Ytjjdmeemhgopbaa
open Go.RowKit

/-- A text of least to most bytes. -/
def rdText (least most : Int) (st : St) : List UInt8 × St :=
  if (rdNum 18446744073709551615 st).2.e ≠ 0 then ([], (rdNum 18446744073709551615 st).2) else
  if most < 0 ∨ most < (rdNum 18446744073709551615 st).1 ∨ 0 < least ∧ ((rdNum 18446744073709551615 st).1 : Int) < least then ([], ⟨[], 3⟩) else
  if (rdNum 18446744073709551615 st).2.l.length < (rdNum 18446744073709551615 st).1 then ([], ⟨[], 4⟩) else
  ((rdNum 18446744073709551615 st).2.l.take (rdNum 18446744073709551615 st).1, ⟨(rdNum 18446744073709551615 st).2.l.drop (rdNum 18446744073709551615 st).1, 0⟩)

/-- A flag. -/
def rdFlag (st : St) : Bool × St :=
  if st.e ≠ 0 then (false, st) else
  match st.l with
  | [] => (false, ⟨[], 4⟩)
  | b :: r => if 1 < b.toNat then (false, ⟨[], 2⟩) else (b.toNat == 1, ⟨r, 0⟩)

/-- A stamp. -/
def rdStamp (st : St) : (Nat × Nat) × St :=
  if (rdNum 4095 (rdNum 281474976710656 st).2).2.e ≠ 0 then ((0, 0), (rdNum 4095 (rdNum 281474976710656 st).2).2) else
  (((rdNum 281474976710656 st).1, (rdNum 4095 (rdNum 281474976710656 st).2).1), (rdNum 4095 (rdNum 281474976710656 st).2).2)

/-- Is all taken? -/
def rdEnd (st : St) : Nat := if st.e ≠ 0 then st.e else if st.l = [] then 0 else 2

theorem rdNum_le (most : Nat) (st : St) : (rdNum most st).1 ≤ most ∧ (rdNum most st).2.l.length ≤ st.l.length ∧ (rdNum most st).1 < 18446744073709551616 := by
  have hf := (rdFirst_lt st.l).1
  unfold rdNum
  split
  · exact ⟨Nat.zero_le _, Nat.le_refl _, by dsimp only; omega⟩
  · split
    · exact ⟨Nat.zero_le _, Nat.zero_le _, by dsimp only; omega⟩
    · split
      · exact ⟨Nat.zero_le _, Nat.zero_le _, by dsimp only; omega⟩
      · refine ⟨by dsimp only; omega, ?_, hf⟩
        dsimp only
        rw [List.length_drop]; omega

theorem RdAt.alloc {T rb : Nat} {st : St} {w : World} (h : RdAt T rb st w) (o : Obj) : RdAt T rb st (w.alloc o) := by
  unfold RdAt
  rw [Below.heap_alloc w o rb (lt_of_block h)]
  exact h

theorem RdAt.setOther {T rb : Nat} {st : St} {w : World} (h : RdAt T rb st w) {b : Nat} (hb : b ≠ rb) (i : Nat) (v : Value) : RdAt T rb st (w.setCell ⟨b, i, none⟩ v) := by
  unfold RdAt
  rw [Below.heap_setCell _ _ _ _ (by exact fun e => hb e.symm)]
  exact h
theorem Sole.setNew {rb : Nat} {a w : World} (h : Sole rb a w) {b : Nat} (hb : a.heap.size ≤ b) (i : Nat) (v : Value) : Sole rb a (w.setCell ⟨b, i, none⟩ v) :=
  ⟨h.os, h.tape, h.output, by rw [show (w.setCell ⟨b, i, none⟩ v).heap.size = w.heap.size by simp [World.setCell]]; exact h.size, fun k hk hne => (Below.heap_setCell _ _ _ _ (by show k ≠ b; omega)).trans (h.block k hk hne)⟩

set_option maxHeartbeats 400000 in
theorem new19 (l : List UInt8) (w : World) : Calls Try.prog 87 #[.string (bs l)] w fun e w' => e = .returned (.pointer (some ⟨w.heap.size, 0, none⟩)) ∧ RdAt 144 w.heap.size ⟨l, 0⟩ w' ∧ Below w.heap.size w w' := by
  go_enter Try.func87, Try.ntmps87
  go_wp2
  go_ret
  exact ⟨rfl, heap_alloc_new w _, (Below.refl _ _).alloc (Nat.le_refl _) _⟩

set_option maxHeartbeats 400000 in
theorem left24_nil (w : World) : Calls Try.prog 95 #[.pointer none] w fun e w' => e = .returned (.int .i64 0) ∧ w = w' := by
  go_enter Try.func95, Try.ntmps95
  go_wp2
  go_ret
  exact ⟨rfl, rfl⟩

set_option maxHeartbeats 400000 in
theorem left24 (rb : Nat) (st : St) (w : World) (h : RdAt 144 rb st w) : Calls Try.prog 95 #[.pointer (some ⟨rb, 0, none⟩)] w fun e w' => e = .returned (.int .i64 st.l.length) ∧ w = w' := by
  obtain ⟨c0, c1, f0, f1⟩ := two_cells h
  have hs := bs_size st.l
  go_enter Try.func95, Try.ntmps95
  go_wp2
  go_ret
  exact ⟨rfl, rfl⟩

theorem bs_empty (l : List UInt8) : (bs l).toList.isEmpty = l.isEmpty := by rw [toList_list, bs_data]

theorem bs_drop' (l : List UInt8) (t : Nat) : (bs l).extract t l.length = bs (l.drop t) := by rw [← bs_drop, bs_size]

theorem bs_nil_empty : (bs []).toList.isEmpty = true := by rw [bs_empty]; rfl

set_option maxHeartbeats 400000 in
theorem text21_nil (least most : Int) (w : World) : Calls Try.prog 93 #[.pointer none, .int .i64 least, .int .i64 most] w fun e w' => e = .returned (.string (bs [])) ∧ w = w' := by
  go_enter Try.func93, Try.ntmps93
  go_wp2_with (first
    | (go_at_call 88; refine (num20_nil _ _).mono ?_; rintro e w1 ⟨rfl, rfl⟩)
    | (go_at_call 94; refine (err32_nil _).mono ?_; rintro e w1 ⟨rfl, rfl⟩))
  go_ret
  exact ⟨rfl, rfl⟩

set_option maxHeartbeats 1600000 in
theorem text21 (rb : Nat) (st : St) (least most : Int) (w : World) (h : RdAt 144 rb st w) (hl : st.l.length < 9223372036854775808)
    (a0 : -9223372036854775808 ≤ least) (a1 : least ≤ 9223372036854775807) (b0 : -9223372036854775808 ≤ most) (b1 : most ≤ 9223372036854775807) :
    Calls Try.prog 93 #[.pointer (some ⟨rb, 0, none⟩), .int .i64 least, .int .i64 most] w fun e w' => e = .returned (.string (bs (rdText least most st).1)) ∧ RdAt 144 rb (rdText least most st).2 w' ∧ Sole rb w w' := by
  have H : Hid (RdAt 144 rb st w) := h
  clear h
  have hle := rdNum_le 18446744073709551615 st
  have hdef : rdText least most st = if (rdNum 18446744073709551615 st).2.e ≠ 0 then ([], (rdNum 18446744073709551615 st).2) else
      if most < 0 ∨ most < (rdNum 18446744073709551615 st).1 ∨ 0 < least ∧ ((rdNum 18446744073709551615 st).1 : Int) < least then ([], ⟨[], 3⟩) else
      if (rdNum 18446744073709551615 st).2.l.length < (rdNum 18446744073709551615 st).1 then ([], ⟨[], 4⟩) else
      ((rdNum 18446744073709551615 st).2.l.take (rdNum 18446744073709551615 st).1, ⟨(rdNum 18446744073709551615 st).2.l.drop (rdNum 18446744073709551615 st).1, 0⟩) := rfl
  have hnum := fun w h => num20 rb st 18446744073709551615 w h hl
  obtain ⟨⟨n, l1, x1⟩, hf⟩ : ∃ f, f = rdNum 18446744073709551615 st := ⟨_, rfl⟩
  rw [← hf] at hdef hle hnum
  clear hf
  dsimp only at hdef hle hnum
  have HN : Hid (∀ w, RdAt 144 rb st w → Calls Try.prog 88 #[.pointer (some ⟨rb, 0, none⟩), .int .u64 (18446744073709551615 : Nat)] w fun e w' => e = .returned (.int .u64 n) ∧ RdAt 144 rb ⟨l1, x1⟩ w' ∧ Sole rb w w') := hnum
  obtain ⟨R, hR⟩ : ∃ R, R = rdText least most st := ⟨_, rfl⟩
  rw [← hR] at hdef ⊢
  have HD : Hid _ := hdef
  obtain ⟨hn1, hl1, hn2⟩ := hle
  clear hnum hdef hR
  go_enter Try.func93, Try.ntmps93
  go_wp2_with fail
  refine (HN.out _ H.out).mono ?_
  rintro e w1 ⟨rfl, hr, hs⟩
  obtain ⟨c0, c1, f0, f1⟩ := two_cells hr
  dsimp only at c0 c1
  have HR : Hid (RdAt 144 rb ⟨l1, x1⟩ w1 ∧ Sole rb w w1) := ⟨hr, hs⟩
  clear hr hs
  go_wp2_with fail
  refine (err32 rb _ _ HR.out.1).mono ?_
  rintro e w2 ⟨rfl, rfl⟩
  dsimp only
  by_cases hx : x1 = 0
  · subst hx
    have hbl := bs_size l1
    by_cases hA : most < 0
    · skip
      go_wp2_with (go_at_call 97; refine (fail36 rb _ 3 _ HR.out.1).mono ?_; rintro e w3 ⟨rfl, hr, hs⟩; have HR3 : Hid (RdAt 144 rb ⟨[], 3⟩ w3 ∧ Sole rb w w3) := ⟨hr, HR.out.2.trans hs⟩; clear hr hs)
      go_ret
      rw [HD.out, if_neg (by simp), if_pos (.inl hA)]
      exact ⟨rfl, HR3.out⟩
    · by_cases hB : most < n
      · skip
        go_wp2_with (go_at_call 97; refine (fail36 rb _ 3 _ HR.out.1).mono ?_; rintro e w3 ⟨rfl, hr, hs⟩; have HR3 : Hid (RdAt 144 rb ⟨[], 3⟩ w3 ∧ Sole rb w w3) := ⟨hr, HR.out.2.trans hs⟩; clear hr hs)
        go_ret
        rw [HD.out, if_neg (by simp), if_pos (.inr (.inl hB))]
        exact ⟨rfl, HR3.out⟩
      · by_cases hC : 0 < least
        · by_cases hD : (n : Int) < least
          · skip
            go_wp2_with (go_at_call 97; refine (fail36 rb _ 3 _ HR.out.1).mono ?_; rintro e w3 ⟨rfl, hr, hs⟩; have HR3 : Hid (RdAt 144 rb ⟨[], 3⟩ w3 ∧ Sole rb w w3) := ⟨hr, HR.out.2.trans hs⟩; clear hr hs)
            go_ret
            rw [HD.out, if_neg (by simp), if_pos (.inr (.inr ⟨hC, hD⟩))]
            exact ⟨rfl, HR3.out⟩
          · skip
            by_cases hG : l1.length < n
            · have hG' : (l1.length : Int) < n := by omega
              go_wp2_with (go_at_call 97; refine (fail36 rb _ 4 _ HR.out.1).mono ?_; rintro e w3 ⟨rfl, hr, hs⟩; have HR3 : Hid (RdAt 144 rb ⟨[], 4⟩ w3 ∧ Sole rb w w3) := ⟨hr, HR.out.2.trans hs⟩; clear hr hs)
              go_ret
              rw [HD.out, if_neg (by simp), if_neg (by omega), if_pos hG]
              exact ⟨rfl, HR3.out⟩
            · have hG' : ¬ (l1.length : Int) < n := by omega
              have hnl : n ≤ (bs l1).size := by omega
              go_wp2
              go_ret
              rw [HD.out, if_neg (by simp), if_neg (by omega), if_neg hG]
              have h2 := two_set0 (u := .string ((bs l1).extract n (bs l1).size)) HR.out.1
              rw [bs_drop] at h2
              have h3 := HR.out.2.setCell 0 (.string (bs (l1.drop n)))
              refine ⟨?_, ?_, ?_⟩
              · rw [← bs_take]; rfl
              · rw [bs_drop']; exact h2
              · rw [bs_drop']; exact h3
        · skip
          by_cases hG : l1.length < n
          · have hG' : (l1.length : Int) < n := by omega
            go_wp2_with (go_at_call 97; refine (fail36 rb _ 4 _ HR.out.1).mono ?_; rintro e w3 ⟨rfl, hr, hs⟩; have HR3 : Hid (RdAt 144 rb ⟨[], 4⟩ w3 ∧ Sole rb w w3) := ⟨hr, HR.out.2.trans hs⟩; clear hr hs)
            go_ret
            rw [HD.out, if_neg (by simp), if_neg (by omega), if_pos hG]
            exact ⟨rfl, HR3.out⟩
          · have hG' : ¬ (l1.length : Int) < n := by omega
            have hnl : n ≤ (bs l1).size := by omega
            go_wp2
            go_ret
            rw [HD.out, if_neg (by simp), if_neg (by omega), if_neg hG]
            have h2 := two_set0 (u := .string ((bs l1).extract n (bs l1).size)) HR.out.1
            rw [bs_drop] at h2
            have h3 := HR.out.2.setCell 0 (.string (bs (l1.drop n)))
            refine ⟨?_, ?_, ?_⟩
            · rw [← bs_take]; rfl
            · rw [bs_drop']; exact h2
            · rw [bs_drop']; exact h3
  · have hx' : ((x1 : Int) != 0) = true := by simp; omega
    go_wp2
    go_ret
    rw [HD.out, if_pos hx]
    exact ⟨rfl, HR.out⟩

end Go.Proofs.Ytjjdmeemhgopbaa
