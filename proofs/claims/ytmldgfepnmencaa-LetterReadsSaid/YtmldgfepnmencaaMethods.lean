/-
  Contracts of the Reader's further methods.
-/
import Derived.Test.YtmldgfepnmencaaReader
namespace Go.Proofs.Ytmldgfepnmencaa
open Go.RowKit

/-- A text of least to most bytes. -/
def rdText (least most : Int) (st : St) : List UInt8 × St :=
  if (rdNum 18446744073709551615 st).2.e ≠ 0 then ([], (rdNum 18446744073709551615 st).2) else
  if most < 0 ∨ most < (rdNum 18446744073709551615 st).1 ∨ 0 < least ∧ ((rdNum 18446744073709551615 st).1 : Int) < least then ([], ⟨[], 3⟩) else
  if (rdNum 18446744073709551615 st).2.l.length < (rdNum 18446744073709551615 st).1 then ([], ⟨[], 4⟩) else
  ((rdNum 18446744073709551615 st).2.l.take (rdNum 18446744073709551615 st).1, ⟨(rdNum 18446744073709551615 st).2.l.drop (rdNum 18446744073709551615 st).1, 0⟩)

/-- A flag. -/
def rdFlag (st : St) : Bool × St :=
  if st.e ≠ 0 then (false, st) else
  match st.l with
  | [] => (false, ⟨[], 4⟩)
  | b :: r => if 1 < b.toNat then (false, ⟨[], 2⟩) else (b.toNat == 1, ⟨r, 0⟩)

/-- A stamp. -/
def rdStamp (st : St) : (Nat × Nat) × St :=
  if (rdNum 4095 (rdNum 281474976710656 st).2).2.e ≠ 0 then ((0, 0), (rdNum 4095 (rdNum 281474976710656 st).2).2) else
  (((rdNum 281474976710656 st).1, (rdNum 4095 (rdNum 281474976710656 st).2).1), (rdNum 4095 (rdNum 281474976710656 st).2).2)

/-- Is all taken? -/
def rdEnd (st : St) : Nat := if st.e ≠ 0 then st.e else if st.l = [] then 0 else 2

theorem rdNum_le (most : Nat) (st : St) : (rdNum most st).1 ≤ most ∧ (rdNum most st).2.l.length ≤ st.l.length ∧ (rdNum most st).1 < 18446744073709551616 := by
  have hf := (rdFirst_lt st.l).1
  unfold rdNum
  split
  · exact ⟨Nat.zero_le _, Nat.le_refl _, by dsimp only; omega⟩
  · split
    · exact ⟨Nat.zero_le _, Nat.zero_le _, by dsimp only; omega⟩
    · split
      · exact ⟨Nat.zero_le _, Nat.zero_le _, by dsimp only; omega⟩
      · refine ⟨by dsimp only; omega, ?_, hf⟩
        dsimp only
        rw [List.length_drop]; omega

theorem RdAt.alloc {T rb : Nat} {st : St} {w : World} (h : RdAt T rb st w) (o : Obj) : RdAt T rb st (w.alloc o) := by
  unfold RdAt
  rw [Below.heap_alloc w o rb (lt_of_block h)]
  exact h

theorem RdAt.setOther {T rb : Nat} {st : St} {w : World} (h : RdAt T rb st w) {b : Nat} (hb : b ≠ rb) (i : Nat) (v : Value) : RdAt T rb st (w.setCell ⟨b, i, none⟩ v) := by
  unfold RdAt
  rw [Below.heap_setCell _ _ _ _ (by exact fun e => hb e.symm)]
  exact h
theorem Sole.setNew {rb : Nat} {a w : World} (h : Sole rb a w) {b : Nat} (hb : a.heap.size ≤ b) (i : Nat) (v : Value) : Sole rb a (w.setCell ⟨b, i, none⟩ v) :=
  ⟨h.os, h.tape, h.output, by rw [show (w.setCell ⟨b, i, none⟩ v).heap.size = w.heap.size by simp [World.setCell]]; exact h.size, fun k hk hne => (Below.heap_setCell _ _ _ _ (by show k ≠ b; omega)).trans (h.block k hk hne)⟩

set_option maxHeartbeats 400000 in
theorem new19 (l : List UInt8) (w : World) : Calls Try.prog 28 #[.string (bs l)] w fun e w' => e = .returned (.pointer (some ⟨w.heap.size, 0, none⟩)) ∧ RdAt 98 w.heap.size ⟨l, 0⟩ w' ∧ Below w.heap.size w w' := by
  go_enter Try.func28, Try.ntmps28
  go_wp2
  go_ret
  exact ⟨rfl, heap_alloc_new w _, (Below.refl _ _).alloc (Nat.le_refl _) _⟩

set_option maxHeartbeats 400000 in
theorem end25_nil (w : World) : Calls Try.prog 33 #[.pointer none] w fun e w' => e = .returned (.int .i64 1) ∧ w = w' := by
  go_enter Try.func33, Try.ntmps33
  go_wp2_with (go_at_call 57; refine (err32_nil _).mono ?_; rintro e w1 ⟨rfl, rfl⟩)
  go_ret
  exact ⟨rfl, rfl⟩

theorem bs_empty (l : List UInt8) : (bs l).toList.isEmpty = l.isEmpty := by rw [toList_list, bs_data]

theorem bs_drop' (l : List UInt8) (t : Nat) : (bs l).extract t l.length = bs (l.drop t) := by rw [← bs_drop, bs_size]

theorem bs_nil_empty : (bs []).toList.isEmpty = true := by rw [bs_empty]; rfl

set_option maxHeartbeats 400000 in
theorem end25 (rb : Nat) (st : St) (w : World) (h : RdAt 98 rb st w) : Calls Try.prog 33 #[.pointer (some ⟨rb, 0, none⟩)] w fun e w' => e = .returned (.int .i64 (rdEnd st)) ∧ w = w' := by
  obtain ⟨l, e⟩ := st
  obtain ⟨c0, c1, f0, f1⟩ := two_cells h
  have H : Hid (RdAt 98 rb ⟨l, e⟩ w) := h
  clear h
  dsimp only at c0 c1
  by_cases he : e = 0
  · subst he
    cases l with
    | nil =>
      have hb := bs_nil_empty
      go_enter Try.func33, Try.ntmps33
      go_wp2_with (go_at_call 57; refine (err32 rb _ _ H.out).mono ?_; rintro e w1 ⟨rfl, rfl⟩)
      go_ret
      exact ⟨rfl, rfl⟩
    | cons b r =>
      have hb : (bs (b :: r)).toList.isEmpty = false := by rw [bs_empty]; rfl
      go_enter Try.func33, Try.ntmps33
      go_wp2_with (go_at_call 57; refine (err32 rb _ _ H.out).mono ?_; rintro e w1 ⟨rfl, rfl⟩)
      go_ret
      exact ⟨rfl, rfl⟩
  · have he' : ((e : Int) != 0) = true := by simp; omega
    go_enter Try.func33, Try.ntmps33
    go_wp2_with (go_at_call 57; refine (err32 rb _ _ H.out).mono ?_; rintro e w1 ⟨rfl, rfl⟩)
    go_ret
    exact ⟨by simp [rdEnd, he], rfl⟩

set_option maxHeartbeats 400000 in
theorem count30_nil (most : Int) (w : World) (h0 : -9223372036854775808 ≤ most) (h1 : most ≤ 9223372036854775807) : Calls Try.prog 76 #[.pointer none, .int .i64 most] w fun e w' => e = .returned (.int .i64 0) ∧ w = w' := by
  go_enter Try.func76, Try.ntmps76
  go_wp2_with (go_at_call 29; refine (num20_nil _ _).mono ?_; rintro e w1 ⟨rfl, rfl⟩)
  go_ret
  exact ⟨rfl, rfl⟩

set_option maxHeartbeats 400000 in
theorem count30 (rb : Nat) (st : St) (most : Int) (w : World) (h : RdAt 98 rb st w) (hl : st.l.length < 9223372036854775808) (h0 : -9223372036854775808 ≤ most) (h1 : most ≤ 9223372036854775807) :
    Calls Try.prog 76 #[.pointer (some ⟨rb, 0, none⟩), .int .i64 most] w fun e w' => e = .returned (.int .i64 (rdNum most.toNat st).1) ∧ RdAt 98 rb (rdNum most.toNat st).2 w' ∧ Sole rb w w' := by
  have H : Hid (RdAt 98 rb st w) := h
  clear h
  have hle := (rdNum_le most.toNat st).1
  go_enter Try.func76, Try.ntmps76
  go_wp2_with fail
  rw [show max most 0 = ((most.toNat : Nat) : Int) by omega]
  refine (num20 rb st most.toNat _ H.out hl).mono ?_
  rintro e w1 ⟨rfl, hr, hs⟩
  have HR : Hid (RdAt 98 rb (rdNum most.toNat st).2 w1 ∧ Sole rb w w1) := ⟨hr, hs⟩
  clear hr hs
  obtain ⟨n, hn⟩ : ∃ n, n = (rdNum most.toNat st).1 := ⟨_, rfl⟩
  rw [← hn] at hle ⊢
  have HNn : Hid (n = (rdNum most.toNat st).1) := hn
  clear hn
  have hn' : (n : Int) ≤ 9223372036854775807 := by omega
  go_wp2
  go_ret
  rw [← HNn.out]
  exact ⟨rfl, HR.out⟩

set_option maxHeartbeats 400000 in
theorem flag22_nil (w : World) : Calls Try.prog 30 #[.pointer none] w fun e w' => e = .returned (.bool false) ∧ w = w' := by
  go_enter Try.func30, Try.ntmps30
  go_wp2_with (go_at_call 57; refine (err32_nil _).mono ?_; rintro e w1 ⟨rfl, rfl⟩)
  go_ret
  exact ⟨rfl, rfl⟩

set_option maxHeartbeats 800000 in
theorem flag22 (rb : Nat) (st : St) (w : World) (h : RdAt 98 rb st w) :
    Calls Try.prog 30 #[.pointer (some ⟨rb, 0, none⟩)] w fun e w' => e = .returned (.bool (rdFlag st).1) ∧ RdAt 98 rb (rdFlag st).2 w' ∧ Sole rb w w' := by
  obtain ⟨l, e⟩ := st
  obtain ⟨c0, c1, f0, f1⟩ := two_cells h
  have H : Hid (RdAt 98 rb ⟨l, e⟩ w) := h
  clear h
  dsimp only at c0 c1
  by_cases he : e = 0
  · subst he
    cases l with
    | nil =>
      have hb := bs_nil_empty
      go_enter Try.func30, Try.ntmps30
      go_wp2_with (first
        | (go_at_call 57; refine (err32 rb _ _ H.out).mono ?_; rintro e w1 ⟨rfl, rfl⟩)
        | (go_at_call 59; refine (fail36 rb _ 4 _ H.out).mono ?_; rintro e w1 ⟨rfl, hr, hs⟩; have HR : Hid (RdAt 98 rb ⟨[], 4⟩ w1 ∧ Sole rb w w1) := ⟨hr, hs⟩; clear hr hs))
      go_ret
      exact ⟨rfl, HR.out⟩
    | cons b r =>
      have hb : (bs (b :: r)).toList.isEmpty = false := by rw [bs_empty]; rfl
      have hsz : 0 < (bs (b :: r)).size := by rw [bs_size]; simp
      have hget : (bs (b :: r))[0]'hsz = b := rfl
      have hdr := bs_drop (b :: r) 1
      have hb256 := u8_lt b
      by_cases hb1 : 1 < b.toNat
      · have hb1' : (1 : Int) < b.toNat := by omega
        go_enter Try.func30, Try.ntmps30
        go_wp2_with (first
          | (go_at_call 57; refine (err32 rb _ _ H.out).mono ?_; rintro e w1 ⟨rfl, rfl⟩)
          | (go_at_call 59; refine (fail36 rb _ 2 _ H.out).mono ?_; rintro e w1 ⟨rfl, hr, hs⟩; have HR : Hid (RdAt 98 rb ⟨[], 2⟩ w1 ∧ Sole rb w w1) := ⟨hr, hs⟩; clear hr hs))
        go_ret
        have hr : rdFlag ⟨b :: r, 0⟩ = (false, ⟨[], 2⟩) := by simp [rdFlag, hb1]
        rw [hr]
        exact ⟨rfl, HR.out⟩
      · have hb1' : ¬ (1 : Int) < b.toNat := by omega
        go_enter Try.func30, Try.ntmps30
        go_wp2_with (go_at_call 57; refine (err32 rb _ _ H.out).mono ?_; rintro e w1 ⟨rfl, rfl⟩)
        go_ret
        have hr : rdFlag ⟨b :: r, 0⟩ = (b.toNat == 1, ⟨r, 0⟩) := by simp [rdFlag, hb1]
        rw [hr]
        refine ⟨?_, ?_, (Sole.refl rb w).setCell _ _⟩
        · have e1 : ((b.toNat : Int) == 1) = (b.toNat == 1) := by rw [Bool.eq_iff_iff]; simp; omega
          show Ending.returned (.bool ((b.toNat : Int) == 1)) = _
          rw [e1]
        · exact two_set0 H.out
  · have he' : ((e : Int) != 0) = true := by simp; omega
    go_enter Try.func30, Try.ntmps30
    go_wp2_with (go_at_call 57; refine (err32 rb _ _ H.out).mono ?_; rintro e w1 ⟨rfl, rfl⟩)
    go_ret
    have hr : rdFlag ⟨l, e⟩ = (false, ⟨l, e⟩) := by simp [rdFlag, he]
    rw [hr]
    exact ⟨rfl, H.out, Sole.refl _ _⟩

set_option maxHeartbeats 400000 in
theorem text21_nil (least most : Int) (w : World) : Calls Try.prog 60 #[.pointer none, .int .i64 least, .int .i64 most] w fun e w' => e = .returned (.string (bs [])) ∧ w = w' := by
  go_enter Try.func60, Try.ntmps60
  go_wp2_with (first
    | (go_at_call 29; refine (num20_nil _ _).mono ?_; rintro e w1 ⟨rfl, rfl⟩)
    | (go_at_call 57; refine (err32_nil _).mono ?_; rintro e w1 ⟨rfl, rfl⟩))
  go_ret
  exact ⟨rfl, rfl⟩

set_option maxHeartbeats 1600000 in
theorem text21 (rb : Nat) (st : St) (least most : Int) (w : World) (h : RdAt 98 rb st w) (hl : st.l.length < 9223372036854775808)
    (a0 : -9223372036854775808 ≤ least) (a1 : least ≤ 9223372036854775807) (b0 : -9223372036854775808 ≤ most) (b1 : most ≤ 9223372036854775807) :
    Calls Try.prog 60 #[.pointer (some ⟨rb, 0, none⟩), .int .i64 least, .int .i64 most] w fun e w' => e = .returned (.string (bs (rdText least most st).1)) ∧ RdAt 98 rb (rdText least most st).2 w' ∧ Sole rb w w' := by
  have H : Hid (RdAt 98 rb st w) := h
  clear h
  have hle := rdNum_le 18446744073709551615 st
  have hdef : rdText least most st = if (rdNum 18446744073709551615 st).2.e ≠ 0 then ([], (rdNum 18446744073709551615 st).2) else
      if most < 0 ∨ most < (rdNum 18446744073709551615 st).1 ∨ 0 < least ∧ ((rdNum 18446744073709551615 st).1 : Int) < least then ([], ⟨[], 3⟩) else
      if (rdNum 18446744073709551615 st).2.l.length < (rdNum 18446744073709551615 st).1 then ([], ⟨[], 4⟩) else
      ((rdNum 18446744073709551615 st).2.l.take (rdNum 18446744073709551615 st).1, ⟨(rdNum 18446744073709551615 st).2.l.drop (rdNum 18446744073709551615 st).1, 0⟩) := rfl
  have hnum := fun w h => num20 rb st 18446744073709551615 w h hl
  obtain ⟨⟨n, l1, x1⟩, hf⟩ : ∃ f, f = rdNum 18446744073709551615 st := ⟨_, rfl⟩
  rw [← hf] at hdef hle hnum
  clear hf
  dsimp only at hdef hle hnum
  have HN : Hid (∀ w, RdAt 98 rb st w → Calls Try.prog 29 #[.pointer (some ⟨rb, 0, none⟩), .int .u64 (18446744073709551615 : Nat)] w fun e w' => e = .returned (.int .u64 n) ∧ RdAt 98 rb ⟨l1, x1⟩ w' ∧ Sole rb w w') := hnum
  obtain ⟨R, hR⟩ : ∃ R, R = rdText least most st := ⟨_, rfl⟩
  rw [← hR] at hdef ⊢
  have HD : Hid _ := hdef
  obtain ⟨hn1, hl1, hn2⟩ := hle
  clear hnum hdef hR
  go_enter Try.func60, Try.ntmps60
  go_wp2_with fail
  refine (HN.out _ H.out).mono ?_
  rintro e w1 ⟨rfl, hr, hs⟩
  obtain ⟨c0, c1, f0, f1⟩ := two_cells hr
  dsimp only at c0 c1
  have HR : Hid (RdAt 98 rb ⟨l1, x1⟩ w1 ∧ Sole rb w w1) := ⟨hr, hs⟩
  clear hr hs
  go_wp2_with fail
  refine (err32 rb _ _ HR.out.1).mono ?_
  rintro e w2 ⟨rfl, rfl⟩
  dsimp only
  by_cases hx : x1 = 0
  · subst hx
    have hbl := bs_size l1
    by_cases hA : most < 0
    · skip
      go_wp2_with (go_at_call 59; refine (fail36 rb _ 3 _ HR.out.1).mono ?_; rintro e w3 ⟨rfl, hr, hs⟩; have HR3 : Hid (RdAt 98 rb ⟨[], 3⟩ w3 ∧ Sole rb w w3) := ⟨hr, HR.out.2.trans hs⟩; clear hr hs)
      go_ret
      rw [HD.out, if_neg (by simp), if_pos (.inl hA)]
      exact ⟨rfl, HR3.out⟩
    · by_cases hB : most < n
      · skip
        go_wp2_with (go_at_call 59; refine (fail36 rb _ 3 _ HR.out.1).mono ?_; rintro e w3 ⟨rfl, hr, hs⟩; have HR3 : Hid (RdAt 98 rb ⟨[], 3⟩ w3 ∧ Sole rb w w3) := ⟨hr, HR.out.2.trans hs⟩; clear hr hs)
        go_ret
        rw [HD.out, if_neg (by simp), if_pos (.inr (.inl hB))]
        exact ⟨rfl, HR3.out⟩
      · by_cases hC : 0 < least
        · by_cases hD : (n : Int) < least
          · skip
            go_wp2_with (go_at_call 59; refine (fail36 rb _ 3 _ HR.out.1).mono ?_; rintro e w3 ⟨rfl, hr, hs⟩; have HR3 : Hid (RdAt 98 rb ⟨[], 3⟩ w3 ∧ Sole rb w w3) := ⟨hr, HR.out.2.trans hs⟩; clear hr hs)
            go_ret
            rw [HD.out, if_neg (by simp), if_pos (.inr (.inr ⟨hC, hD⟩))]
            exact ⟨rfl, HR3.out⟩
          · skip
            by_cases hG : l1.length < n
            · have hG' : (l1.length : Int) < n := by omega
              go_wp2_with (go_at_call 59; refine (fail36 rb _ 4 _ HR.out.1).mono ?_; rintro e w3 ⟨rfl, hr, hs⟩; have HR3 : Hid (RdAt 98 rb ⟨[], 4⟩ w3 ∧ Sole rb w w3) := ⟨hr, HR.out.2.trans hs⟩; clear hr hs)
              go_ret
              rw [HD.out, if_neg (by simp), if_neg (by omega), if_pos hG]
              exact ⟨rfl, HR3.out⟩
            · have hG' : ¬ (l1.length : Int) < n := by omega
              have hnl : n ≤ (bs l1).size := by omega
              go_wp2
              go_ret
              rw [HD.out, if_neg (by simp), if_neg (by omega), if_neg hG]
              have h2 := two_set0 (u := .string ((bs l1).extract n (bs l1).size)) HR.out.1
              rw [bs_drop] at h2
              have h3 := HR.out.2.setCell 0 (.string (bs (l1.drop n)))
              refine ⟨?_, ?_, ?_⟩
              · rw [← bs_take]; rfl
              · rw [bs_drop']; exact h2
              · rw [bs_drop']; exact h3
        · skip
          by_cases hG : l1.length < n
          · have hG' : (l1.length : Int) < n := by omega
            go_wp2_with (go_at_call 59; refine (fail36 rb _ 4 _ HR.out.1).mono ?_; rintro e w3 ⟨rfl, hr, hs⟩; have HR3 : Hid (RdAt 98 rb ⟨[], 4⟩ w3 ∧ Sole rb w w3) := ⟨hr, HR.out.2.trans hs⟩; clear hr hs)
            go_ret
            rw [HD.out, if_neg (by simp), if_neg (by omega), if_pos hG]
            exact ⟨rfl, HR3.out⟩
          · have hG' : ¬ (l1.length : Int) < n := by omega
            have hnl : n ≤ (bs l1).size := by omega
            go_wp2
            go_ret
            rw [HD.out, if_neg (by simp), if_neg (by omega), if_neg hG]
            have h2 := two_set0 (u := .string ((bs l1).extract n (bs l1).size)) HR.out.1
            rw [bs_drop] at h2
            have h3 := HR.out.2.setCell 0 (.string (bs (l1.drop n)))
            refine ⟨?_, ?_, ?_⟩
            · rw [← bs_take]; rfl
            · rw [bs_drop']; exact h2
            · rw [bs_drop']; exact h3
  · have hx' : ((x1 : Int) != 0) = true := by simp; omega
    go_wp2
    go_ret
    rw [HD.out, if_pos hx]
    exact ⟨rfl, HR.out⟩

set_option maxHeartbeats 800000 in
theorem stamp23_nil (w : World) : Calls Try.prog 64 #[.pointer none] w fun e w' => e = .returned (.agg #[.int .u64 0, .int .u32 0]) ∧ Below w.heap.size w w' := by
  go_enter Try.func64, Try.ntmps64
  go_wp2_with (first
    | (go_at_call 29; refine (num20_nil _ _).mono ?_; rintro e w1 ⟨rfl, rfl⟩)
    | (go_at_call 57; refine (err32_nil _).mono ?_; rintro e w1 ⟨rfl, rfl⟩))
  exact bodyPost_ret (v := .agg #[.int .u64 0, .int .u32 0]) (by simp [results, Try.results64, go_sem]) rfl ⟨rfl, (Below.refl _ _).alloc (Nat.le_refl _) _⟩

set_option maxHeartbeats 1600000 in
theorem stamp23 (rb : Nat) (st : St) (w : World) (h : RdAt 98 rb st w) (hl : st.l.length < 9223372036854775808) :
    Calls Try.prog 64 #[.pointer (some ⟨rb, 0, none⟩)] w fun e w' => e = .returned (.agg #[.int .u64 (rdStamp st).1.1, .int .u32 (rdStamp st).1.2]) ∧ RdAt 98 rb (rdStamp st).2 w' ∧ Sole rb w w' := by
  have hlt := lt_of_block h
  have H : Hid (RdAt 98 rb st w) := h
  clear h
  have hle := rdNum_le 281474976710656 st
  have hle2 := rdNum_le 4095 (rdNum 281474976710656 st).2
  have hdef : rdStamp st = if (rdNum 4095 (rdNum 281474976710656 st).2).2.e ≠ 0 then ((0, 0), (rdNum 4095 (rdNum 281474976710656 st).2).2) else
      (((rdNum 281474976710656 st).1, (rdNum 4095 (rdNum 281474976710656 st).2).1), (rdNum 4095 (rdNum 281474976710656 st).2).2) := rfl
  obtain ⟨⟨n, s1⟩, hf⟩ : ∃ f, f = rdNum 281474976710656 st := ⟨_, rfl⟩
  rw [← hf] at hdef hle hle2
  dsimp only at hdef hle hle2
  obtain ⟨⟨m, s2⟩, hg⟩ : ∃ f, f = rdNum 4095 s1 := ⟨_, rfl⟩
  rw [← hg] at hdef hle2
  dsimp only at hdef hle2
  have HF : Hid ((n, s1) = rdNum 281474976710656 st ∧ (m, s2) = rdNum 4095 s1) := ⟨hf, hg⟩
  clear hf hg
  obtain ⟨R, hR⟩ : ∃ R, R = rdStamp st := ⟨_, rfl⟩
  rw [← hR] at hdef ⊢
  have HD : Hid _ := hdef
  obtain ⟨hn1, hl1, hn2⟩ := hle
  obtain ⟨hm1, hl2, hm2⟩ := hle2
  clear hdef hR
  have hm' : (m : Int) ≤ 4095 := by omega
  go_enter Try.func64, Try.ntmps64
  go_wp2_with fail
  have hA := num20 rb st 281474976710656 (w.alloc (Obj.cells #[Value.int IntKind.u64 0, Value.int IntKind.u32 0] 27)) (H.out.alloc _) hl
  rw [← HF.out.1] at hA
  refine hA.mono ?_
  rintro e w1 ⟨rfl, hr, hs⟩
  clear hA
  have HR : Hid (RdAt 98 rb s1 w1 ∧ Sole rb (w.alloc (Obj.cells #[Value.int IntKind.u64 0, Value.int IntKind.u32 0] 27)) w1) := ⟨hr, hs⟩
  clear hr hs
  go_wp2_with fail
  have hB := num20 rb s1 4095 w1 HR.out.1 (by omega)
  rw [← HF.out.2] at hB
  refine hB.mono ?_
  rintro e w2 ⟨rfl, hr, hs⟩
  clear hB
  have hbl : w2.heap[w.heap.size]? = some (Obj.cells #[Value.int IntKind.u64 0, Value.int IntKind.u32 0] 27) := by
    have h3 := HR.out.2.trans hs
    rw [h3.block w.heap.size (by simp) (by omega)]
    exact heap_alloc_new w _
  obtain ⟨r0, r1, q0, q1⟩ := two_cells hbl
  have hbl2 := two_set0 (u := Value.int IntKind.u64 n) hbl
  obtain ⟨r2, r3, q2, q3⟩ := two_cells hbl2
  have hbl3 := two_set1 (u := Value.int IntKind.u32 m) hbl2
  obtain ⟨r4, r5, q4, q5⟩ := two_cells hbl3
  have HR2 : Hid (RdAt 98 rb s2 w2 ∧ Sole rb w w2) := ⟨hr, ((Sole.refl rb w).alloc _).trans (HR.out.2.trans hs)⟩
  have HBL : Hid (w2.heap[w.heap.size]? = some (Obj.cells #[Value.int IntKind.u64 0, Value.int IntKind.u32 0] 27)) := hbl
  clear hr hs hbl hbl2 hbl3
  go_wp2_with fail
  refine (err32 rb _ _ HR2.out.1).mono ?_
  rintro e w3 ⟨rfl, rfl⟩
  by_cases hx : s2.e = 0
  · have hx' : ((s2.e : Int) != 0) = false := by simp [hx]
    go_wp2
    refine bodyPost_ret (v := .agg #[.int .u64 n, .int .u32 m]) (by simp [results, Try.results64, go_sem, r4, r5]) rfl ?_
    rw [HD.out, if_neg (by simpa using hx)]
    exact ⟨rfl, (HR2.out.1.setOther (by omega) _ _).setOther (by omega) _ _, (HR2.out.2.setNew (Nat.le_refl _) _ _).setNew (Nat.le_refl _) _ _⟩
  · have hx' : ((s2.e : Int) != 0) = true := by simp; omega
    have hz3 := two_set1 (u := Value.int IntKind.u32 0) (two_set0 (u := Value.int IntKind.u64 0) HBL.out)
    obtain ⟨z4, z5, _, _⟩ := two_cells hz3
    clear hz3
    go_wp2
    refine bodyPost_ret (v := .agg #[.int .u64 0, .int .u32 0]) (by simp [results, Try.results64, go_sem, z4, z5]) rfl ?_
    rw [HD.out, if_pos hx]
    exact ⟨rfl, (HR2.out.1.setOther (by omega) _ _).setOther (by omega) _ _, (HR2.out.2.setNew (Nat.le_refl _) _ _).setNew (Nat.le_refl _) _ _⟩

end Go.Proofs.Ytmldgfepnmencaa
