/-
  Contracts of the methods of the document's Reader: the same plain functions.
-/
import Derived.Test.YtmldgfepnmencaaRef
import Derived.Test.YtmldgfepnmencaaRef
namespace Go.Proofs.Ytmldgfepnmencaa
open Go.RowKit

theorem RdAt.on {T rb : Nat} {st : St} {w w' : World} (h : RdAt T rb st w) (hb : Below w.heap.size w w') : RdAt T rb st w' := by
  unfold RdAt
  rw [hb.block rb (Array.getElem?_eq_some_iff.1 h).1]
  exact h
theorem Sole.of_below {rb : Nat} {w w' : World} (h : Below w.heap.size w w') : Sole rb w w' := ⟨h.os, h.tape, h.output, h.size, fun k hk _ => h.block k hk⟩

set_option maxHeartbeats 400000 in
theorem fail37 (rb : Nat) (st : St) (x : Nat) (w : World) (h : RdAt 80 rb st w) : Calls Try.prog 69 #[.pointer (some ⟨rb, 0, none⟩), .int .i64 x] w fun e w' => e = .returned (.tuple #[]) ∧ RdAt 80 rb ⟨[], x⟩ w' ∧ Sole rb w w' := by
  obtain ⟨c0, c1, f0, f1⟩ := two_cells h
  have h1 := two_set0 (u := .string ⟨#[]⟩) h
  obtain ⟨d0, d1, g0, g1⟩ := two_cells h1
  have H : Hid (RdAt 80 rb st w) := h
  clear h h1
  go_enter Try.func69, Try.ntmps69
  go_wp2
  go_end0
  exact ⟨rfl, two_set1 (two_set0 H.out), ((Sole.refl rb w).setCell _ _).setCell _ _⟩

set_option maxHeartbeats 400000 in
theorem end33 (rb : Nat) (st : St) (w : World) (h : RdAt 80 rb st w) : Calls Try.prog 40 #[.pointer (some ⟨rb, 0, none⟩)] w fun e w' => e = .returned (.int .i64 (rdEnd st)) ∧ w = w' := by
  obtain ⟨l, e⟩ := st
  obtain ⟨c0, c1, f0, f1⟩ := two_cells h
  clear h
  dsimp only at c0 c1
  by_cases he : e = 0
  · subst he
    cases l with
    | nil =>
      have hb := bs_nil_empty
      go_enter Try.func40, Try.ntmps40
      go_wp2
      go_ret
      exact ⟨rfl, rfl⟩
    | cons b r =>
      have hb : (bs (b :: r)).toList.isEmpty = false := by rw [bs_empty]; rfl
      go_enter Try.func40, Try.ntmps40
      go_wp2
      go_ret
      exact ⟨rfl, rfl⟩
  · have he' : ((e : Int) != 0) = true := by simp; omega
    go_enter Try.func40, Try.ntmps40
    go_wp2
    go_ret
    exact ⟨by simp [rdEnd, he], rfl⟩

set_option maxHeartbeats 1600000 in
theorem num26 (rb : Nat) (st : St) (most : Nat) (w : World) (h : RdAt 80 rb st w) (hl : st.l.length < 9223372036854775807) :
    Calls Try.prog 36 #[.pointer (some ⟨rb, 0, none⟩), .int .u64 most] w fun e w' => e = .returned (.int .u64 (rdNum most st).1) ∧ RdAt 80 rb (rdNum most st).2 w' ∧ Sole rb w w' := by
  obtain ⟨l, e⟩ := st
  obtain ⟨c0, c1, f0, f1⟩ := two_cells h
  have H : Hid (RdAt 80 rb ⟨l, e⟩ w) := h
  clear h
  dsimp only at c0 c1 hl
  by_cases he : e = 0
  · subst he
    cases l with
    | nil =>
      have hb := bs_nil_empty
      go_enter Try.func36, Try.ntmps36
      go_wp2_with (go_at_call 69; refine (fail37 rb _ 4 _ H.out).mono ?_; rintro e w1 ⟨rfl, hr, hs⟩; have HR : Hid (RdAt 80 rb ⟨[], 4⟩ w1 ∧ Sole rb w w1) := ⟨hr, hs⟩; clear hr hs)
      go_ret
      exact ⟨rfl, HR.out⟩
    | cons b r =>
      have hb : (bs (b :: r)).toList.isEmpty = false := by rw [bs_empty]; rfl
      have hsz : (bs (b :: r)).size = r.length + 1 := by rw [bs_size]; rfl
      have hsz0 : 0 < (bs (b :: r)).size := by omega
      have hget : (bs (b :: r))[0]'hsz0 = b := rfl
      have hb256 := u8_lt b
      have hl2 : r.length + 1 < 9223372036854775807 := hl
      by_cases h247 : b.toNat ≤ 247
      · have h247' : ¬ (247 : Int) < b.toNat := by omega
        have hfst : rdFirst (b :: r) = (b.toNat, 1, 0) := by rw [rdFirst, if_pos h247]
        by_cases hm : most < b.toNat
        · have hm' : (most : Int) < b.toNat := by omega
          have hr : rdNum most ⟨b :: r, 0⟩ = (0, ⟨[], 3⟩) := by simp [rdNum, hfst, hm]
          have HRD : Hid (rdNum most ⟨b :: r, 0⟩ = (0, ⟨[], 3⟩)) := hr
          clear hr hfst
          go_enter Try.func36, Try.ntmps36
          go_wp2_with (go_at_call 69; refine (fail37 rb _ 3 _ H.out).mono ?_; rintro e w1 ⟨rfl, hr, hs⟩; have HR : Hid (RdAt 80 rb ⟨[], 3⟩ w1 ∧ Sole rb w w1) := ⟨hr, hs⟩; clear hr hs)
          go_ret
          rw [HRD.out]
          exact ⟨rfl, HR.out⟩
        · have hm' : ¬ (most : Int) < b.toNat := by omega
          have hr : rdNum most ⟨b :: r, 0⟩ = (b.toNat, ⟨r, 0⟩) := by simp [rdNum, hfst, hm]
          have HRD : Hid (rdNum most ⟨b :: r, 0⟩ = (b.toNat, ⟨r, 0⟩)) := hr
          have hdr := bs_drop (b :: r) 1
          rw [hsz] at hdr
          clear hr hfst
          go_enter Try.func36, Try.ntmps36
          go_wp2
          go_ret
          rw [HRD.out]
          exact ⟨rfl, two_set0 H.out, (Sole.refl rb w).setCell _ _⟩
      · have h247' : (247 : Int) < b.toNat := by omega
        obtain ⟨k, hk⟩ : ∃ k, k = b.toNat - 247 := ⟨_, rfl⟩
        have hbk : (b.toNat : Int) - 247 = k := by omega
        by_cases hc : r.length < k
        · have hfst : rdFirst (b :: r) = (0, 0, 4) := by rw [rdFirst, if_neg h247, ← hk, if_pos hc]
          have hr : rdNum most ⟨b :: r, 0⟩ = (0, ⟨[], 4⟩) := by simp [rdNum, hfst]
          have HRD : Hid (rdNum most ⟨b :: r, 0⟩ = (0, ⟨[], 4⟩)) := hr
          have hc' : (r.length : Int) + 1 < 1 + (k : Int) := by omega
          clear hr hfst hk
          go_enter Try.func36, Try.ntmps36
          go_wp2_with (go_at_call 69; refine (fail37 rb _ 4 _ H.out).mono ?_; rintro e w1 ⟨rfl, hr, hs⟩; have HR : Hid (RdAt 80 rb ⟨[], 4⟩ w1 ∧ Sole rb w w1) := ⟨hr, hs⟩; clear hr hs)
          go_ret
          rw [HRD.out]
          exact ⟨rfl, HR.out⟩
        · have hc' : ¬ (r.length : Int) + 1 < 1 + (k : Int) := by omega
          obtain ⟨M, hM⟩ : ∃ M, M = vl (r.take k) := ⟨_, rfl⟩
          have hfst : rdFirst (b :: r) = if 1 + k = sz M then (M, 1 + k, 0) else (0, 0, 2) := by rw [rdFirst, if_neg h247, ← hk, if_neg hc, ← hM]
          have hvs : ∀ j, j ≤ 8 → vl (r.take (j - 1)) < 72057594037927936 := fun j hj => by
            have := vl_small (bs (b :: r)) j hj
            rw [bs_data] at this
            exact this
          have hM64 : M < 18446744073709551616 := by
            have := vl_lt (r.take k)
            have h4 : (r.take k).length ≤ 8 := by rw [List.length_take]; omega
            have h5 : 256 ^ (r.take k).length ≤ 256 ^ 8 := Nat.pow_le_pow_right (by decide) h4
            rw [hM]; omega
          have hk8 : k ≤ 8 := by omega
          have HF : Hid ((rdFirst (b :: r) = if 1 + k = sz M then (M, 1 + k, 0) else (0, 0, 2)) ∧ M = vl (r.take k)) := ⟨hfst, hM⟩
          have HVS : Hid (∀ j, 1 = 1 → j ≤ 8 → vl (r.take (j - 1)) < 72057594037927936) := fun j _ => hvs j
          clear hfst hM hvs hk
          go_enter Try.func36, Try.ntmps36
          go_wp2_with fail
          go_loopw [5, 8] (fun n i wr => ∃ j : Nat, 1 ≤ j ∧ j ≤ k + 1 ∧ i = .int .i64 j ∧ n = .int .u64 (vl (r.take (j - 1))) ∧ wr = w) (fun _ i _ => 100 - (intOf i).toNat)
          case atStart => exact ⟨1, Nat.le_refl _, by omega, rfl, rfl, rfl⟩
          case round =>
            obtain ⟨j, hj1, hj2, rfl, rfl, rfl⟩ := hrel
            by_cases hjk : j ≤ k
            · have hjk' : (j : Int) ≤ k := by omega
              have hjl : j < (bs (b :: r)).size := by omega
              obtain ⟨c, hcc⟩ : ∃ c : UInt8, c = (bs (b :: r))[j]'hjl := ⟨_, rfl⟩
              have hmore := vl_more (bs (b :: r)) j hj1 hjl
              rw [bs_data, ← hcc] at hmore
              obtain ⟨N, hN⟩ : ∃ N, N = vl (r.take (j - 1)) := ⟨_, rfl⟩
              have hN56 := HVS.out j (by trivial) (by omega)
              have hidx := hcc.symm
              have hc256 := u8_lt c
              rw [← hN] at hN56 ⊢
              have HN : Hid (vl (r.take j) = N * 256 + c.toNat) := by rw [hN]; exact hmore
              clear hN hmore hcc
              go_wp2
              go_roundw
              case rel => exact ⟨j + 1, by omega, by omega, by go_num, by rw [Nat.add_sub_cancel, HN.out]; go_num, by trivial⟩
              case measure => simp [intOf]; omega
            · obtain rfl : j = k + 1 := by omega
              rw [Nat.add_sub_cancel, ← HF.out.2]
              have hjk' : ¬ ((k + 1 : Nat) : Int) ≤ k := by omega
              have hszM : (bs (numForm M)).size = sz M := by rw [bs_size, numForm_length]
              go_wp2_with fail
              refine (refNum11 M _ hM64).mono ?_
              rintro e w1 ⟨rfl, hbel⟩
              have hr1 : RdAt 80 rb ⟨b :: r, 0⟩ w1 := H.out.on hbel
              obtain ⟨d0, d1, g0, g1⟩ := two_cells hr1
              dsimp only at d0 d1
              have HR1 : Hid (RdAt 80 rb ⟨b :: r, 0⟩ w1 ∧ Sole rb wr w1) := ⟨hr1, Sole.of_below hbel⟩
              clear hr1 hbel
              by_cases hz : 1 + k = sz M
              · have hz' : ((sz M : Int) != 1 + (k : Int)) = false := by simp; omega
                by_cases hm : most < M
                · have hm' : (most : Int) < M := by omega
                  have hr : rdNum most ⟨b :: r, 0⟩ = (0, ⟨[], 3⟩) := by simp [rdNum, HF.out.1, hz, hm]
                  have HRD : Hid (rdNum most ⟨b :: r, 0⟩ = (0, ⟨[], 3⟩)) := hr
                  clear hr
                  go_wp2_with (go_at_call 69; refine (fail37 rb _ 3 _ HR1.out.1).mono ?_; rintro e w2 ⟨rfl, hr, hs⟩; have HR : Hid (RdAt 80 rb ⟨[], 3⟩ w2 ∧ Sole rb wr w2) := ⟨hr, HR1.out.2.trans hs⟩; clear hr hs)
                  go_ret
                  rw [HRD.out]
                  exact ⟨rfl, HR.out⟩
                · have hm' : ¬ (most : Int) < M := by omega
                  have hr : rdNum most ⟨b :: r, 0⟩ = (M, ⟨(b :: r).drop (1 + k), 0⟩) := by simp [rdNum, HF.out.1, hz, hm]
                  have HRD : Hid (rdNum most ⟨b :: r, 0⟩ = (M, ⟨(b :: r).drop (1 + k), 0⟩)) := hr
                  clear hr
                  have hdr := bs_drop (b :: r) (1 + k)
                  rw [hsz] at hdr
                  have hkl : 1 + k ≤ (bs (b :: r)).size := by omega
                  clear hz
                  go_wp2
                  go_ret
                  rw [HRD.out]
                  exact ⟨rfl, two_set0 HR1.out.1, HR1.out.2.setCell _ _⟩
              · have hz' : ((sz M : Int) != 1 + (k : Int)) = true := by simp; omega
                have hr : rdNum most ⟨b :: r, 0⟩ = (0, ⟨[], 2⟩) := by simp [rdNum, HF.out.1, hz]
                have HRD : Hid (rdNum most ⟨b :: r, 0⟩ = (0, ⟨[], 2⟩)) := hr
                clear hr
                go_wp2_with (go_at_call 69; refine (fail37 rb _ 2 _ HR1.out.1).mono ?_; rintro e w2 ⟨rfl, hr, hs⟩; have HR : Hid (RdAt 80 rb ⟨[], 2⟩ w2 ∧ Sole rb wr w2) := ⟨hr, HR1.out.2.trans hs⟩; clear hr hs)
                go_ret
                rw [HRD.out]
                exact ⟨rfl, HR.out⟩
  · have he' : ((e : Int) != 0) = true := by simp; omega
    go_enter Try.func36, Try.ntmps36
    go_wp2
    go_ret
    have hr : rdNum most ⟨l, e⟩ = (0, ⟨l, e⟩) := num_bad _ he
    rw [hr]
    exact ⟨rfl, H.out, Sole.refl _ _⟩

set_option maxHeartbeats 800000 in
theorem flag28 (rb : Nat) (st : St) (w : World) (h : RdAt 80 rb st w) :
    Calls Try.prog 37 #[.pointer (some ⟨rb, 0, none⟩)] w fun e w' => e = .returned (.bool (rdFlag st).1) ∧ RdAt 80 rb (rdFlag st).2 w' ∧ Sole rb w w' := by
  obtain ⟨l, e⟩ := st
  obtain ⟨c0, c1, f0, f1⟩ := two_cells h
  have H : Hid (RdAt 80 rb ⟨l, e⟩ w) := h
  clear h
  dsimp only at c0 c1
  by_cases he : e = 0
  · subst he
    cases l with
    | nil =>
      have hb := bs_nil_empty
      go_enter Try.func37, Try.ntmps37
      go_wp2_with (go_at_call 69; refine (fail37 rb _ 4 _ H.out).mono ?_; rintro e w1 ⟨rfl, hr, hs⟩; have HR : Hid (RdAt 80 rb ⟨[], 4⟩ w1 ∧ Sole rb w w1) := ⟨hr, hs⟩; clear hr hs)
      go_ret
      exact ⟨rfl, HR.out⟩
    | cons b r =>
      have hb : (bs (b :: r)).toList.isEmpty = false := by rw [bs_empty]; rfl
      have hsz : 0 < (bs (b :: r)).size := by rw [bs_size]; simp
      have hget : (bs (b :: r))[0]'hsz = b := rfl
      have hdr := bs_drop (b :: r) 1
      have hb256 := u8_lt b
      by_cases hb1 : 1 < b.toNat
      · have hb1' : (1 : Int) < b.toNat := by omega
        go_enter Try.func37, Try.ntmps37
        go_wp2_with (go_at_call 69; refine (fail37 rb _ 2 _ H.out).mono ?_; rintro e w1 ⟨rfl, hr, hs⟩; have HR : Hid (RdAt 80 rb ⟨[], 2⟩ w1 ∧ Sole rb w w1) := ⟨hr, hs⟩; clear hr hs)
        go_ret
        have hr : rdFlag ⟨b :: r, 0⟩ = (false, ⟨[], 2⟩) := by simp [rdFlag, hb1]
        rw [hr]
        exact ⟨rfl, HR.out⟩
      · have hb1' : ¬ (1 : Int) < b.toNat := by omega
        go_enter Try.func37, Try.ntmps37
        go_wp2
        go_ret
        have hr : rdFlag ⟨b :: r, 0⟩ = (b.toNat == 1, ⟨r, 0⟩) := by simp [rdFlag, hb1]
        rw [hr]
        refine ⟨?_, ?_, (Sole.refl rb w).setCell _ _⟩
        · have e1 : ((b.toNat : Int) == 1) = (b.toNat == 1) := by rw [Bool.eq_iff_iff]; simp; omega
          show Ending.returned (.bool ((b.toNat : Int) == 1)) = _
          rw [e1]
        · exact two_set0 H.out
  · have he' : ((e : Int) != 0) = true := by simp; omega
    go_enter Try.func37, Try.ntmps37
    go_wp2
    go_ret
    have hr : rdFlag ⟨l, e⟩ = (false, ⟨l, e⟩) := by simp [rdFlag, he]
    rw [hr]
    exact ⟨rfl, H.out, Sole.refl _ _⟩

set_option maxHeartbeats 1600000 in
theorem text27 (rb : Nat) (st : St) (least most : Int) (w : World) (h : RdAt 80 rb st w) (hl : st.l.length < 9223372036854775807)
    (a0 : -9223372036854775808 ≤ least) (a1 : least ≤ 9223372036854775807) (b0 : -9223372036854775808 ≤ most) (b1 : most ≤ 9223372036854775807) :
    Calls Try.prog 70 #[.pointer (some ⟨rb, 0, none⟩), .int .i64 least, .int .i64 most] w fun e w' => e = .returned (.string (bs (rdText least most st).1)) ∧ RdAt 80 rb (rdText least most st).2 w' ∧ Sole rb w w' := by
  have H : Hid (RdAt 80 rb st w) := h
  clear h
  have hle := rdNum_le 18446744073709551615 st
  have hdef : rdText least most st = if (rdNum 18446744073709551615 st).2.e ≠ 0 then ([], (rdNum 18446744073709551615 st).2) else
      if most < 0 ∨ most < (rdNum 18446744073709551615 st).1 ∨ 0 < least ∧ ((rdNum 18446744073709551615 st).1 : Int) < least then ([], ⟨[], 3⟩) else
      if (rdNum 18446744073709551615 st).2.l.length < (rdNum 18446744073709551615 st).1 then ([], ⟨[], 4⟩) else
      ((rdNum 18446744073709551615 st).2.l.take (rdNum 18446744073709551615 st).1, ⟨(rdNum 18446744073709551615 st).2.l.drop (rdNum 18446744073709551615 st).1, 0⟩) := rfl
  have hnum := fun w h => num26 rb st 18446744073709551615 w h hl
  obtain ⟨⟨n, l1, x1⟩, hf⟩ : ∃ f, f = rdNum 18446744073709551615 st := ⟨_, rfl⟩
  rw [← hf] at hdef hle hnum
  clear hf
  dsimp only at hdef hle hnum
  have HN : Hid (∀ w, RdAt 80 rb st w → Calls Try.prog 36 #[.pointer (some ⟨rb, 0, none⟩), .int .u64 (18446744073709551615 : Nat)] w fun e w' => e = .returned (.int .u64 n) ∧ RdAt 80 rb ⟨l1, x1⟩ w' ∧ Sole rb w w') := hnum
  obtain ⟨R, hR⟩ : ∃ R, R = rdText least most st := ⟨_, rfl⟩
  rw [← hR] at hdef ⊢
  have HD : Hid _ := hdef
  obtain ⟨hn1, hl1, hn2⟩ := hle
  clear hnum hdef hR
  go_enter Try.func70, Try.ntmps70
  go_wp2_with fail
  refine (HN.out _ H.out).mono ?_
  rintro e w1 ⟨rfl, hr, hs⟩
  obtain ⟨c0, c1, f0, f1⟩ := two_cells hr
  dsimp only at c0 c1
  have HR : Hid (RdAt 80 rb ⟨l1, x1⟩ w1 ∧ Sole rb w w1) := ⟨hr, hs⟩
  clear hr hs
  by_cases hx : x1 = 0
  · subst hx
    have hbl := bs_size l1
    by_cases hA : most < 0
    · skip
      go_wp2_with (go_at_call 69; refine (fail37 rb _ 3 _ HR.out.1).mono ?_; rintro e w3 ⟨rfl, hr, hs⟩; have HR3 : Hid (RdAt 80 rb ⟨[], 3⟩ w3 ∧ Sole rb w w3) := ⟨hr, HR.out.2.trans hs⟩; clear hr hs)
      go_ret
      rw [HD.out, if_neg (by simp), if_pos (.inl hA)]
      exact ⟨rfl, HR3.out⟩
    · by_cases hB : most < n
      · skip
        go_wp2_with (go_at_call 69; refine (fail37 rb _ 3 _ HR.out.1).mono ?_; rintro e w3 ⟨rfl, hr, hs⟩; have HR3 : Hid (RdAt 80 rb ⟨[], 3⟩ w3 ∧ Sole rb w w3) := ⟨hr, HR.out.2.trans hs⟩; clear hr hs)
        go_ret
        rw [HD.out, if_neg (by simp), if_pos (.inr (.inl hB))]
        exact ⟨rfl, HR3.out⟩
      · by_cases hC : 0 < least
        · by_cases hD : (n : Int) < least
          · skip
            go_wp2_with (go_at_call 69; refine (fail37 rb _ 3 _ HR.out.1).mono ?_; rintro e w3 ⟨rfl, hr, hs⟩; have HR3 : Hid (RdAt 80 rb ⟨[], 3⟩ w3 ∧ Sole rb w w3) := ⟨hr, HR.out.2.trans hs⟩; clear hr hs)
            go_ret
            rw [HD.out, if_neg (by simp), if_pos (.inr (.inr ⟨hC, hD⟩))]
            exact ⟨rfl, HR3.out⟩
          · skip
            by_cases hG : l1.length < n
            · have hG' : (l1.length : Int) < n := by omega
              go_wp2_with (go_at_call 69; refine (fail37 rb _ 4 _ HR.out.1).mono ?_; rintro e w3 ⟨rfl, hr, hs⟩; have HR3 : Hid (RdAt 80 rb ⟨[], 4⟩ w3 ∧ Sole rb w w3) := ⟨hr, HR.out.2.trans hs⟩; clear hr hs)
              go_ret
              rw [HD.out, if_neg (by simp), if_neg (by omega), if_pos hG]
              exact ⟨rfl, HR3.out⟩
            · have hG' : ¬ (l1.length : Int) < n := by omega
              have hnl : n ≤ (bs l1).size := by omega
              go_wp2
              go_ret
              rw [HD.out, if_neg (by simp), if_neg (by omega), if_neg hG]
              have h2 := two_set0 (u := .string ((bs l1).extract n (bs l1).size)) HR.out.1
              rw [bs_drop] at h2
              have h3 := HR.out.2.setCell 0 (.string (bs (l1.drop n)))
              refine ⟨?_, ?_, ?_⟩
              · rw [← bs_take]; rfl
              · rw [bs_drop']; exact h2
              · rw [bs_drop']; exact h3
        · skip
          by_cases hG : l1.length < n
          · have hG' : (l1.length : Int) < n := by omega
            go_wp2_with (go_at_call 69; refine (fail37 rb _ 4 _ HR.out.1).mono ?_; rintro e w3 ⟨rfl, hr, hs⟩; have HR3 : Hid (RdAt 80 rb ⟨[], 4⟩ w3 ∧ Sole rb w w3) := ⟨hr, HR.out.2.trans hs⟩; clear hr hs)
            go_ret
            rw [HD.out, if_neg (by simp), if_neg (by omega), if_pos hG]
            exact ⟨rfl, HR3.out⟩
          · have hG' : ¬ (l1.length : Int) < n := by omega
            have hnl : n ≤ (bs l1).size := by omega
            go_wp2
            go_ret
            rw [HD.out, if_neg (by simp), if_neg (by omega), if_neg hG]
            have h2 := two_set0 (u := .string ((bs l1).extract n (bs l1).size)) HR.out.1
            rw [bs_drop] at h2
            have h3 := HR.out.2.setCell 0 (.string (bs (l1.drop n)))
            refine ⟨?_, ?_, ?_⟩
            · rw [← bs_take]; rfl
            · rw [bs_drop']; exact h2
            · rw [bs_drop']; exact h3
  · have hx' : ((x1 : Int) != 0) = true := by simp; omega
    go_wp2
    go_ret
    rw [HD.out, if_pos hx]
    exact ⟨rfl, HR.out⟩

set_option maxHeartbeats 1600000 in
theorem stamp29 (rb : Nat) (st : St) (w : World) (h : RdAt 80 rb st w) (hl : st.l.length < 9223372036854775807) :
    Calls Try.prog 73 #[.pointer (some ⟨rb, 0, none⟩)] w fun e w' => e = .returned (.agg #[.int .u64 (rdStamp st).1.1, .int .u32 (rdStamp st).1.2]) ∧ RdAt 80 rb (rdStamp st).2 w' ∧ Sole rb w w' := by
  have hlt := lt_of_block h
  have H : Hid (RdAt 80 rb st w) := h
  clear h
  have hle := rdNum_le 281474976710656 st
  have hle2 := rdNum_le 4095 (rdNum 281474976710656 st).2
  have hdef : rdStamp st = if (rdNum 4095 (rdNum 281474976710656 st).2).2.e ≠ 0 then ((0, 0), (rdNum 4095 (rdNum 281474976710656 st).2).2) else
      (((rdNum 281474976710656 st).1, (rdNum 4095 (rdNum 281474976710656 st).2).1), (rdNum 4095 (rdNum 281474976710656 st).2).2) := rfl
  obtain ⟨⟨n, s1⟩, hf⟩ : ∃ f, f = rdNum 281474976710656 st := ⟨_, rfl⟩
  rw [← hf] at hdef hle hle2
  dsimp only at hdef hle hle2
  obtain ⟨⟨m, s2⟩, hg⟩ : ∃ f, f = rdNum 4095 s1 := ⟨_, rfl⟩
  rw [← hg] at hdef hle2
  dsimp only at hdef hle2
  have HF : Hid ((n, s1) = rdNum 281474976710656 st ∧ (m, s2) = rdNum 4095 s1) := ⟨hf, hg⟩
  clear hf hg
  obtain ⟨R, hR⟩ : ∃ R, R = rdStamp st := ⟨_, rfl⟩
  rw [← hR] at hdef ⊢
  have HD : Hid _ := hdef
  obtain ⟨hn1, hl1, hn2⟩ := hle
  obtain ⟨hm1, hl2, hm2⟩ := hle2
  clear hdef hR
  have hm' : (m : Int) ≤ 4095 := by omega
  go_enter Try.func73, Try.ntmps73
  go_wp2_with fail
  have hA := num26 rb st 281474976710656 (w.alloc (Obj.cells #[Value.int IntKind.u64 0, Value.int IntKind.u32 0] 27)) (H.out.alloc _) hl
  rw [← HF.out.1] at hA
  refine hA.mono ?_
  rintro e w1 ⟨rfl, hr, hs⟩
  clear hA
  have HR : Hid (RdAt 80 rb s1 w1 ∧ Sole rb (w.alloc (Obj.cells #[Value.int IntKind.u64 0, Value.int IntKind.u32 0] 27)) w1) := ⟨hr, hs⟩
  clear hr hs
  go_wp2_with fail
  have hB := num26 rb s1 4095 w1 HR.out.1 (by omega)
  rw [← HF.out.2] at hB
  refine hB.mono ?_
  rintro e w2 ⟨rfl, hr, hs⟩
  clear hB
  have hbl : w2.heap[w.heap.size]? = some (Obj.cells #[Value.int IntKind.u64 0, Value.int IntKind.u32 0] 27) := by
    have h3 := HR.out.2.trans hs
    rw [h3.block w.heap.size (by simp) (by omega)]
    exact heap_alloc_new w _
  obtain ⟨r0, r1, q0, q1⟩ := two_cells hbl
  have hbl2 := two_set0 (u := Value.int IntKind.u64 n) hbl
  obtain ⟨r2, r3, q2, q3⟩ := two_cells hbl2
  have hbl3 := two_set1 (u := Value.int IntKind.u32 m) hbl2
  obtain ⟨r4, r5, q4, q5⟩ := two_cells hbl3
  have HR2 : Hid (RdAt 80 rb s2 w2 ∧ Sole rb w w2) := ⟨hr, ((Sole.refl rb w).alloc _).trans (HR.out.2.trans hs)⟩
  have HBL : Hid (w2.heap[w.heap.size]? = some (Obj.cells #[Value.int IntKind.u64 0, Value.int IntKind.u32 0] 27)) := hbl
  clear hr hs hbl hbl2 hbl3
  obtain ⟨m0, m1, n0, n1⟩ := two_cells HR2.out.1
  by_cases hx : s2.e = 0
  · have hx' : ((s2.e : Int) != 0) = false := by simp [hx]
    go_wp2
    refine bodyPost_ret (v := .agg #[.int .u64 n, .int .u32 m]) (by simp [results, Try.results73, go_sem, r4, r5]) rfl ?_
    rw [HD.out, if_neg (by simpa using hx)]
    exact ⟨rfl, (HR2.out.1.setOther (by omega) _ _).setOther (by omega) _ _, (HR2.out.2.setNew (Nat.le_refl _) _ _).setNew (Nat.le_refl _) _ _⟩
  · have hx' : ((s2.e : Int) != 0) = true := by simp; omega
    have hz3 := two_set1 (u := Value.int IntKind.u32 0) (two_set0 (u := Value.int IntKind.u64 0) HBL.out)
    obtain ⟨z4, z5, _, _⟩ := two_cells hz3
    clear hz3
    go_wp2
    refine bodyPost_ret (v := .agg #[.int .u64 0, .int .u32 0]) (by simp [results, Try.results73, go_sem, z4, z5]) rfl ?_
    rw [HD.out, if_pos hx]
    exact ⟨rfl, (HR2.out.1.setOther (by omega) _ _).setOther (by omega) _ _, (HR2.out.2.setNew (Nat.le_refl _) _ _).setNew (Nat.le_refl _) _ _⟩

set_option maxHeartbeats 400000 in
theorem count31 (rb : Nat) (st : St) (most : Int) (w : World) (h : RdAt 80 rb st w) (hl : st.l.length < 9223372036854775807) (h0 : -9223372036854775808 ≤ most) (h1 : most ≤ 9223372036854775807) :
    Calls Try.prog 71 #[.pointer (some ⟨rb, 0, none⟩), .int .i64 most] w fun e w' => e = .returned (.int .i64 (rdNum most.toNat st).1) ∧ RdAt 80 rb (rdNum most.toNat st).2 w' ∧ Sole rb w w' := by
  have H : Hid (RdAt 80 rb st w) := h
  clear h
  have hle := (rdNum_le most.toNat st).1
  obtain ⟨n, hn⟩ : ∃ n, n = (rdNum most.toNat st).1 := ⟨_, rfl⟩
  have hA := num26 rb st most.toNat w H.out hl
  rw [← hn] at hle hA ⊢
  obtain ⟨s1, hs1⟩ : ∃ s1, s1 = (rdNum most.toNat st).2 := ⟨_, rfl⟩
  rw [← hs1] at hA ⊢
  clear hn hs1
  have hn' : (n : Int) ≤ 9223372036854775807 := by omega
  by_cases hneg : most < 0
  · rw [show most.toNat = 0 by omega] at hA
    go_enter Try.func71, Try.ntmps71
    go_wp2_with (go_at_call 36; refine hA.mono ?_; rintro e w1 ⟨rfl, hr, hs⟩; have HR : Hid (RdAt 80 rb s1 w1 ∧ Sole rb w w1) := ⟨hr, hs⟩; clear hr hs)
    go_ret
    exact ⟨rfl, HR.out⟩
  · obtain ⟨m, rfl⟩ := Int.eq_ofNat_of_zero_le (show 0 ≤ most by omega)
    rw [show ((m : Int)).toNat = m by omega] at hA
    have hm' : ¬ (m : Int) < 0 := by omega
    go_enter Try.func71, Try.ntmps71
    go_wp2_with (go_at_call 36; refine hA.mono ?_; rintro e w1 ⟨rfl, hr, hs⟩; have HR : Hid (RdAt 80 rb s1 w1 ∧ Sole rb w w1) := ⟨hr, hs⟩; clear hr hs)
    go_ret
    exact ⟨rfl, HR.out⟩

end Go.Proofs.Ytmldgfepnmencaa
