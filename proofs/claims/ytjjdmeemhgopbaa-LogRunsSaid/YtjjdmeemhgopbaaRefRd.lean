/-
  Contracts of the methods of the document's Reader: the same plain functions.
-/
import Derived.Test.YtjjdmeemhgopbaaRef
import Derived.Test.YtjjdmeemhgopbaaAwake
namespace Go.Proofs.Ytjjdmeemhgopbaa
open Go.RowKit

theorem Sole.of_below {rb : Nat} {w w' : World} (h : Below w.heap.size w w') : Sole rb w w' := ⟨h.os, h.tape, h.output, h.size, fun k hk _ => h.block k hk⟩

set_option maxHeartbeats 400000 in
theorem fail37 (rb : Nat) (st : St) (x : Nat) (w : World) (h : RdAt 108 rb st w) : Calls Try.prog 76 #[.pointer (some ⟨rb, 0, none⟩), .int .i64 x] w fun e w' => e = .returned (.tuple #[]) ∧ RdAt 108 rb ⟨[], x⟩ w' ∧ Sole rb w w' := by
  obtain ⟨c0, c1, f0, f1⟩ := two_cells h
  have h1 := two_set0 (u := .string ⟨#[]⟩) h
  obtain ⟨d0, d1, g0, g1⟩ := two_cells h1
  have H : Hid (RdAt 108 rb st w) := h
  clear h h1
  go_enter Try.func76, Try.ntmps76
  go_wp2
  go_end0
  exact ⟨rfl, two_set1 (two_set0 H.out), ((Sole.refl rb w).setCell _ _).setCell _ _⟩

set_option maxHeartbeats 1600000 in
theorem num26 (rb : Nat) (st : St) (most : Nat) (w : World) (h : RdAt 108 rb st w) (hl : st.l.length < 9223372036854775807) :
    Calls Try.prog 55 #[.pointer (some ⟨rb, 0, none⟩), .int .u64 most] w fun e w' => e = .returned (.int .u64 (rdNum most st).1) ∧ RdAt 108 rb (rdNum most st).2 w' ∧ Sole rb w w' := by
  obtain ⟨l, e⟩ := st
  obtain ⟨c0, c1, f0, f1⟩ := two_cells h
  have H : Hid (RdAt 108 rb ⟨l, e⟩ w) := h
  clear h
  dsimp only at c0 c1 hl
  by_cases he : e = 0
  · subst he
    cases l with
    | nil =>
      have hb := bs_nil_empty
      go_enter Try.func55, Try.ntmps55
      go_wp2_with (go_at_call 76; refine (fail37 rb _ 4 _ H.out).mono ?_; rintro e w1 ⟨rfl, hr, hs⟩; have HR : Hid (RdAt 108 rb ⟨[], 4⟩ w1 ∧ Sole rb w w1) := ⟨hr, hs⟩; clear hr hs)
      go_ret
      exact ⟨rfl, HR.out⟩
    | cons b r =>
      have hb : (bs (b :: r)).toList.isEmpty = false := by rw [bs_empty]; rfl
      have hsz : (bs (b :: r)).size = r.length + 1 := by rw [bs_size]; rfl
      have hsz0 : 0 < (bs (b :: r)).size := by omega
      have hget : (bs (b :: r))[0]'hsz0 = b := rfl
      have hb256 := u8_lt b
      have hl2 : r.length + 1 < 9223372036854775807 := hl
      by_cases h247 : b.toNat ≤ 247
      · have h247' : ¬ (247 : Int) < b.toNat := by omega
        have hfst : rdFirst (b :: r) = (b.toNat, 1, 0) := by rw [rdFirst, if_pos h247]
        by_cases hm : most < b.toNat
        · have hm' : (most : Int) < b.toNat := by omega
          have hr : rdNum most ⟨b :: r, 0⟩ = (0, ⟨[], 3⟩) := by simp [rdNum, hfst, hm]
          have HRD : Hid (rdNum most ⟨b :: r, 0⟩ = (0, ⟨[], 3⟩)) := hr
          clear hr hfst
          go_enter Try.func55, Try.ntmps55
          go_wp2_with (go_at_call 76; refine (fail37 rb _ 3 _ H.out).mono ?_; rintro e w1 ⟨rfl, hr, hs⟩; have HR : Hid (RdAt 108 rb ⟨[], 3⟩ w1 ∧ Sole rb w w1) := ⟨hr, hs⟩; clear hr hs)
          go_ret
          rw [HRD.out]
          exact ⟨rfl, HR.out⟩
        · have hm' : ¬ (most : Int) < b.toNat := by omega
          have hr : rdNum most ⟨b :: r, 0⟩ = (b.toNat, ⟨r, 0⟩) := by simp [rdNum, hfst, hm]
          have HRD : Hid (rdNum most ⟨b :: r, 0⟩ = (b.toNat, ⟨r, 0⟩)) := hr
          have hdr := bs_drop (b :: r) 1
          rw [hsz] at hdr
          clear hr hfst
          go_enter Try.func55, Try.ntmps55
          go_wp2
          go_ret
          rw [HRD.out]
          exact ⟨rfl, two_set0 H.out, (Sole.refl rb w).setCell _ _⟩
      · have h247' : (247 : Int) < b.toNat := by omega
        obtain ⟨k, hk⟩ : ∃ k, k = b.toNat - 247 := ⟨_, rfl⟩
        have hbk : (b.toNat : Int) - 247 = k := by omega
        by_cases hc : r.length < k
        · have hfst : rdFirst (b :: r) = (0, 0, 4) := by rw [rdFirst, if_neg h247, ← hk, if_pos hc]
          have hr : rdNum most ⟨b :: r, 0⟩ = (0, ⟨[], 4⟩) := by simp [rdNum, hfst]
          have HRD : Hid (rdNum most ⟨b :: r, 0⟩ = (0, ⟨[], 4⟩)) := hr
          have hc' : (r.length : Int) + 1 < 1 + (k : Int) := by omega
          clear hr hfst hk
          go_enter Try.func55, Try.ntmps55
          go_wp2_with (go_at_call 76; refine (fail37 rb _ 4 _ H.out).mono ?_; rintro e w1 ⟨rfl, hr, hs⟩; have HR : Hid (RdAt 108 rb ⟨[], 4⟩ w1 ∧ Sole rb w w1) := ⟨hr, hs⟩; clear hr hs)
          go_ret
          rw [HRD.out]
          exact ⟨rfl, HR.out⟩
        · have hc' : ¬ (r.length : Int) + 1 < 1 + (k : Int) := by omega
          obtain ⟨M, hM⟩ : ∃ M, M = vl (r.take k) := ⟨_, rfl⟩
          have hfst : rdFirst (b :: r) = if 1 + k = sz M then (M, 1 + k, 0) else (0, 0, 2) := by rw [rdFirst, if_neg h247, ← hk, if_neg hc, ← hM]
          have hvs : ∀ j, j ≤ 8 → vl (r.take (j - 1)) < 72057594037927936 := fun j hj => by
            have := vl_small (bs (b :: r)) j hj
            rw [bs_data] at this
            exact this
          have hM64 : M < 18446744073709551616 := by
            have := vl_lt (r.take k)
            have h4 : (r.take k).length ≤ 8 := by rw [List.length_take]; omega
            have h5 : 256 ^ (r.take k).length ≤ 256 ^ 8 := Nat.pow_le_pow_right (by decide) h4
            rw [hM]; omega
          have hk8 : k ≤ 8 := by omega
          have HF : Hid ((rdFirst (b :: r) = if 1 + k = sz M then (M, 1 + k, 0) else (0, 0, 2)) ∧ M = vl (r.take k)) := ⟨hfst, hM⟩
          have HVS : Hid (∀ j, 1 = 1 → j ≤ 8 → vl (r.take (j - 1)) < 72057594037927936) := fun j _ => hvs j
          clear hfst hM hvs hk
          go_enter Try.func55, Try.ntmps55
          go_wp2_with fail
          go_loopw [5, 8] (fun n i wr => ∃ j : Nat, 1 ≤ j ∧ j ≤ k + 1 ∧ i = .int .i64 j ∧ n = .int .u64 (vl (r.take (j - 1))) ∧ wr = w) (fun _ i _ => 100 - (intOf i).toNat)
          case atStart => exact ⟨1, Nat.le_refl _, by omega, rfl, rfl, rfl⟩
          case round =>
            obtain ⟨j, hj1, hj2, rfl, rfl, rfl⟩ := hrel
            by_cases hjk : j ≤ k
            · have hjk' : (j : Int) ≤ k := by omega
              have hjl : j < (bs (b :: r)).size := by omega
              obtain ⟨c, hcc⟩ : ∃ c : UInt8, c = (bs (b :: r))[j]'hjl := ⟨_, rfl⟩
              have hmore := vl_more (bs (b :: r)) j hj1 hjl
              rw [bs_data, ← hcc] at hmore
              obtain ⟨N, hN⟩ : ∃ N, N = vl (r.take (j - 1)) := ⟨_, rfl⟩
              have hN56 := HVS.out j (by trivial) (by omega)
              have hidx := hcc.symm
              have hc256 := u8_lt c
              rw [← hN] at hN56 ⊢
              have HN : Hid (vl (r.take j) = N * 256 + c.toNat) := by rw [hN]; exact hmore
              clear hN hmore hcc
              go_wp2
              go_roundw
              case rel => exact ⟨j + 1, by omega, by omega, by go_num, by rw [Nat.add_sub_cancel, HN.out]; go_num, by trivial⟩
              case measure => simp [intOf]; omega
            · obtain rfl : j = k + 1 := by omega
              rw [Nat.add_sub_cancel, ← HF.out.2]
              have hjk' : ¬ ((k + 1 : Nat) : Int) ≤ k := by omega
              have hszM : (bs (numForm M)).size = sz M := by rw [bs_size, numForm_length]
              go_wp2_with fail
              refine (refNum11 M _ hM64).mono ?_
              rintro e w1 ⟨rfl, hbel⟩
              have hr1 : RdAt 108 rb ⟨b :: r, 0⟩ w1 := H.out.on hbel
              obtain ⟨d0, d1, g0, g1⟩ := two_cells hr1
              dsimp only at d0 d1
              have HR1 : Hid (RdAt 108 rb ⟨b :: r, 0⟩ w1 ∧ Sole rb wr w1) := ⟨hr1, Sole.of_below hbel⟩
              clear hr1 hbel
              by_cases hz : 1 + k = sz M
              · have hz' : ((sz M : Int) != 1 + (k : Int)) = false := by simp; omega
                by_cases hm : most < M
                · have hm' : (most : Int) < M := by omega
                  have hr : rdNum most ⟨b :: r, 0⟩ = (0, ⟨[], 3⟩) := by simp [rdNum, HF.out.1, hz, hm]
                  have HRD : Hid (rdNum most ⟨b :: r, 0⟩ = (0, ⟨[], 3⟩)) := hr
                  clear hr
                  go_wp2_with (go_at_call 76; refine (fail37 rb _ 3 _ HR1.out.1).mono ?_; rintro e w2 ⟨rfl, hr, hs⟩; have HR : Hid (RdAt 108 rb ⟨[], 3⟩ w2 ∧ Sole rb wr w2) := ⟨hr, HR1.out.2.trans hs⟩; clear hr hs)
                  go_ret
                  rw [HRD.out]
                  exact ⟨rfl, HR.out⟩
                · have hm' : ¬ (most : Int) < M := by omega
                  have hr : rdNum most ⟨b :: r, 0⟩ = (M, ⟨(b :: r).drop (1 + k), 0⟩) := by simp [rdNum, HF.out.1, hz, hm]
                  have HRD : Hid (rdNum most ⟨b :: r, 0⟩ = (M, ⟨(b :: r).drop (1 + k), 0⟩)) := hr
                  clear hr
                  have hdr := bs_drop (b :: r) (1 + k)
                  rw [hsz] at hdr
                  have hkl : 1 + k ≤ (bs (b :: r)).size := by omega
                  clear hz
                  go_wp2
                  go_ret
                  rw [HRD.out]
                  exact ⟨rfl, two_set0 HR1.out.1, HR1.out.2.setCell _ _⟩
              · have hz' : ((sz M : Int) != 1 + (k : Int)) = true := by simp; omega
                have hr : rdNum most ⟨b :: r, 0⟩ = (0, ⟨[], 2⟩) := by simp [rdNum, HF.out.1, hz]
                have HRD : Hid (rdNum most ⟨b :: r, 0⟩ = (0, ⟨[], 2⟩)) := hr
                clear hr
                go_wp2_with (go_at_call 76; refine (fail37 rb _ 2 _ HR1.out.1).mono ?_; rintro e w2 ⟨rfl, hr, hs⟩; have HR : Hid (RdAt 108 rb ⟨[], 2⟩ w2 ∧ Sole rb wr w2) := ⟨hr, HR1.out.2.trans hs⟩; clear hr hs)
                go_ret
                rw [HRD.out]
                exact ⟨rfl, HR.out⟩
  · have he' : ((e : Int) != 0) = true := by simp; omega
    go_enter Try.func55, Try.ntmps55
    go_wp2
    go_ret
    have hr : rdNum most ⟨l, e⟩ = (0, ⟨l, e⟩) := num_bad _ he
    rw [hr]
    exact ⟨rfl, H.out, Sole.refl _ _⟩

end Go.Proofs.Ytjjdmeemhgopbaa
