/-
  The walk of FrameTurned: of any payload, place and byte it answers true, and turns no memory that was there.
-/
import Derived.Test.YtncjcipbkeljdaaBytes
namespace Go.Proofs.Ytncjcipbkeljdaa
open Go.RowKit Go.Sort

theorem next_err {l : List UInt8} (h : (rdNext l).2.2 ≠ 0) : (rdNext l).2.1 = 0 := by
  unfold rdNext at h ⊢
  repeat' (split; · rfl)
  rename_i h0 h1 h2 h3 h4
  rw [if_neg h0, if_neg h1, if_neg h2, if_neg h3, if_neg h4] at h
  exact absurd rfl h

set_option maxHeartbeats 1000000 in
theorem turned6 (p : List UInt8) (at_ : Int) (b : Nat) (w : World) (hp : p.length ≤ 140737488355328) (a0 : -9223372036854775808 ≤ at_) (a1 : at_ ≤ 9223372036854775807) (hb : b < 256) :
    Calls Try.prog 6 #[.string (bs p), .int .i64 at_, .int .u8 b] w fun e w' => e = .returned (.bool true) ∧ Below w.heap.size w w' := by
  have hs := bs_size p
  by_cases g1 : (3000 : Int) < p.length
  · go_enter Try.func6, Try.ntmps6
    go_wp2_with (go_at_call 9; refine (awake9 _).mono ?_; rintro e w1 ⟨rfl, hb⟩; have HB : Hid (Below w.heap.size w w1) := hb; clear hb)
    go_ret
    exact ⟨rfl, HB.out⟩
  · have hp16 : p.length ≤ 16384 := by omega
    have hc := fun w => wrap17 p w hp16
    have hfl : (bs (frameOf p)).size = (frameOf p).length := bs_size _
    have hln : (frameOf p).length < 4000 := by rw [frameOf_len]; have := sz_small (n := p.length) (by omega); omega
    have htu := fun i d hi hd => next_turned p i d hi hd
    have HC : Hid (∀ w, 1 = 1 → Calls Try.prog 17 #[.string (bs p)] w fun e w' => e = .returned (.tuple #[.string (bs (frameOf p)), .int .i64 0]) ∧ Below w.heap.size w w') := fun w _ => hc w
    have HT : Hid (∀ i d (hi : i < (frameOf p).length), d ≠ (frameOf p)[i] → (rdNext ((frameOf p).set i d)).2.2 = 0 → (rdNext ((frameOf p).set i d)).2.1 ≠ (frameOf p).length) := fun i d hi hd => htu i d hi hd
    clear hc htu
    generalize frameOf p = F at *
    by_cases g2 : at_ < 0
    · go_enter Try.func6, Try.ntmps6
      go_wp2_with (first
        | (go_at_call 9; refine (awake9 _).mono ?_; rintro e w1 ⟨rfl, hb⟩; have HB : Hid (Below w.heap.size w w1) := hb; clear hb)
        | (go_at_call 17; refine (HC.out _ (by trivial)).mono ?_; rintro e w2 ⟨rfl, hb⟩; have HB2 : Hid (Below w.heap.size w w2) := HB.out.trans (hb.mono HB.out.size); clear hb))
      go_ret
      exact ⟨rfl, HB2.out⟩
    · by_cases g3 : (F.length : Int) ≤ at_
      · go_enter Try.func6, Try.ntmps6
        go_wp2_with (first
          | (go_at_call 9; refine (awake9 _).mono ?_; rintro e w1 ⟨rfl, hb⟩; have HB : Hid (Below w.heap.size w w1) := hb; clear hb)
          | (go_at_call 17; refine (HC.out _ (by trivial)).mono ?_; rintro e w2 ⟨rfl, hb⟩; have HB2 : Hid (Below w.heap.size w w2) := HB.out.trans (hb.mono HB.out.size); clear hb))
        go_ret
        exact ⟨rfl, HB2.out⟩
      · by_cases g4 : b = 0
        · subst g4
          go_enter Try.func6, Try.ntmps6
          go_wp2_with (first
            | (go_at_call 9; refine (awake9 _).mono ?_; rintro e w1 ⟨rfl, hb⟩; have HB : Hid (Below w.heap.size w w1) := hb; clear hb)
            | (go_at_call 17; refine (HC.out _ (by trivial)).mono ?_; rintro e w2 ⟨rfl, hb⟩; have HB2 : Hid (Below w.heap.size w w2) := HB.out.trans (hb.mono HB.out.size); clear hb))
          go_ret
          exact ⟨rfl, HB2.out⟩
        · obtain ⟨i, rfl⟩ := Int.eq_ofNat_of_zero_le (show 0 ≤ at_ by omega)
          have hil : i < F.length := by omega
          have g4' : ((b : Int) == 0) = false := by simp; omega
          have g3' : ¬ F.length ≤ i := by omega
          obtain ⟨c, hcc⟩ : ∃ c : UInt8, c = F.getD i 0 := ⟨_, rfl⟩
          have hc256 := u8_lt c
          have hxor := u8_xor_nat c.toNat b hc256 hb
          obtain ⟨d, hd⟩ : ∃ d : UInt8, d = c ^^^ UInt8.ofNat b := ⟨_, rfl⟩
          have hdn : c.toNat ^^^ b = d.toNat := by rw [hd, UInt8.toNat_xor, u8_of b hb]
          rw [hdn] at hxor
          have hdc : d ≠ F[i] := by
            have : F[i] = c := by rw [hcc]; simp [List.getD, hil]
            rw [this, hd]
            refine xor_ne ?_
            intro e
            have := congrArg UInt8.toNat e
            rw [u8_of b hb] at this
            simp at this
            omega
          have hnx := HT.out i d hil hdc
          have HNX : Hid (1 = 1 → (rdNext (F.set i d)).2.2 = 0 → (rdNext (F.set i d)).2.1 ≠ F.length) := fun _ => hnx
          have HCC : Hid (c = F.getD i 0) := hcc
          have hn10 := fun w => next10 (F.set i d) w (by rw [List.length_set]; omega)
          have HN : Hid (∀ w, 1 = 1 → Calls Try.prog 10 #[.string (bs (F.set i d))] w fun e w' => e = .returned (nextVal (rdNext (F.set i d))) ∧ Below w.heap.size w w') := fun w _ => hn10 w
          clear hd hdn hdc hnx hcc hn10 HT g4
          go_enter Try.func6, Try.ntmps6
          go_wp2_with (first
            | (go_at_call 9; refine (awake9 _).mono ?_; rintro e w1 ⟨rfl, hb⟩; have HB : Hid (Below w.heap.size w w1) := hb; clear hb)
            | (go_at_call 17; refine (HC.out _ (by trivial)).mono ?_; rintro e w2 ⟨rfl, hb⟩; obtain ⟨cap, W, hconv, hby, hbel⟩ := bytes_of F w2; obtain ⟨g, hg⟩ : ∃ g, g = w2.heap.size := ⟨_, rfl⟩; rw [← hg] at hconv hby; have hb2 := HB.out.trans (hb.mono HB.out.size); have HB2 : Hid (ByAt g F W ∧ Below w.heap.size w W ∧ w.heap.size ≤ g) := ⟨hby, hb2.trans (hbel.mono hb2.size), by rw [hg]; exact hb2.size⟩; have hcell := hby.cell hil; have hfree := hby.free i hil; rw [← HCC.out] at hcell; have htx := (hby.set hil d _ rfl).text cap; rw [List.length_set] at htx; clear hb hby hbel hg hb2))
          refine (HN.out _ (by trivial)).mono ?_
          rintro e w3 ⟨rfl, hb3⟩
          have hb4 : Below w.heap.size w (W.setCell ⟨g, i, none⟩ (.int .u8 (d.toNat : Int))) := HB2.out.2.1.setCell HB2.out.2.2 _
          have H3 : Hid (Below w.heap.size w w3) := hb4.trans (hb3.mono hb4.size)
          have herr := next_err (l := F.set i d)
          have hnx := HNX.out (by trivial)
          clear hb3 hb4 htx hconv hcell hfree hxor
          generalize rdNext (F.set i d) = z at *
          obtain ⟨q, t, x⟩ := z
          dsimp only [nextVal] at *
          by_cases hx : x = 0
          · subst hx
            have htl : ((t : Int) != (F.length : Int)) = true := by have := hnx rfl; simp; omega
            have htl2 : ((t : Int) == (F.length : Int)) = false := by have := hnx rfl; simp; omega
            clear herr hnx
            go_wp2
            go_ret
            refine ⟨?_, H3.out⟩
            simp
          · have hx' : ((x : Int) != 0) = true := by simp; omega
            obtain rfl : t = 0 := herr hx
            clear herr hnx
            go_wp2
            go_ret
            refine ⟨?_, H3.out⟩
            simp

end Go.Proofs.Ytncjcipbkeljdaa
