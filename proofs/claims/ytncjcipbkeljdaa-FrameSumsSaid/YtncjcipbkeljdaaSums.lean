/-
  The walk of FrameSums: of any text, place and bit it answers true, and turns no memory that was there.
-/
import Derived.Test.YtncjcipbkeljdaaBytes
namespace Go.Proofs.Ytncjcipbkeljdaa
open Go.RowKit Go.Sort

set_option maxHeartbeats 800000 in
theorem sums8 (l : List UInt8) (at_ bit : Int) (w : World) (hl : l.length ≤ 140737488355328) (a0 : -9223372036854775808 ≤ at_) (a1 : at_ ≤ 9223372036854775807) :
    Calls Try.prog 8 #[.string (bs l), .int .i64 at_, .int .i64 bit] w fun e w' => e = .returned (.bool true) ∧ Below w.heap.size w w' := by
  have hs := bs_size l
  have h0 : ∀ w, Calls Try.prog 12 #[.string ⟨#[]⟩] w fun e w' => e = .returned (.int .u32 0) ∧ w = w' := fun w => by
    have := sum12 ⟨#[]⟩ w (by decide)
    rw [show crc (⟨#[]⟩ : ByteArray).data.toList = 0 from crc_nil] at this
    exact this
  have H0 : Hid (∀ w, 1 = 1 → Calls Try.prog 12 #[.string ⟨#[]⟩] w fun e w' => e = .returned (.int .u32 0) ∧ w = w') := fun w _ => h0 w
  clear h0
  by_cases g1 : (2000 : Int) < l.length
  · go_enter Try.func8, Try.ntmps8
    go_wp2_with (first
      | (go_at_call 9; refine (awake9 _).mono ?_; rintro e w1 ⟨rfl, hb⟩; have HB : Hid (Below w.heap.size w w1) := hb; clear hb)
      | (go_at_call 12; refine (H0.out _ (by trivial)).mono ?_; rintro e w2 ⟨rfl, rfl⟩))
    go_ret
    exact ⟨rfl, HB.out⟩
  · by_cases g2 : at_ < 0
    · go_enter Try.func8, Try.ntmps8
      go_wp2_with (first
        | (go_at_call 9; refine (awake9 _).mono ?_; rintro e w1 ⟨rfl, hb⟩; have HB : Hid (Below w.heap.size w w1) := hb; clear hb)
        | (go_at_call 12; refine (H0.out _ (by trivial)).mono ?_; rintro e w2 ⟨rfl, rfl⟩))
      go_ret
      exact ⟨rfl, HB.out⟩
    · by_cases g3 : (l.length : Int) ≤ at_
      · go_enter Try.func8, Try.ntmps8
        go_wp2_with (first
          | (go_at_call 9; refine (awake9 _).mono ?_; rintro e w1 ⟨rfl, hb⟩; have HB : Hid (Below w.heap.size w w1) := hb; clear hb)
          | (go_at_call 12; refine (H0.out _ (by trivial)).mono ?_; rintro e w2 ⟨rfl, rfl⟩))
        go_ret
        exact ⟨rfl, HB.out⟩
      · obtain ⟨i, rfl⟩ := Int.eq_ofNat_of_zero_le (show 0 ≤ at_ by omega)
        have g3' : ¬ (l.length : Int) ≤ (i : Int) := g3
        have hil : i < l.length := by omega
        obtain ⟨K, hK8, hK⟩ : ∃ K : Nat, K < 8 ∧ (bit.tmod 8 + 8).tmod 8 = (K : Int) := by
          have h1 := Int.lt_tmod_of_pos bit (show (0 : Int) < 8 by decide)
          have h2 := Int.tmod_lt_of_pos bit (show (0 : Int) < 8 by decide)
          rw [Int.tmod_eq_emod_of_nonneg (show (0 : Int) ≤ bit.tmod 8 + 8 by omega)]
          refine ⟨((bit.tmod 8 + 8) % 8).toNat, ?_, ?_⟩ <;> omega
        have hw64 : IntKind.i64.wrap (bit.tmod 8 + 8) = bit.tmod 8 + 8 := by
          have h1 := Int.lt_tmod_of_pos bit (show (0 : Int) < 8 by decide)
          have h2 := Int.tmod_lt_of_pos bit (show (0 : Int) < 8 by decide)
          simp [IntKind.wrap, IntKind.bits, IntKind.signed]
          omega
        obtain ⟨B, hB⟩ : ∃ B : Nat, B = 2 ^ K := ⟨_, rfl⟩
        have hB1 : 1 ≤ B := by rw [hB]; exact Nat.pow_pos (by decide)
        have hB2 : B < 256 := by rw [hB]; exact Nat.pow_lt_pow_right (by decide) (show K < 8 from hK8)
        have hsh : Op.shift .shl .u8 1 .i64 ((IntKind.i64.wrap (bit.tmod 8 + 8)).tmod 8) = pure (.int .u8 (B : Int)) := by
          rw [hw64, hK, shift_shl .u8 .i64 1 (K : Int) (by omega) (by simp [IntKind.bits]; omega)]
          have e1 : (1 : Int) * 2 ^ (K : Int).toNat = (B : Int) := by rw [hB, Int.toNat_natCast, Int.one_mul, Int.natCast_pow]; rfl
          rw [e1]
          have e2 : IntKind.u8.wrap (B : Int) = (B : Int) := by simp [IntKind.wrap, IntKind.bits, IntKind.signed]; omega
          rw [e2]
        have hsh2 : Op.shift .shl .u8 1 .i64 ((wrap64 (bit.tmod 8 + 8)).tmod 8) = pure (.int .u8 (B : Int)) := by
          have e : wrap64 (bit.tmod 8 + 8) = IntKind.i64.wrap (bit.tmod 8 + 8) := by
            rw [hw64, wrap64]
            have h1 := Int.lt_tmod_of_pos bit (show (0 : Int) < 8 by decide)
            have h2 := Int.tmod_lt_of_pos bit (show (0 : Int) < 8 by decide)
            omega
          rw [e]
          exact hsh
        obtain ⟨c, hc⟩ : ∃ c : UInt8, c = l.getD i 0 := ⟨_, rfl⟩
        have hc256 := u8_lt c
        have hxor := u8_xor_nat c.toNat B hc256 hB2
        obtain ⟨d, hd⟩ : ∃ d : UInt8, d = c ^^^ UInt8.ofNat B := ⟨_, rfl⟩
        have hdn : c.toNat ^^^ B = d.toNat := by rw [hd, UInt8.toNat_xor, u8_of B hB2]
        rw [hdn] at hxor
        have hdc : d ≠ c := by
          rw [hd]
          refine xor_ne ?_
          intro e
          have := congrArg UInt8.toNat e
          rw [u8_of B hB2] at this
          simp at this
          omega
        have hne : crc (l.set i d) ≠ crc l := by
          intro e
          apply hdc
          rw [crc_set l i d hil e, hc]
          simp [List.getD, hil]
        have HNE : Hid (crc (l.set i d) ≠ crc l) := hne
        have HCC : Hid (c = l.getD i 0) := hc
        clear hw64 hK hB hd hdn hdc hne hc
        go_enter Try.func8, Try.ntmps8
        go_wp2_with (go_at_call 9; refine (awake9 _).mono ?_; rintro e w1 ⟨rfl, hb⟩; obtain ⟨cap, W, hconv, hby, hbel⟩ := bytes_of l w1; obtain ⟨g, hg⟩ : ∃ g, g = w1.heap.size := ⟨_, rfl⟩; rw [← hg] at hconv hby; have HB : Hid (ByAt g l W ∧ Below w.heap.size w W ∧ w.heap.size ≤ g) := ⟨hby, hb.trans (hbel.mono hb.size), by rw [hg]; exact hb.size⟩; have hcell := hby.cell hil; have hfree := hby.free i hil; rw [← HCC.out] at hcell; clear hb hby hbel hg)
        go_region
        have hby2 := ((HB.out.1.set hil d _ rfl).drew)
        have hbe2 : Below w.heap.size w ((W.setCell ⟨g, i, none⟩ (.int .u8 (d.toNat : Int))).drew) := (HB.out.2.1.setCell HB.out.2.2 _).drew
        have htx := hby2.text cap
        rw [List.length_set] at htx
        generalize World.drew _ = W2 at htx hby2 hbe2 ⊢
        have H2 : Hid (Below w.heap.size w W2) := hbe2
        have c1 : ∀ w, Calls Try.prog 12 #[.string (bs (l.set i d))] w fun e w' => e = .returned (.int .u32 (crc (l.set i d))) ∧ w = w' := fun w => by
          have := sum12 (bs (l.set i d)) w (by rw [bs_size, List.length_set]; omega)
          rw [bs_data] at this
          exact this
        have c2 : ∀ w, Calls Try.prog 12 #[.string (bs l)] w fun e w' => e = .returned (.int .u32 (crc l)) ∧ w = w' := fun w => by
          have := sum12 (bs l) w (by omega)
          rw [bs_data] at this
          exact this
        have HC : Hid ((∀ w, 1 = 1 → Calls Try.prog 12 #[.string (bs (l.set i d))] w fun e w' => e = .returned (.int .u32 (crc (l.set i d))) ∧ w = w') ∧ (∀ w, 1 = 1 → Calls Try.prog 12 #[.string (bs l)] w fun e w' => e = .returned (.int .u32 (crc l)) ∧ w = w')) := ⟨fun w _ => c1 w, fun w _ => c2 w⟩
        have tne : ((crc (l.set i d) : Int) == (crc l : Int)) = false := by have := HNE.out; simp; omega
        have tne2 : ((crc (l.set i d) : Int) != (crc l : Int)) = true := by have := HNE.out; simp; omega
        clear c1 c2 hby2 hbe2 hxor hsh hsh2 hcell hfree hconv
        generalize l.set i d = M at *
        generalize crc M = X at *
        generalize crc l = Y at *
        go_wp2_with fail
        refine (HC.out.1 _ (by trivial)).mono ?_
        rintro e w3 ⟨rfl, rfl⟩
        go_wp2_with fail
        refine (HC.out.2 _ (by trivial)).mono ?_
        rintro e w4 ⟨rfl, rfl⟩
        go_wp2
        go_ret
        exact ⟨rfl, H2.out⟩

end Go.Proofs.Ytncjcipbkeljdaa
