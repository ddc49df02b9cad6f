/-
  The walk of FrameReads: of any text it answers true, and turns no memory that was there.
-/
import Derived.Test.YtncjcipbkeljdaaScanP
namespace Go.Proofs.Ytncjcipbkeljdaa
open Go.RowKit Go.Sort

set_option maxHeartbeats 1600000 in
theorem reads3 (s : List UInt8) (w : World) (hs : s.length ≤ 140737488355328) :
    Calls Try.prog 3 #[.string (bs s)] w fun e w' => e = .returned (.bool true) ∧ Below w.heap.size w w' := by
  have hsz := bs_size s
  by_cases g1 : (40000 : Int) < s.length
  · go_enter Try.func3, Try.ntmps3
    go_wp2_with (go_at_call 9; refine (awake9 _).mono ?_; rintro e w1 ⟨rfl, hb⟩; have HB : Hid (Below w.heap.size w w1) := hb; clear hb)
    go_ret
    exact ⟨rfl, HB.out⟩
  · have hs4 : s.length ≤ 40000 := by omega
    have c10 := fun w => next10 s w (by omega)
    have c11 := fun w => refNext11 s w (by omega)
    have c12 : ∀ w, Calls Try.prog 12 #[.string (bs s)] w fun e w' => e = .returned (.int .u32 (crc s)) ∧ w = w' := fun w => by
      have := sum12 (bs s) w (by omega)
      rw [bs_data] at this
      exact this
    have c13 : ∀ w, Calls Try.prog 13 #[.string (bs s)] w fun e w' => e = .returned (.int .u32 (crc s)) ∧ w = w' := fun w => by
      have := refSum13 (bs s) w (by omega)
      rw [bs_data] at this
      exact this
    have c14 := fun w => scan14 s w (by omega)
    have c15 := fun w => refScan15 s w (by omega)
    have hsl := scan_len s
    obtain ⟨⟨L, t⟩, hR⟩ : ∃ R, R = rdScan s := ⟨_, rfl⟩
    rw [← hR] at c14 c15 hsl
    dsimp only at c14 c15 hsl
    generalize crc s = X at *
    generalize rdNext s = z at *
    obtain ⟨p, n, x⟩ := z
    have HC : Hid ((∀ w, 1 = 1 → Calls Try.prog 10 #[.string (bs s)] w fun e w' => e = .returned (.tuple #[.string (bs p), .int .i64 n, .int .i64 x]) ∧ Below w.heap.size w w') ∧
      (∀ w, 1 = 1 → Calls Try.prog 11 #[.string (bs s)] w fun e w' => e = .returned (.tuple #[.string (bs p), .int .i64 n, .int .i64 x]) ∧ Below w.heap.size w w') ∧
      (∀ w, 1 = 1 → Calls Try.prog 12 #[.string (bs s)] w fun e w' => e = .returned (.int .u32 X) ∧ w = w') ∧
      (∀ w, 1 = 1 → Calls Try.prog 13 #[.string (bs s)] w fun e w' => e = .returned (.int .u32 X) ∧ w = w') ∧
      (∀ w, 1 = 1 → Calls Try.prog 14 #[.string (bs s)] w fun e w' => (∃ v, e = .returned (.tuple #[v, .int .i64 t]) ∧ TxAt w.heap.size v L w') ∧ Below w.heap.size w w') ∧
      (∀ w, 1 = 1 → Calls Try.prog 15 #[.string (bs s)] w fun e w' => (∃ v, e = .returned (.tuple #[v, .int .i64 t]) ∧ TxAt w.heap.size v L w') ∧ Below w.heap.size w w')) :=
      ⟨fun w _ => c10 w, fun w _ => c11 w, fun w _ => c12 w, fun w _ => c13 w, fun w _ => c14 w, fun w _ => c15 w⟩
    have teq := beq_bs (a := p) rfl
    clear c10 c11 c12 c13 c14 c15 hR
    go_enter Try.func3, Try.ntmps3
    go_wp2_with (first
      | (go_at_call 9; refine (awake9 _).mono ?_; rintro e w1 ⟨rfl, hb⟩; have HB : Hid (Below w.heap.size w w1) := hb; clear hb)
      | (go_at_call 10; refine (HC.out.1 _ (by trivial)).mono ?_; rintro e w2 ⟨rfl, hb⟩; have HB2 : Hid (Below w.heap.size w w2) := HB.out.trans (hb.mono HB.out.size); clear hb)
      | (go_at_call 11; refine (HC.out.2.1 _ (by trivial)).mono ?_; rintro e w3 ⟨rfl, hb⟩; have HB3 : Hid (Below w.heap.size w w3) := HB2.out.trans (hb.mono HB2.out.size); clear hb)
      | (go_at_call 12; refine (HC.out.2.2.1 _ (by trivial)).mono ?_; rintro e w4 ⟨rfl, rfl⟩)
      | (go_at_call 13; refine (HC.out.2.2.2.1 _ (by trivial)).mono ?_; rintro e w4 ⟨rfl, rfl⟩))
    refine (HC.out.2.2.2.2.1 _ (by trivial)).mono ?_
    rintro e w5 ⟨⟨v1, rfl, ht1⟩, hb5⟩
    obtain ⟨a1, cp1, rfl⟩ := tx_shape ht1
    have H5 : Hid (TxAt w3.heap.size (.slice a1 L.length cp1) L w5 ∧ Below w.heap.size w w5) := ⟨ht1, HB3.out.trans (hb5.mono HB3.out.size)⟩
    clear ht1 hb5
    go_wp2_with fail
    refine (HC.out.2.2.2.2.2 _ (by trivial)).mono ?_
    rintro e w6 ⟨⟨v2, rfl, ht2⟩, hb6⟩
    obtain ⟨a2, cp2, rfl⟩ := tx_shape ht2
    obtain ⟨ao, b, off, cp, he1, hao, hac⟩ := (H5.out.1.on hb6).cells
    obtain ⟨bo, b', off', cp', he2, hbo, hbc⟩ := ht2.cells
    injection he1 with he1 _ he1'
    injection he2 with he2 _ he2'
    subst he1 he1' he2 he2'
    have H6 : Hid (Below w.heap.size w w6) := H5.out.2.trans (hb6.mono H5.out.2.size)
    have hsame := same16 L a1 a2 b off b' off' cp1 cp2 w6 hao hbo hac hbc (by omega)
    have HSM : Hid (1 = 1 → Calls Try.prog 16 #[.slice a1 L.length cp1, .slice a2 L.length cp2] w6 fun e w' => e = .returned (.bool true) ∧ Below w6.heap.size w6 w') := fun _ => hsame
    clear hsame hao hbo hac hbc hb6 ht2
    go_wp2_with fail
    refine (HSM.out (by trivial)).mono ?_
    rintro e w7 ⟨rfl, hb7⟩
    have H7 : Hid (Below w.heap.size w w7) := H6.out.trans (hb7.mono H6.out.size)
    clear hb7
    go_wp2
    go_ret
    exact ⟨rfl, H7.out⟩

end Go.Proofs.Ytncjcipbkeljdaa
