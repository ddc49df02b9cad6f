/-
  The walk of FrameWraps: of any payload and whatever is behind it answers true, and turns no memory that was there.
-/
import Derived.Test.YtncjcipbkeljdaaApart
namespace Go.Proofs.Ytncjcipbkeljdaa
open Go.RowKit Go.Sort

set_option maxHeartbeats 1000000 in
theorem wraps4 (p q : List UInt8) (w : World) (hp : p.length ≤ 140737488355328) (hq : q.length ≤ 140737488355328) :
    Calls Try.prog 4 #[.string (bs p), .string (bs q)] w fun e w' => e = .returned (.bool true) ∧ Below w.heap.size w w' := by
  have hs := bs_size p
  have hsq := bs_size q
  by_cases g1 : 16384 < p.length
  · -- too long, be it cut or not
    by_cases g0 : (40000 : Int) < p.length
    · have hcut := bs_take p 40000
      obtain ⟨P, hP⟩ : ∃ P, P = p.take 40000 := ⟨_, rfl⟩
      have hPl : P.length = 40000 := by rw [hP, List.length_take]; omega
      rw [← hP] at hcut
      have hPs : (bs P).size = 40000 := by rw [bs_size, hPl]
      have c17 := fun w => wrap17_more P w (by omega) (by omega)
      have c18 := fun w => refWrap18_more P w (by omega) (by omega)
      have HC : Hid ((∀ w, 1 = 1 → Calls Try.prog 17 #[.string (bs P)] w fun e w' => e = .returned (.tuple #[.string (bs []), .int .i64 3]) ∧ w = w') ∧ (∀ w, 1 = 1 → Calls Try.prog 18 #[.string (bs P)] w fun e w' => e = .returned (.tuple #[.string (bs []), .int .i64 3]) ∧ w = w')) := ⟨fun w _ => c17 w, fun w _ => c18 w⟩
      have teq := beq_bs (a := []) rfl
      clear c17 c18 hP g1
      go_enter Try.func4, Try.ntmps4
      go_wp2_with (first
        | (go_at_call 9; refine (awake9 _).mono ?_; rintro e w1 ⟨rfl, hb⟩; have HB : Hid (Below w.heap.size w w1) := hb; clear hb)
        | (go_at_call 17; refine (HC.out.1 _ (by trivial)).mono ?_; rintro e w2 ⟨rfl, rfl⟩)
        | (go_at_call 18; refine (HC.out.2 _ (by trivial)).mono ?_; rintro e w2 ⟨rfl, rfl⟩))
      go_ret
      exact ⟨rfl, HB.out⟩
    · have c17 := fun w => wrap17_more p w g1 (by omega)
      have c18 := fun w => refWrap18_more p w g1 (by omega)
      have HC : Hid ((∀ w, 1 = 1 → Calls Try.prog 17 #[.string (bs p)] w fun e w' => e = .returned (.tuple #[.string (bs []), .int .i64 3]) ∧ w = w') ∧ (∀ w, 1 = 1 → Calls Try.prog 18 #[.string (bs p)] w fun e w' => e = .returned (.tuple #[.string (bs []), .int .i64 3]) ∧ w = w')) := ⟨fun w _ => c17 w, fun w _ => c18 w⟩
      have teq := beq_bs (a := []) rfl
      have g1' : (16384 : Int) < p.length := by omega
      clear c17 c18
      go_enter Try.func4, Try.ntmps4
      go_wp2_with (first
        | (go_at_call 9; refine (awake9 _).mono ?_; rintro e w1 ⟨rfl, hb⟩; have HB : Hid (Below w.heap.size w w1) := hb; clear hb)
        | (go_at_call 17; refine (HC.out.1 _ (by trivial)).mono ?_; rintro e w2 ⟨rfl, rfl⟩)
        | (go_at_call 18; refine (HC.out.2 _ (by trivial)).mono ?_; rintro e w2 ⟨rfl, rfl⟩))
      go_ret
      refine ⟨?_, HB.out⟩
      simp
  · have g0 : ¬ (40000 : Int) < p.length := by omega
    have hp16 : p.length ≤ 16384 := by omega
    have c17 := fun w => wrap17 p w hp16
    have c18 := fun w => refWrap18 p w hp16
    have hfl : (frameOf p).length < 20000 := by rw [frameOf_len]; have := sz_small hp16; omega
    have c10 := fun w => next10 (frameOf p ++ q) w (by rw [List.length_append]; omega)
    rw [next_form p q hp16] at c10
    have hfs : (bs (frameOf p)).size = (frameOf p).length := bs_size _
    have hadd : bs (frameOf p) ++ bs q = bs (frameOf p ++ q) := bs_append _ _
    have HC : Hid ((∀ w, 1 = 1 → Calls Try.prog 17 #[.string (bs p)] w fun e w' => e = .returned (.tuple #[.string (bs (frameOf p)), .int .i64 0]) ∧ Below w.heap.size w w') ∧ (∀ w, 1 = 1 → Calls Try.prog 18 #[.string (bs p)] w fun e w' => e = .returned (.tuple #[.string (bs (frameOf p)), .int .i64 0]) ∧ Below w.heap.size w w') ∧
      (∀ w, 1 = 1 → Calls Try.prog 10 #[.string (bs (frameOf p ++ q))] w fun e w' => e = .returned (.tuple #[.string (bs p), .int .i64 (frameOf p).length, .int .i64 0]) ∧ Below w.heap.size w w')) := ⟨fun w _ => c17 w, fun w _ => c18 w, fun w _ => c10 w⟩
    have teq := beq_bs (a := p) rfl
    have teq2 := beq_bs (a := frameOf p) rfl
    clear c17 c18 c10
    generalize frameOf p ++ q = G at *
    generalize frameOf p = F at *
    go_enter Try.func4, Try.ntmps4
    go_wp2_with (first
      | (go_at_call 9; refine (awake9 _).mono ?_; rintro e w1 ⟨rfl, hb⟩; have HB : Hid (Below w.heap.size w w1) := hb; clear hb)
      | (go_at_call 17; refine (HC.out.1 _ (by trivial)).mono ?_; rintro e w2 ⟨rfl, hb⟩; have HB2 : Hid (Below w.heap.size w w2) := HB.out.trans (hb.mono HB.out.size); clear hb)
      | (go_at_call 18; refine (HC.out.2.1 _ (by trivial)).mono ?_; rintro e w3 ⟨rfl, hb⟩; have HB3 : Hid (Below w.heap.size w w3) := HB2.out.trans (hb.mono HB2.out.size); clear hb)
      | (go_at_call 10; refine (HC.out.2.2 _ (by trivial)).mono ?_; rintro e w4 ⟨rfl, hb⟩; have HB4 : Hid (Below w.heap.size w w4) := HB3.out.trans (hb.mono HB3.out.size); clear hb))
    go_ret
    exact ⟨rfl, HB4.out⟩

end Go.Proofs.Ytncjcipbkeljdaa
