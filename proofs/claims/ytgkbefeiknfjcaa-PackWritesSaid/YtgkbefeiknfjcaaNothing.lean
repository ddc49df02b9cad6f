/-
  The walk of PackNothing: whatever the arguments, it answers true, and turns no memory that was there.
-/
import Derived.Test.YtgkbefeiknfjcaaAwake
namespace Go.Proofs.Ytgkbefeiknfjcaa
open Go.RowKit

theorem run_eql31 (p q : Int) (w : World) : (binOp .eql 31 (.agg #[.int .u64 p, .int .u32 q]) (.agg #[.int .u64 p, .int .u32 q])).run Try.prog w = .ok (.bool true) w := by
  simp [go_sem]

set_option maxHeartbeats 1600000 in
theorem nothing6 (n : Int) (s : ByteArray) (p q : Nat) (w : World) :
    Calls Try.prog 6 #[.int .u64 n, .string s, .agg #[.int .u64 p, .int .u32 q]] w fun e w' => e = .returned (.bool true) ∧ Below w.heap.size w w' := by
  have hne := bs_nil_empty
  go_enter Try.func6, Try.ntmps6
  go_wp2_with fail
  refine (awake9 _).mono ?_
  rintro e w1 ⟨rfl, hb⟩
  obtain ⟨c0, c1, f0, f1⟩ := two_cells ((hb.block w.heap.size (by simp)).trans (heap_alloc_new w _))
  have HB : Hid (Below w.heap.size w w1) := ((Below.refl _ _).alloc (Nat.le_refl _) _).trans (hb.mono (by simp))
  clear hb
  go_wp2_with (first
    | (go_at_call 10; refine (num10_nil _ _).mono ?_; rintro e w2 ⟨rfl, rfl⟩)
    | (go_at_call 12; refine (text12_nil _ _).mono ?_; rintro e w2 ⟨rfl, rfl⟩))
  refine (stamp16_nil p q _).mono ?_
  rintro e w2 ⟨rfl, hb⟩
  have HB2 : Hid (Below w.heap.size w w2) := HB.out.trans (hb.mono HB.out.size)
  clear hb c0 c1 f0 f1 HB
  go_wp2_with (first
    | (go_at_call 14; refine (flag14_nil _ _).mono ?_; rintro e w3 ⟨rfl, rfl⟩)
    | (go_at_call 18; refine (bytes18_nil _).mono ?_; rintro e w3 ⟨rfl, rfl⟩)
    | (go_at_call 20; refine (num20_nil _ _).mono ?_; rintro e w3 ⟨rfl, rfl⟩)
    | (go_at_call 21; refine (text21_nil _ _ _).mono ?_; rintro e w3 ⟨rfl, rfl⟩)
    | (go_at_call 22; refine (flag22_nil _).mono ?_; rintro e w3 ⟨rfl, rfl⟩))
  refine (stamp23_nil _).mono ?_
  rintro e w3 ⟨rfl, hb⟩
  have HB3 : Hid (Below w.heap.size w w3) := HB2.out.trans (hb.mono HB2.out.size)
  clear hb HB2
  have h31 := run_eql31 0 0 w3
  go_wp2_with (first
    | (go_at_call 30; refine (count30_nil _ _ (by decide) (by decide)).mono ?_; rintro e w4 ⟨rfl, rfl⟩)
    | (go_at_call 24; refine (left24_nil _).mono ?_; rintro e w4 ⟨rfl, rfl⟩)
    | (go_at_call 32; refine (err32_nil _).mono ?_; rintro e w4 ⟨rfl, rfl⟩)
    | (go_at_call 25; refine (end25_nil _).mono ?_; rintro e w4 ⟨rfl, rfl⟩))
  go_ret
  exact ⟨rfl, HB3.out⟩

end Go.Proofs.Ytgkbefeiknfjcaa
