/-
  Contracts of stamp.Text at the stamp 5.7 and of awake: awake returns true, and turns no memory that was there.
-/
import Derived.Test.YtdhpcgjkhhldhaaDoorNext
import Derived.Deep.QuietTactic
import Derived.BigQuiet
namespace Go.Proofs.YtdhpcgjkhhldhaaDoor
open Go.RowKit

set_option maxHeartbeats 400000 in
theorem fmt21_5 (w : World) : Calls Tryd.prog 21 #[.int .u64 5, .int .i64 10] w fun e w' => e = .returned (.string ⟨#[53]⟩) ∧ w' = w := by
  go_enter Tryd.func21, Tryd.ntmps21
  go_wp2
  go_ret
  exact ⟨rfl, rfl⟩
set_option maxHeartbeats 400000 in
theorem fmt21_7 (w : World) : Calls Tryd.prog 21 #[.int .u64 7, .int .i64 10] w fun e w' => e = .returned (.string ⟨#[55]⟩) ∧ w' = w := by
  go_enter Tryd.func21, Tryd.ntmps21
  go_wp2
  go_ret
  exact ⟨rfl, rfl⟩
set_option maxHeartbeats 400000 in
theorem text57 (w : World) : Calls Tryd.prog 16 #[.agg #[.int .u64 5, .int .u32 7]] w fun e w' => e = .returned (.string ⟨#[53, 46, 55]⟩) ∧ Below w.heap.size w w' := by
  go_enter Tryd.func16, Tryd.ntmps16
  go_wp2
  go_quiet ((first | (go_at_call 21; exact Calls.quiet_of_same (fmt21_5 _)) | (go_at_call 21; exact Calls.quiet_of_same (fmt21_7 _))))
  go_wp2
  go_ret
  exact ⟨by rfl, below_drewN ((Below.refl _ _).alloc (Nat.le_refl _) _) nq⟩
theorem next5 (w : World) : Calls Tryd.prog 8 #[.agg #[.int .u64 5, .int .u32 4095]] w fun e w' => e = .returned (.tuple #[.agg #[.int .u64 6, .int .u32 0], .int .i64 0]) ∧ Below w.heap.size w w' :=
  next8 5 4095 w (by omega) (by omega)
set_option maxHeartbeats 400000 in
theorem awake7 (w : World) : Calls Tryd.prog 7 #[] w fun e w' => e = .returned (.bool true) ∧ Below w.heap.size w w' := by
  go_enter Tryd.func7, Tryd.ntmps7
  go_wp2_with fail
  refine (next5 _).mono ?_
  rintro e w1 ⟨rfl, hb⟩
  go_wp2_with fail
  refine (text57 _).mono ?_
  rintro e w2 ⟨rfl, hb2⟩
  go_wp2
  go_ret
  exact ⟨rfl, (hb.alloc hb.size _).trans (hb2.mono (by have := hb.size; simp; omega))⟩
end Go.Proofs.YtdhpcgjkhhldhaaDoor
