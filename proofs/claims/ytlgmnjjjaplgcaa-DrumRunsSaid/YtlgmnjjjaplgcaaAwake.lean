/-
  The laws' first look: a drum that falls keeps a part.
-/
import Derived.Test.YtlgmnjjjaplgcaaFall
namespace Go.Proofs.Ytlgmnjjjaplgcaa
open Go.RowKit

def aw1 : Dr := ((Dr.new 10).lay 0).2
def aw2 : Dr := (aw1.write 0 [97, 98]).2
def aw3 : Dr := (aw2.sync 0).2
def aw4 : Dr := (aw3.write 0 [99, 100]).2
theorem aw0_ok : (Dr.new 10).Ok := Dr.Ok.new 10 (by omega) (by omega)
theorem aw1_ok : aw1.Ok := aw0_ok.lay 0
theorem aw2_ok : aw2.Ok := aw1_ok.write 0 _
theorem aw3_ok : aw3.Ok := aw2_ok.sync 0
theorem aw4_ok : aw4.Ok := aw3_ok.write 0 _
theorem aw_read : (aw4.fall [1]).read 0 = ([97, 98, 99], 0) := by decide +kernel

/-- A list of one number, new. -/
theorem keep_one {pb : Nat} {w : World} (x : Int) (h : pb < w.heap.size) : KeepAt pb (.slice (some ⟨w.heap.size, 0, none⟩) 1 1) [x] (w.alloc (.cells #[.int .i64 x] 3)) := by
  have hb : (w.alloc (.cells #[.int .i64 x] 3)).heap[w.heap.size]? = some (.cells #[.int .i64 x] 3 (0, 0)) := heap_alloc_new w _
  refine ⟨_, _, rfl, fun _ => ⟨w.heap.size, 0, rfl, by omega, ?_, .inr ⟨_, _, hb⟩⟩⟩
  intro i hi
  have hi0 : i = 0 := by simpa using hi
  subst hi0
  exact cell_of_one hb

theorem keep_bounds (x : Int) (h0 : -9223372036854775808 ≤ x) (h1 : x ≤ 9223372036854775807) : ∀ i, -9223372036854775808 ≤ [x].getD i 0 ∧ [x].getD i 0 ≤ 9223372036854775807 := by
  intro i
  match i with
  | 0 => exact ⟨h0, h1⟩
  | i + 1 => simp

set_option maxHeartbeats 400000 in
theorem awake7 (w : World) : Calls Try.prog 7 #[] w fun e w' => e = .returned (.bool true) ∧ Below w.heap.size w w' := by
  go_enter Try.func7, Try.ntmps7
  go_wp2_with fail
  refine (new8 10 _ (by omega) (by omega)).mono ?_
  rintro e w1 ⟨rfl, h1, k1⟩
  obtain ⟨pb, hpb⟩ : ∃ pb, pb = w.heap.size := ⟨_, rfl⟩
  rw [← hpb] at h1 k1 ⊢
  have HP : Hid (pb = w.heap.size) := hpb
  clear hpb
  have H1 : Hid (DrumAt pb (Dr.new 10) w1 ∧ Below pb w w1) := ⟨h1, k1⟩
  clear h1 k1
  go_wp2_with fail
  refine (lay11 pb _ 0 _ H1.out.1 aw0_ok).mono ?_
  rintro e w2 ⟨rfl, h2, k2⟩
  have H2 : Hid (DrumAt pb aw1 w2 ∧ Below pb w w2) := ⟨h2, H1.out.2.trans k2.below⟩
  clear H1 h2 k2
  go_wp2_with fail
  refine (write12 pb _ 0 [97, 98] _ H2.out.1 aw1_ok).mono ?_
  rintro e w3 ⟨rfl, h3, k3⟩
  have H3 : Hid (DrumAt pb aw2 w3 ∧ Below pb w w3) := ⟨h3, H2.out.2.trans k3.below⟩
  clear H2 h3 k3
  go_wp2_with fail
  refine (sync28 pb _ 0 _ H3.out.1 aw2_ok).mono ?_
  rintro e w4 ⟨rfl, h4, k4⟩
  have H4 : Hid (DrumAt pb aw3 w4 ∧ Below pb w w4) := ⟨h4, H3.out.2.trans k4.below⟩
  clear H3 h4 k4
  go_wp2_with fail
  refine (write12 pb _ 0 [99, 100] _ H4.out.1 aw3_ok).mono ?_
  rintro e w5 ⟨rfl, h5, k5⟩
  have H5 : Hid (DrumAt pb aw4 w5 ∧ Below pb w w5) := ⟨h5, H4.out.2.trans k5.below⟩
  clear H4 h5 k5
  go_wp2_with fail
  refine (fall26 pb _ _ [1] _ (H5.out.1.alloc _) aw4_ok (keep_one 1 H5.out.1.lt) (keep_bounds 1 (by omega) (by omega)) (by simp)).mono ?_
  rintro e w6 ⟨rfl, h6, k6⟩
  have H6 : Hid (DrumAt pb (aw4.fall [1]) w6 ∧ Below pb w w6) := ⟨h6, (H5.out.2.alloc (Nat.le_of_lt H5.out.1.lt) _).trans k6.below⟩
  clear H5 h6 k6
  go_wp2_with fail
  refine (read10 pb _ 0 _ H6.out.1).mono ?_
  rw [aw_read]
  rintro e w7 ⟨rfl, rfl⟩
  have hs : ((bs [97, 98, 99]).toList == [97, 98, 99]) = true := by decide +kernel
  go_wp2
  go_ret
  refine ⟨?_, by rw [← HP.out]; exact H6.out.2⟩
  rfl

end Go.Proofs.Ytlgmnjjjaplgcaa
