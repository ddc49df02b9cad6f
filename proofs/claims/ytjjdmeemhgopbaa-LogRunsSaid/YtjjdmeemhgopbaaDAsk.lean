/-
  Contracts of what asks a drum: Down, numbered, missing, Has, Used, Read; of New and Fuel.
-/
import Derived.Test.YtjjdmeemhgopbaaDParts
import Derived.BigQuiet
import Derived.Deep.QuietTactic
namespace Go.Proofs.Ytjjdmeemhgopbaa.Drm
open Go.RowKit

set_option maxHeartbeats 400000 in
theorem down13_nil (w : World) : Calls Try.prog 24 #[.pointer none] w fun e w' => e = .returned (.bool true) ∧ w = w' := by
  go_enter Try.func24, Try.ntmps24
  go_wp2
  go_ret
  exact ⟨rfl, rfl⟩

set_option maxHeartbeats 400000 in
theorem down13 (pb : Nat) (b : Bool) (w : World) (hc : w.cell? ⟨pb, 14, none⟩ = some (.bool b)) : Calls Try.prog 24 #[.pointer (some ⟨pb, 0, none⟩)] w fun e w' => e = .returned (.bool b) ∧ w = w' := by
  go_enter Try.func24, Try.ntmps24
  go_wp2
  go_ret
  exact ⟨rfl, rfl⟩

set_option maxHeartbeats 400000 in
theorem num29_yes (a : Int) (w : World) (h0 : 0 ≤ a) (h1 : a < 4) : Calls Try.prog 60 #[.int .i64 a] w fun e w' => e = .returned (.bool true) ∧ w = w' := by
  go_enter Try.func60, Try.ntmps60
  go_wp2
  go_ret
  exact ⟨rfl, rfl⟩

set_option maxHeartbeats 400000 in
theorem num29_no (a : Int) (w : World) (h : ¬ (0 ≤ a ∧ a < 4)) : Calls Try.prog 60 #[.int .i64 a] w fun e w' => e = .returned (.bool false) ∧ w = w' := by
  by_cases h0 : 0 ≤ a
  · have h1 : decide (a < 4) = false := by simp; omega
    clear h
    go_enter Try.func60, Try.ntmps60
    go_wp2
    go_ret
    exact ⟨rfl, rfl⟩
  · have h1 : a < 0 := by omega
    clear h h0
    go_enter Try.func60, Try.ntmps60
    go_wp2
    go_ret
    exact ⟨rfl, rfl⟩

set_option maxHeartbeats 400000 in
theorem missing30 (pb o : Nat) (b : Bool) (w : World) (hc : w.cell? ⟨pb, o, none⟩ = some (.bool b)) : Calls Try.prog 51 #[.pointer (some ⟨pb, o, none⟩)] w fun e w' => e = .returned (.int .i64 (if b = true then 0 else 12)) ∧ w = w' := by
  cases b
  all_goals
    go_enter Try.func51, Try.ntmps51
    go_wp2
    go_ret
    exact ⟨rfl, rfl⟩

set_option maxHeartbeats 400000 in
theorem has15_nil (a : Int) (w : World) : Calls Try.prog 37 #[.pointer none, .int .i64 a] w fun e w' => e = .returned (.bool false) ∧ w = w' := by
  go_enter Try.func37, Try.ntmps37
  go_wp2
  go_ret
  exact ⟨rfl, rfl⟩

set_option maxHeartbeats 400000 in
theorem has15 (pb : Nat) (D : Dr) (a : Int) (w : World) (hD : DrumAt pb D w) : Calls Try.prog 37 #[.pointer (some ⟨pb, 0, none⟩), .int .i64 a] w fun e w' => e = .returned (.bool (D.has a)) ∧ w = w' := by
  obtain ⟨vs, hD⟩ := hD
  by_cases h : 0 ≤ a ∧ a < 4
  · obtain ⟨h0, h1⟩ := h
    obtain ⟨n, rfl⟩ := Int.eq_ofNat_of_zero_le h0
    have hc := hD.there n (by omega)
    have he : D.has n = (D.p n).there := by simp [Dr.has]; omega
    rw [he]
    generalize (D.p n).there = b at *
    clear he hD
    go_enter Try.func37, Try.ntmps37
    go_wp2_with (go_at_call 60; refine (num29_yes _ _ h0 h1).mono ?_; rintro e w1 ⟨rfl, rfl⟩)
    go_ret
    exact ⟨rfl, rfl⟩
  · have he : D.has a = false := by simp [Dr.has]; omega
    rw [he]
    clear he hD
    go_enter Try.func37, Try.ntmps37
    go_wp2_with (go_at_call 60; refine (num29_no _ _ h).mono ?_; rintro e w1 ⟨rfl, rfl⟩)
    go_ret
    exact ⟨rfl, rfl⟩

set_option maxHeartbeats 400000 in
theorem used14_nil (w : World) : Calls Try.prog 25 #[.pointer none] w fun e w' => e = .returned (.int .i64 0) ∧ w = w' := by
  go_enter Try.func25, Try.ntmps25
  go_wp2
  go_ret
  exact ⟨rfl, rfl⟩

theorem i64_add (a b : Nat) (h : a + b < 9223372036854775808) : IntKind.i64.wrap ((a : Int) + b) = ((a + b : Nat) : Int) := by
  simp [IntKind.wrap, IntKind.bits, IntKind.signed]
  omega

/-- The bytes of the areas below k. -/
def usedTo (D : Dr) (k : Nat) : Nat := ((List.range k).map fun i => (D.p i).l.length).sum
theorem usedTo_succ (D : Dr) (k : Nat) : usedTo D (k + 1) = usedTo D k + (D.p k).l.length := by simp [usedTo, List.range_succ]
theorem usedTo_four (D : Dr) : usedTo D 4 = D.used := by simp [usedTo, Dr.used, List.range_succ]; omega
theorem usedTo_le (D : Dr) (k : Nat) (h : k ≤ 4) : usedTo D k ≤ D.used := by
  rw [← usedTo_four]
  rcases (by omega : k = 0 ∨ k = 1 ∨ k = 2 ∨ k = 3 ∨ k = 4) with rfl | rfl | rfl | rfl | rfl <;> simp [usedTo, List.range_succ] <;> omega

set_option maxHeartbeats 400000 in
theorem used14 (pb : Nat) (D : Dr) (w : World) (hD : DrumAt pb D w) (hu : D.used ≤ 1048576) : Calls Try.prog 25 #[.pointer (some ⟨pb, 0, none⟩)] w fun e w' => e = .returned (.int .i64 D.used) ∧ w = w' := by
  obtain ⟨vs, hD⟩ := hD
  have HD : Hid (DrumIn pb D vs w) := hD
  clear hD
  go_enter Try.func25, Try.ntmps25
  go_wp2
  go_loop [3, 7] (fun u i => ∃ k : Nat, k ≤ 4 ∧ i = .int .i64 k ∧ u = .int .i64 (usedTo D k)) (fun _ i => 4 - (intOf i).toNat)
  case atStart => exact ⟨0, by omega, rfl, rfl⟩
  case round =>
    obtain ⟨k, hk, rfl, rfl⟩ := hrel
    have h1 := usedTo_le D k hk
    by_cases hlt : k < 4
    · have h2 := usedTo_le D (k + 1) hlt
      have HS : Hid (usedTo D (k + 1) = usedTo D k + (D.p k).l.length) := usedTo_succ D k
      have h3 : usedTo D k + (D.p k).l.length ≤ 1048576 := by have := HS.out; omega
      have hc := HD.out.row k hlt
      obtain ⟨ao, cp, hv, _⟩ := own_shape (HD.out.own k hlt)
      rw [hv] at hc
      clear hv
      generalize (D.p k).l.length = n at *
      generalize usedTo D k = u at *
      have hadd := i64_add u n (by omega)
      go_wp2
      go_round
      case rel => exact ⟨k + 1, by omega, by go_num, by rw [HS.out]; go_num⟩
      case measure => simp [intOf]; omega
    · have HE : Hid (k = 4) := (by omega : k = 4)
      go_wp2
      go_ret
      exact ⟨by rw [HE.out, usedTo_four]; rfl, rfl⟩

set_option maxHeartbeats 400000 in
theorem fuel27_nil (n : Int) (w : World) : Calls Try.prog 17 #[.pointer none, .int .i64 n] w fun e w' => e = .returned (.tuple #[]) ∧ w = w' := by
  go_enter Try.func17, Try.ntmps17
  go_wp2
  go_end0
  exact ⟨rfl, rfl⟩

set_option maxHeartbeats 400000 in
theorem fuel27 (pb : Nat) (D : Dr) (n : Int) (w : World) (hD : DrumAt pb D w) : Calls Try.prog 17 #[.pointer (some ⟨pb, 0, none⟩), .int .i64 n] w fun e w' => e = .returned (.tuple #[]) ∧ DrumAt pb { D with fuel := n } w' ∧ Kept pb w w' := by
  obtain ⟨vs, hD⟩ := hD
  have HD : Hid (DrumIn pb D vs w) := hD
  have hc := hD.fuel
  have hf := hD.free
  clear hD
  go_enter Try.func17, Try.ntmps17
  go_wp2
  go_end0
  exact ⟨rfl, ⟨vs, HD.out.set_fuel n⟩, (Kept.refl _ _).set _ _⟩

set_option maxHeartbeats 400000 in
theorem new8_no (r : Int) (w : World) (h : ¬ (0 ≤ r ∧ r ≤ 1048576)) : Calls Try.prog 8 #[.int .i64 r] w fun e w' => e = .returned (.tuple #[.pointer none, .int .i64 1]) ∧ w = w' := by
  by_cases h0 : 0 ≤ r
  · have h1 : 1048576 < r := by omega
    clear h
    go_enter Try.func8, Try.ntmps8
    go_wp2
    go_ret2
    exact ⟨rfl, rfl⟩
  · have h1 : r < 0 := by omega
    clear h h0
    go_enter Try.func8, Try.ntmps8
    go_wp2
    go_ret2
    exact ⟨rfl, rfl⟩

set_option maxHeartbeats 400000 in
theorem new8 (r : Int) (w : World) (h0 : 0 ≤ r) (h1 : r ≤ 1048576) : Calls Try.prog 8 #[.int .i64 r] w fun e w' => e = .returned (.tuple #[.pointer (some ⟨w.heap.size, 0, none⟩), .int .i64 0]) ∧ DrumAt w.heap.size (Dr.new r) w' ∧ Below w.heap.size w w' := by
  go_enter Try.func8, Try.ntmps8
  go_wp2
  go_ret2
  refine ⟨rfl, ⟨fun _ => .slice none 0 0, ?_, ?_, ?_⟩, (Below.refl _ _).alloc (Nat.le_refl _) _⟩
  · exact heap_alloc_new w _
  · intro i _
    exact World.ownsRow_nil _ _ _ _
  · intro i j _ _ _
    exact .inl rfl

set_option maxHeartbeats 400000 in
theorem read10_nil (a : Int) (w : World) : Calls Try.prog 36 #[.pointer none, .int .i64 a] w fun e w' => e = .returned (.tuple #[.string (bs []), .int .i64 11]) ∧ w = w' := by
  go_enter Try.func36, Try.ntmps36
  go_wp2_with (go_at_call 24; refine (down13_nil _).mono ?_; rintro e w1 ⟨rfl, rfl⟩)
  go_ret2
  exact ⟨rfl, rfl⟩

set_option maxHeartbeats 800000 in
theorem read10 (pb : Nat) (D : Dr) (a : Int) (w : World) (hD : DrumAt pb D w) : Calls Try.prog 36 #[.pointer (some ⟨pb, 0, none⟩), .int .i64 a] w fun e w' => e = .returned (.tuple #[.string (bs (D.read a).1), .int .i64 (D.read a).2]) ∧ w = w' := by
  obtain ⟨vs, hD⟩ := hD
  have HD : Hid (DrumIn pb D vs w) := hD
  have hdn := hD.down
  clear hD
  obtain ⟨dn, hdn'⟩ : ∃ dn, D.down = dn := ⟨_, rfl⟩
  rw [hdn'] at hdn
  have HN : Hid (D.down = dn) := hdn'
  clear hdn'
  cases dn with
  | true =>
    go_enter Try.func36, Try.ntmps36
    go_wp2_with (go_at_call 24; refine (down13 pb _ _ hdn).mono ?_; rintro e w1 ⟨rfl, rfl⟩)
    go_ret2
    exact ⟨by simp [Dr.read, HN.out]; rfl, rfl⟩
  | false =>
    by_cases h : 0 ≤ a ∧ a < 4
    · obtain ⟨h0, h1⟩ := h
      obtain ⟨n, rfl⟩ := Int.eq_ofNat_of_zero_le h0
      have ht := HD.out.there n (by omega)
      obtain ⟨b, hb⟩ : ∃ b, (D.p n).there = b := ⟨_, rfl⟩
      rw [hb] at ht
      have HB : Hid ((D.p n).there = b) := hb
      clear hb
      cases b with
      | false =>
        go_enter Try.func36, Try.ntmps36
        go_wp2_with (first | (go_at_call 24; refine (down13 pb _ _ hdn).mono ?_; rintro e w1 ⟨rfl, rfl⟩) | (go_at_call 60; refine (num29_yes _ _ h0 h1).mono ?_; rintro e w1 ⟨rfl, rfl⟩) | (go_at_call 51; refine (missing30 pb _ _ _ ht).mono ?_; rintro e w1 ⟨rfl, rfl⟩))
        go_ret2
        exact ⟨by simp [Dr.read, HN.out, HB.out, h1]; rfl, rfl⟩
      | true =>
        have hr := HD.out.row n (by omega)
        have hcv := row_text (HD.out.own n (by omega))
        obtain ⟨ao, cp, hv, _⟩ := own_shape (HD.out.own n (by omega))
        rw [hv] at hr hcv
        clear hv
        go_enter Try.func36, Try.ntmps36
        go_wp2_with (first | (go_at_call 24; refine (down13 pb _ _ hdn).mono ?_; rintro e w1 ⟨rfl, rfl⟩) | (go_at_call 60; refine (num29_yes _ _ h0 h1).mono ?_; rintro e w1 ⟨rfl, rfl⟩) | (go_at_call 51; refine (missing30 pb _ _ _ ht).mono ?_; rintro e w1 ⟨rfl, rfl⟩))
        go_ret2
        exact ⟨by simp [Dr.read, HN.out, HB.out, h1], rfl⟩
    · go_enter Try.func36, Try.ntmps36
      go_wp2_with (first | (go_at_call 24; refine (down13 pb _ _ hdn).mono ?_; rintro e w1 ⟨rfl, rfl⟩) | (go_at_call 60; refine (num29_no _ _ h).mono ?_; rintro e w1 ⟨rfl, rfl⟩))
      go_ret2
      exact ⟨by rw [Dr.read, HN.out, if_neg (by decide), if_pos h]; rfl, rfl⟩

end Go.Proofs.Ytjjdmeemhgopbaa.Drm
