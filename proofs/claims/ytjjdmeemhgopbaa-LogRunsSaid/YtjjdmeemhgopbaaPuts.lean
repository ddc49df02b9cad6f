/-
  Contracts of the log's put, spare and cutAllBut.
-/
import Derived.Test.YtjjdmeemhgopbaaLo
import Derived.Test.YtjjdmeemhgopbaaDFall
namespace Go.Proofs.Ytjjdmeemhgopbaa
open Go.RowKit
open Drm (Dr Pt DrumAt DrumIn)

theorem putF_ok {D : Dr} (h : D.Ok) (a : Int) (s : List UInt8) : (putF D a s).2.Ok := by
  unfold putF
  split
  · exact h.write a s
  · exact (h.write a s).sync a

set_option maxHeartbeats 800000 in
theorem put39 (pb : Nat) (D : Dr) (a : Int) (s : List UInt8) (w : World) (hD : DrumAt pb D w) (hOk : D.Ok) : Calls Try.prog 39 #[.pointer (some ⟨pb, 0, none⟩), .int .i64 a, .string (bs s)] w fun e w' => e = .returned (.int .i64 (putF D a s).1) ∧ DrumAt pb (putF D a s).2 w' ∧ Drm.Kept pb w w' := by
  obtain ⟨x, D1, hx⟩ : ∃ x D1, D.write a s = (x, D1) := ⟨_, _, rfl⟩
  have hok1 : D1.Ok := by have := hOk.write a s; rw [hx] at this; exact this
  have HW : Hid (1 = 1 → Calls Try.prog 61 #[.pointer (some ⟨pb, 0, none⟩), .int .i64 a, .string (bs s)] w fun e w' => e = .returned (.int .i64 x) ∧ DrumAt pb D1 w' ∧ Drm.Kept pb w w') := fun _ => by
    have := Drm.write12 pb D a s w hD hOk
    rw [hx] at this
    exact this
  by_cases h0 : x = 0
  · subst h0
    have hp : putF D a s = D1.sync a := by unfold putF; rw [hx]; simp
    rw [hp]
    obtain ⟨y, D2, hy⟩ : ∃ y D2, D1.sync a = (y, D2) := ⟨_, _, rfl⟩
    have HS : Hid (∀ w1, DrumAt pb D1 w1 → Calls Try.prog 62 #[.pointer (some ⟨pb, 0, none⟩), .int .i64 a] w1 fun e w' => e = .returned (.int .i64 y) ∧ DrumAt pb D2 w' ∧ Drm.Kept pb w1 w') := fun w1 h1 => by
      have := Drm.sync28 pb D1 a w1 h1 hok1
      rw [hy] at this
      exact this
    rw [hy]
    dsimp only
    clear hp hx hy hok1 hD hOk
    go_enter Try.func39, Try.ntmps39
    go_wp2_with fail
    refine (HW.out (by trivial)).mono ?_
    rintro e w1 ⟨rfl, h1, k1⟩
    have HS1 : Hid (1 = 1 → Calls Try.prog 62 #[.pointer (some ⟨pb, 0, none⟩), .int .i64 a] w1 fun e w' => e = .returned (.int .i64 y) ∧ DrumAt pb D2 w' ∧ Drm.Kept pb w1 w') := fun _ => HS.out w1 h1
    clear h1
    go_wp2_with (go_at_call 62; refine (HS1.out (by trivial)).mono ?_; rintro e w2 ⟨rfl, h2, k2⟩)
    go_ret
    exact ⟨rfl, h2, k1.trans k2⟩
  · have hp : putF D a s = (x, D1) := by unfold putF; rw [hx]; simp [h0]
    rw [hp]
    dsimp only
    have hx' : (x != 0) = true := by simp [h0]
    clear hp hx hok1 hD hOk h0
    go_enter Try.func39, Try.ntmps39
    go_wp2_with (go_at_call 61; refine (HW.out (by trivial)).mono ?_; rintro e w1 ⟨rfl, h1, k1⟩)
    go_ret
    exact ⟨rfl, h1, k1⟩

theorem has_nat (D : Dr) (k : Nat) (hk : k < 4) : D.has k = (D.p k).there := by
  unfold Drm.Dr.has
  simp
  omega

theorem spare_first {D : Dr} {k : Nat} (hk : k < 4) (h : ∀ j, j < k → (D.p j).there = true) (hn : (D.p k).there = false) : spareF D = k := by
  unfold spareF
  rcases (by omega : k = 0 ∨ k = 1 ∨ k = 2 ∨ k = 3) with rfl | rfl | rfl | rfl
  · simp [hn]
  · simp [hn, h 0 (by omega)]
  · simp [hn, h 0 (by omega), h 1 (by omega)]
  · simp [hn, h 0 (by omega), h 1 (by omega), h 2 (by omega)]
theorem spare_all {D : Dr} (h : ∀ j, j < 4 → (D.p j).there = true) : spareF D = 4 := by
  unfold spareF
  simp [h 0 (by omega), h 1 (by omega), h 2 (by omega), h 3 (by omega)]

/-- What spare answers. -/
def spareV (D : Dr) : Value := if D.down = true then .tuple #[.int .i64 (-1), .int .i64 11] else if spareF D = 4 then .tuple #[.int .i64 (-1), .int .i64 10] else .tuple #[.int .i64 (spareF D), .int .i64 0]

set_option maxHeartbeats 800000 in
theorem spare44 (pb : Nat) (D : Dr) (w : World) (hD : DrumAt pb D w) : Calls Try.prog 44 #[.pointer (some ⟨pb, 0, none⟩)] w fun e w' => e = .returned (spareV D) ∧ w = w' := by
  obtain ⟨dn, hdn⟩ : ∃ dn, D.down = dn := ⟨_, rfl⟩
  have HD : Hid (1 = 1 → Calls Try.prog 24 #[.pointer (some ⟨pb, 0, none⟩)] w fun e w' => e = .returned (.bool dn) ∧ w = w') := fun _ => by
    obtain ⟨vs, h⟩ := hD
    exact hdn ▸ Drm.down13 pb _ w h.down
  have HH : Hid (∀ k : Nat, k < 4 → Calls Try.prog 37 #[.pointer (some ⟨pb, 0, none⟩), .int .i64 k] w fun e w' => e = .returned (.bool (D.p k).there) ∧ w = w') := fun k hk => by
    have := Drm.has15 pb D k w hD
    rw [has_nat D k hk] at this
    exact this
  cases dn with
  | true =>
    have hv : spareV D = .tuple #[.int .i64 (-1), .int .i64 11] := by unfold spareV; rw [if_pos hdn]
    rw [hv]
    clear hv hdn hD
    go_enter Try.func44, Try.ntmps44
    go_wp2_with (go_at_call 24; refine (HD.out (by trivial)).mono ?_; rintro e w1 ⟨rfl, rfl⟩)
    go_ret2
    exact ⟨rfl, rfl⟩
  | false =>
    have hv : spareV D = if spareF D = 4 then .tuple #[.int .i64 (-1), .int .i64 10] else .tuple #[.int .i64 (spareF D), .int .i64 0] := by unfold spareV; rw [if_neg (by rw [hdn]; decide)]
    obtain ⟨V, hV⟩ : ∃ V, spareV D = V := ⟨_, rfl⟩
    rw [hV]
    have HV : Hid _ := hV.symm.trans hv
    clear hv hdn hD hV
    go_enter Try.func44, Try.ntmps44
    go_wp2_with (go_at_call 24; refine (HD.out (by trivial)).mono ?_; rintro e w1 ⟨rfl, rfl⟩)
    go_loop [7] (fun i => ∃ k : Nat, k ≤ 4 ∧ i = .int .i64 k ∧ ∀ j, j < k → (D.p j).there = true) (fun i => 4 - (intOf i).toNat)
    case atStart => exact ⟨0, by omega, rfl, fun j hj => absurd hj (by omega)⟩
    case round =>
      obtain ⟨k, hk, rfl, hall⟩ := hrel
      have HA : Hid (∀ j, j < k → (D.p j).there = true) := hall
      clear hall
      by_cases hlt : k < 4
      · have HH1 : Hid (1 = 1 → Calls Try.prog 37 #[.pointer (some ⟨pb, 0, none⟩), .int .i64 k] w fun e w' => e = .returned (.bool (D.p k).there) ∧ w = w') := fun _ => HH.out k hlt
        obtain ⟨b, hb⟩ : ∃ b, (D.p k).there = b := ⟨_, rfl⟩
        rw [hb] at HH1
        have HB : Hid ((D.p k).there = b) := hb
        clear hb
        cases b with
        | true =>
          go_wp2_with (go_at_call 37; refine (HH1.out (by trivial)).mono ?_; rintro e w1 ⟨rfl, rfl⟩)
          go_round
          case rel =>
            refine ⟨k + 1, by omega, by go_num, fun j hj => ?_⟩
            by_cases hjk : j = k
            · subst hjk; exact HB.out
            · exact HA.out j (by omega)
          case measure => simp [intOf]; omega
        | false =>
          go_wp2_with (go_at_call 37; refine (HH1.out (by trivial)).mono ?_; rintro e w1 ⟨rfl, rfl⟩)
          go_ret2
          rw [HV.out, spare_first hlt HA.out HB.out, if_neg (by omega)]
          exact ⟨rfl, rfl⟩
      · have HE : Hid (k = 4) := (by omega : k = 4)
        go_wp2
        go_ret2
        rw [HV.out, spare_all (fun j hj => HA.out j (by rw [HE.out]; exact hj)), if_pos rfl]
        exact ⟨rfl, rfl⟩

theorem cutTo_ok {D : Dr} (h : D.Ok) (kept : Int) (k : Nat) : (cutTo D kept k).2.Ok := by
  induction k with
  | zero => exact h
  | succ k ih =>
    rw [cutTo]
    split
    · exact ih
    · split
      · exact ih
      · exact ih.cut _
theorem cutTo_err {D : Dr} {kept : Int} {k : Nat} (h : (cutTo D kept k).1 ≠ 0) (n : Nat) : cutTo D kept (k + n) = cutTo D kept k := by
  induction n with
  | zero => rfl
  | succ n ih => rw [← Nat.add_assoc, cutTo, ih, if_pos h]
theorem cutTo_four {D : Dr} {kept : Int} {k : Nat} (hk : k ≤ 4) (h : (cutTo D kept k).1 ≠ 0) : cutTo D kept 4 = cutTo D kept k := by
  have := cutTo_err h (4 - k)
  rwa [Nat.add_sub_of_le hk] at this

set_option maxHeartbeats 800000 in
theorem cut27 (pb : Nat) (D : Dr) (kept : Int) (w : World) (hD : DrumAt pb D w) (hOk : D.Ok) : Calls Try.prog 27 #[.pointer (some ⟨pb, 0, none⟩), .int .i64 kept] w fun e w' => e = .returned (.int .i64 (cutTo D kept 4).1) ∧ DrumAt pb (cutTo D kept 4).2 w' ∧ Drm.Kept pb w w' := by
  have H0 : Hid (DrumAt pb D w ∧ D.Ok) := ⟨hD, hOk⟩
  clear hD hOk
  go_enter Try.func27, Try.ntmps27
  go_wp2_with fail
  go_loopw [7] (fun i wr => ∃ k : Nat, k ≤ 4 ∧ i = .int .i64 k ∧ (cutTo D kept k).1 = 0 ∧ DrumAt pb (cutTo D kept k).2 wr ∧ Drm.Kept pb w wr) (fun i _ => 4 - (intOf i).toNat)
  case atStart => exact ⟨0, by omega, rfl, rfl, H0.out.1, Drm.Kept.refl _ _⟩
  case round =>
    obtain ⟨k, hk, rfl, he, hwr, hkept⟩ := hrel
    have HR : Hid (DrumAt pb (cutTo D kept k).2 wr ∧ Drm.Kept pb w wr ∧ (cutTo D kept k).1 = 0) := ⟨hwr, hkept, he⟩
    clear hwr hkept he
    by_cases hlt : k < 4
    · have hsucc : cutTo D kept (k + 1) = if (k : Int) = kept ∨ (cutTo D kept k).2.has k = false then cutTo D kept k else (cutTo D kept k).2.cut k := by
        rw [cutTo, if_neg (by rw [HR.out.2.2]; simp)]
      have hok := cutTo_ok H0.out.2 kept k
      by_cases hkk : (k : Int) = kept
      · have hs : cutTo D kept (k + 1) = cutTo D kept k := by rw [hsucc, if_pos (.inl hkk)]
        have HS : Hid _ := hs
        have hb : ((k : Int) == kept) = true := by simp [hkk]
        clear hsucc hok hs hkk
        go_wp2_with fail
        go_roundw
        case rel => exact ⟨k + 1, by omega, by go_num, by rw [HS.out]; exact HR.out.2.2, by rw [HS.out]; exact HR.out.1, HR.out.2.1⟩
        case measure => simp [intOf]; omega
      · have hb : ((k : Int) == kept) = false := by simp [hkk]
        obtain ⟨D1, hD1⟩ : ∃ D1, (cutTo D kept k).2 = D1 := ⟨_, rfl⟩
        have HH : Hid (1 = 1 → Calls Try.prog 37 #[.pointer (some ⟨pb, 0, none⟩), .int .i64 k] wr fun e w' => e = .returned (.bool (D1.has k)) ∧ wr = w') := fun _ => hD1 ▸ Drm.has15 pb _ k wr HR.out.1
        have HCt : Hid (1 = 1 → Calls Try.prog 45 #[.pointer (some ⟨pb, 0, none⟩), .int .i64 k] wr fun e w' => e = .returned (.int .i64 (D1.cut k).1) ∧ DrumAt pb (D1.cut k).2 w' ∧ Drm.Kept pb wr w') := fun _ => hD1 ▸ Drm.cut38 pb _ k wr HR.out.1 hok
        rw [hD1] at hsucc
        have HD1 : Hid _ := hD1
        clear hD1 hok
        obtain ⟨hh, hhh⟩ : ∃ hh, D1.has k = hh := ⟨_, rfl⟩
        rw [hhh] at HH hsucc
        clear hhh
        cases hh with
        | false =>
          have hs : cutTo D kept (k + 1) = cutTo D kept k := by rw [hsucc, if_pos (.inr rfl)]
          have HS : Hid _ := hs
          clear hsucc hs hkk HCt
          go_wp2_with (go_at_call 37; refine (HH.out (by trivial)).mono ?_; rintro e w1 ⟨rfl, rfl⟩)
          go_roundw
          case rel => exact ⟨k + 1, by omega, by go_num, by rw [HS.out]; exact HR.out.2.2, by rw [HS.out]; exact HR.out.1, HR.out.2.1⟩
          case measure => simp [intOf]; omega
        | true =>
          have hs : cutTo D kept (k + 1) = D1.cut k := by rw [hsucc, if_neg (by simp [hkk])]
          obtain ⟨x, D2, hx⟩ : ∃ x D2, D1.cut k = (x, D2) := ⟨_, _, rfl⟩
          rw [hx] at hs HCt
          have HS : Hid _ := hs
          clear hsucc hs hkk hx
          by_cases hx0 : x = 0
          · subst hx0
            go_wp2_with (first
              | (go_at_call 37; refine (HH.out (by trivial)).mono ?_; rintro e w1 ⟨rfl, rfl⟩)
              | (go_at_call 45; refine (HCt.out (by trivial)).mono ?_; rintro e w1 ⟨rfl, h1, k1⟩; have H1 : Hid _ := And.intro h1 k1; clear h1 k1))
            go_roundw
            case rel => exact ⟨k + 1, by omega, by go_num, by rw [HS.out], by rw [HS.out]; exact H1.out.1, HR.out.2.1.trans H1.out.2⟩
            case measure => simp [intOf]; omega
          · have hx' : (x != 0) = true := by simp [hx0]
            have HX : Hid (x ≠ 0) := hx0
            clear hx0
            go_wp2_with (first
              | (go_at_call 37; refine (HH.out (by trivial)).mono ?_; rintro e w1 ⟨rfl, rfl⟩)
              | (go_at_call 45; refine (HCt.out (by trivial)).mono ?_; rintro e w1 ⟨rfl, h1, k1⟩; have H1 : Hid _ := And.intro h1 k1; clear h1 k1))
            go_ret
            rw [cutTo_four (k := k + 1) (by omega) (by rw [HS.out]; exact HX.out), HS.out]
            exact ⟨rfl, H1.out.1, HR.out.2.1.trans H1.out.2⟩
    · have HE : Hid (k = 4) := (by omega : k = 4)
      go_wp2
      go_ret
      obtain ⟨h1, h2, h3⟩ := HR.out
      rw [HE.out] at h1 h3
      rw [h3]
      exact ⟨rfl, h1, h2⟩

end Go.Proofs.Ytjjdmeemhgopbaa
