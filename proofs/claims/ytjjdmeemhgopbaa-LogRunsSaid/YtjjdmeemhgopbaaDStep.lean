/-
  The one way in of all steps, whatever it is told by closures.
-/
import Derived.Test.YtjjdmeemhgopbaaDWrite
import Derived.Shelf.Abstract
namespace Go.Proofs.Ytjjdmeemhgopbaa.Drm
open Go.RowKit

set_option maxHeartbeats 800000 in
theorem step31 (pb : Nat) (D : Dr) (a : Int) (f g : Nat) (cf cg : Array Value) (refuse : Pt → Int) (act : Pt → Pt) (w : World) (hD : DrumAt pb D w) (hOk : D.Ok)
    (ef : ∀ args w, (callFunc f args).run Try.prog w = .ok (.enter f args) w) (eg : ∀ args w, (callFunc g args).run Try.prog w = .ok (.enter g args) w)
    (HR : Hid (1 = 1 → ∀ n : Nat, n < 4 → Calls Try.prog f (#[.pointer (some ⟨pb, n * 3, none⟩)] ++ cf) w fun e w' => e = .returned (.int .i64 (refuse (D.p n))) ∧ Below w.heap.size w w'))
    (HA : Hid (1 = 1 → ∀ n : Nat, n < 4 → refuse (D.p n) = 0 → ∀ w2 D2, DrumAt pb D2 w2 → D2.p = D.p → (∀ k o, k ≠ pb → w.heap[k]? = some o → w2.heap[k]? = some o) →
      Calls Try.prog g (#[.pointer (some ⟨pb, n * 3, none⟩)] ++ cg) w2 fun e w' => e = .returned (.tuple #[]) ∧ DrumAt pb (D2.set n (act (D2.p n))) w' ∧ Kept pb w2 w')) :
    Calls Try.prog 49 #[.pointer (some ⟨pb, 0, none⟩), .int .i64 a, .func (.func f) #[] cf, .func (.func g) #[] cg] w fun e w' => e = .returned (.int .i64 (D.step a refuse act).1) ∧ DrumAt pb (D.step a refuse act).2 w' ∧ Kept pb w w' := by
  obtain ⟨vs, hD⟩ := hD
  have HD : Hid (DrumIn pb D vs w) := hD
  have hdn := hD.down
  clear hD
  obtain ⟨dn, hdn'⟩ : ∃ dn, D.down = dn := ⟨_, rfl⟩
  rw [hdn'] at hdn
  have HN : Hid (D.down = dn) := hdn'
  clear hdn'
  cases dn with
  | true =>
    have hst : D.step a refuse act = (11, D) := by rw [Dr.step, if_pos HN.out]
    rw [hst]
    clear hst
    go_enter Try.func49, Try.ntmps49
    go_wp2_with (go_at_call 24; refine (down13 pb _ _ hdn).mono ?_; rintro e w1 ⟨rfl, rfl⟩)
    go_ret
    exact ⟨rfl, ⟨vs, HD.out⟩, Kept.refl _ _⟩
  | false =>
    by_cases h : 0 ≤ a ∧ a < 4
    · obtain ⟨h0, h1⟩ := h
      obtain ⟨n, rfl⟩ := Int.eq_ofNat_of_zero_le h0
      have hn : n < 4 := by omega
      have HC : Hid (1 = 1 → Calls Try.prog f (#[.pointer (some ⟨pb, n * 3, none⟩)] ++ cf) w fun e w' => e = .returned (.int .i64 (refuse (D.p n))) ∧ Below w.heap.size w w') := fun _ => HR.out rfl n hn
      obtain ⟨r, hr⟩ : ∃ r, refuse (D.p n) = r := ⟨_, rfl⟩
      rw [hr] at HC
      have HX : Hid (refuse (D.p n) = r) := hr
      clear hr HR
      by_cases hr0 : r = 0
      · subst hr0
        obtain ⟨fu, hfu⟩ : ∃ fu, D.fuel = fu := ⟨_, rfl⟩
        have hb0 := hOk.fuel0
        have hb9 := hOk.fuel1
        rw [hfu] at hb0 hb9
        have HFU : Hid (D.fuel = fu) := hfu
        clear hfu
        by_cases hf0 : fu = 0
        · have hst : D.step n refuse act = (11, { D with down := true }) := by
            have := HX.out
            simp only [Dr.step, HN.out, Int.toNat_natCast, this]
            rw [if_neg (by decide), if_neg (by omega), if_neg (by simp), if_pos (by rw [HFU.out]; exact hf0)]
          rw [hst]
          subst hf0
          clear hst
          go_enter Try.func49, Try.ntmps49
          go_wp2_with (first | (go_at_call 24; refine (down13 pb _ _ hdn).mono ?_; rintro e w1 ⟨rfl, rfl⟩) | (go_at_call 60; refine (num29_yes _ _ h0 h1).mono ?_; rintro e w1 ⟨rfl, rfl⟩))
          refine (HC.out (by trivial)).mono ?_
          rintro e w1 ⟨rfl, hb1⟩
          have H1 : Hid (DrumIn pb D vs w1 ∧ Below w.heap.size w w1) := ⟨HD.out.on hb1, hb1⟩
          have hf1 := H1.out.1.fuel
          have hd1 := H1.out.1.down
          have hz1 := H1.out.1.free
          rw [HFU.out] at hf1
          clear hb1
          go_wp2
          go_ret
          exact ⟨rfl, ⟨vs, H1.out.1.set_down true⟩, (⟨H1.out.2.mono (Nat.le_of_lt HD.out.lt), fun k o ho _ _ => by rw [H1.out.2.block k (lt_of_block ho), ho]⟩ : Kept pb w w1).set _ _⟩
        · have hst : D.step n refuse act = (0, D.burn.set n (act (D.p n))) := by
            have := HX.out
            simp only [Dr.step, HN.out, Int.toNat_natCast, this]
            rw [if_neg (by decide), if_neg (by omega), if_neg (by simp), if_neg (by rw [HFU.out]; exact hf0)]
          rw [hst]
          clear hst
          by_cases hfp : 0 < fu
          · have HBU : Hid ({ D with fuel := fu - 1 } = D.burn) := by
              show _ = _
              simp [Dr.burn, HFU.out, hfp]
            have hfb : (fu == 0) = false := by simp [hf0]
            clear hf0
            go_enter Try.func49, Try.ntmps49
            go_wp2_with (first | (go_at_call 24; refine (down13 pb _ _ hdn).mono ?_; rintro e w1 ⟨rfl, rfl⟩) | (go_at_call 60; refine (num29_yes _ _ h0 h1).mono ?_; rintro e w1 ⟨rfl, rfl⟩))
            refine (HC.out (by trivial)).mono ?_
            rintro e w1 ⟨rfl, hb1⟩
            have H1 : Hid (DrumIn pb D vs w1 ∧ Below w.heap.size w w1) := ⟨HD.out.on hb1, hb1⟩
            have hf1 := H1.out.1.fuel
            have hd1 := H1.out.1.down
            have hz1 := H1.out.1.free
            rw [HFU.out] at hf1
            clear hb1
            go_wp2_with fail
            have hD2 := H1.out.1.set_fuel (fu - 1)
            rw [HBU.out] at hD2
            have hk2 : Kept pb w (w1.setCell ⟨pb, 13, none⟩ (.int .i64 (fu - 1))) := (⟨H1.out.2.mono (Nat.le_of_lt HD.out.lt), fun k o ho _ _ => by rw [H1.out.2.block k (lt_of_block ho), ho]⟩ : Kept pb w w1).set _ _
            refine (HA.out (by trivial) n hn HX.out _ _ ⟨vs, hD2⟩ rfl (fun k o hk ho => by rw [Below.heap_setCell _ _ _ _ hk, H1.out.2.block k (lt_of_block ho), ho])).mono ?_
            rintro e w3 ⟨rfl, h3, hk3⟩
            have H3 : Hid (DrumAt pb (D.burn.set n (act (D.p n))) w3 ∧ Kept pb w w3) := ⟨h3, hk2.trans hk3⟩
            clear h3 hk3 hk2 hD2
            go_wp2
            go_ret
            exact ⟨rfl, H3.out⟩
          · have HBU : Hid (D = D.burn) := by
              show _ = _
              unfold Dr.burn
              rw [if_neg (by rw [HFU.out]; exact hfp)]
            have hfb : (fu == 0) = false := by simp [hf0]
            clear hf0
            go_enter Try.func49, Try.ntmps49
            go_wp2_with (first | (go_at_call 24; refine (down13 pb _ _ hdn).mono ?_; rintro e w1 ⟨rfl, rfl⟩) | (go_at_call 60; refine (num29_yes _ _ h0 h1).mono ?_; rintro e w1 ⟨rfl, rfl⟩))
            refine (HC.out (by trivial)).mono ?_
            rintro e w1 ⟨rfl, hb1⟩
            have H1 : Hid (DrumIn pb D vs w1 ∧ Below w.heap.size w w1) := ⟨HD.out.on hb1, hb1⟩
            have hf1 := H1.out.1.fuel
            have hd1 := H1.out.1.down
            have hz1 := H1.out.1.free
            rw [HFU.out] at hf1
            clear hb1
            go_wp2_with fail
            have hD2 : DrumAt pb D.burn w1 := ⟨vs, by rw [← HBU.out]; exact H1.out.1⟩
            have hk2 : Kept pb w w1 := ⟨H1.out.2.mono (Nat.le_of_lt HD.out.lt), fun k o ho _ _ => by rw [H1.out.2.block k (lt_of_block ho), ho]⟩
            refine (HA.out (by trivial) n hn HX.out _ _ hD2 rfl (fun k o hk ho => by rw [H1.out.2.block k (lt_of_block ho), ho])).mono ?_
            rintro e w3 ⟨rfl, h3, hk3⟩
            have H3 : Hid (DrumAt pb (D.burn.set n (act (D.p n))) w3 ∧ Kept pb w w3) := ⟨h3, hk2.trans hk3⟩
            clear h3 hk3 hk2 hD2
            go_wp2
            go_ret
            exact ⟨rfl, H3.out⟩
      · have hst : D.step n refuse act = (r, D) := by
          have := HX.out
          simp only [Dr.step, HN.out, Int.toNat_natCast, this]
          rw [if_neg (by decide), if_neg (by omega), if_pos hr0]
        rw [hst]
        have hrb : (r == 0) = false := by simp [hr0]
        clear hst hr0
        go_enter Try.func49, Try.ntmps49
        go_wp2_with (first | (go_at_call 24; refine (down13 pb _ _ hdn).mono ?_; rintro e w1 ⟨rfl, rfl⟩) | (go_at_call 60; refine (num29_yes _ _ h0 h1).mono ?_; rintro e w1 ⟨rfl, rfl⟩))
        refine (HC.out (by trivial)).mono ?_
        rintro e w1 ⟨rfl, hb1⟩
        go_wp2
        go_ret
        exact ⟨rfl, DrumAt.on ⟨vs, HD.out⟩ hb1, ⟨hb1.mono (Nat.le_of_lt HD.out.lt), fun k o ho _ _ => by rw [hb1.block k (lt_of_block ho), ho]⟩⟩
    · have hst : D.step a refuse act = (1, D) := by rw [Dr.step, HN.out, if_neg (by decide), if_pos h]
      rw [hst]
      clear hst
      go_enter Try.func49, Try.ntmps49
      go_wp2_with (first | (go_at_call 24; refine (down13 pb _ _ hdn).mono ?_; rintro e w1 ⟨rfl, rfl⟩) | (go_at_call 60; refine (num29_no _ _ h).mono ?_; rintro e w1 ⟨rfl, rfl⟩))
      go_ret
      exact ⟨rfl, ⟨vs, HD.out⟩, Kept.refl _ _⟩

theorem ent32 : Enters Try.prog 70 := enters_of Try.func70 (by kernel_rfl) rfl
theorem ent33 : Enters Try.prog 71 := enters_of Try.func71 (by kernel_rfl) rfl
theorem ent34 : Enters Try.prog 77 := enters_of Try.func77 (by kernel_rfl) rfl
theorem ent35 : Enters Try.prog 78 := enters_of Try.func78 (by kernel_rfl) rfl
theorem ent41 : Enters Try.prog 79 := enters_of Try.func79 (by kernel_rfl) rfl
theorem ent42 : Enters Try.prog 80 := enters_of Try.func80 (by kernel_rfl) rfl
theorem ent43 : Enters Try.prog 66 := enters_of Try.func66 (by kernel_rfl) rfl
theorem ent44 : Enters Try.prog 67 := enters_of Try.func67 (by kernel_rfl) rfl
theorem ent45 : Enters Try.prog 50 := enters_of Try.func50 (by kernel_rfl) rfl
theorem ent46 : Enters Try.prog 52 := enters_of Try.func52 (by kernel_rfl) rfl

set_option maxHeartbeats 400000 in
theorem step31_nil (a : Int) (u v : Value) (w : World) : Calls Try.prog 49 #[.pointer none, .int .i64 a, u, v] w fun e w' => e = .returned (.int .i64 11) ∧ w = w' := by
  go_enter Try.func49, Try.ntmps49
  go_wp2_with (go_at_call 24; refine (down13_nil _).mono ?_; rintro e w1 ⟨rfl, rfl⟩)
  go_ret
  exact ⟨rfl, rfl⟩

end Go.Proofs.Ytjjdmeemhgopbaa.Drm
