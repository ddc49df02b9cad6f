/-
  The document's Trim.
-/
import Derived.Test.YtlgmnjjjaplgcaaRefSteps
namespace Go.Proofs.Ytlgmnjjjaplgcaa
open Go.RowKit

set_option maxHeartbeats 800000 in
theorem rtrim18 (rb : Nat) (D : Dr) (a m : Int) (w : World) (hD : RefAt rb D w) (hOk : D.Ok) : Calls Try.prog 18 #[.pointer (some ⟨rb, 0, none⟩), .int .i64 a, .int .i64 m] w fun e w' => e = .returned (.int .i64 (D.trim a m).1) ∧ RefAt rb (D.trim a m).2 w' ∧ Sole rb w w' := by
  have HT : Hid (1 = 1 → Calls Try.prog 37 #[.pointer (some ⟨rb, 0, none⟩), .int .i64 a] w fun e w' => e = .returned (.int .i64 (D.thr a)) ∧ w = w') := fun _ => there37 rb D a w hD
  have HD : Hid (RefAt rb D w) := hD
  by_cases ht : D.thr a = 0
  · rw [ht] at HT
    obtain ⟨hd, n, rfl, hn, hth⟩ := thr_zero ht
    have h1 : (n : Int) < 4 := by omega
    by_cases hm : m < 0
    · have hs : D.trim n m = (1, D) := by
        rw [Dr.trim, step_goes _ _ hd hn, if_pos (by simp [hth, hm])]
        simp [hth, hm]
      rw [hs]
      clear hs hd ht hth hD hOk
      go_enter Try.func18, Try.ntmps18
      go_wp2_with (go_at_call 37; refine (HT.out (by trivial)).mono ?_; rintro e w1 ⟨rfl, rfl⟩)
      go_ret
      exact ⟨rfl, HD.out, Sole.refl _ _⟩
    have hs : D.trim n m = if D.fuel = 0 then (11, { D with down := true }) else (0, D.burn.set n ((D.p n).settle m.toNat)) := by
      rw [Dr.trim, step_goes _ _ hd hn, if_neg (by simp [hth, hm])]
    rw [hs]
    clear hs hd ht
    obtain ⟨m, rfl⟩ := Int.eq_ofNat_of_zero_le (by omega : 0 ≤ m)
    rw [Int.toNat_natCast]
    by_cases hf : D.fuel = 0
    · rw [if_pos hf]
      have HB : Hid (1 = 1 → Calls Try.prog 36 #[.pointer (some ⟨rb, 0, none⟩)] w fun e w' => e = .returned (.bool false) ∧ RefAt rb { D with down := true } w' ∧ Sole rb w w') := fun _ => burn36_no rb D w hD hf
      clear hf hD hOk hth
      go_enter Try.func18, Try.ntmps18
      go_wp2_with (first | (go_at_call 37; refine (HT.out (by trivial)).mono ?_; rintro e w1 ⟨rfl, rfl⟩) | (go_at_call 36; refine (HB.out (by trivial)).mono ?_; rintro e w2 ⟨rfl, h2, k2⟩; have H2 : Hid _ := And.intro h2 k2; clear h2 k2))
      go_ret
      exact ⟨rfl, H2.out⟩
    · rw [if_neg hf]
      have HB : Hid (1 = 1 → Calls Try.prog 36 #[.pointer (some ⟨rb, 0, none⟩)] w fun e w' => e = .returned (.bool true) ∧ RefAt rb D.burn w' ∧ Sole rb w w') := fun _ => burn36 rb D w hD hOk hf
      have hcc := cat_fits hOk n hn
      have HE : Hid (bs ((D.p n).l.take (D.p n).sure) ++ bs ((D.p n).l.drop (D.p n).sure) = bs (D.p n).l ∧ D.burn.p = D.p) := by
        show _ ∧ _
        exact ⟨by rw [bs_append, List.take_append_drop], rfl⟩
      have HQ : Hid ((m ≤ (D.p n).l.length → (D.p n).settle m = ⟨true, (D.p n).l.take m, m⟩) ∧ ((D.p n).l.length < m → (D.p n).settle m = ⟨true, (D.p n).l, (D.p n).l.length⟩)) := by
        show _ ∧ _
        refine ⟨fun h => ?_, fun h => ?_⟩
        · simp only [Pt.settle, hth, Pt.mk.injEq, true_and]
          omega
        · simp only [Pt.settle, hth, Pt.mk.injEq, true_and]
          exact ⟨List.take_of_length_le (by omega), by omega⟩
      have hsz := bs_size (D.p n).l
      have hex := bs_take (D.p n).l m
      have hlen : (D.p n).l.length ≤ 1048576 := by have := hOk.fits; have := hOk.room1; have := D.len_le_used n hn; omega
      clear hf hD hOk hth
      go_enter Try.func18, Try.ntmps18
      go_wp2_with (first | (go_at_call 37; refine (HT.out (by trivial)).mono ?_; rintro e w1 ⟨rfl, rfl⟩) | (go_at_call 36; refine (HB.out (by trivial)).mono ?_; rintro e w2 ⟨rfl, h2, k2⟩; have H2 : Hid (RefAt rb D.burn w2 ∧ Sole rb w w2) := And.intro h2 k2; have z0 := h2.there n hn; have z1 := h2.sure n hn; have z2 := h2.pend n hn; have z3 := h2.free; rw [HE.out.2] at z0 z1 z2; clear h2 k2))
      generalize (D.p n).l.take (D.p n).sure = la at *
      generalize (D.p n).l.drop (D.p n).sure = lb at *
      go_region
      rw [HE.out.1]
      generalize (D.p n).l = l at *
      by_cases hml : m ≤ l.length
      · have hml' : ¬ (l.length : Int) < m := by omega
        have HR : Hid (RefAt rb D.burn w2.drew.drew ∧ Sole rb w w2.drew.drew) := ⟨H2.out.1.on ((Below.refl _ _).drew.drew), H2.out.2.drew.drew⟩
        go_wp2_with fail
        go_region
        go_wp2
        go_ret
        have hP := HR.out.1.put n hn ⟨true, l.take m, m⟩
        rw [← HQ.out.1 hml] at hP
        rw [show ((D.p n).settle m).there = true from by rw [HQ.out.1 hml], show ((D.p n).settle m).l.take ((D.p n).settle m).sure = l.take m from by rw [HQ.out.1 hml, List.take_take, Nat.min_self], show ((D.p n).settle m).l.drop ((D.p n).settle m).sure = [] from by rw [HQ.out.1 hml]; simp] at hP
        exact ⟨rfl, hP, ((HR.out.2.set _ _).set _ _).set _ _⟩
      · have hml' : (l.length : Int) < m := by omega
        have HR : Hid (RefAt rb D.burn w2.drew.drew ∧ Sole rb w w2.drew.drew) := ⟨H2.out.1.on ((Below.refl _ _).drew.drew), H2.out.2.drew.drew⟩
        have hex2 := bs_take l l.length
        rw [List.take_length] at hex2
        go_wp2_with fail
        go_region
        go_wp2
        go_ret
        have hml2 : l.length < m := by omega
        have hP := HR.out.1.put n hn ⟨true, l, l.length⟩
        rw [← HQ.out.2 hml2] at hP
        rw [show ((D.p n).settle m).there = true from by rw [HQ.out.2 hml2], show ((D.p n).settle m).l.take ((D.p n).settle m).sure = l from by rw [HQ.out.2 hml2]; simp, show ((D.p n).settle m).l.drop ((D.p n).settle m).sure = [] from by rw [HQ.out.2 hml2]; simp] at hP
        exact ⟨rfl, hP, ((HR.out.2.set _ _).set _ _).set _ _⟩
  · have hs : D.trim a m = (D.thr a, D) := step_refused _ _ ht (fun q hq => by simp [hq])
    rw [hs]
    have hb : (D.thr a == 0) = false := by simp [ht]
    clear hs ht hD hOk
    generalize D.thr a = r at *
    go_enter Try.func18, Try.ntmps18
    go_wp2_with (go_at_call 37; refine (HT.out (by trivial)).mono ?_; rintro e w1 ⟨rfl, rfl⟩)
    go_ret
    exact ⟨rfl, HD.out, Sole.refl _ _⟩

end Go.Proofs.Ytlgmnjjjaplgcaa
