/-
  The document's Lay and Write.
-/
import Derived.Test.YtlgmnjjjaplgcaaRefTrim
namespace Go.Proofs.Ytlgmnjjjaplgcaa
open Go.RowKit

set_option maxHeartbeats 600000 in
theorem rlay16 (rb : Nat) (D : Dr) (a : Int) (w : World) (hD : RefAt rb D w) (hOk : D.Ok) : Calls Try.prog 16 #[.pointer (some ⟨rb, 0, none⟩), .int .i64 a] w fun e w' => e = .returned (.int .i64 (D.lay a).1) ∧ RefAt rb (D.lay a).2 w' ∧ Sole rb w w' := by
  have HD : Hid (RefAt rb D w) := hD
  have hdn := hD.down
  obtain ⟨dn, hdn'⟩ : ∃ dn, D.down = dn := ⟨_, rfl⟩
  rw [hdn'] at hdn
  cases dn with
  | true =>
    have hs : D.lay a = (11, D) := step_down hdn' _ _ _
    rw [hs]
    clear hs hdn' hD hOk
    go_enter Try.func16, Try.ntmps16
    go_wp2
    go_ret
    exact ⟨rfl, HD.out, Sole.refl _ _⟩
  | false =>
    by_cases h : 0 ≤ a ∧ a < 4
    · obtain ⟨h0, h1⟩ := h
      obtain ⟨n, rfl⟩ := Int.eq_ofNat_of_zero_le h0
      have hn : n < 4 := by omega
      have hth := hD.there n hn
      obtain ⟨b, hb⟩ : ∃ b, (D.p n).there = b := ⟨_, rfl⟩
      rw [hb] at hth
      cases b with
      | true =>
        have hs : D.lay n = (1, D) := by
          rw [Dr.lay, step_goes _ _ hdn' hn, if_pos (by simp [hb])]
          simp [hb]
        rw [hs]
        clear hs hdn' hD hOk hb
        go_enter Try.func16, Try.ntmps16
        go_wp2
        go_ret
        exact ⟨rfl, HD.out, Sole.refl _ _⟩
      | false =>
        have hl := hOk.gone n hb
        have hsu : (D.p n).sure = 0 := by have := hOk.sure n; rw [hl] at this; simpa using this
        have hs : D.lay n = if D.fuel = 0 then (11, { D with down := true }) else (0, D.burn.set n ⟨true, [], 0⟩) := by
          rw [Dr.lay, step_goes _ _ hdn' hn, if_neg (by simp [hb])]
          simp only [hl, hsu]
        rw [hs]
        clear hs hdn' hb hl hsu
        by_cases hf : D.fuel = 0
        · rw [if_pos hf]
          have HB : Hid (1 = 1 → Calls Try.prog 36 #[.pointer (some ⟨rb, 0, none⟩)] w fun e w' => e = .returned (.bool false) ∧ RefAt rb { D with down := true } w' ∧ Sole rb w w') := fun _ => burn36_no rb D w hD hf
          clear hf hD hOk
          go_enter Try.func16, Try.ntmps16
          go_wp2_with (go_at_call 36; refine (HB.out (by trivial)).mono ?_; rintro e w2 ⟨rfl, h2, k2⟩; have H2 : Hid _ := And.intro h2 k2; clear h2 k2)
          go_ret
          exact ⟨rfl, H2.out⟩
        · rw [if_neg hf]
          have HB : Hid (1 = 1 → Calls Try.prog 36 #[.pointer (some ⟨rb, 0, none⟩)] w fun e w' => e = .returned (.bool true) ∧ RefAt rb D.burn w' ∧ Sole rb w w') := fun _ => burn36 rb D w hD hOk hf
          clear hf hD hOk
          go_enter Try.func16, Try.ntmps16
          go_wp2_with (go_at_call 36; refine (HB.out (by trivial)).mono ?_; rintro e w2 ⟨rfl, h2, k2⟩; have H2 : Hid (RefAt rb D.burn w2 ∧ Sole rb w w2) := And.intro h2 k2; have z0 := h2.there n hn; have z1 := h2.sure n hn; have z2 := h2.pend n hn; have z3 := h2.free; clear h2 k2)
          go_ret
          exact ⟨rfl, H2.out.1.put n hn ⟨true, [], 0⟩, ((H2.out.2.set _ _).set _ _).set _ _⟩
    · have hs : D.lay a = (1, D) := by rw [Dr.lay, Dr.step, hdn', if_neg (by decide), if_pos h]
      rw [hs]
      clear hs hdn' hD hOk
      by_cases h0 : 0 ≤ a
      · have h1 : 4 ≤ a := by omega
        clear h
        go_enter Try.func16, Try.ntmps16
        go_wp2
        go_ret
        exact ⟨rfl, HD.out, Sole.refl _ _⟩
      · have h1 : a < 0 := by omega
        clear h h0
        go_enter Try.func16, Try.ntmps16
        go_wp2
        go_ret
        exact ⟨rfl, HD.out, Sole.refl _ _⟩

set_option maxHeartbeats 800000 in
theorem rwrite19 (rb : Nat) (D : Dr) (a : Int) (s : List UInt8) (w : World) (hD : RefAt rb D w) (hOk : D.Ok) (hsl : s.length ≤ 140737488355328) : Calls Try.prog 19 #[.pointer (some ⟨rb, 0, none⟩), .int .i64 a, .string (bs s)] w fun e w' => e = .returned (.int .i64 (D.write a s).1) ∧ RefAt rb (D.write a s).2 w' ∧ Sole rb w w' := by
  have HT : Hid (1 = 1 → Calls Try.prog 37 #[.pointer (some ⟨rb, 0, none⟩), .int .i64 a] w fun e w' => e = .returned (.int .i64 (D.thr a)) ∧ w = w') := fun _ => there37 rb D a w hD
  have HD : Hid (RefAt rb D w) := hD
  by_cases ht : D.thr a = 0
  · rw [ht] at HT
    obtain ⟨hd, n, rfl, hn, hth⟩ := thr_zero ht
    have h1 : (n : Int) < 4 := by omega
    have hroom := hD.room
    have hsz := bs_size s
    have hfit := hOk.fits
    have hr1 := hOk.room1
    have HU : Hid (1 = 1 → ∀ q, Calls Try.prog 23 #[.pointer (some ⟨rb, 0, none⟩)] (w.drewN q) fun e w' => e = .returned (.int .i64 D.used) ∧ ∃ m, w' = (w.drewN q).drewN m) := fun _ q => rused23 rb D _ (hD.on (below_drewN (Below.refl _ _) q)) hOk
    by_cases hfull : D.room - D.used < s.length
    · have hs : D.write n s = (10, D) := by
        rw [Dr.write, step_goes _ _ hd hn, if_pos (by simp [hth, hfull])]
        simp [hth, hfull]
      rw [hs]
      clear hs hd ht hth hD hOk
      generalize D.used = used at *
      generalize D.room = room at *
      go_enter Try.func19, Try.ntmps19
      go_wp2_with (go_at_call 37; refine (HT.out (by trivial)).mono ?_; rintro e w1 ⟨rfl, rfl⟩)
      go_quiet ((go_at_call 23; exact Calls.quiet_of (HU.out (by trivial) _)))
      have hfull' : room < (used : Int) + s.length := by omega
      go_wp2
      go_ret
      exact ⟨rfl, HD.out.on (below_drewN (Below.refl _ _) _), Sole.of_below (below_drewN (Below.refl _ _) _)⟩
    have hs : D.write n s = if D.fuel = 0 then (11, { D with down := true }) else (0, D.burn.set n ⟨true, (D.p n).l ++ s, (D.p n).sure⟩) := by
      rw [Dr.write, step_goes _ _ hd hn, if_neg (by simp [hth, hfull])]
      simp only [hth]
    rw [hs]
    clear hs hd ht
    have hfull' : ¬ D.room < (D.used : Int) + s.length := by omega
    by_cases hf : D.fuel = 0
    · rw [if_pos hf]
      have HB : Hid (1 = 1 → ∀ q, Calls Try.prog 36 #[.pointer (some ⟨rb, 0, none⟩)] (w.drewN q) fun e w' => e = .returned (.bool false) ∧ RefAt rb { D with down := true } w' ∧ Sole rb (w.drewN q) w') := fun _ q => burn36_no rb D _ (hD.on (below_drewN (Below.refl _ _) q)) hf
      clear hf hD hOk hth hfull
      generalize D.used = used at *
      generalize D.room = room at *
      go_enter Try.func19, Try.ntmps19
      go_wp2_with (go_at_call 37; refine (HT.out (by trivial)).mono ?_; rintro e w1 ⟨rfl, rfl⟩)
      go_quiet ((go_at_call 23; exact Calls.quiet_of (HU.out (by trivial) _)))
      go_wp2_with (go_at_call 36; refine (HB.out (by trivial) _).mono ?_; rintro e w2 ⟨rfl, h2, k2⟩; have H2 : Hid _ := And.intro h2 k2; clear h2 k2)
      go_ret
      exact ⟨rfl, H2.out.1, (Sole.of_below (below_drewN (Below.refl _ _) _)).trans H2.out.2⟩
    · rw [if_neg hf]
      have HB : Hid (1 = 1 → ∀ q, Calls Try.prog 36 #[.pointer (some ⟨rb, 0, none⟩)] (w.drewN q) fun e w' => e = .returned (.bool true) ∧ RefAt rb D.burn w' ∧ Sole rb (w.drewN q) w') := fun _ q => burn36 rb D _ (hD.on (below_drewN (Below.refl _ _) q)) hOk hf
      have hsu := hOk.sure n
      have HE : Hid (bs ((D.p n).l.drop (D.p n).sure) ++ bs s = bs (((D.p n).l ++ s).drop (D.p n).sure) ∧ (D.p n).l.take (D.p n).sure = ((D.p n).l ++ s).take (D.p n).sure ∧ D.burn.p = D.p) := by
        show _ ∧ _
        refine ⟨?_, ?_, rfl⟩
        · rw [bs_append, List.drop_append_of_le_length hsu]
        · rw [List.take_append_of_le_length hsu]
      have hcc : ¬ 9223372036854775807 < (bs ((D.p n).l.drop (D.p n).sure)).size + (bs s).size := by
        rw [bs_size, bs_size, List.length_drop]
        have := D.len_le_used n hn
        omega
      clear hf hD hOk hfull hsu
      generalize D.used = used at *
      generalize D.room = room at *
      go_enter Try.func19, Try.ntmps19
      go_wp2_with (go_at_call 37; refine (HT.out (by trivial)).mono ?_; rintro e w1 ⟨rfl, rfl⟩)
      go_quiet ((go_at_call 23; exact Calls.quiet_of (HU.out (by trivial) _)))
      go_wp2_with (go_at_call 36; refine (HB.out (by trivial) _).mono ?_; rintro e w2 ⟨rfl, h2, k2⟩; have H2 : Hid (RefAt rb D.burn w2 ∧ Sole rb w w2) := And.intro h2 ((Sole.of_below (below_drewN (Below.refl _ _) _)).trans k2); have z0 := h2.there n hn; have z1 := h2.sure n hn; have z2 := h2.pend n hn; rw [HE.out.2.2, hth] at z0; rw [HE.out.2.2] at z1 z2; clear h2 k2)
      generalize (D.p n).l.take (D.p n).sure = la at *
      generalize (D.p n).l.drop (D.p n).sure = lb at *
      have HR : Hid (RefAt rb D.burn (w2.alloc (.cells #[.bool true, .string (bs la), .string (bs lb ++ bs s)] 44)) ∧ (w2.alloc (.cells #[.bool true, .string (bs la), .string (bs lb ++ bs s)] 44)).heap[w2.heap.size]? = some (.cells #[.bool true, .string (bs la), .string (bs lb ++ bs s)] 44 (0, 0)) ∧ Sole rb w (w2.alloc (.cells #[.bool true, .string (bs la), .string (bs lb ++ bs s)] 44))) := ⟨H2.out.1.on ((Below.refl _ _).alloc (Nat.le_refl _) _), heap_alloc_new w2 _, H2.out.2.alloc _⟩
      clear z0 z1 z2
      generalize w2.alloc (.cells #[.bool true, .string (bs la), .string (bs lb ++ bs s)] 44) = W at HR ⊢
      obtain ⟨xb, hxb⟩ : ∃ xb, xb = w2.heap.size := ⟨_, rfl⟩
      rw [← hxb] at HR ⊢
      clear hxb
      have z0 := HR.out.1.there n hn
      have z1 := HR.out.1.sure n hn
      have z2 := HR.out.1.pend n hn
      have z3 := HR.out.1.free
      obtain ⟨x0, x1, x2, x3⟩ := three_cells HR.out.2.1
      go_region
      go_wp2
      go_ret
      have hP := (HR.out.1.on ((Below.refl _ _).drew)).put n hn ⟨true, (D.p n).l ++ s, (D.p n).sure⟩
      dsimp only at hP
      rw [← HE.out.1, ← HE.out.2.1] at hP
      exact ⟨rfl, hP, ((HR.out.2.2.drew.set _ _).set _ _).set _ _⟩
  · have hs : D.write a s = (D.thr a, D) := step_refused _ _ ht (fun q hq => by simp [hq])
    rw [hs]
    have hb : (D.thr a == 0) = false := by simp [ht]
    clear hs ht hD hOk
    generalize D.thr a = r at *
    go_enter Try.func19, Try.ntmps19
    go_wp2_with (go_at_call 37; refine (HT.out (by trivial)).mono ?_; rintro e w1 ⟨rfl, rfl⟩)
    go_ret
    exact ⟨rfl, HD.out, Sole.refl _ _⟩

end Go.Proofs.Ytlgmnjjjaplgcaa
