/-
  The document's drum, in this seat: its steps, Trim, Lay and Fall.
-/
import Derived.Test.YtjjdmeemhgopbaaDRefAsk
namespace Go.Proofs.Ytjjdmeemhgopbaa.Drm
open Go.RowKit

theorem step_refused {D : Dr} {a : Int} (r : Pt → Int) (f : Pt → Pt) (h : D.thr a ≠ 0) (hr : ∀ q, q.there = false → r q = 12) : D.step a r f = (D.thr a, D) := by
  unfold Dr.thr at h ⊢
  unfold Dr.step
  split
  · rfl
  · next hd =>
    rw [if_neg hd] at h
    split
    · rfl
    · next hn =>
      rw [if_neg hn] at h
      by_cases ht : (D.p a.toNat).there = true
      · rw [if_pos ht] at h; exact absurd rfl h
      · have h12 := hr _ (by simpa using ht)
        rw [if_pos (by rw [h12]; decide), h12, if_neg ht]

theorem step_goes {D : Dr} {n : Nat} (r : Pt → Int) (f : Pt → Pt) (hd : D.down = false) (hn : n < 4) : D.step n r f = if r (D.p n) ≠ 0 then (r (D.p n), D) else if D.fuel = 0 then (11, { D with down := true }) else (0, D.burn.set n (f (D.p n))) := by
  rw [Dr.step, hd, if_neg (by decide), if_neg (by omega), Int.toNat_natCast]

set_option maxHeartbeats 600000 in
theorem rcut17 (rb : Nat) (D : Dr) (a : Int) (w : World) (hD : RefAt rb D w) (hOk : D.Ok) : Calls Try.prog 33 #[.pointer (some ⟨rb, 0, none⟩), .int .i64 a] w fun e w' => e = .returned (.int .i64 (D.cut a).1) ∧ RefAt rb (D.cut a).2 w' ∧ Sole rb w w' := by
  have HT : Hid (1 = 1 → Calls Try.prog 53 #[.pointer (some ⟨rb, 0, none⟩), .int .i64 a] w fun e w' => e = .returned (.int .i64 (D.thr a)) ∧ w = w') := fun _ => there37 rb D a w hD
  have HD : Hid (RefAt rb D w) := hD
  by_cases ht : D.thr a = 0
  · rw [ht] at HT
    obtain ⟨hd, n, rfl, hn, hth⟩ := thr_zero ht
    have h1 : (n : Int) < 4 := by omega
    have hs : D.cut n = if D.fuel = 0 then (11, { D with down := true }) else (0, D.burn.set n Pt.none) := by
      rw [Dr.cut, step_goes _ _ hd hn, if_neg (by simp [missing, hth])]
    rw [hs]
    clear hs hd hth ht
    by_cases hf : D.fuel = 0
    · rw [if_pos hf]
      have HB : Hid (1 = 1 → Calls Try.prog 57 #[.pointer (some ⟨rb, 0, none⟩)] w fun e w' => e = .returned (.bool false) ∧ RefAt rb { D with down := true } w' ∧ Sole rb w w') := fun _ => burn36_no rb D w hD hf
      clear hf hD hOk
      go_enter Try.func33, Try.ntmps33
      go_wp2_with (first | (go_at_call 53; refine (HT.out (by trivial)).mono ?_; rintro e w1 ⟨rfl, rfl⟩) | (go_at_call 57; refine (HB.out (by trivial)).mono ?_; rintro e w2 ⟨rfl, h2, k2⟩; have H2 : Hid _ := And.intro h2 k2; clear h2 k2))
      go_ret
      exact ⟨rfl, H2.out⟩
    · rw [if_neg hf]
      have HB : Hid (1 = 1 → Calls Try.prog 57 #[.pointer (some ⟨rb, 0, none⟩)] w fun e w' => e = .returned (.bool true) ∧ RefAt rb D.burn w' ∧ Sole rb w w') := fun _ => burn36 rb D w hD hOk hf
      clear hf hD hOk
      go_enter Try.func33, Try.ntmps33
      go_wp2_with (first | (go_at_call 53; refine (HT.out (by trivial)).mono ?_; rintro e w1 ⟨rfl, rfl⟩) | (go_at_call 57; refine (HB.out (by trivial)).mono ?_; rintro e w2 ⟨rfl, h2, k2⟩; have H2 : Hid (RefAt rb D.burn w2 ∧ Sole rb w w2) := And.intro h2 k2; have z0 := h2.there n hn; have z1 := h2.sure n hn; have z2 := h2.pend n hn; have z3 := h2.free; clear h2 k2))
      go_ret
      exact ⟨rfl, H2.out.1.put n hn Pt.none, ((H2.out.2.set _ _).set _ _).set _ _⟩
  · have hs : D.cut a = (D.thr a, D) := step_refused _ _ ht (fun q hq => by simp [missing, hq])
    rw [hs]
    have hb : (D.thr a == 0) = false := by simp [ht]
    clear hs ht hD hOk
    generalize D.thr a = r at *
    go_enter Try.func33, Try.ntmps33
    go_wp2_with (go_at_call 53; refine (HT.out (by trivial)).mono ?_; rintro e w1 ⟨rfl, rfl⟩)
    go_ret
    exact ⟨rfl, HD.out, Sole.refl _ _⟩

theorem settle_all {q : Pt} (ht : q.there = true) : q.settle q.l.length = ⟨true, q.l, q.l.length⟩ := by simp [Pt.settle, ht]

theorem three_cells {w : World} {b : Nat} {v0 v1 v2 : Value} {t : TypeId} (h : w.heap[b]? = some (.cells #[v0, v1, v2] t (0, 0))) :
    w.cell? ⟨b, 0, none⟩ = some v0 ∧ w.cell? ⟨b, 1, none⟩ = some v1 ∧ w.cell? ⟨b, 2, none⟩ = some v2 ∧ ∀ k, w.frozen? ⟨b, k, none⟩ = false :=
  ⟨blk_cell h rfl, blk_cell h rfl, blk_cell h rfl, fun _ => blk_free h⟩

set_option maxHeartbeats 800000 in
theorem rsync20 (rb : Nat) (D : Dr) (a : Int) (w : World) (hD : RefAt rb D w) (hOk : D.Ok) : Calls Try.prog 43 #[.pointer (some ⟨rb, 0, none⟩), .int .i64 a] w fun e w' => e = .returned (.int .i64 (D.sync a).1) ∧ RefAt rb (D.sync a).2 w' ∧ Sole rb w w' := by
  have HT : Hid (1 = 1 → Calls Try.prog 53 #[.pointer (some ⟨rb, 0, none⟩), .int .i64 a] w fun e w' => e = .returned (.int .i64 (D.thr a)) ∧ w = w') := fun _ => there37 rb D a w hD
  have HD : Hid (RefAt rb D w) := hD
  by_cases ht : D.thr a = 0
  · rw [ht] at HT
    obtain ⟨hd, n, rfl, hn, hth⟩ := thr_zero ht
    have h1 : (n : Int) < 4 := by omega
    have hs : D.sync n = if D.fuel = 0 then (11, { D with down := true }) else (0, D.burn.set n ⟨true, (D.p n).l, (D.p n).l.length⟩) := by
      rw [Dr.sync, step_goes _ _ hd hn, if_neg (by simp [missing, hth]), settle_all hth]
    rw [hs]
    clear hs hd ht
    by_cases hf : D.fuel = 0
    · rw [if_pos hf]
      have HB : Hid (1 = 1 → Calls Try.prog 57 #[.pointer (some ⟨rb, 0, none⟩)] w fun e w' => e = .returned (.bool false) ∧ RefAt rb { D with down := true } w' ∧ Sole rb w w') := fun _ => burn36_no rb D w hD hf
      clear hf hD hOk hth
      go_enter Try.func43, Try.ntmps43
      go_wp2_with (first | (go_at_call 53; refine (HT.out (by trivial)).mono ?_; rintro e w1 ⟨rfl, rfl⟩) | (go_at_call 57; refine (HB.out (by trivial)).mono ?_; rintro e w2 ⟨rfl, h2, k2⟩; have H2 : Hid _ := And.intro h2 k2; clear h2 k2))
      go_ret
      exact ⟨rfl, H2.out⟩
    · rw [if_neg hf]
      have HB : Hid (1 = 1 → Calls Try.prog 57 #[.pointer (some ⟨rb, 0, none⟩)] w fun e w' => e = .returned (.bool true) ∧ RefAt rb D.burn w' ∧ Sole rb w w') := fun _ => burn36 rb D w hD hOk hf
      have hcc := cat_fits hOk n hn
      have HE : Hid (bs ((D.p n).l.take (D.p n).sure) ++ bs ((D.p n).l.drop (D.p n).sure) = bs (D.p n).l ∧ D.burn.p = D.p) := by
        show _ ∧ _
        exact ⟨by rw [bs_append, List.take_append_drop], rfl⟩
      clear hf hD hOk hth
      go_enter Try.func43, Try.ntmps43
      go_wp2_with (first | (go_at_call 53; refine (HT.out (by trivial)).mono ?_; rintro e w1 ⟨rfl, rfl⟩) | (go_at_call 57; refine (HB.out (by trivial)).mono ?_; rintro e w2 ⟨rfl, h2, k2⟩; have H2 : Hid (RefAt rb D.burn w2 ∧ Sole rb w w2) := And.intro h2 k2; have z0 := h2.there n hn; have z1 := h2.sure n hn; have z2 := h2.pend n hn; rw [HE.out.2] at z0 z1 z2; clear h2 k2))
      have HR : Hid (RefAt rb D.burn (w2.alloc (.cells #[.bool (D.p n).there, .string (bs ((D.p n).l.take (D.p n).sure)), .string (bs ((D.p n).l.drop (D.p n).sure))] 47)) ∧ (w2.alloc (.cells #[.bool (D.p n).there, .string (bs ((D.p n).l.take (D.p n).sure)), .string (bs ((D.p n).l.drop (D.p n).sure))] 47)).heap[w2.heap.size]? = some (.cells #[.bool (D.p n).there, .string (bs ((D.p n).l.take (D.p n).sure)), .string (bs ((D.p n).l.drop (D.p n).sure))] 47 (0, 0)) ∧ Sole rb w (w2.alloc (.cells #[.bool (D.p n).there, .string (bs ((D.p n).l.take (D.p n).sure)), .string (bs ((D.p n).l.drop (D.p n).sure))] 47))) := ⟨H2.out.1.on ((Below.refl _ _).alloc (Nat.le_refl _) _), heap_alloc_new w2 _, H2.out.2.alloc _⟩
      clear z0 z1 z2
      generalize w2.alloc (.cells #[.bool (D.p n).there, .string (bs ((D.p n).l.take (D.p n).sure)), .string (bs ((D.p n).l.drop (D.p n).sure))] 47) = W at HR ⊢
      obtain ⟨xb, hxb⟩ : ∃ xb, xb = w2.heap.size := ⟨_, rfl⟩
      rw [← hxb] at HR ⊢
      clear hxb
      have z0 := HR.out.1.there n hn
      have z1 := HR.out.1.sure n hn
      have z2 := HR.out.1.pend n hn
      have z3 := HR.out.1.free
      rw [HE.out.2] at z0 z1 z2
      obtain ⟨x0, x1, x2, x3⟩ := three_cells HR.out.2.1
      generalize (D.p n).l.take (D.p n).sure = la at *
      generalize (D.p n).l.drop (D.p n).sure = lb at *
      go_region
      go_wp2
      go_ret
      have hP := (HR.out.1.on ((Below.refl _ _).drew)).put n hn ⟨true, (D.p n).l, (D.p n).l.length⟩
      simp only [List.take_length, List.drop_length] at hP
      rw [← HE.out.1] at hP
      exact ⟨rfl, hP, ((HR.out.2.2.drew.set _ _).set _ _).set _ _⟩
  · have hs : D.sync a = (D.thr a, D) := step_refused _ _ ht (fun q hq => by simp [missing, hq])
    rw [hs]
    have hb : (D.thr a == 0) = false := by simp [ht]
    clear hs ht hD hOk
    generalize D.thr a = r at *
    go_enter Try.func43, Try.ntmps43
    go_wp2_with (go_at_call 53; refine (HT.out (by trivial)).mono ?_; rintro e w1 ⟨rfl, rfl⟩)
    go_ret
    exact ⟨rfl, HD.out, Sole.refl _ _⟩

end Go.Proofs.Ytjjdmeemhgopbaa.Drm

namespace Go.Proofs.Ytjjdmeemhgopbaa.Drm
open Go.RowKit

theorem bs_take (l : List UInt8) (t : Nat) : (bs l).extract 0 t = bs (l.take t) := by
  have h : ((bs l).extract 0 t).data = (bs (l.take t)).data := by simp [bs, ByteArray.data_extract]
  cases hx : (bs l).extract 0 t with | mk d => cases hy : bs (l.take t) with | mk e => rw [hx, hy] at h; exact congrArg ByteArray.mk h

set_option maxHeartbeats 800000 in
theorem rtrim18 (rb : Nat) (D : Dr) (a m : Int) (w : World) (hD : RefAt rb D w) (hOk : D.Ok) : Calls Try.prog 34 #[.pointer (some ⟨rb, 0, none⟩), .int .i64 a, .int .i64 m] w fun e w' => e = .returned (.int .i64 (D.trim a m).1) ∧ RefAt rb (D.trim a m).2 w' ∧ Sole rb w w' := by
  have HT : Hid (1 = 1 → Calls Try.prog 53 #[.pointer (some ⟨rb, 0, none⟩), .int .i64 a] w fun e w' => e = .returned (.int .i64 (D.thr a)) ∧ w = w') := fun _ => there37 rb D a w hD
  have HD : Hid (RefAt rb D w) := hD
  by_cases ht : D.thr a = 0
  · rw [ht] at HT
    obtain ⟨hd, n, rfl, hn, hth⟩ := thr_zero ht
    have h1 : (n : Int) < 4 := by omega
    by_cases hm : m < 0
    · have hs : D.trim n m = (1, D) := by
        rw [Dr.trim, step_goes _ _ hd hn, if_pos (by simp [hth, hm])]
        simp [hth, hm]
      rw [hs]
      clear hs hd ht hth hD hOk
      go_enter Try.func34, Try.ntmps34
      go_wp2_with (go_at_call 53; refine (HT.out (by trivial)).mono ?_; rintro e w1 ⟨rfl, rfl⟩)
      go_ret
      exact ⟨rfl, HD.out, Sole.refl _ _⟩
    have hs : D.trim n m = if D.fuel = 0 then (11, { D with down := true }) else (0, D.burn.set n ((D.p n).settle m.toNat)) := by
      rw [Dr.trim, step_goes _ _ hd hn, if_neg (by simp [hth, hm])]
    rw [hs]
    clear hs hd ht
    obtain ⟨m, rfl⟩ := Int.eq_ofNat_of_zero_le (by omega : 0 ≤ m)
    rw [Int.toNat_natCast]
    by_cases hf : D.fuel = 0
    · rw [if_pos hf]
      have HB : Hid (1 = 1 → Calls Try.prog 57 #[.pointer (some ⟨rb, 0, none⟩)] w fun e w' => e = .returned (.bool false) ∧ RefAt rb { D with down := true } w' ∧ Sole rb w w') := fun _ => burn36_no rb D w hD hf
      clear hf hD hOk hth
      go_enter Try.func34, Try.ntmps34
      go_wp2_with (first | (go_at_call 53; refine (HT.out (by trivial)).mono ?_; rintro e w1 ⟨rfl, rfl⟩) | (go_at_call 57; refine (HB.out (by trivial)).mono ?_; rintro e w2 ⟨rfl, h2, k2⟩; have H2 : Hid _ := And.intro h2 k2; clear h2 k2))
      go_ret
      exact ⟨rfl, H2.out⟩
    · rw [if_neg hf]
      have HB : Hid (1 = 1 → Calls Try.prog 57 #[.pointer (some ⟨rb, 0, none⟩)] w fun e w' => e = .returned (.bool true) ∧ RefAt rb D.burn w' ∧ Sole rb w w') := fun _ => burn36 rb D w hD hOk hf
      have hcc := cat_fits hOk n hn
      have HE : Hid (bs ((D.p n).l.take (D.p n).sure) ++ bs ((D.p n).l.drop (D.p n).sure) = bs (D.p n).l ∧ D.burn.p = D.p) := by
        show _ ∧ _
        exact ⟨by rw [bs_append, List.take_append_drop], rfl⟩
      have HQ : Hid ((m ≤ (D.p n).l.length → (D.p n).settle m = ⟨true, (D.p n).l.take m, m⟩) ∧ ((D.p n).l.length < m → (D.p n).settle m = ⟨true, (D.p n).l, (D.p n).l.length⟩)) := by
        show _ ∧ _
        refine ⟨fun h => ?_, fun h => ?_⟩
        · simp only [Pt.settle, hth, Pt.mk.injEq, true_and]
          omega
        · simp only [Pt.settle, hth, Pt.mk.injEq, true_and]
          exact ⟨List.take_of_length_le (by omega), by omega⟩
      have hsz := bs_size (D.p n).l
      have hex := bs_take (D.p n).l m
      have hlen : (D.p n).l.length ≤ 1048576 := by have := hOk.fits; have := hOk.room1; have := D.len_le_used n hn; omega
      clear hf hD hOk hth
      go_enter Try.func34, Try.ntmps34
      go_wp2_with (first | (go_at_call 53; refine (HT.out (by trivial)).mono ?_; rintro e w1 ⟨rfl, rfl⟩) | (go_at_call 57; refine (HB.out (by trivial)).mono ?_; rintro e w2 ⟨rfl, h2, k2⟩; have H2 : Hid (RefAt rb D.burn w2 ∧ Sole rb w w2) := And.intro h2 k2; have z0 := h2.there n hn; have z1 := h2.sure n hn; have z2 := h2.pend n hn; have z3 := h2.free; rw [HE.out.2] at z0 z1 z2; clear h2 k2))
      generalize (D.p n).l.take (D.p n).sure = la at *
      generalize (D.p n).l.drop (D.p n).sure = lb at *
      go_region
      rw [HE.out.1]
      generalize (D.p n).l = l at *
      by_cases hml : m ≤ l.length
      · have hml' : ¬ (l.length : Int) < m := by omega
        have HR : Hid (RefAt rb D.burn w2.drew.drew ∧ Sole rb w w2.drew.drew) := ⟨H2.out.1.on ((Below.refl _ _).drew.drew), H2.out.2.drew.drew⟩
        go_wp2_with fail
        go_region
        go_wp2
        go_ret
        have hP := HR.out.1.put n hn ⟨true, l.take m, m⟩
        rw [← HQ.out.1 hml] at hP
        rw [show ((D.p n).settle m).there = true from by rw [HQ.out.1 hml], show ((D.p n).settle m).l.take ((D.p n).settle m).sure = l.take m from by rw [HQ.out.1 hml, List.take_take, Nat.min_self], show ((D.p n).settle m).l.drop ((D.p n).settle m).sure = [] from by rw [HQ.out.1 hml]; simp] at hP
        exact ⟨rfl, hP, ((HR.out.2.set _ _).set _ _).set _ _⟩
      · have hml' : (l.length : Int) < m := by omega
        have HR : Hid (RefAt rb D.burn w2.drew.drew ∧ Sole rb w w2.drew.drew) := ⟨H2.out.1.on ((Below.refl _ _).drew.drew), H2.out.2.drew.drew⟩
        have hex2 := bs_take l l.length
        rw [List.take_length] at hex2
        go_wp2_with fail
        go_region
        go_wp2
        go_ret
        have hml2 : l.length < m := by omega
        have hP := HR.out.1.put n hn ⟨true, l, l.length⟩
        rw [← HQ.out.2 hml2] at hP
        rw [show ((D.p n).settle m).there = true from by rw [HQ.out.2 hml2], show ((D.p n).settle m).l.take ((D.p n).settle m).sure = l from by rw [HQ.out.2 hml2]; simp, show ((D.p n).settle m).l.drop ((D.p n).settle m).sure = [] from by rw [HQ.out.2 hml2]; simp] at hP
        exact ⟨rfl, hP, ((HR.out.2.set _ _).set _ _).set _ _⟩
  · have hs : D.trim a m = (D.thr a, D) := step_refused _ _ ht (fun q hq => by simp [hq])
    rw [hs]
    have hb : (D.thr a == 0) = false := by simp [ht]
    clear hs ht hD hOk
    generalize D.thr a = r at *
    go_enter Try.func34, Try.ntmps34
    go_wp2_with (go_at_call 53; refine (HT.out (by trivial)).mono ?_; rintro e w1 ⟨rfl, rfl⟩)
    go_ret
    exact ⟨rfl, HD.out, Sole.refl _ _⟩

end Go.Proofs.Ytjjdmeemhgopbaa.Drm

namespace Go.Proofs.Ytjjdmeemhgopbaa.Drm
open Go.RowKit

theorem step_down {D : Dr} (h : D.down = true) (a : Int) (r : Pt → Int) (f : Pt → Pt) : D.step a r f = (11, D) := by rw [Dr.step, if_pos h]

set_option maxHeartbeats 600000 in
theorem rlay16 (rb : Nat) (D : Dr) (a : Int) (w : World) (hD : RefAt rb D w) (hOk : D.Ok) : Calls Try.prog 59 #[.pointer (some ⟨rb, 0, none⟩), .int .i64 a] w fun e w' => e = .returned (.int .i64 (D.lay a).1) ∧ RefAt rb (D.lay a).2 w' ∧ Sole rb w w' := by
  have HD : Hid (RefAt rb D w) := hD
  have hdn := hD.down
  obtain ⟨dn, hdn'⟩ : ∃ dn, D.down = dn := ⟨_, rfl⟩
  rw [hdn'] at hdn
  cases dn with
  | true =>
    have hs : D.lay a = (11, D) := step_down hdn' _ _ _
    rw [hs]
    clear hs hdn' hD hOk
    go_enter Try.func59, Try.ntmps59
    go_wp2
    go_ret
    exact ⟨rfl, HD.out, Sole.refl _ _⟩
  | false =>
    by_cases h : 0 ≤ a ∧ a < 4
    · obtain ⟨h0, h1⟩ := h
      obtain ⟨n, rfl⟩ := Int.eq_ofNat_of_zero_le h0
      have hn : n < 4 := by omega
      have hth := hD.there n hn
      obtain ⟨b, hb⟩ : ∃ b, (D.p n).there = b := ⟨_, rfl⟩
      rw [hb] at hth
      cases b with
      | true =>
        have hs : D.lay n = (1, D) := by
          rw [Dr.lay, step_goes _ _ hdn' hn, if_pos (by simp [hb])]
          simp [hb]
        rw [hs]
        clear hs hdn' hD hOk hb
        go_enter Try.func59, Try.ntmps59
        go_wp2
        go_ret
        exact ⟨rfl, HD.out, Sole.refl _ _⟩
      | false =>
        have hl := hOk.gone n hb
        have hsu : (D.p n).sure = 0 := by have := hOk.sure n; rw [hl] at this; simpa using this
        have hs : D.lay n = if D.fuel = 0 then (11, { D with down := true }) else (0, D.burn.set n ⟨true, [], 0⟩) := by
          rw [Dr.lay, step_goes _ _ hdn' hn, if_neg (by simp [hb])]
          simp only [hl, hsu]
        rw [hs]
        clear hs hdn' hb hl hsu
        by_cases hf : D.fuel = 0
        · rw [if_pos hf]
          have HB : Hid (1 = 1 → Calls Try.prog 57 #[.pointer (some ⟨rb, 0, none⟩)] w fun e w' => e = .returned (.bool false) ∧ RefAt rb { D with down := true } w' ∧ Sole rb w w') := fun _ => burn36_no rb D w hD hf
          clear hf hD hOk
          go_enter Try.func59, Try.ntmps59
          go_wp2_with (go_at_call 57; refine (HB.out (by trivial)).mono ?_; rintro e w2 ⟨rfl, h2, k2⟩; have H2 : Hid _ := And.intro h2 k2; clear h2 k2)
          go_ret
          exact ⟨rfl, H2.out⟩
        · rw [if_neg hf]
          have HB : Hid (1 = 1 → Calls Try.prog 57 #[.pointer (some ⟨rb, 0, none⟩)] w fun e w' => e = .returned (.bool true) ∧ RefAt rb D.burn w' ∧ Sole rb w w') := fun _ => burn36 rb D w hD hOk hf
          clear hf hD hOk
          go_enter Try.func59, Try.ntmps59
          go_wp2_with (go_at_call 57; refine (HB.out (by trivial)).mono ?_; rintro e w2 ⟨rfl, h2, k2⟩; have H2 : Hid (RefAt rb D.burn w2 ∧ Sole rb w w2) := And.intro h2 k2; have z0 := h2.there n hn; have z1 := h2.sure n hn; have z2 := h2.pend n hn; have z3 := h2.free; clear h2 k2)
          go_ret
          exact ⟨rfl, H2.out.1.put n hn ⟨true, [], 0⟩, ((H2.out.2.set _ _).set _ _).set _ _⟩
    · have hs : D.lay a = (1, D) := by rw [Dr.lay, Dr.step, hdn', if_neg (by decide), if_pos h]
      rw [hs]
      clear hs hdn' hD hOk
      by_cases h0 : 0 ≤ a
      · have h1 : 4 ≤ a := by omega
        clear h
        go_enter Try.func59, Try.ntmps59
        go_wp2
        go_ret
        exact ⟨rfl, HD.out, Sole.refl _ _⟩
      · have h1 : a < 0 := by omega
        clear h h0
        go_enter Try.func59, Try.ntmps59
        go_wp2
        go_ret
        exact ⟨rfl, HD.out, Sole.refl _ _⟩

set_option maxHeartbeats 800000 in
theorem rwrite19 (rb : Nat) (D : Dr) (a : Int) (s : List UInt8) (w : World) (hD : RefAt rb D w) (hOk : D.Ok) (hsl : s.length ≤ 140737488355328) : Calls Try.prog 41 #[.pointer (some ⟨rb, 0, none⟩), .int .i64 a, .string (bs s)] w fun e w' => e = .returned (.int .i64 (D.write a s).1) ∧ RefAt rb (D.write a s).2 w' ∧ Sole rb w w' := by
  have HT : Hid (1 = 1 → Calls Try.prog 53 #[.pointer (some ⟨rb, 0, none⟩), .int .i64 a] w fun e w' => e = .returned (.int .i64 (D.thr a)) ∧ w = w') := fun _ => there37 rb D a w hD
  have HD : Hid (RefAt rb D w) := hD
  by_cases ht : D.thr a = 0
  · rw [ht] at HT
    obtain ⟨hd, n, rfl, hn, hth⟩ := thr_zero ht
    have h1 : (n : Int) < 4 := by omega
    have hroom := hD.room
    have hsz := bs_size s
    have hfit := hOk.fits
    have hr1 := hOk.room1
    have HU : Hid (1 = 1 → ∀ q, Calls Try.prog 64 #[.pointer (some ⟨rb, 0, none⟩)] (w.drewN q) fun e w' => e = .returned (.int .i64 D.used) ∧ ∃ m, w' = (w.drewN q).drewN m) := fun _ q => rused23 rb D _ (hD.on (below_drewN (Below.refl _ _) q)) hOk
    by_cases hfull : D.room - D.used < s.length
    · have hs : D.write n s = (10, D) := by
        rw [Dr.write, step_goes _ _ hd hn, if_pos (by simp [hth, hfull])]
        simp [hth, hfull]
      rw [hs]
      clear hs hd ht hth hD hOk
      generalize D.used = used at *
      generalize D.room = room at *
      go_enter Try.func41, Try.ntmps41
      go_wp2_with (go_at_call 53; refine (HT.out (by trivial)).mono ?_; rintro e w1 ⟨rfl, rfl⟩)
      go_quiet ((go_at_call 64; exact Calls.quiet_of (HU.out (by trivial) _)))
      have hfull' : room < (used : Int) + s.length := by omega
      go_wp2
      go_ret
      exact ⟨rfl, HD.out.on (below_drewN (Below.refl _ _) _), Sole.of_below (below_drewN (Below.refl _ _) _)⟩
    have hs : D.write n s = if D.fuel = 0 then (11, { D with down := true }) else (0, D.burn.set n ⟨true, (D.p n).l ++ s, (D.p n).sure⟩) := by
      rw [Dr.write, step_goes _ _ hd hn, if_neg (by simp [hth, hfull])]
      simp only [hth]
    rw [hs]
    clear hs hd ht
    have hfull' : ¬ D.room < (D.used : Int) + s.length := by omega
    by_cases hf : D.fuel = 0
    · rw [if_pos hf]
      have HB : Hid (1 = 1 → ∀ q, Calls Try.prog 57 #[.pointer (some ⟨rb, 0, none⟩)] (w.drewN q) fun e w' => e = .returned (.bool false) ∧ RefAt rb { D with down := true } w' ∧ Sole rb (w.drewN q) w') := fun _ q => burn36_no rb D _ (hD.on (below_drewN (Below.refl _ _) q)) hf
      clear hf hD hOk hth hfull
      generalize D.used = used at *
      generalize D.room = room at *
      go_enter Try.func41, Try.ntmps41
      go_wp2_with (go_at_call 53; refine (HT.out (by trivial)).mono ?_; rintro e w1 ⟨rfl, rfl⟩)
      go_quiet ((go_at_call 64; exact Calls.quiet_of (HU.out (by trivial) _)))
      go_wp2_with (go_at_call 57; refine (HB.out (by trivial) _).mono ?_; rintro e w2 ⟨rfl, h2, k2⟩; have H2 : Hid _ := And.intro h2 k2; clear h2 k2)
      go_ret
      exact ⟨rfl, H2.out.1, (Sole.of_below (below_drewN (Below.refl _ _) _)).trans H2.out.2⟩
    · rw [if_neg hf]
      have HB : Hid (1 = 1 → ∀ q, Calls Try.prog 57 #[.pointer (some ⟨rb, 0, none⟩)] (w.drewN q) fun e w' => e = .returned (.bool true) ∧ RefAt rb D.burn w' ∧ Sole rb (w.drewN q) w') := fun _ q => burn36 rb D _ (hD.on (below_drewN (Below.refl _ _) q)) hOk hf
      have hsu := hOk.sure n
      have HE : Hid (bs ((D.p n).l.drop (D.p n).sure) ++ bs s = bs (((D.p n).l ++ s).drop (D.p n).sure) ∧ (D.p n).l.take (D.p n).sure = ((D.p n).l ++ s).take (D.p n).sure ∧ D.burn.p = D.p) := by
        show _ ∧ _
        refine ⟨?_, ?_, rfl⟩
        · rw [bs_append, List.drop_append_of_le_length hsu]
        · rw [List.take_append_of_le_length hsu]
      have hcc : ¬ 9223372036854775807 < (bs ((D.p n).l.drop (D.p n).sure)).size + (bs s).size := by
        rw [bs_size, bs_size, List.length_drop]
        have := D.len_le_used n hn
        omega
      clear hf hD hOk hfull hsu
      generalize D.used = used at *
      generalize D.room = room at *
      go_enter Try.func41, Try.ntmps41
      go_wp2_with (go_at_call 53; refine (HT.out (by trivial)).mono ?_; rintro e w1 ⟨rfl, rfl⟩)
      go_quiet ((go_at_call 64; exact Calls.quiet_of (HU.out (by trivial) _)))
      go_wp2_with (go_at_call 57; refine (HB.out (by trivial) _).mono ?_; rintro e w2 ⟨rfl, h2, k2⟩; have H2 : Hid (RefAt rb D.burn w2 ∧ Sole rb w w2) := And.intro h2 ((Sole.of_below (below_drewN (Below.refl _ _) _)).trans k2); have z0 := h2.there n hn; have z1 := h2.sure n hn; have z2 := h2.pend n hn; rw [HE.out.2.2, hth] at z0; rw [HE.out.2.2] at z1 z2; clear h2 k2)
      generalize (D.p n).l.take (D.p n).sure = la at *
      generalize (D.p n).l.drop (D.p n).sure = lb at *
      have HR : Hid (RefAt rb D.burn (w2.alloc (.cells #[.bool true, .string (bs la), .string (bs lb ++ bs s)] 47)) ∧ (w2.alloc (.cells #[.bool true, .string (bs la), .string (bs lb ++ bs s)] 47)).heap[w2.heap.size]? = some (.cells #[.bool true, .string (bs la), .string (bs lb ++ bs s)] 47 (0, 0)) ∧ Sole rb w (w2.alloc (.cells #[.bool true, .string (bs la), .string (bs lb ++ bs s)] 47))) := ⟨H2.out.1.on ((Below.refl _ _).alloc (Nat.le_refl _) _), heap_alloc_new w2 _, H2.out.2.alloc _⟩
      clear z0 z1 z2
      generalize w2.alloc (.cells #[.bool true, .string (bs la), .string (bs lb ++ bs s)] 47) = W at HR ⊢
      obtain ⟨xb, hxb⟩ : ∃ xb, xb = w2.heap.size := ⟨_, rfl⟩
      rw [← hxb] at HR ⊢
      clear hxb
      have z0 := HR.out.1.there n hn
      have z1 := HR.out.1.sure n hn
      have z2 := HR.out.1.pend n hn
      have z3 := HR.out.1.free
      obtain ⟨x0, x1, x2, x3⟩ := three_cells HR.out.2.1
      go_region
      go_wp2
      go_ret
      have hP := (HR.out.1.on ((Below.refl _ _).drew)).put n hn ⟨true, (D.p n).l ++ s, (D.p n).sure⟩
      dsimp only at hP
      rw [← HE.out.1, ← HE.out.2.1] at hP
      exact ⟨rfl, hP, ((HR.out.2.2.drew.set _ _).set _ _).set _ _⟩
  · have hs : D.write a s = (D.thr a, D) := step_refused _ _ ht (fun q hq => by simp [hq])
    rw [hs]
    have hb : (D.thr a == 0) = false := by simp [ht]
    clear hs ht hD hOk
    generalize D.thr a = r at *
    go_enter Try.func41, Try.ntmps41
    go_wp2_with (go_at_call 53; refine (HT.out (by trivial)).mono ?_; rintro e w1 ⟨rfl, rfl⟩)
    go_ret
    exact ⟨rfl, HD.out, Sole.refl _ _⟩

end Go.Proofs.Ytjjdmeemhgopbaa.Drm

namespace Go.Proofs.Ytjjdmeemhgopbaa.Drm
open Go.RowKit

theorem KeepAt.sole {rb : Nat} {kv : Value} {keep : List Int} {w w' : World} (h : KeepAt rb kv keep w) (hk : Sole rb w w') : KeepAt rb kv keep w' := by
  obtain ⟨ao, cap, rfl, h⟩ := h
  refine ⟨ao, cap, rfl, fun h0 => ?_⟩
  obtain ⟨kb, ko, rfl, hne, hc, hb⟩ := h h0
  have hlt : kb < w.heap.size := World.block_lt_of_cell? _ _ (hc 0 h0)
  have hbl := hk.block kb hlt hne
  refine ⟨kb, ko, rfl, hne, fun i hi => ?_, ?_⟩
  · rw [← hc i hi]
    exact World.cell?_of_block hbl
  · rcases hb with hb | ⟨cs, fz, hb⟩
    · exact .inl hb
    · exact .inr ⟨cs, fz, by rw [hbl, hb]⟩

theorem Sole.box {rb xb : Nat} {w W : World} (h : Sole rb w W) (hx : w.heap.size ≤ xb) (k : Nat) (v : Value) : Sole rb w (W.setCell ⟨xb, k, none⟩ v) :=
  ⟨h.os, h.tape, h.output, by simpa using h.size, fun i hi hne => by rw [Below.heap_setCell _ _ _ _ (by show i ≠ xb; omega)]; exact h.block i hi hne⟩
theorem RefAt.box {rb xb : Nat} {D : Dr} {W : World} (h : RefAt rb D W) (hx : rb ≠ xb) (k : Nat) (v : Value) : RefAt rb D (W.setCell ⟨xb, k, none⟩ v) := by
  unfold RefAt
  rw [Below.heap_setCell _ _ _ _ hx]
  exact h

/-- What a fall leaves of an area, as the document has it. -/
theorem fall_cells (q : Pt) (j : Nat) (hj : q.sure + j ≤ q.l.length) : (q.settle (q.sure + j)).there = q.there ∧ bs ((q.settle (q.sure + j)).l.take (q.settle (q.sure + j)).sure) = bs (q.l.take q.sure) ++ bs ((q.l.drop q.sure).take j) ∧ (q.settle (q.sure + j)).l.drop (q.settle (q.sure + j)).sure = [] := by
  have h1 : min (q.sure + j) q.l.length = q.sure + j := by omega
  refine ⟨rfl, ?_, ?_⟩
  · show bs ((q.l.take (q.sure + j)).take (min (q.sure + j) q.l.length)) = _
    rw [h1, List.take_take, Nat.min_self, bs_append, List.take_add]
  · show (q.l.take (q.sure + j)).drop (min (q.sure + j) q.l.length) = []
    rw [h1]
    simp

set_option maxHeartbeats 2000000 in
theorem rfall21 (rb : Nat) (D : Dr) (kv : Value) (keep : List Int) (w : World) (hD : RefAt rb D w) (hOk : D.Ok) (hK : KeepAt rb kv keep w) (hk0 : ∀ i, -9223372036854775808 ≤ keep.getD i 0 ∧ keep.getD i 0 ≤ 9223372036854775807) (hkl : keep.length ≤ 9223372036854775807) :
    Calls Try.prog 16 #[.pointer (some ⟨rb, 0, none⟩), kv] w fun e w' => e = .returned (.tuple #[]) ∧ RefAt rb (D.fall keep) w' ∧ Sole rb w w' := by
  have HS : Hid (RefAt rb D w ∧ KeepAt rb kv keep w ∧ D.Ok) := ⟨hD, hK, hOk⟩
  obtain ⟨ao, cap, rfl, hKx⟩ := hK
  clear hKx hD hOk
  go_enter Try.func16, Try.ntmps16
  go_wp2_with fail
  go_loopw [4] (fun i wr => ∃ k : Nat, k ≤ 4 ∧ i = .int .i64 k ∧ RefAt rb (D.fallTo keep k) wr ∧ Sole rb w wr) (fun i _ => 4 - (intOf i).toNat)
  case atStart => exact ⟨0, by omega, rfl, by rw [Dr.fallTo_zero]; exact HS.out.1, Sole.refl _ _⟩
  case round =>
    obtain ⟨k, hk, rfl, hwr, hkept⟩ := hrel
    have HW : Hid (RefAt rb (D.fallTo keep k) wr ∧ Sole rb w wr ∧ KeepAt rb (.slice ao keep.length cap) keep wr) := ⟨hwr, hkept, HS.out.2.1.sole hkept⟩
    clear hwr hkept
    by_cases hlt : k < 4
    · have z0 := HW.out.1.there k hlt
      have z1 := HW.out.1.sure k hlt
      have z2 := HW.out.1.pend k hlt
      rw [fallTo_self] at z0 z1 z2
      have hs1 := HS.out.2.2.sure k
      have hln : (D.p k).l.length ≤ 1048576 := by have := D.len_le_used k hlt; have := HS.out.2.2.fits; have := HS.out.2.2.room1; omega
      have hle : ∀ x, keep.getD k 0 = x → D.left keep k = (D.p k).sure + (min (max x 0) (((D.p k).l.length : Int) - (D.p k).sure)).toNat := fun x hx => by rw [Dr.left, hx]
      have HQ : Hid (∀ j, 1 = 1 → (D.p k).sure + j ≤ (D.p k).l.length → ((D.p k).settle ((D.p k).sure + j)).there = (D.p k).there ∧ bs (((D.p k).settle ((D.p k).sure + j)).l.take ((D.p k).settle ((D.p k).sure + j)).sure) = bs ((D.p k).l.take (D.p k).sure) ++ bs (((D.p k).l.drop (D.p k).sure).take j) ∧ ((D.p k).settle ((D.p k).sure + j)).l.drop ((D.p k).settle ((D.p k).sure + j)).sure = []) := fun j _ hj => fall_cells (D.p k) j hj
      have hlb : ((D.p k).l.drop (D.p k).sure).length = (D.p k).l.length - (D.p k).sure := List.length_drop
      have hla : ((D.p k).l.take (D.p k).sure).length ≤ (D.p k).l.length := List.length_take_le' _ _
      have hsz := bs_size ((D.p k).l.drop (D.p k).sure)
      by_cases hkk : k < keep.length
      · obtain ⟨_, _, hsl, hKb⟩ := HW.out.2.2
        injection hsl with e1 _ e3
        subst e1
        subst e3
        obtain ⟨kb, ko, hao, _, hcell, _⟩ := hKb (by omega)
        subst hao
        have hck := hcell k hkk
        have hxb := hk0 k
        have hle := hle _ rfl
        clear hKb hcell
        generalize keep.getD k 0 = x at *
        rcases (by omega : x < 0 ∨ (0 ≤ x ∧ x ≤ ((D.p k).l.length : Int) - (D.p k).sure) ∨ (0 ≤ x ∧ ((D.p k).l.length : Int) - (D.p k).sure < x)) with hx | ⟨hx0, hx1⟩ | ⟨hx0, hx1⟩
        · have HL : Hid (D.left keep k = (D.p k).sure + 0) := by
            show _ = _
            rw [hle]
            omega
          have HQ1 := HQ.out (0) (by trivial) (by omega)
          have hex := bs_take ((D.p k).l.drop (D.p k).sure) (0)
          have hql : (((D.p k).l.drop (D.p k).sure).take (0)).length ≤ ((D.p k).l.drop (D.p k).sure).length := List.length_take_le' _ _
          have hcc : ¬ 9223372036854775807 < (bs ((D.p k).l.take (D.p k).sure)).size + (bs (((D.p k).l.drop (D.p k).sure).take (0))).size := by
            rw [bs_size, bs_size]
            omega
          rw [List.take_zero, show ∀ x : ByteArray, x ++ bs [] = x from fun x => by rw [← bs_of x, bs_append, List.append_nil]] at HQ1
          have hc0 : ¬ 9223372036854775807 < (bs ((D.p k).l.take (D.p k).sure)).size := by
            rw [bs_size]
            omega
          clear hex hcc hql
          have HP : Hid (((D.p k).settle ((D.p k).sure + 0)).there = (D.p k).there ∧ bs (((D.p k).settle ((D.p k).sure + 0)).l.take ((D.p k).settle ((D.p k).sure + 0)).sure) = bs ((D.p k).l.take (D.p k).sure) ∧ ((D.p k).settle ((D.p k).sure + 0)).l.drop ((D.p k).settle ((D.p k).sure + 0)).sure = []) := HQ1
          clear hle HQ HQ1
          generalize (D.p k).l.drop (D.p k).sure = lb at *
          generalize (D.p k).l.take (D.p k).sure = la at *
          go_wp2_with fail
          go_region
          go_wp2_with fail
          have HR : Hid (RefAt rb (D.fallTo keep k) (wr.alloc (.cells #[.bool (D.p k).there, .string (bs la), .string (bs lb)] 47)) ∧ (wr.alloc (.cells #[.bool (D.p k).there, .string (bs la), .string (bs lb)] 47)).heap[wr.heap.size]? = some (.cells #[.bool (D.p k).there, .string (bs la), .string (bs lb)] 47 (0, 0)) ∧ Sole rb w (wr.alloc (.cells #[.bool (D.p k).there, .string (bs la), .string (bs lb)] 47))) := ⟨HW.out.1.on ((Below.refl _ _).alloc (Nat.le_refl _) _), heap_alloc_new wr _, HW.out.2.1.alloc _⟩
          have hxr : rb ≠ wr.heap.size := by have := HW.out.1.lt; omega
          have hxs : w.heap.size ≤ wr.heap.size := HW.out.2.1.size
          clear z0 z1 z2
          generalize wr.alloc (.cells #[.bool (D.p k).there, .string (bs la), .string (bs lb)] 47) = W at HR ⊢
          obtain ⟨xb, hxb⟩ : ∃ xb, xb = wr.heap.size := ⟨_, rfl⟩
          rw [← hxb] at HR hxr hxs ⊢
          clear hxb
          obtain ⟨x0, x1, x2, x3⟩ := three_cells HR.out.2.1
          go_region
          go_wp2_with fail
          have HR2 : Hid (RefAt rb (D.fallTo keep k) ((W.setCell ⟨xb, 1, none⟩ (.string (bs la))).setCell ⟨xb, 2, none⟩ (.string ⟨#[]⟩)) ∧ ((W.setCell ⟨xb, 1, none⟩ (.string (bs la))).setCell ⟨xb, 2, none⟩ (.string ⟨#[]⟩)).heap[xb]? = some (.cells #[.bool (D.p k).there, .string (bs la), .string ⟨#[]⟩] 47 (0, 0)) ∧ Sole rb w ((W.setCell ⟨xb, 1, none⟩ (.string (bs la))).setCell ⟨xb, 2, none⟩ (.string ⟨#[]⟩))) :=
            ⟨(HR.out.1.box hxr _ _).box hxr _ _, blk_setCell (blk_setCell HR.out.2.1), (HR.out.2.2.box hxs _ _).box hxs _ _⟩
          generalize ((W.setCell ⟨xb, 1, none⟩ (.string (bs la))).setCell ⟨xb, 2, none⟩ (.string ⟨#[]⟩)) = W2 at HR2 ⊢
          clear HR x0 x1 x2 x3
          have z0 := HR2.out.1.there k hlt
          have z1 := HR2.out.1.sure k hlt
          have z2 := HR2.out.1.pend k hlt
          have z3 := HR2.out.1.free
          obtain ⟨x0, x1, x2, x3⟩ := three_cells HR2.out.2.1
          go_region
          go_wp2
          go_roundw
          case rel =>
            have hP := HR2.out.1.put k hlt ((D.p k).settle ((D.p k).sure + 0))
            rw [HP.out.1, HP.out.2.1, HP.out.2.2, ← HL.out, Dr.fallTo_succ] at hP
            have hS := ((HR2.out.2.2.set (3 + k * 3) (.bool (D.p k).there)).set (3 + k * 3 + 1) (.string (bs la))).set (3 + k * 3 + 2) (.string ⟨#[]⟩)
            exact ⟨k + 1, by omega, by go_num, hP, hS.os, hS.tape, hS.output, hS.size, hS.block⟩
          case measure => simp [intOf]; omega
        · obtain ⟨y, rfl⟩ := Int.eq_ofNat_of_zero_le hx0
          have HL : Hid (D.left keep k = (D.p k).sure + y) := by
            show _ = _
            rw [hle]
            omega
          have HQ1 := HQ.out (y) (by trivial) (by omega)
          have hex := bs_take ((D.p k).l.drop (D.p k).sure) (y)
          have hql : (((D.p k).l.drop (D.p k).sure).take (y)).length ≤ ((D.p k).l.drop (D.p k).sure).length := List.length_take_le' _ _
          have hcc : ¬ 9223372036854775807 < (bs ((D.p k).l.take (D.p k).sure)).size + (bs (((D.p k).l.drop (D.p k).sure).take (y))).size := by
            rw [bs_size, bs_size]
            omega
          have HP : Hid (((D.p k).settle ((D.p k).sure + y)).there = (D.p k).there ∧ bs (((D.p k).settle ((D.p k).sure + y)).l.take ((D.p k).settle ((D.p k).sure + y)).sure) = bs ((D.p k).l.take (D.p k).sure) ++ bs (((D.p k).l.drop (D.p k).sure).take (y)) ∧ ((D.p k).settle ((D.p k).sure + y)).l.drop ((D.p k).settle ((D.p k).sure + y)).sure = []) := HQ1
          clear hle HQ HQ1
          generalize ((D.p k).l.drop (D.p k).sure).take (y) = lq at *
          generalize (D.p k).l.drop (D.p k).sure = lb at *
          generalize (D.p k).l.take (D.p k).sure = la at *
          go_wp2_with fail
          go_region
          go_wp2_with fail
          have HR : Hid (RefAt rb (D.fallTo keep k) (wr.alloc (.cells #[.bool (D.p k).there, .string (bs la), .string (bs lb)] 47)) ∧ (wr.alloc (.cells #[.bool (D.p k).there, .string (bs la), .string (bs lb)] 47)).heap[wr.heap.size]? = some (.cells #[.bool (D.p k).there, .string (bs la), .string (bs lb)] 47 (0, 0)) ∧ Sole rb w (wr.alloc (.cells #[.bool (D.p k).there, .string (bs la), .string (bs lb)] 47))) := ⟨HW.out.1.on ((Below.refl _ _).alloc (Nat.le_refl _) _), heap_alloc_new wr _, HW.out.2.1.alloc _⟩
          have hxr : rb ≠ wr.heap.size := by have := HW.out.1.lt; omega
          have hxs : w.heap.size ≤ wr.heap.size := HW.out.2.1.size
          clear z0 z1 z2
          generalize wr.alloc (.cells #[.bool (D.p k).there, .string (bs la), .string (bs lb)] 47) = W at HR ⊢
          obtain ⟨xb, hxb⟩ : ∃ xb, xb = wr.heap.size := ⟨_, rfl⟩
          rw [← hxb] at HR hxr hxs ⊢
          clear hxb
          obtain ⟨x0, x1, x2, x3⟩ := three_cells HR.out.2.1
          go_region
          go_wp2_with fail
          have HR2 : Hid (RefAt rb (D.fallTo keep k) ((W.setCell ⟨xb, 1, none⟩ (.string ((bs la ++ bs lq)))).setCell ⟨xb, 2, none⟩ (.string ⟨#[]⟩)) ∧ ((W.setCell ⟨xb, 1, none⟩ (.string ((bs la ++ bs lq)))).setCell ⟨xb, 2, none⟩ (.string ⟨#[]⟩)).heap[xb]? = some (.cells #[.bool (D.p k).there, .string ((bs la ++ bs lq)), .string ⟨#[]⟩] 47 (0, 0)) ∧ Sole rb w ((W.setCell ⟨xb, 1, none⟩ (.string ((bs la ++ bs lq)))).setCell ⟨xb, 2, none⟩ (.string ⟨#[]⟩))) :=
            ⟨(HR.out.1.box hxr _ _).box hxr _ _, blk_setCell (blk_setCell HR.out.2.1), (HR.out.2.2.box hxs _ _).box hxs _ _⟩
          generalize ((W.setCell ⟨xb, 1, none⟩ (.string ((bs la ++ bs lq)))).setCell ⟨xb, 2, none⟩ (.string ⟨#[]⟩)) = W2 at HR2 ⊢
          clear HR x0 x1 x2 x3
          have z0 := HR2.out.1.there k hlt
          have z1 := HR2.out.1.sure k hlt
          have z2 := HR2.out.1.pend k hlt
          have z3 := HR2.out.1.free
          obtain ⟨x0, x1, x2, x3⟩ := three_cells HR2.out.2.1
          go_region
          go_wp2
          go_roundw
          case rel =>
            have hP := HR2.out.1.put k hlt ((D.p k).settle ((D.p k).sure + y))
            rw [HP.out.1, HP.out.2.1, HP.out.2.2, ← HL.out, Dr.fallTo_succ] at hP
            have hS := ((HR2.out.2.2.set (3 + k * 3) (.bool (D.p k).there)).set (3 + k * 3 + 1) (.string ((bs la ++ bs lq)))).set (3 + k * 3 + 2) (.string ⟨#[]⟩)
            exact ⟨k + 1, by omega, by go_num, hP, hS.os, hS.tape, hS.output, hS.size, hS.block⟩
          case measure => simp [intOf]; omega
        · have hx2 : (((D.p k).l.drop (D.p k).sure).length : Int) < x := by omega
          have HL : Hid (D.left keep k = (D.p k).sure + ((D.p k).l.length - (D.p k).sure)) := by
            show _ = _
            rw [hle]
            omega
          have HQ1 := HQ.out (((D.p k).l.length - (D.p k).sure)) (by trivial) (by omega)
          have hex := bs_take ((D.p k).l.drop (D.p k).sure) (((D.p k).l.length - (D.p k).sure))
          have hql : (((D.p k).l.drop (D.p k).sure).take (((D.p k).l.length - (D.p k).sure))).length ≤ ((D.p k).l.drop (D.p k).sure).length := List.length_take_le' _ _
          have hcc : ¬ 9223372036854775807 < (bs ((D.p k).l.take (D.p k).sure)).size + (bs (((D.p k).l.drop (D.p k).sure).take (((D.p k).l.length - (D.p k).sure)))).size := by
            rw [bs_size, bs_size]
            omega
          have HP : Hid (((D.p k).settle ((D.p k).sure + ((D.p k).l.length - (D.p k).sure))).there = (D.p k).there ∧ bs (((D.p k).settle ((D.p k).sure + ((D.p k).l.length - (D.p k).sure))).l.take ((D.p k).settle ((D.p k).sure + ((D.p k).l.length - (D.p k).sure))).sure) = bs ((D.p k).l.take (D.p k).sure) ++ bs (((D.p k).l.drop (D.p k).sure).take (((D.p k).l.length - (D.p k).sure))) ∧ ((D.p k).settle ((D.p k).sure + ((D.p k).l.length - (D.p k).sure))).l.drop ((D.p k).settle ((D.p k).sure + ((D.p k).l.length - (D.p k).sure))).sure = []) := HQ1
          clear hle HQ HQ1
          rw [← hlb] at hex hcc HP HL hql
          generalize ((D.p k).l.drop (D.p k).sure).take (((D.p k).l.drop (D.p k).sure).length) = lq at *
          generalize (D.p k).l.drop (D.p k).sure = lb at *
          generalize (D.p k).l.take (D.p k).sure = la at *
          have hlbn : lb.length ≤ 1048576 := by omega
          clear hlb
          go_wp2_with fail
          go_region
          go_wp2_with fail
          have HR : Hid (RefAt rb (D.fallTo keep k) (wr.alloc (.cells #[.bool (D.p k).there, .string (bs la), .string (bs lb)] 47)) ∧ (wr.alloc (.cells #[.bool (D.p k).there, .string (bs la), .string (bs lb)] 47)).heap[wr.heap.size]? = some (.cells #[.bool (D.p k).there, .string (bs la), .string (bs lb)] 47 (0, 0)) ∧ Sole rb w (wr.alloc (.cells #[.bool (D.p k).there, .string (bs la), .string (bs lb)] 47))) := ⟨HW.out.1.on ((Below.refl _ _).alloc (Nat.le_refl _) _), heap_alloc_new wr _, HW.out.2.1.alloc _⟩
          have hxr : rb ≠ wr.heap.size := by have := HW.out.1.lt; omega
          have hxs : w.heap.size ≤ wr.heap.size := HW.out.2.1.size
          clear z0 z1 z2
          generalize wr.alloc (.cells #[.bool (D.p k).there, .string (bs la), .string (bs lb)] 47) = W at HR ⊢
          obtain ⟨xb, hxb⟩ : ∃ xb, xb = wr.heap.size := ⟨_, rfl⟩
          rw [← hxb] at HR hxr hxs ⊢
          clear hxb
          obtain ⟨x0, x1, x2, x3⟩ := three_cells HR.out.2.1
          go_region
          go_wp2_with fail
          have HR2 : Hid (RefAt rb (D.fallTo keep k) ((W.setCell ⟨xb, 1, none⟩ (.string ((bs la ++ bs lq)))).setCell ⟨xb, 2, none⟩ (.string ⟨#[]⟩)) ∧ ((W.setCell ⟨xb, 1, none⟩ (.string ((bs la ++ bs lq)))).setCell ⟨xb, 2, none⟩ (.string ⟨#[]⟩)).heap[xb]? = some (.cells #[.bool (D.p k).there, .string ((bs la ++ bs lq)), .string ⟨#[]⟩] 47 (0, 0)) ∧ Sole rb w ((W.setCell ⟨xb, 1, none⟩ (.string ((bs la ++ bs lq)))).setCell ⟨xb, 2, none⟩ (.string ⟨#[]⟩))) :=
            ⟨(HR.out.1.box hxr _ _).box hxr _ _, blk_setCell (blk_setCell HR.out.2.1), (HR.out.2.2.box hxs _ _).box hxs _ _⟩
          generalize ((W.setCell ⟨xb, 1, none⟩ (.string ((bs la ++ bs lq)))).setCell ⟨xb, 2, none⟩ (.string ⟨#[]⟩)) = W2 at HR2 ⊢
          clear HR x0 x1 x2 x3
          have z0 := HR2.out.1.there k hlt
          have z1 := HR2.out.1.sure k hlt
          have z2 := HR2.out.1.pend k hlt
          have z3 := HR2.out.1.free
          obtain ⟨x0, x1, x2, x3⟩ := three_cells HR2.out.2.1
          go_region
          go_wp2
          go_roundw
          case rel =>
            have hP := HR2.out.1.put k hlt ((D.p k).settle ((D.p k).sure + lb.length))
            rw [HP.out.1, HP.out.2.1, HP.out.2.2, ← HL.out, Dr.fallTo_succ] at hP
            have hS := ((HR2.out.2.2.set (3 + k * 3) (.bool (D.p k).there)).set (3 + k * 3 + 1) (.string ((bs la ++ bs lq)))).set (3 + k * 3 + 2) (.string ⟨#[]⟩)
            exact ⟨k + 1, by omega, by go_num, hP, hS.os, hS.tape, hS.output, hS.size, hS.block⟩
          case measure => simp [intOf]; omega
      · have hx : keep.getD k 0 = 0 := by simp [List.getD, List.getElem?_eq_none (by omega : keep.length ≤ k)]
        have hle := hle 0 hx
        have HL : Hid (D.left keep k = (D.p k).sure + 0) := by
          show _ = _
          rw [hle]
          omega
        have HQ1 := HQ.out (0) (by trivial) (by omega)
        have hex := bs_take ((D.p k).l.drop (D.p k).sure) (0)
        have hql : (((D.p k).l.drop (D.p k).sure).take (0)).length ≤ ((D.p k).l.drop (D.p k).sure).length := List.length_take_le' _ _
        have hcc : ¬ 9223372036854775807 < (bs ((D.p k).l.take (D.p k).sure)).size + (bs (((D.p k).l.drop (D.p k).sure).take (0))).size := by
          rw [bs_size, bs_size]
          omega
        rw [List.take_zero, show ∀ x : ByteArray, x ++ bs [] = x from fun x => by rw [← bs_of x, bs_append, List.append_nil]] at HQ1
        have hc0 : ¬ 9223372036854775807 < (bs ((D.p k).l.take (D.p k).sure)).size := by
          rw [bs_size]
          omega
        clear hex hcc hql
        have HP : Hid (((D.p k).settle ((D.p k).sure + 0)).there = (D.p k).there ∧ bs (((D.p k).settle ((D.p k).sure + 0)).l.take ((D.p k).settle ((D.p k).sure + 0)).sure) = bs ((D.p k).l.take (D.p k).sure) ∧ ((D.p k).settle ((D.p k).sure + 0)).l.drop ((D.p k).settle ((D.p k).sure + 0)).sure = []) := HQ1
        clear hle hx HQ HQ1
        generalize (D.p k).l.drop (D.p k).sure = lb at *
        generalize (D.p k).l.take (D.p k).sure = la at *
        go_wp2_with fail
        have HR : Hid (RefAt rb (D.fallTo keep k) (wr.alloc (.cells #[.bool (D.p k).there, .string (bs la), .string (bs lb)] 47)) ∧ (wr.alloc (.cells #[.bool (D.p k).there, .string (bs la), .string (bs lb)] 47)).heap[wr.heap.size]? = some (.cells #[.bool (D.p k).there, .string (bs la), .string (bs lb)] 47 (0, 0)) ∧ Sole rb w (wr.alloc (.cells #[.bool (D.p k).there, .string (bs la), .string (bs lb)] 47))) := ⟨HW.out.1.on ((Below.refl _ _).alloc (Nat.le_refl _) _), heap_alloc_new wr _, HW.out.2.1.alloc _⟩
        have hxr : rb ≠ wr.heap.size := by have := HW.out.1.lt; omega
        have hxs : w.heap.size ≤ wr.heap.size := HW.out.2.1.size
        clear z0 z1 z2
        generalize wr.alloc (.cells #[.bool (D.p k).there, .string (bs la), .string (bs lb)] 47) = W at HR ⊢
        obtain ⟨xb, hxb⟩ : ∃ xb, xb = wr.heap.size := ⟨_, rfl⟩
        rw [← hxb] at HR hxr hxs ⊢
        clear hxb
        obtain ⟨x0, x1, x2, x3⟩ := three_cells HR.out.2.1
        go_region
        go_wp2_with fail
        have HR2 : Hid (RefAt rb (D.fallTo keep k) ((W.setCell ⟨xb, 1, none⟩ (.string (bs la))).setCell ⟨xb, 2, none⟩ (.string ⟨#[]⟩)) ∧ ((W.setCell ⟨xb, 1, none⟩ (.string (bs la))).setCell ⟨xb, 2, none⟩ (.string ⟨#[]⟩)).heap[xb]? = some (.cells #[.bool (D.p k).there, .string (bs la), .string ⟨#[]⟩] 47 (0, 0)) ∧ Sole rb w ((W.setCell ⟨xb, 1, none⟩ (.string (bs la))).setCell ⟨xb, 2, none⟩ (.string ⟨#[]⟩))) :=
          ⟨(HR.out.1.box hxr _ _).box hxr _ _, blk_setCell (blk_setCell HR.out.2.1), (HR.out.2.2.box hxs _ _).box hxs _ _⟩
        generalize ((W.setCell ⟨xb, 1, none⟩ (.string (bs la))).setCell ⟨xb, 2, none⟩ (.string ⟨#[]⟩)) = W2 at HR2 ⊢
        clear HR x0 x1 x2 x3
        have z0 := HR2.out.1.there k hlt
        have z1 := HR2.out.1.sure k hlt
        have z2 := HR2.out.1.pend k hlt
        have z3 := HR2.out.1.free
        obtain ⟨x0, x1, x2, x3⟩ := three_cells HR2.out.2.1
        go_region
        go_wp2
        go_roundw
        case rel =>
          have hP := HR2.out.1.put k hlt ((D.p k).settle ((D.p k).sure + 0))
          rw [HP.out.1, HP.out.2.1, HP.out.2.2, ← HL.out, Dr.fallTo_succ] at hP
          have hS := ((HR2.out.2.2.set (3 + k * 3) (.bool (D.p k).there)).set (3 + k * 3 + 1) (.string (bs la))).set (3 + k * 3 + 2) (.string ⟨#[]⟩)
          exact ⟨k + 1, by omega, by go_num, hP, hS.os, hS.tape, hS.output, hS.size, hS.block⟩
        case measure => simp [intOf]; omega
    · have HE : Hid (k = 4) := (by omega : k = 4)
      have hdn := HW.out.1.down
      have hfu := HW.out.1.left
      have hfz := HW.out.1.free
      have hfu2 := (HW.out.1.set_down false).left
      have hfz2 := (HW.out.1.set_down false).free
      go_wp2
      go_end0
      have hR := (HW.out.1.set_down false).set_left (-1)
      rw [HE.out] at hR
      exact ⟨rfl, hR.same (fun i hi => by simp [Dr.fall, Dr.fallTo, hi]) rfl rfl rfl, (HW.out.2.1.set _ _).set _ _⟩

end Go.Proofs.Ytjjdmeemhgopbaa.Drm
