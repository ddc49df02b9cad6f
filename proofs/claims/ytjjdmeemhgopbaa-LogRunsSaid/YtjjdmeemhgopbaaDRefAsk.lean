/-
  The document's drum: how many bytes it has, what it reads, its fuel.
-/
import Derived.Test.YtjjdmeemhgopbaaDRef
namespace Go.Proofs.Ytjjdmeemhgopbaa.Drm
open Go.RowKit

theorem thr_zero {D : Dr} {a : Int} (h : D.thr a = 0) : D.down = false ∧ ∃ n : Nat, a = n ∧ n < 4 ∧ (D.p n).there = true := by
  unfold Dr.thr at h
  split at h
  · simp at h
  · next hd =>
    split at h
    · simp at h
    · next hn =>
      split at h
      · next ht => exact ⟨by simpa using hd, a.toNat, by omega, by omega, ht⟩
      · simp at h

theorem thr_of {D : Dr} {n : Nat} (hd : D.down = false) (hn : n < 4) (ht : (D.p n).there = true) : D.thr n = 0 := by
  rw [Dr.thr, hd, if_neg (by decide), if_neg (by omega), Int.toNat_natCast, if_pos ht]

theorem read_thr {D : Dr} {a : Int} (h : D.thr a ≠ 0) : D.read a = ([], D.thr a) := by
  unfold Dr.thr at h ⊢
  unfold Dr.read
  split
  · rfl
  · next hd =>
    rw [if_neg hd] at h
    split
    · rfl
    · next hn =>
      rw [if_neg hn] at h
      split
      · next ht => rw [if_pos ht] at h; exact absurd rfl h
      · rfl
theorem read_ok {D : Dr} {n : Nat} (hd : D.down = false) (hn : n < 4) (ht : (D.p n).there = true) : D.read n = ((D.p n).l, 0) := by
  rw [Dr.read, hd, if_neg (by decide), if_neg (by omega), Int.toNat_natCast, if_pos ht]

set_option maxHeartbeats 400000 in
theorem rused23 (rb : Nat) (D : Dr) (w : World) (hD : RefAt rb D w) (hOk : D.Ok) : Calls Try.prog 64 #[.pointer (some ⟨rb, 0, none⟩)] w fun e w' => e = .returned (.int .i64 D.used) ∧ ∃ m, w' = w.drewN m := by
  have HD : Hid (RefAt rb D w ∧ D.Ok) := ⟨hD, hOk⟩
  have hu : D.used ≤ 1048576 := by have := hOk.fits; have := hOk.room1; omega
  clear hD hOk
  go_enter Try.func64, Try.ntmps64
  go_wp2_with fail
  go_loopw [3, 4] (fun u i wr => ∃ k : Nat, k ≤ 4 ∧ i = .int .i64 k ∧ u = .int .i64 (usedTo D k) ∧ ∃ m, wr = w.drewN m) (fun _ i _ => 4 - (intOf i).toNat)
  case atStart => exact ⟨0, by omega, rfl, rfl, 0, rfl⟩
  case round =>
    obtain ⟨k, hk, rfl, rfl, m, rfl⟩ := hrel
    have h1 := usedTo_le D k hk
    by_cases hlt : k < 4
    · have h2 := usedTo_le D (k + 1) hlt
      have hs0 := HD.out.2.sure k
      have HS : Hid (usedTo D (k + 1) = usedTo D k + ((D.p k).l.take (D.p k).sure).length + ((D.p k).l.drop (D.p k).sure).length) := by
        show _ = _
        rw [usedTo_succ, List.length_take, List.length_drop]
        omega
      have hc1 := HD.out.1.sure k hlt
      have hc2 := HD.out.1.pend k hlt
      have h3 : usedTo D k + ((D.p k).l.take (D.p k).sure).length + ((D.p k).l.drop (D.p k).sure).length ≤ 1048576 := by have := HS.out; omega
      have e1 := bs_size ((D.p k).l.take (D.p k).sure)
      have e2 := bs_size ((D.p k).l.drop (D.p k).sure)
      generalize (D.p k).l.take (D.p k).sure = la at *
      generalize (D.p k).l.drop (D.p k).sure = lb at *
      generalize usedTo D k = u at *
      go_wp2_with fail
      go_region
      go_wp2
      go_roundw
      case rel => exact ⟨k + 1, by omega, by go_num, by rw [HS.out]; go_num, m + 1, rfl⟩
      case measure => simp [intOf]; omega
    · have HE : Hid (k = 4) := (by omega : k = 4)
      go_wp2
      go_ret
      exact ⟨by rw [HE.out, usedTo_four]; rfl, m, rfl⟩

theorem cat_fits {D : Dr} (h : D.Ok) (n : Nat) (hn : n < 4) : ¬ 9223372036854775807 < (bs ((D.p n).l.take (D.p n).sure)).size + (bs ((D.p n).l.drop (D.p n).sure)).size := by
  rw [bs_size, bs_size, List.length_take, List.length_drop]
  have := h.fits
  have := h.room1
  have := D.len_le_used n hn
  omega

set_option maxHeartbeats 400000 in
theorem rread24 (rb : Nat) (D : Dr) (a : Int) (w : World) (hD : RefAt rb D w) (hOk : D.Ok) : Calls Try.prog 30 #[.pointer (some ⟨rb, 0, none⟩), .int .i64 a] w fun e w' => e = .returned (.tuple #[.string (bs (D.read a).1), .int .i64 (D.read a).2]) ∧ Below w.heap.size w w' := by
  have HT : Hid (1 = 1 → Calls Try.prog 53 #[.pointer (some ⟨rb, 0, none⟩), .int .i64 a] w fun e w' => e = .returned (.int .i64 (D.thr a)) ∧ w = w') := fun _ => there37 rb D a w hD
  by_cases ht : D.thr a = 0
  · rw [ht] at HT
    obtain ⟨hd, n, rfl, hn, hth⟩ := thr_zero ht
    rw [read_ok hd hn hth]
    have hc1 := hD.sure n hn
    have hc2 := hD.pend n hn
    have HE : Hid (bs ((D.p n).l.take (D.p n).sure) ++ bs ((D.p n).l.drop (D.p n).sure) = bs (D.p n).l) := by
      show _ = _
      rw [bs_append, List.take_append_drop]
    have h1 : (n : Int) < 4 := by omega
    have hcc := cat_fits hOk n hn
    clear hD ht hd hth
    generalize (D.p n).l.take (D.p n).sure = la at *
    generalize (D.p n).l.drop (D.p n).sure = lb at *
    go_enter Try.func30, Try.ntmps30
    go_wp2_with (go_at_call 53; refine (HT.out (by trivial)).mono ?_; rintro e w1 ⟨rfl, rfl⟩)
    go_region
    go_wp2
    go_ret2
    exact ⟨by rw [← HE.out]; rfl, (Below.refl _ _).drew⟩
  · rw [read_thr ht]
    have hb : (D.thr a == 0) = false := by simp [ht]
    clear ht hD hOk
    generalize D.thr a = r at *
    go_enter Try.func30, Try.ntmps30
    go_wp2_with (go_at_call 53; refine (HT.out (by trivial)).mono ?_; rintro e w1 ⟨rfl, rfl⟩)
    go_ret2
    exact ⟨rfl, Below.refl _ _⟩

theorem lft_zero (D : Dr) : D.lft = 0 ↔ D.fuel = 0 := by unfold Dr.lft; omega

theorem RefAt.turn {rb : Nat} {D D' : Dr} {w : World} (h : RefAt rb D w) (k : Nat) (u : Value) (hc : (rcells D).setIfInBounds k u = rcells D') : RefAt rb D' (w.setCell ⟨rb, k, none⟩ u) := by
  unfold RefAt
  rw [blk_setCell h, hc]
theorem RefAt.set_down {rb : Nat} {D : Dr} {w : World} (h : RefAt rb D w) (b : Bool) : RefAt rb { D with down := b } (w.setCell ⟨rb, 2, none⟩ (.bool b)) := h.turn _ _ rfl
theorem RefAt.set_left {rb : Nat} {D : Dr} {w : World} (h : RefAt rb D w) (n : Int) : RefAt rb { D with fuel := n } (w.setCell ⟨rb, 1, none⟩ (.int .i64 (max n (-1)))) := h.turn _ _ rfl
theorem RefAt.put {rb : Nat} {D : Dr} {w : World} (h : RefAt rb D w) (a : Nat) (ha : a < 4) (q : Pt) :
    RefAt rb (D.set a q) (((w.setCell ⟨rb, 3 + a * 3, none⟩ (.bool q.there)).setCell ⟨rb, 3 + a * 3 + 1, none⟩ (.string (bs (q.l.take q.sure)))).setCell ⟨rb, 3 + a * 3 + 2, none⟩ (.string (bs (q.l.drop q.sure)))) := by
  unfold RefAt
  rw [blk_setCell (blk_setCell (blk_setCell h))]
  congr 2
  rcases four ha with rfl | rfl | rfl | rfl <;> rfl

set_option maxHeartbeats 400000 in
theorem burn36_no (rb : Nat) (D : Dr) (w : World) (hD : RefAt rb D w) (hf : D.fuel = 0) : Calls Try.prog 57 #[.pointer (some ⟨rb, 0, none⟩)] w fun e w' => e = .returned (.bool false) ∧ RefAt rb { D with down := true } w' ∧ Sole rb w w' := by
  have HD : Hid (RefAt rb D w) := hD
  have hc := hD.left
  have hd := hD.down
  have hz := hD.free
  rw [(lft_zero D).2 hf] at hc
  clear hD hf
  go_enter Try.func57, Try.ntmps57
  go_wp2
  go_ret
  exact ⟨rfl, HD.out.set_down true, (Sole.refl _ _).set _ _⟩

set_option maxHeartbeats 400000 in
theorem burn36 (rb : Nat) (D : Dr) (w : World) (hD : RefAt rb D w) (hOk : D.Ok) (hf : D.fuel ≠ 0) : Calls Try.prog 57 #[.pointer (some ⟨rb, 0, none⟩)] w fun e w' => e = .returned (.bool true) ∧ RefAt rb D.burn w' ∧ Sole rb w w' := by
  have HD : Hid (RefAt rb D w) := hD
  have hc := hD.left
  have hd := hD.down
  have hz := hD.free
  have h9 := hOk.fuel1
  have hl : D.lft = max D.fuel (-1) := rfl
  have hlb : (D.lft == 0) = false := by
    have := (lft_zero D)
    simp [this, hf]
  by_cases hp : 0 < D.fuel
  · have HB : Hid ({ D with fuel := D.lft - 1 } = D.burn ∧ max (D.lft - 1) (-1) = D.lft - 1) := by
      show _ ∧ _
      refine ⟨?_, by omega⟩
      have : D.lft = D.fuel := by omega
      simp [Dr.burn, hp, this]
    have hlp : 0 < D.lft := by omega
    have hl9 : D.lft ≤ 9223372036854775807 := by omega
    clear hl hf hp hD h9
    generalize D.lft = lf at *
    go_enter Try.func57, Try.ntmps57
    go_wp2
    go_ret
    have hR := HD.out.set_left (lf - 1)
    rw [HB.out.1, HB.out.2] at hR
    exact ⟨rfl, hR, (Sole.refl _ _).set _ _⟩
  · have HB : Hid (D = D.burn) := by
      show _ = _
      unfold Dr.burn
      rw [if_neg hp]
    have hlp : ¬ 0 < D.lft := by omega
    clear hl hf hp hD h9
    generalize D.lft = lf at *
    go_enter Try.func57, Try.ntmps57
    go_wp2
    go_ret
    exact ⟨rfl, by rw [← HB.out]; exact HD.out, Sole.refl _ _⟩

end Go.Proofs.Ytjjdmeemhgopbaa.Drm
