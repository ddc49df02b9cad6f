/-
  The document's steps: Lay, Cut, Trim, Sync.
-/
import Derived.Test.YtlgmnjjjaplgcaaRefAsk
namespace Go.Proofs.Ytlgmnjjjaplgcaa
open Go.RowKit

theorem step_refused {D : Dr} {a : Int} (r : Pt → Int) (f : Pt → Pt) (h : D.thr a ≠ 0) (hr : ∀ q, q.there = false → r q = 12) : D.step a r f = (D.thr a, D) := by
  unfold Dr.thr at h ⊢
  unfold Dr.step
  split
  · rfl
  · next hd =>
    rw [if_neg hd] at h
    split
    · rfl
    · next hn =>
      rw [if_neg hn] at h
      by_cases ht : (D.p a.toNat).there = true
      · rw [if_pos ht] at h; exact absurd rfl h
      · have h12 := hr _ (by simpa using ht)
        rw [if_pos (by rw [h12]; decide), h12, if_neg ht]

theorem step_goes {D : Dr} {n : Nat} (r : Pt → Int) (f : Pt → Pt) (hd : D.down = false) (hn : n < 4) : D.step n r f = if r (D.p n) ≠ 0 then (r (D.p n), D) else if D.fuel = 0 then (11, { D with down := true }) else (0, D.burn.set n (f (D.p n))) := by
  rw [Dr.step, hd, if_neg (by decide), if_neg (by omega), Int.toNat_natCast]

set_option maxHeartbeats 600000 in
theorem rcut17 (rb : Nat) (D : Dr) (a : Int) (w : World) (hD : RefAt rb D w) (hOk : D.Ok) : Calls Try.prog 17 #[.pointer (some ⟨rb, 0, none⟩), .int .i64 a] w fun e w' => e = .returned (.int .i64 (D.cut a).1) ∧ RefAt rb (D.cut a).2 w' ∧ Sole rb w w' := by
  have HT : Hid (1 = 1 → Calls Try.prog 37 #[.pointer (some ⟨rb, 0, none⟩), .int .i64 a] w fun e w' => e = .returned (.int .i64 (D.thr a)) ∧ w = w') := fun _ => there37 rb D a w hD
  have HD : Hid (RefAt rb D w) := hD
  by_cases ht : D.thr a = 0
  · rw [ht] at HT
    obtain ⟨hd, n, rfl, hn, hth⟩ := thr_zero ht
    have h1 : (n : Int) < 4 := by omega
    have hs : D.cut n = if D.fuel = 0 then (11, { D with down := true }) else (0, D.burn.set n Pt.none) := by
      rw [Dr.cut, step_goes _ _ hd hn, if_neg (by simp [missing, hth])]
    rw [hs]
    clear hs hd hth ht
    by_cases hf : D.fuel = 0
    · rw [if_pos hf]
      have HB : Hid (1 = 1 → Calls Try.prog 36 #[.pointer (some ⟨rb, 0, none⟩)] w fun e w' => e = .returned (.bool false) ∧ RefAt rb { D with down := true } w' ∧ Sole rb w w') := fun _ => burn36_no rb D w hD hf
      clear hf hD hOk
      go_enter Try.func17, Try.ntmps17
      go_wp2_with (first | (go_at_call 37; refine (HT.out (by trivial)).mono ?_; rintro e w1 ⟨rfl, rfl⟩) | (go_at_call 36; refine (HB.out (by trivial)).mono ?_; rintro e w2 ⟨rfl, h2, k2⟩; have H2 : Hid _ := And.intro h2 k2; clear h2 k2))
      go_ret
      exact ⟨rfl, H2.out⟩
    · rw [if_neg hf]
      have HB : Hid (1 = 1 → Calls Try.prog 36 #[.pointer (some ⟨rb, 0, none⟩)] w fun e w' => e = .returned (.bool true) ∧ RefAt rb D.burn w' ∧ Sole rb w w') := fun _ => burn36 rb D w hD hOk hf
      clear hf hD hOk
      go_enter Try.func17, Try.ntmps17
      go_wp2_with (first | (go_at_call 37; refine (HT.out (by trivial)).mono ?_; rintro e w1 ⟨rfl, rfl⟩) | (go_at_call 36; refine (HB.out (by trivial)).mono ?_; rintro e w2 ⟨rfl, h2, k2⟩; have H2 : Hid (RefAt rb D.burn w2 ∧ Sole rb w w2) := And.intro h2 k2; have z0 := h2.there n hn; have z1 := h2.sure n hn; have z2 := h2.pend n hn; have z3 := h2.free; clear h2 k2))
      go_ret
      exact ⟨rfl, H2.out.1.put n hn Pt.none, ((H2.out.2.set _ _).set _ _).set _ _⟩
  · have hs : D.cut a = (D.thr a, D) := step_refused _ _ ht (fun q hq => by simp [missing, hq])
    rw [hs]
    have hb : (D.thr a == 0) = false := by simp [ht]
    clear hs ht hD hOk
    generalize D.thr a = r at *
    go_enter Try.func17, Try.ntmps17
    go_wp2_with (go_at_call 37; refine (HT.out (by trivial)).mono ?_; rintro e w1 ⟨rfl, rfl⟩)
    go_ret
    exact ⟨rfl, HD.out, Sole.refl _ _⟩

theorem settle_all {q : Pt} (ht : q.there = true) : q.settle q.l.length = ⟨true, q.l, q.l.length⟩ := by simp [Pt.settle, ht]

theorem three_cells {w : World} {b : Nat} {v0 v1 v2 : Value} {t : TypeId} (h : w.heap[b]? = some (.cells #[v0, v1, v2] t (0, 0))) :
    w.cell? ⟨b, 0, none⟩ = some v0 ∧ w.cell? ⟨b, 1, none⟩ = some v1 ∧ w.cell? ⟨b, 2, none⟩ = some v2 ∧ ∀ k, w.frozen? ⟨b, k, none⟩ = false :=
  ⟨blk_cell h rfl, blk_cell h rfl, blk_cell h rfl, fun _ => blk_free h⟩

set_option maxHeartbeats 800000 in
theorem rsync20 (rb : Nat) (D : Dr) (a : Int) (w : World) (hD : RefAt rb D w) (hOk : D.Ok) : Calls Try.prog 20 #[.pointer (some ⟨rb, 0, none⟩), .int .i64 a] w fun e w' => e = .returned (.int .i64 (D.sync a).1) ∧ RefAt rb (D.sync a).2 w' ∧ Sole rb w w' := by
  have HT : Hid (1 = 1 → Calls Try.prog 37 #[.pointer (some ⟨rb, 0, none⟩), .int .i64 a] w fun e w' => e = .returned (.int .i64 (D.thr a)) ∧ w = w') := fun _ => there37 rb D a w hD
  have HD : Hid (RefAt rb D w) := hD
  by_cases ht : D.thr a = 0
  · rw [ht] at HT
    obtain ⟨hd, n, rfl, hn, hth⟩ := thr_zero ht
    have h1 : (n : Int) < 4 := by omega
    have hs : D.sync n = if D.fuel = 0 then (11, { D with down := true }) else (0, D.burn.set n ⟨true, (D.p n).l, (D.p n).l.length⟩) := by
      rw [Dr.sync, step_goes _ _ hd hn, if_neg (by simp [missing, hth]), settle_all hth]
    rw [hs]
    clear hs hd ht
    by_cases hf : D.fuel = 0
    · rw [if_pos hf]
      have HB : Hid (1 = 1 → Calls Try.prog 36 #[.pointer (some ⟨rb, 0, none⟩)] w fun e w' => e = .returned (.bool false) ∧ RefAt rb { D with down := true } w' ∧ Sole rb w w') := fun _ => burn36_no rb D w hD hf
      clear hf hD hOk hth
      go_enter Try.func20, Try.ntmps20
      go_wp2_with (first | (go_at_call 37; refine (HT.out (by trivial)).mono ?_; rintro e w1 ⟨rfl, rfl⟩) | (go_at_call 36; refine (HB.out (by trivial)).mono ?_; rintro e w2 ⟨rfl, h2, k2⟩; have H2 : Hid _ := And.intro h2 k2; clear h2 k2))
      go_ret
      exact ⟨rfl, H2.out⟩
    · rw [if_neg hf]
      have HB : Hid (1 = 1 → Calls Try.prog 36 #[.pointer (some ⟨rb, 0, none⟩)] w fun e w' => e = .returned (.bool true) ∧ RefAt rb D.burn w' ∧ Sole rb w w') := fun _ => burn36 rb D w hD hOk hf
      have hcc := cat_fits hOk n hn
      have HE : Hid (bs ((D.p n).l.take (D.p n).sure) ++ bs ((D.p n).l.drop (D.p n).sure) = bs (D.p n).l ∧ D.burn.p = D.p) := by
        show _ ∧ _
        exact ⟨by rw [bs_append, List.take_append_drop], rfl⟩
      clear hf hD hOk hth
      go_enter Try.func20, Try.ntmps20
      go_wp2_with (first | (go_at_call 37; refine (HT.out (by trivial)).mono ?_; rintro e w1 ⟨rfl, rfl⟩) | (go_at_call 36; refine (HB.out (by trivial)).mono ?_; rintro e w2 ⟨rfl, h2, k2⟩; have H2 : Hid (RefAt rb D.burn w2 ∧ Sole rb w w2) := And.intro h2 k2; have z0 := h2.there n hn; have z1 := h2.sure n hn; have z2 := h2.pend n hn; rw [HE.out.2] at z0 z1 z2; clear h2 k2))
      have HR : Hid (RefAt rb D.burn (w2.alloc (.cells #[.bool (D.p n).there, .string (bs ((D.p n).l.take (D.p n).sure)), .string (bs ((D.p n).l.drop (D.p n).sure))] 44)) ∧ (w2.alloc (.cells #[.bool (D.p n).there, .string (bs ((D.p n).l.take (D.p n).sure)), .string (bs ((D.p n).l.drop (D.p n).sure))] 44)).heap[w2.heap.size]? = some (.cells #[.bool (D.p n).there, .string (bs ((D.p n).l.take (D.p n).sure)), .string (bs ((D.p n).l.drop (D.p n).sure))] 44 (0, 0)) ∧ Sole rb w (w2.alloc (.cells #[.bool (D.p n).there, .string (bs ((D.p n).l.take (D.p n).sure)), .string (bs ((D.p n).l.drop (D.p n).sure))] 44))) := ⟨H2.out.1.on ((Below.refl _ _).alloc (Nat.le_refl _) _), heap_alloc_new w2 _, H2.out.2.alloc _⟩
      clear z0 z1 z2
      generalize w2.alloc (.cells #[.bool (D.p n).there, .string (bs ((D.p n).l.take (D.p n).sure)), .string (bs ((D.p n).l.drop (D.p n).sure))] 44) = W at HR ⊢
      obtain ⟨xb, hxb⟩ : ∃ xb, xb = w2.heap.size := ⟨_, rfl⟩
      rw [← hxb] at HR ⊢
      clear hxb
      have z0 := HR.out.1.there n hn
      have z1 := HR.out.1.sure n hn
      have z2 := HR.out.1.pend n hn
      have z3 := HR.out.1.free
      rw [HE.out.2] at z0 z1 z2
      obtain ⟨x0, x1, x2, x3⟩ := three_cells HR.out.2.1
      generalize (D.p n).l.take (D.p n).sure = la at *
      generalize (D.p n).l.drop (D.p n).sure = lb at *
      go_region
      go_wp2
      go_ret
      have hP := (HR.out.1.on ((Below.refl _ _).drew)).put n hn ⟨true, (D.p n).l, (D.p n).l.length⟩
      simp only [List.take_length, List.drop_length] at hP
      rw [← HE.out.1] at hP
      exact ⟨rfl, hP, ((HR.out.2.2.drew.set _ _).set _ _).set _ _⟩
  · have hs : D.sync a = (D.thr a, D) := step_refused _ _ ht (fun q hq => by simp [missing, hq])
    rw [hs]
    have hb : (D.thr a == 0) = false := by simp [ht]
    clear hs ht hD hOk
    generalize D.thr a = r at *
    go_enter Try.func20, Try.ntmps20
    go_wp2_with (go_at_call 37; refine (HT.out (by trivial)).mono ?_; rintro e w1 ⟨rfl, rfl⟩)
    go_ret
    exact ⟨rfl, HD.out, Sole.refl _ _⟩

end Go.Proofs.Ytlgmnjjjaplgcaa
