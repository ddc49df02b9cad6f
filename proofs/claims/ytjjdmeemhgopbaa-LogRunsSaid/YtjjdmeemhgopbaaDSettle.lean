/-
  Contracts of settle and of the closures that the steps are told by.
-/
import Derived.Test.YtjjdmeemhgopbaaDAsk
namespace Go.Proofs.Ytjjdmeemhgopbaa.Drm
open Go.RowKit

theorem set_set (D : Dr) (a : Nat) (q r : Pt) : (D.set a q).set a r = D.set a r := by
  simp only [Dr.set]
  congr 1
  funext i
  by_cases h : i = a <;> simp [h]

/-- The row behind settle's second store. -/
theorem settle_end {pb : Nat} {D : Dr} {vs : Nat → Value} {w1 : World} {a m : Nat} {ao : Option Addr} {cp : Nat} (hD : DrumIn pb (D.set a { D.p a with sure := m }) vs w1) (ha : a < 4) (hv : vs a = .slice ao (D.p a).l.length cp) (hm : m ≤ (D.p a).l.length) :
    DrumAt pb (D.set a ⟨(D.p a).there, (D.p a).l.take m, m⟩) (w1.setCell ⟨pb, a * 3 + 1, none⟩ (.slice ao m cp)) ∧ Kept pb w1 (w1.setCell ⟨pb, a * 3 + 1, none⟩ (.slice ao m cp)) := by
  have ho := hD.own a ha
  rw [Dr.set_same] at ho
  have hrow := own_take ho m hm hv
  obtain ⟨vs', hv', h1, h2⟩ := hD.set_row a ha (w1 := w1) ⟨rfl, rfl, rfl, Nat.le_refl _, fun _ _ _ => rfl⟩ hrow (fun k hk => .inl (by rw [hv]; cases ao <;> exact hk))
  rw [Dr.set_same, set_set] at h1
  exact ⟨⟨vs', h1⟩, h2⟩

set_option maxHeartbeats 800000 in
theorem settle40 (pb : Nat) (D : Dr) (a n : Nat) (w : World) (hD : DrumAt pb D w) (ha : a < 4) :
    Calls Try.prog 38 #[.pointer (some ⟨pb, a * 3, none⟩), .int .i64 n] w fun e w' => e = .returned (.tuple #[]) ∧ DrumAt pb (D.set a ((D.p a).settle n)) w' ∧ Kept pb w w' := by
  obtain ⟨vs, hD⟩ := hD
  have hr := hD.row a ha
  have hf := hD.free
  have hs := hD.sure a ha
  obtain ⟨ao, cp, hv, hcp⟩ := own_shape (hD.own a ha)
  rw [hv] at hr
  have HD : Hid (DrumIn pb D vs w ∧ vs a = .slice ao (D.p a).l.length cp) := ⟨hD, hv⟩
  obtain ⟨len, hlen⟩ : ∃ len, (D.p a).l.length = len := ⟨_, rfl⟩
  rw [hlen] at hr hcp
  have HL : Hid ((D.p a).l.length = len) := hlen
  clear hv hD hlen
  by_cases hnl : n ≤ len
  · have hset : (D.p a).settle n = ⟨(D.p a).there, (D.p a).l.take n, n⟩ := by
      have := HL.out
      simp only [Pt.settle, Pt.mk.injEq, true_and]
      omega
    rw [hset]
    clear hset
    go_enter Try.func38, Try.ntmps38
    go_wp2
    have hD1 := HD.out.1.set_sure a ha n
    have K1 : Hid (Kept pb w (w.setCell ⟨pb, a * 3 + 2, none⟩ (.int .i64 n))) := (Kept.refl pb w).set _ _
    generalize w.setCell ⟨pb, a * 3 + 2, none⟩ (.int .i64 n) = w1 at *
    have hr1 := hD1.row a ha
    have hs1 := hD1.sure a ha
    have hf1 := hD1.free
    rw [Dr.set_same] at hs1
    rw [HD.out.2, HL.out] at hr1
    have H1 : Hid (DrumIn pb (D.set a { D.p a with sure := n }) vs w1) := hD1
    clear hD1 hs hr hf
    go_region
    go_end0
    have R := settle_end H1.out ha HD.out.2 (by rw [HL.out]; exact hnl)
    exact ⟨rfl, R.1.drew, (K1.out.trans R.2).drew⟩
  · have hset : (D.p a).settle n = ⟨(D.p a).there, (D.p a).l.take len, len⟩ := by
      have := HL.out
      simp only [Pt.settle, Pt.mk.injEq, true_and]
      refine ⟨?_, by omega⟩
      rw [List.take_of_length_le (by omega), List.take_of_length_le (by omega)]
    rw [hset]
    clear hset
    go_enter Try.func38, Try.ntmps38
    go_wp2
    have hD1 := HD.out.1.set_sure a ha len
    have K1 : Hid (Kept pb w (w.setCell ⟨pb, a * 3 + 2, none⟩ (.int .i64 len))) := (Kept.refl pb w).set _ _
    generalize w.setCell ⟨pb, a * 3 + 2, none⟩ (.int .i64 len) = w1 at *
    have hr1 := hD1.row a ha
    have hs1 := hD1.sure a ha
    have hf1 := hD1.free
    rw [Dr.set_same] at hs1
    rw [HD.out.2, HL.out] at hr1
    have H1 : Hid (DrumIn pb (D.set a { D.p a with sure := len }) vs w1) := hD1
    clear hD1 hs hr hf
    go_region
    go_end0
    have R := settle_end H1.out ha HD.out.2 (by rw [HL.out]; exact Nat.le_refl _)
    exact ⟨rfl, R.1.drew, (K1.out.trans R.2).drew⟩

set_option maxHeartbeats 400000 in
theorem lay32 (pb o : Nat) (b : Bool) (w : World) (hc : w.cell? ⟨pb, o, none⟩ = some (.bool b)) : Calls Try.prog 70 #[.pointer (some ⟨pb, o, none⟩)] w fun e w' => e = .returned (.int .i64 (if b = true then 1 else 0)) ∧ w = w' := by
  cases b
  all_goals
    go_enter Try.func70, Try.ntmps70
    go_wp2
    go_ret
    exact ⟨rfl, rfl⟩

set_option maxHeartbeats 400000 in
theorem lay33 (pb : Nat) (D : Dr) (a : Nat) (w : World) (hD : DrumAt pb D w) (ha : a < 4) : Calls Try.prog 71 #[.pointer (some ⟨pb, a * 3, none⟩)] w fun e w' => e = .returned (.tuple #[]) ∧ DrumAt pb (D.set a { D.p a with there := true }) w' ∧ Kept pb w w' := by
  obtain ⟨vs, hD⟩ := hD
  have HD : Hid (DrumIn pb D vs w) := hD
  have hc := hD.there a ha
  have hf := hD.free
  clear hD
  go_enter Try.func71, Try.ntmps71
  go_wp2
  go_end0
  exact ⟨rfl, ⟨vs, HD.out.set_there a ha true⟩, (Kept.refl _ _).set _ _⟩

set_option maxHeartbeats 400000 in
theorem sync41 (pb o : Nat) (b : Bool) (w : World) (hc : w.cell? ⟨pb, o, none⟩ = some (.bool b)) : Calls Try.prog 79 #[.pointer (some ⟨pb, o, none⟩)] w fun e w' => e = .returned (.int .i64 (if b = true then 0 else 12)) ∧ w = w' := by
  cases b
  all_goals
    go_enter Try.func79, Try.ntmps79
    go_wp2_with (go_at_call 51; refine (missing30 pb o _ _ hc).mono ?_; rintro e w1 ⟨rfl, rfl⟩)
    go_ret
    exact ⟨rfl, rfl⟩

set_option maxHeartbeats 400000 in
theorem sync42 (pb : Nat) (D : Dr) (a : Nat) (w : World) (hD : DrumAt pb D w) (ha : a < 4) : Calls Try.prog 80 #[.pointer (some ⟨pb, a * 3, none⟩)] w fun e w' => e = .returned (.tuple #[]) ∧ DrumAt pb (D.set a ((D.p a).settle (D.p a).l.length)) w' ∧ Kept pb w w' := by
  have HC : Hid (1 = 1 → Calls Try.prog 38 #[.pointer (some ⟨pb, a * 3, none⟩), .int .i64 (D.p a).l.length] w fun e w' => e = .returned (.tuple #[]) ∧ DrumAt pb (D.set a ((D.p a).settle (D.p a).l.length)) w' ∧ Kept pb w w') := fun _ => settle40 pb D a _ w hD ha
  obtain ⟨vs, hD⟩ := hD
  have hr := hD.row a ha
  obtain ⟨ao, cp, hv, hcp⟩ := own_shape (hD.own a ha)
  rw [hv] at hr
  clear hv hD
  go_enter Try.func80, Try.ntmps80
  go_wp2_with (go_at_call 38; refine (HC.out rfl).mono ?_; rintro e w1 ⟨rfl, h1, h2⟩; have H1 : Hid _ := And.intro h1 h2; clear h1 h2)
  go_end0
  exact ⟨rfl, H1.out⟩

set_option maxHeartbeats 400000 in
theorem cut43 (pb o : Nat) (b : Bool) (w : World) (hc : w.cell? ⟨pb, o, none⟩ = some (.bool b)) : Calls Try.prog 66 #[.pointer (some ⟨pb, o, none⟩)] w fun e w' => e = .returned (.int .i64 (if b = true then 0 else 12)) ∧ w = w' := by
  cases b
  all_goals
    go_enter Try.func66, Try.ntmps66
    go_wp2_with (go_at_call 51; refine (missing30 pb o _ _ hc).mono ?_; rintro e w1 ⟨rfl, rfl⟩)
    go_ret
    exact ⟨rfl, rfl⟩


/-- The area behind the three stores of an empty one. -/
theorem cut_end {pb : Nat} {D : Dr} {vs : Nat → Value} {w : World} {a : Nat} (h : DrumIn pb D vs w) (ha : a < 4) :
    DrumAt pb (D.set a Pt.none) (((w.setCell ⟨pb, a * 3, none⟩ (.bool false)).setCell ⟨pb, a * 3 + 1, none⟩ (.slice none 0 0)).setCell ⟨pb, a * 3 + 2, none⟩ (.int .i64 0)) ∧ Kept pb w (((w.setCell ⟨pb, a * 3, none⟩ (.bool false)).setCell ⟨pb, a * 3 + 1, none⟩ (.slice none 0 0)).setCell ⟨pb, a * 3 + 2, none⟩ (.int .i64 0)) := by
  have h1 := h.set_there a ha false
  obtain ⟨vs', _, h2, k2⟩ := h1.set_row a ha (w1 := w.setCell ⟨pb, a * 3, none⟩ (.bool false)) (v' := .slice none 0 0) (l' := []) ⟨rfl, rfl, rfl, Nat.le_refl _, fun _ _ _ => rfl⟩ (World.ownsRow_nil _ _ _ _) (fun k hk => by simp [Value.ownBlock] at hk)
  rw [set_set, Dr.set_same] at h2
  have h3 := h2.set_sure a ha 0
  rw [set_set, Dr.set_same] at h3
  exact ⟨⟨vs', h3⟩, ((((Kept.refl pb w).set _ _).set _ _).set _ _)⟩

set_option maxHeartbeats 400000 in
theorem cut44 (pb : Nat) (D : Dr) (a : Nat) (w : World) (hD : DrumAt pb D w) (ha : a < 4) : Calls Try.prog 67 #[.pointer (some ⟨pb, a * 3, none⟩)] w fun e w' => e = .returned (.tuple #[]) ∧ DrumAt pb (D.set a Pt.none) w' ∧ Kept pb w w' := by
  obtain ⟨vs, hD⟩ := hD
  have HD : Hid (DrumIn pb D vs w) := hD
  have hc := hD.there a ha
  have hc1 := hD.row a ha
  have hc2 := hD.sure a ha
  have hf := hD.free
  clear hD
  go_enter Try.func67, Try.ntmps67
  go_wp2
  go_end0
  exact ⟨rfl, cut_end HD.out ha⟩

set_option maxHeartbeats 400000 in
theorem trim45 (pb o nb : Nat) (b : Bool) (n : Int) (w : World) (hc : w.cell? ⟨pb, o, none⟩ = some (.bool b)) (hn : w.cell? ⟨nb, 0, none⟩ = some (.int .i64 n)) : Calls Try.prog 50 #[.pointer (some ⟨pb, o, none⟩), .pointer (some ⟨nb, 0, none⟩)] w fun e w' => e = .returned (.int .i64 (if b = true then (if n < 0 then 1 else 0) else 12)) ∧ w = w' := by
  cases b
  · go_enter Try.func50, Try.ntmps50
    go_wp2_with (go_at_call 51; refine (missing30 pb o _ _ hc).mono ?_; rintro e w1 ⟨rfl, rfl⟩)
    go_ret
    exact ⟨rfl, rfl⟩
  · by_cases h : n < 0
    · rw [if_pos h]
      go_enter Try.func50, Try.ntmps50
      go_wp2_with (go_at_call 51; refine (missing30 pb o _ _ hc).mono ?_; rintro e w1 ⟨rfl, rfl⟩)
      go_ret
      exact ⟨rfl, rfl⟩
    · rw [if_neg h]
      go_enter Try.func50, Try.ntmps50
      go_wp2_with (go_at_call 51; refine (missing30 pb o _ _ hc).mono ?_; rintro e w1 ⟨rfl, rfl⟩)
      go_ret
      exact ⟨rfl, rfl⟩

set_option maxHeartbeats 400000 in
theorem trim46 (pb : Nat) (D : Dr) (a nb n : Nat) (w : World) (hD : DrumAt pb D w) (ha : a < 4) (hn : w.cell? ⟨nb, 0, none⟩ = some (.int .i64 n)) : Calls Try.prog 52 #[.pointer (some ⟨pb, a * 3, none⟩), .pointer (some ⟨nb, 0, none⟩)] w fun e w' => e = .returned (.tuple #[]) ∧ DrumAt pb (D.set a ((D.p a).settle n)) w' ∧ Kept pb w w' := by
  have HC : Hid (1 = 1 → Calls Try.prog 38 #[.pointer (some ⟨pb, a * 3, none⟩), .int .i64 n] w fun e w' => e = .returned (.tuple #[]) ∧ DrumAt pb (D.set a ((D.p a).settle n)) w' ∧ Kept pb w w') := fun _ => settle40 pb D a n w hD ha
  clear hD
  go_enter Try.func52, Try.ntmps52
  go_wp2_with (go_at_call 38; refine (HC.out rfl).mono ?_; rintro e w1 ⟨rfl, h1, h2⟩; have H1 : Hid _ := And.intro h1 h2; clear h1 h2)
  go_end0
  exact ⟨rfl, H1.out⟩

end Go.Proofs.Ytjjdmeemhgopbaa.Drm
