/-
  The walk of the law ClockTalks: at every talk it returns true, and turns no memory that was there.
-/
import Derived.Test.YtiknfijaadbmeaaRises
namespace Go.Proofs.Ytiknfijaadbmeaa
open Go.RowKit

theorem talk_first {w w1 : World} {o : Obj} (hb : Below (w.alloc o).heap.size (w.alloc o) w1) : Below w.heap.size w w1 :=
  ((Below.refl _ _).alloc (Nat.le_refl _) _).trans (hb.mono (by simp))

theorem At2.two {W : World} (a b c d : Int) (t t' : TypeId) :
    At2 ((W.alloc (.cells #[.int .u64 a, .int .u32 b] t)).alloc (.cells #[.int .u64 c, .int .u32 d] t')) W.heap.size a b ∧ At2 ((W.alloc (.cells #[.int .u64 a, .int .u32 b] t)).alloc (.cells #[.int .u64 c, .int .u32 d] t')) (W.heap.size + 1) c d :=
  ⟨⟨by simp [go_sem], by simp [go_sem], by simp; omega⟩, ⟨by simp [go_sem], by simp [go_sem], by simp⟩⟩

set_option maxRecDepth 100000 in
set_option maxHeartbeats 4000000 in
theorem talks_walk (a0 a1 b0 b1 f x : Int) (w : World) (h0 : 0 ≤ a0) (h1 : 0 ≤ a1) (h2 : 0 ≤ b0) (h3 : 0 ≤ b1) (h4 : 0 ≤ f) (h5 : 0 ≤ x) (x0 x1 e0 m0 m1 f0 y0 y1 g0 : Int) (hT : Hid (tickF a0 a1 f = (x0, x1, e0))) (hM : Hid (mergeF b0 b1 (f + x) x0 x1 = (m0, m1, f0))) (hU : Hid (tickF m0 m1 0 = (y0, y1, g0))) :
    Calls Try.prog 6 #[.agg #[.int .u64 a0, .int .u32 a1, .int .u64 b0, .int .u32 b1, .int .u64 f, .int .u16 x]] w fun e w' => e = .returned (.bool true) ∧ Below w.heap.size w w' := by
  go_enter Try.func6, Try.ntmps6
  go_wp2_with fail
  refine (awake8 _).mono ?_
  rintro e w1 ⟨rfl, hb1⟩
  obtain ⟨hc1, hf1⟩ := bcell hb1
  have hz1 : w.heap.size < w1.heap.size := by have := hb1.size; simp at this; omega
  have HB1 : Hid (Below w.heap.size w w1) := talk_first hb1
  have c0 : w1.cell? ⟨w.heap.size, 0, none⟩ = some (.int .u64 a0) := by rw [hc1 _ _ (by simp)]; simp
  have c1 : w1.cell? ⟨w.heap.size, 1, none⟩ = some (.int .u32 a1) := by rw [hc1 _ _ (by simp)]; simp
  have c2 : w1.cell? ⟨w.heap.size, 2, none⟩ = some (.int .u64 b0) := by rw [hc1 _ _ (by simp)]; simp
  have c3 : w1.cell? ⟨w.heap.size, 3, none⟩ = some (.int .u32 b1) := by rw [hc1 _ _ (by simp)]; simp
  have c4 : w1.cell? ⟨w.heap.size, 4, none⟩ = some (.int .u64 f) := by rw [hc1 _ _ (by simp)]; simp
  have c5 : w1.cell? ⟨w.heap.size, 5, none⟩ = some (.int .u16 x) := by rw [hc1 _ _ (by simp)]; simp
  clear hc1 hf1 hb1
  go_upto_region 3 with fail
  go_cut [3, 4, 5, 6] (fun s3 s4 s5 s6 wc => ∃ X Y, s3 = .pointer (some ⟨X, 0, none⟩) ∧ s4 = .pointer (some ⟨Y, 0, none⟩) ∧ s5 = .int .u64 f ∧ s6 = .int .u16 x ∧ At2 wc X a0 a1 ∧ At2 wc Y b0 b1 ∧ Below w.heap.size w wc)
  case first =>
    go_region
    all_goals
      go_wp2_with fail
      go_meet
      case rel =>
        first
        | exact ⟨_, _, rfl, rfl, rfl, rfl, (At2.two _ _ _ _ _ _).1.on ((Below.refl _ _).drew), (At2.two _ _ _ _ _ _).2.on ((Below.refl _ _).drew), ((HB1.out.alloc (by omega) _).alloc (by simp; omega) _).drew⟩
        | exact ⟨_, _, rfl, rfl, rfl, rfl, (At2.two _ _ _ _ _ _).2.on ((Below.refl _ _).drew), (At2.two _ _ _ _ _ _).1.on ((Below.refl _ _).drew), ((HB1.out.alloc (by omega) _).alloc (by simp; omega) _).drew⟩
  case rest =>
    obtain ⟨X, Y, rfl, rfl, rfl, rfl, hX0, hY0, hB0⟩ := hcut
    have HX : Hid (At2 wc X a0 a1) := hX0
    have HY : Hid (At2 wc Y b0 b1) := hY0
    have HB : Hid (Below w.heap.size w wc) := hB0
    clear hX0 hY0 hB0 HB1
    have HS : Hid (w.heap.size ≤ wc.heap.size) := HB.out.size
    have hg : 140737488355328 < f ∨ (¬ 140737488355328 < f ∧ 1000 < x) ∨ (¬ 140737488355328 < f ∧ ¬ 1000 < x) := by omega
    rcases hg with hg | ⟨hg, hg2⟩ | ⟨hg, hg2⟩
    · clear c0 c1 c2 c3 c4 c5
      go_wp2
      go_ret
      exact ⟨rfl, HB.out⟩
    · clear c0 c1 c2 c3 c4 c5
      go_wp2
      go_ret
      exact ⟨rfl, HB.out⟩
    have HTk := tickF_ok a0 a1 f x0 x1 e0 hT.out h0 h1
    have HMk := mergeF_ok b0 b1 (f + x) x0 x1 m0 m1 f0 hM.out
    have hm0 : 0 ≤ m0 ∧ 0 ≤ m1 ∧ 0 ≤ x0 ∧ 0 ≤ x1 ∧ x0 ≤ 18446744073709551615 := by omega
    have HUk := tickF_ok m0 m1 0 y0 y1 g0 hU.out hm0.1 hm0.2.1
    obtain ⟨i0, i1, i2, i3, i4⟩ := hm0
    have T1 : Hid (e0 = 0 → f0 ≠ 0 → rightB b0 b1 = false ∨ rightB b0 b1 = true ∧ f + x + 1000 < x0) := fun he hf => by
      cases hr : rightB b0 b1
      · exact .inl rfl
      · have := rightB_iff.1 hr; right; refine ⟨rfl, ?_⟩; omega
    have T2 : Hid (e0 = 0 → f0 = 0 → g0 ≠ 0 → g0 = 20) := fun he hf hg => by omega
    have T3 : Hid (e0 = 0 → f0 = 0 → g0 = 0 → lessB x0 x1 y0 y1 = true ∧ lessB b0 b1 y0 y1 = true ∧ lessB a0 a1 y0 y1 = true) := fun he hf hg =>
      ⟨lessB_iff.2 (by omega), lessB_iff.2 (by omega), lessB_iff.2 (by omega)⟩
    clear HTk HMk HUk c0 c1 c2 c3 c4 c5
    obtain ⟨d0, d1, hz⟩ := HX.out
    go_wp2_with fail
    refine (tick_to hT.out _ h0 h1 h4).mono ?_
    rintro e w2 ⟨rfl, hb2⟩
    have HX2 : Hid (At2 w2 X a0 a1) := HX.out.on hb2
    have HY2 : Hid (At2 w2 Y b0 b1) := HY.out.on hb2
    have HB2 : Hid (Below w.heap.size w w2) := HB.out.trans (hb2.mono HS.out)
    have HS2 : Hid (w.heap.size ≤ w2.heap.size) := HB2.out.size
    clear d0 d1 hz hb2 HX HY HB HS
    by_cases he0 : e0 = 0
    case neg =>
      have he : (e0 != 0) = true := by simpa using he0
      clear he0
      go_wp2
      go_ret
      exact ⟨rfl, HB2.out.alloc HS2.out _⟩
    have T1' := T1.out he0
    have T2' := T2.out he0
    have T3' := T3.out he0
    have T1 : Hid (f0 ≠ 0 → rightB b0 b1 = false ∨ rightB b0 b1 = true ∧ f + x + 1000 < x0) := T1'
    have T2 : Hid (f0 = 0 → g0 ≠ 0 → g0 = 20) := T2'
    have T3 : Hid (f0 = 0 → g0 = 0 → lessB x0 x1 y0 y1 = true ∧ lessB b0 b1 y0 y1 = true ∧ lessB a0 a1 y0 y1 = true) := T3'
    clear T1' T2' T3'
    have he : (e0 != 0) = false := by simpa using he0
    clear he0
    obtain ⟨d0, d1, hz⟩ := HY2.out
    have hz' : Y < w2.heap.size + 1 := by omega
    go_wp2_with fail
    refine (merge_to hM.out _ h2 h3 (by omega) i2 i3 i4).mono ?_
    rintro e w3 ⟨rfl, hb3⟩
    have HX3 : Hid (At2 w3 X a0 a1) := (HX2.out.al _).on hb3
    have HY3 : Hid (At2 w3 Y b0 b1) := (HY2.out.al _).on hb3
    have HZ3 : Hid (At2 w3 w2.heap.size x0 x1) := (At2.new _ _ _ _).on hb3
    have HB3 : Hid (Below w.heap.size w w3) := (HB2.out.alloc HS2.out _).trans (hb3.mono (by have := HS2.out; simp; omega))
    have HS3 : Hid (w.heap.size ≤ w3.heap.size) := HB3.out.size
    clear d0 d1 hz hz' hb3 HX2 HY2 HB2 HS2
    generalize w2.heap.size = Z at HZ3
    by_cases hf0 : f0 = 0
    case neg =>
      have hf : (f0 != 0) = true := by simpa using hf0
      have T1' := T1.out hf0
      clear hf0 T1
      obtain ⟨d0, d1, hz⟩ := HY3.out
      obtain ⟨z0, z1, hzz⟩ := HZ3.out
      rcases T1' with t | ⟨t, t'⟩
      · have T : Hid (rightB b0 b1 = false) := t
        clear t
        go_wp2_with fail
        refine (right18 _ _ _).mono ?_
        rw [T.out]
        rintro e w4 ⟨rfl, hb4⟩
        go_wp2
        go_ret
        exact ⟨rfl, (HB3.out.alloc HS3.out _).trans (hb4.mono (by have := HS3.out; simp; omega))⟩
      · have T : Hid (rightB b0 b1 = true) := t
        clear t
        go_wp2_with fail
        refine (right18 _ _ _).mono ?_
        rw [T.out]
        rintro e w4 ⟨rfl, hb4⟩
        obtain ⟨k0, k1, hk⟩ := (HZ3.out.al (.cells #[.int .u64 m0, .int .u32 m1] 25)).on hb4
        clear z0 z1
        go_wp2
        go_ret
        exact ⟨rfl, (HB3.out.alloc HS3.out _).trans (hb4.mono (by have := HS3.out; simp; omega))⟩
    have hf : (f0 != 0) = false := by simpa using hf0
    have T2' := T2.out hf0
    have T3' := T3.out hf0
    have T2 : Hid (g0 ≠ 0 → g0 = 20) := T2'
    have T3 : Hid (g0 = 0 → lessB x0 x1 y0 y1 = true ∧ lessB b0 b1 y0 y1 = true ∧ lessB a0 a1 y0 y1 = true) := T3'
    clear hf0 T1 T2' T3'
    go_wp2_with fail
    refine (tick_to hU.out _ i0 i1 (by omega)).mono ?_
    rintro e w4 ⟨rfl, hb4⟩
    have HX4 : Hid (At2 (w4.alloc (.cells #[.int .u64 y0, .int .u32 y1] 25)) X a0 a1) := ((HX3.out.al _).on hb4).al _
    have HY4 : Hid (At2 (w4.alloc (.cells #[.int .u64 y0, .int .u32 y1] 25)) Y b0 b1) := ((HY3.out.al _).on hb4).al _
    have HZ4 : Hid (At2 (w4.alloc (.cells #[.int .u64 y0, .int .u32 y1] 25)) Z x0 x1) := ((HZ3.out.al _).on hb4).al _
    have HU4 : Hid (At2 (w4.alloc (.cells #[.int .u64 y0, .int .u32 y1] 25)) w4.heap.size y0 y1) := At2.new _ _ _ _
    have HB4 : Hid (Below w.heap.size w (w4.alloc (.cells #[.int .u64 y0, .int .u32 y1] 25))) := ((HB3.out.alloc HS3.out _).trans (hb4.mono (by have := HS3.out; simp; omega))).alloc (by have := HS3.out; have := hb4.size; simp at this; omega) _
    clear hb4 HX3 HY3 HZ3 HB3 HS3
    by_cases hg0 : g0 = 0
    case neg =>
      have hg : (g0 == 20) = true := by simpa using T2.out hg0
      clear hg0
      go_wp2
      go_ret
      exact ⟨rfl, HB4.out⟩
    obtain ⟨r1, r2, r3⟩ := T3.out hg0
    have R1 : Hid (lessB x0 x1 y0 y1 = true) := r1
    have R2 : Hid (lessB b0 b1 y0 y1 = true) := r2
    have R3 : Hid (lessB a0 a1 y0 y1 = true) := r3
    have hg1 : (g0 == 20) = false := by simp [hg0]
    have hg2 : (g0 == 0) = true := by simp [hg0]
    clear r1 r2 r3 hg0 T2 T3
    go_upto_region 13 with fail
    generalize w4.alloc (.cells #[.int .u64 y0, .int .u32 y1] 25) = W4 at HX4 HY4 HZ4 HU4 HB4
    generalize w4.heap.size = U at HU4
    obtain ⟨z0, z1, hz1⟩ := HZ4.out
    obtain ⟨u0, u1, hz2⟩ := HU4.out
    go_wp2_with fail
    refine (less17 _ _ _ _ _).mono ?_
    rw [R1.out]
    rintro e w5 ⟨rfl, hb5⟩
    clear z0 z1 u0 u1 hz1 hz2
    obtain ⟨z0, z1, hz1⟩ := HY4.out.on hb5
    obtain ⟨u0, u1, hz2⟩ := HU4.out.on hb5
    go_wp2_with fail
    refine (less17 _ _ _ _ _).mono ?_
    rw [R2.out]
    rintro e w6 ⟨rfl, hb6⟩
    clear z0 z1 u0 u1 hz1 hz2
    obtain ⟨z0, z1, hz1⟩ := (HX4.out.on hb5).on hb6
    obtain ⟨u0, u1, hz2⟩ := (HU4.out.on hb5).on hb6
    go_wp2_with fail
    refine (less17 _ _ _ _ _).mono ?_
    rw [R3.out]
    rintro e w7 ⟨rfl, hb7⟩
    go_wp2
    go_ret
    exact ⟨rfl, ((HB4.out.trans (hb5.mono HB4.out.size)).trans (hb6.mono (by have := HB4.out.size; have := hb5.size; omega))).trans (hb7.mono (by have := HB4.out.size; have := hb5.size; have := hb6.size; omega))⟩

theorem talks_any (a0 a1 b0 b1 f x : Int) (w : World) (h0 : 0 ≤ a0) (h1 : 0 ≤ a1) (h2 : 0 ≤ b0) (h3 : 0 ≤ b1) (h4 : 0 ≤ f) (h5 : 0 ≤ x) :
    Calls Try.prog 6 #[.agg #[.int .u64 a0, .int .u32 a1, .int .u64 b0, .int .u32 b1, .int .u64 f, .int .u16 x]] w fun e w' => e = .returned (.bool true) ∧ Below w.heap.size w w' :=
  talks_walk a0 a1 b0 b1 f x w h0 h1 h2 h3 h4 h5 _ _ _ _ _ _ _ _ _ (show tickF a0 a1 f = (_, _, _) from rfl) (show mergeF b0 b1 (f + x) _ _ = (_, _, _) from rfl) (show tickF _ _ 0 = (_, _, _) from rfl)
end Go.Proofs.Ytiknfijaadbmeaa
