/-
  The walk of the law ClockRises: at every two stamps and reading it returns true, and turns no memory that was there.
-/
import Derived.Test.YtiknfijaadbmeaaAwake
import Derived.Deep.DeepCutAuto
namespace Go.Proofs.Ytiknfijaadbmeaa
open Go.RowKit

/-- Both stamps that came in lie in their boxes, and nothing that was there has turned. -/
structure Box2 (w W : World) (p l q m : Int) : Prop where
  c0 : W.cell? ⟨w.heap.size, 0, none⟩ = some (.int .u64 p)
  c1 : W.cell? ⟨w.heap.size, 1, none⟩ = some (.int .u32 l)
  c2 : W.cell? ⟨w.heap.size + 1, 0, none⟩ = some (.int .u64 q)
  c3 : W.cell? ⟨w.heap.size + 1, 1, none⟩ = some (.int .u32 m)
  sz : w.heap.size + 1 < W.heap.size
  bel : Below w.heap.size w W
theorem Box2.on {w W W' : World} {p l q m : Int} (h : Box2 w W p l q m) (hb : Below W.heap.size W W') : Box2 w W' p l q m := by
  have h1 := h.sz
  have hs := hb.size
  refine ⟨?_, ?_, ?_, ?_, by omega, h.bel.trans (hb.mono (by omega))⟩
  · rw [hb.cell (by simp; omega)]; exact h.c0
  · rw [hb.cell (by simp; omega)]; exact h.c1
  · rw [hb.cell (by simp; omega)]; exact h.c2
  · rw [hb.cell (by simp; omega)]; exact h.c3
theorem Box2.al {w W : World} {p l q m : Int} (h : Box2 w W p l q m) (o : Obj) : Box2 w (W.alloc o) p l q m :=
  h.on ((Below.refl _ _).alloc (Nat.le_refl _) _)
theorem Box2.first {w w1 : World} {p l q m : Int} {t t' : TypeId} (hb : Below ((w.alloc (.cells #[.int .u64 p, .int .u32 l] t)).alloc (.cells #[.int .u64 q, .int .u32 m] t')).heap.size ((w.alloc (.cells #[.int .u64 p, .int .u32 l] t)).alloc (.cells #[.int .u64 q, .int .u32 m] t')) w1) : Box2 w w1 p l q m :=
  Box2.on ⟨by simp [go_sem], by simp [go_sem], by simp [go_sem], by simp [go_sem], by simp, ((Below.refl _ _).alloc (Nat.le_refl _) _).alloc (by simp) _⟩ hb

/-- One stamp that was made lies in its box. -/
structure At2 (W : World) (X : Nat) (a b : Int) : Prop where
  x0 : W.cell? ⟨X, 0, none⟩ = some (.int .u64 a)
  x1 : W.cell? ⟨X, 1, none⟩ = some (.int .u32 b)
  sz : X < W.heap.size
theorem At2.on {W W' : World} {X : Nat} {a b : Int} (h : At2 W X a b) (hb : Below W.heap.size W W') : At2 W' X a b :=
  ⟨by rw [hb.cell h.sz]; exact h.x0, by rw [hb.cell h.sz]; exact h.x1, by have := h.sz; have := hb.size; omega⟩
theorem At2.al {W : World} {X : Nat} {a b : Int} (h : At2 W X a b) (o : Obj) : At2 (W.alloc o) X a b :=
  h.on ((Below.refl _ _).alloc (Nat.le_refl _) _)
theorem At2.new (W : World) (a b : Int) (t : TypeId) : At2 (W.alloc (.cells #[.int .u64 a, .int .u32 b] t)) W.heap.size a b :=
  ⟨by simp [go_sem], by simp [go_sem], by simp⟩

/-- The facts on which the law goes: what Tick and Merge answered. -/
structure RiseFacts (p l f q m n0 n1 e0 m0 m1 f0 : Int) : Prop where
  t0 : e0 = 0 → lessB p l n0 n1 = true ∧ decide (n0 < f) = false ∧ rightB n0 n1 = true ∧ ((n0 != f) = false ∨ (n0 != f) = true ∧ (n0 != p) = false ∨ (n0 != f) = true ∧ (n0 != p) = true ∧ (n0 != p + 1) = false) ∧ p + 1 ≤ 18446744073709551615
  t1 : e0 ≠ 0 → n0 = 0 ∧ n1 = 0
  u0 : f0 = 0 → lessB m0 m1 p l = false ∧ lessB m0 m1 q m = false ∧ (eqB m0 m1 p l = true ∨ eqB m0 m1 p l = false ∧ eqB m0 m1 q m = true)
  u1 : f0 ≠ 0 → m0 = 0 ∧ m1 = 0

theorem riseFacts (p l f q m n0 n1 e0 m0 m1 f0 : Int) (h0 : 0 ≤ p) (h1 : 0 ≤ l) (hT : tickF p l f = (n0, n1, e0)) (hM : mergeF p l f q m = (m0, m1, f0)) : RiseFacts p l f q m n0 n1 e0 m0 m1 f0 := by
  have ht := tickF_ok p l f n0 n1 e0 hT h0 h1
  have hm := mergeF_ok p l f q m m0 m1 f0 hM
  refine ⟨fun he => ?_, fun he => by omega, fun he => ?_, fun he => by omega⟩
  · refine ⟨lessB_iff.2 (by omega), decide_eq_false (by omega), rightB_iff.2 (by omega), ?_, by omega⟩
    simp only [bne_iff_ne, ne_eq, bne_eq_false_iff_eq]
    omega
  · refine ⟨lessB_not.2 (by omega), lessB_not.2 (by omega), ?_⟩
    have hd : (m0 = p ∧ m1 = l) ∨ ¬ (m0 = p ∧ m1 = l) ∧ (m0 = q ∧ m1 = m) := by omega
    rcases hd with ⟨rfl, rfl⟩ | ⟨hn, rfl, rfl⟩
    · left; simp [eqB]
    · right
      refine ⟨?_, by simp [eqB]⟩
      cases h : eqB m0 m1 p l
      · rfl
      · simp [eqB] at h; exact absurd h hn

theorem tick_to {p l f n0 n1 e0 : Int} (hT : tickF p l f = (n0, n1, e0)) (w : World) (h0 : 0 ≤ p) (h1 : 0 ≤ l) (h2 : 0 ≤ f) :
    Calls Try.prog 9 #[.agg #[.int .u64 p, .int .u32 l], .int .u64 f] w fun e w' => e = .returned (.tuple #[.agg #[.int .u64 n0, .int .u32 n1], .int .i64 e0]) ∧ Below w.heap.size w w' := by
  have h := tick9 p l f w h0 h1 h2
  rw [hT] at h
  exact h
theorem merge_to {p l f q m n0 n1 e0 : Int} (hM : mergeF p l f q m = (n0, n1, e0)) (w : World) (h0 : 0 ≤ p) (h1 : 0 ≤ l) (h2 : 0 ≤ f) (h3 : 0 ≤ q) (h4 : 0 ≤ m) (h5 : q ≤ 18446744073709551615) :
    Calls Try.prog 11 #[.agg #[.int .u64 p, .int .u32 l], .int .u64 f, .agg #[.int .u64 q, .int .u32 m]] w fun e w' => e = .returned (.tuple #[.agg #[.int .u64 n0, .int .u32 n1], .int .i64 e0]) ∧ Below w.heap.size w w' := by
  have h := merge11 p l f q m w h0 h1 h2 h3 h4 h5
  rw [hM] at h
  exact h

set_option maxRecDepth 100000 in
set_option maxHeartbeats 4000000 in
theorem rises_walk (p l f q m : Int) (w : World) (h0 : 0 ≤ p) (h1 : 0 ≤ l) (h2 : 0 ≤ f) (h3 : 0 ≤ q) (h4 : 0 ≤ m) (h5 : q ≤ 18446744073709551615) (n0 n1 e0 m0 m1 f0 : Int) (hT : Hid (tickF p l f = (n0, n1, e0))) (hM : Hid (mergeF p l f q m = (m0, m1, f0))) (hF : Hid (RiseFacts p l f q m n0 n1 e0 m0 m1 f0)) :
    Calls Try.prog 4 #[.agg #[.int .u64 p, .int .u32 l], .int .u64 f, .agg #[.int .u64 q, .int .u32 m]] w fun e w' => e = .returned (.bool true) ∧ Below w.heap.size w w' := by
  go_enter Try.func4, Try.ntmps4
  go_wp2_with fail
  refine (awake8 _).mono ?_
  rintro e w1 ⟨rfl, hb1⟩
  have HB1 : Hid (Box2 w w1 p l q m) := Box2.first hb1
  clear hb1
  obtain ⟨c0, c1, -, -, -, -⟩ := HB1.out
  go_wp2_with fail
  refine (tick_to hT.out _ h0 h1 h2).mono ?_
  rintro e w2 ⟨rfl, hb2⟩
  clear c0 c1
  have HB2 : Hid (Box2 w (w2.alloc (.cells #[.int .u64 n0, .int .u32 n1] 25)) p l q m) := (HB1.out.on hb2).al _
  have HX2 : Hid (At2 (w2.alloc (.cells #[.int .u64 n0, .int .u32 n1] 25)) w2.heap.size n0 n1) := At2.new _ _ _ _
  clear hb2 HB1
  go_upto_region 4 with fail
  go_cut [58] (fun t wc => t = .bool false ∧ Box2 w wc p l q m ∧ At2 wc w2.heap.size n0 n1)
  case first =>
    obtain ⟨c0, c1, -, -, hz, -⟩ := HB2.out
    obtain ⟨x0, x1, hz2⟩ := HX2.out
    by_cases he0 : e0 = 0
    · obtain ⟨z1, z2, z3, z4, z5⟩ := hF.out.t0 he0
      have he : (e0 == 0) = true := by simp [he0]
      clear he0
      have Z1 : Hid (lessB p l n0 n1 = true) := z1
      have Z3 : Hid (rightB n0 n1 = true) := z3
      clear z1 z3
      go_wp2_with fail
      refine (less17 _ _ _ _ _).mono ?_
      rw [Z1.out]
      rintro e w3 ⟨rfl, hb3⟩
      have HB3 : Hid (Box2 w w3 p l q m) := HB2.out.on hb3
      have HX3 : Hid (At2 w3 w2.heap.size n0 n1) := HX2.out.on hb3
      clear c0 c1 x0 x1 hz hz2 hb3
      obtain ⟨c0, c1, -, -, hz, -⟩ := HB3.out
      obtain ⟨x0, x1, hz2⟩ := HX3.out
      go_wp2_with fail
      refine (right18 _ _ _).mono ?_
      rw [Z3.out]
      rintro e w4 ⟨rfl, hb4⟩
      have HB4 : Hid (Box2 w w4 p l q m) := HB3.out.on hb4
      have HX4 : Hid (At2 w4 w2.heap.size n0 n1) := HX3.out.on hb4
      clear c0 c1 x0 x1 hz hz2 hb4
      obtain ⟨c0, c1, -, -, hz, -⟩ := HB4.out
      obtain ⟨x0, x1, hz2⟩ := HX4.out
      rcases z4 with z | ⟨z, z'⟩ | ⟨z, z', z''⟩
      all_goals
        go_wp2_with fail
        go_meet
        case rel => exact ⟨rfl, HB4.out, HX4.out⟩
    · have he : (e0 == 0) = false := by simpa using he0
      clear he0
      go_wp2_with fail
      go_meet
      case rel => exact ⟨rfl, HB2.out, HX2.out⟩
  case rest =>
    obtain ⟨rfl, HBc0, HXc0⟩ := hcut
    have HBc : Hid (Box2 w wc p l q m) := HBc0
    have HXc : Hid (At2 wc w2.heap.size n0 n1) := HXc0
    clear HBc0 HXc0 HB2 HX2
    generalize w2.heap.size = X at HXc
    obtain ⟨c0, c1, c2, c3, -, -⟩ := HBc.out
    go_wp2_with fail
    refine (merge_to hM.out _ h0 h1 h2 h3 h4 h5).mono ?_
    rintro e w5 ⟨rfl, hb5⟩
    clear c0 c1 c2 c3
    have HB5 : Hid (Box2 w (w5.alloc (.cells #[.int .u64 m0, .int .u32 m1] 25)) p l q m) := (HBc.out.on hb5).al _
    have HX5 : Hid (At2 (w5.alloc (.cells #[.int .u64 m0, .int .u32 m1] 25)) X n0 n1) := (HXc.out.on hb5).al _
    have HY5 : Hid (At2 (w5.alloc (.cells #[.int .u64 m0, .int .u32 m1] 25)) w5.heap.size m0 m1) := At2.new _ _ _ _
    clear hb5 HBc HXc
    go_upto_region 7 with fail
    go_cut [87] (fun t wc => t = .bool false ∧ Box2 w wc p l q m ∧ At2 wc X n0 n1 ∧ At2 wc w5.heap.size m0 m1)
    case first =>
      obtain ⟨c0, c1, c2, c3, hz, -⟩ := HB5.out
      obtain ⟨y0, y1, hz2⟩ := HY5.out
      by_cases hf0 : f0 = 0
      · obtain ⟨z1, z2, z3⟩ := hF.out.u0 hf0
        have hf : (f0 == 0) = true := by simp [hf0]
        clear hf0
        have Z1 : Hid (lessB m0 m1 p l = false) := z1
        have Z2 : Hid (lessB m0 m1 q m = false) := z2
        have Z3 : Hid (eqB m0 m1 p l = true ∨ eqB m0 m1 p l = false ∧ eqB m0 m1 q m = true) := z3
        clear z1 z2 z3
        go_wp2_with fail
        refine (less17 _ _ _ _ _).mono ?_
        rw [Z1.out]
        rintro e w6 ⟨rfl, hb6⟩
        have HB6 : Hid (Box2 w w6 p l q m) := HB5.out.on hb6
        have HX6 : Hid (At2 w6 X n0 n1) := HX5.out.on hb6
        have HY6 : Hid (At2 w6 w5.heap.size m0 m1) := HY5.out.on hb6
        clear c0 c1 c2 c3 y0 y1 hz hz2 hb6
        obtain ⟨c0, c1, c2, c3, hz, -⟩ := HB6.out
        obtain ⟨y0, y1, hz2⟩ := HY6.out
        go_wp2_with fail
        refine (less17 _ _ _ _ _).mono ?_
        rw [Z2.out]
        rintro e w7 ⟨rfl, hb7⟩
        have HB7 : Hid (Box2 w w7 p l q m) := HB6.out.on hb7
        have HX7 : Hid (At2 w7 X n0 n1) := HX6.out.on hb7
        have HY7 : Hid (At2 w7 w5.heap.size m0 m1) := HY6.out.on hb7
        clear c0 c1 c2 c3 y0 y1 hz hz2 hb7
        obtain ⟨c0, c1, c2, c3, hz, -⟩ := HB7.out
        obtain ⟨y0, y1, hz2⟩ := HY7.out
        have q1 := run_neq25 m0 m1 p l
        have q2 := run_neq25 m0 m1 q m
        rcases Z3.out with z | ⟨z, z'⟩
        all_goals
          go_wp2_with fail
          go_meet
          case rel => exact ⟨rfl, HB7.out, HX7.out, HY7.out⟩
      · have hf : (f0 == 0) = false := by simpa using hf0
        clear hf0
        go_wp2_with fail
        go_meet
        case rel => exact ⟨rfl, HB5.out, HX5.out, HY5.out⟩
    case rest =>
      obtain ⟨rfl, HB0, HX0, HY0⟩ := hcut
      obtain ⟨x0, x1, hz1⟩ := HX0
      obtain ⟨y0, y1, hz2⟩ := HY0
      have HB8 : Hid (Below w.heap.size w wc) := HB0.bel
      clear HB0
      have q1 := run_eql25 n0 n1 0 0
      have q2 := run_eql25 m0 m1 0 0
      have g1 : (e0 == 0) = true ∨ (e0 == 0) = false ∧ eqB n0 n1 0 0 = true := by
        by_cases he : e0 = 0
        · left; simp [he]
        · right; obtain ⟨i, j⟩ := hF.out.t1 he; simp [he, eqB, i, j]
      have g2 : (f0 == 0) = true ∨ (f0 == 0) = false ∧ eqB m0 m1 0 0 = true := by
        by_cases he : f0 = 0
        · left; simp [he]
        · right; obtain ⟨i, j⟩ := hF.out.u1 he; simp [he, eqB, i, j]
      rcases g1 with k1 | ⟨k1, k2⟩ <;> rcases g2 with k3 | ⟨k3, k4⟩
      all_goals
        go_wp2
        go_ret
        exact ⟨rfl, HB8.out⟩

theorem rises_any (p l f q m : Int) (w : World) (h0 : 0 ≤ p) (_h : p ≤ 18446744073709551615) (h1 : 0 ≤ l) (h2 : 0 ≤ f) (h3 : 0 ≤ q) (h5 : q ≤ 18446744073709551615) (h4 : 0 ≤ m) :
    Calls Try.prog 4 #[.agg #[.int .u64 p, .int .u32 l], .int .u64 f, .agg #[.int .u64 q, .int .u32 m]] w fun e w' => e = .returned (.bool true) ∧ Below w.heap.size w w' :=
  rises_walk p l f q m w h0 h1 h2 h3 h4 h5 _ _ _ _ _ _ (show tickF p l f = (_, _, _) from rfl) (show mergeF p l f q m = (_, _, _) from rfl) (riseFacts p l f q m _ _ _ _ _ _ h0 h1 rfl rfl)
end Go.Proofs.Ytiknfijaadbmeaa
