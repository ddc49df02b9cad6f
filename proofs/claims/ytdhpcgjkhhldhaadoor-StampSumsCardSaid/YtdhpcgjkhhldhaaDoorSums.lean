/-
  The walks of stamp.Point and of the law StampSums: at every two stamps the law returns true, and turns no memory that was there.
-/
import Derived.Test.YtdhpcgjkhhldhaaDoorAwake
import Derived.Test.YtdhpcgjkhhldhaaDoorFloat
import Derived.Lib.QuietBelow
namespace Go.Proofs.YtdhpcgjkhhldhaaDoor
open Go.RowKit Go.Sort

theorem below1 {w w1 : World} {o1 : Obj} (hb : Below (w.alloc o1).heap.size (w.alloc o1) w1) : Below w.heap.size w w1 :=
  ((Below.refl _ _).alloc (Nat.le_refl _) _).trans (hb.mono (by simp))

set_option maxHeartbeats 400000 in
theorem point20_f (p l : Int) (w : World) (h : rightB p l = false) :
    Calls Tryd.prog 20 #[.agg #[.int .u64 p, .int .u32 l]] w fun e w' => e = .returned (.complex .f64 0 0) ∧ Below w.heap.size w w' := by
  have HR : Hid (rightB p l = false) := h
  clear h
  go_enter Tryd.func20, Tryd.ntmps20
  go_wp2_with fail
  refine (right10 _ _ _).mono ?_
  rw [HR.out]
  rintro e w1 ⟨rfl, hb⟩
  go_wp2
  go_ret
  exact ⟨rfl, below1 hb⟩

set_option maxHeartbeats 400000 in
theorem point20_t (p l : Int) (w : World) (h : rightB p l = true) :
    Calls Tryd.prog 20 #[.agg #[.int .u64 p, .int .u32 l]] w fun e w' => e = .returned (.complex .f64 (floatOfInt .f64 p) (floatOfInt .f64 l)) ∧ Below w.heap.size w w' := by
  have HR : Hid (rightB p l = true) := h
  clear h
  go_enter Tryd.func20, Tryd.ntmps20
  go_wp2_with fail
  refine (right10 _ _ _).mono ?_
  rw [HR.out]
  rintro e w1 ⟨rfl, hb⟩
  obtain ⟨hc, hf⟩ := bcell hb
  go_wp2
  go_ret
  exact ⟨rfl, below1 hb⟩

theorem order_zero : FloatKind.f64.format.order 0 0 = some .eq := by decide

/-- Two stamps that came in lie in their boxes, and nothing that was there has turned. -/
structure Box2 (w W : World) (p l q m : Int) : Prop where
  c0 : W.cell? ⟨w.heap.size, 0, none⟩ = some (.int .u64 p)
  c1 : W.cell? ⟨w.heap.size, 1, none⟩ = some (.int .u32 l)
  c2 : W.cell? ⟨w.heap.size + 1, 0, none⟩ = some (.int .u64 q)
  c3 : W.cell? ⟨w.heap.size + 1, 1, none⟩ = some (.int .u32 m)
  sz : w.heap.size + 1 < W.heap.size
  bel : Below w.heap.size w W

theorem Box2.first (w : World) (p l q m : Int) : Box2 w ((w.alloc (.cells #[.int .u64 p, .int .u32 l] 25)).alloc (.cells #[.int .u64 q, .int .u32 m] 25)) p l q m :=
  ⟨by simp [go_sem], by simp [go_sem], by simp [go_sem], by simp [go_sem], by simp, ((Below.refl _ _).alloc (Nat.le_refl _) _).alloc (by simp) _⟩

theorem Box2.on {w W W' : World} {p l q m : Int} (h : Box2 w W p l q m) (hb : Below W.heap.size W W') : Box2 w W' p l q m := by
  have hs := h.sz
  refine ⟨?_, ?_, ?_, ?_, Nat.lt_of_lt_of_le hs hb.size, h.bel.trans (hb.mono (by omega))⟩
  · rw [hb.cell (by simp; omega)]; exact h.c0
  · rw [hb.cell (by simp; omega)]; exact h.c1
  · rw [hb.cell (by simp; omega)]; exact h.c2
  · rw [hb.cell (by simp; omega)]; exact h.c3

set_option maxHeartbeats 400000 in
theorem sums_a (p l q m : Int) (w : World) (h : rightB p l = false) :
    Calls Tryd.prog 6 #[.agg #[.int .u64 p, .int .u32 l], .agg #[.int .u64 q, .int .u32 m]] w fun e w' => e = .returned (.bool true) ∧ Below w.heap.size w w' := by
  have HR : Hid (rightB p l = false) := h
  have hz := order_zero
  go_enter Tryd.func6, Tryd.ntmps6
  go_wp2_with fail
  refine (awake7 _).mono ?_
  rintro e w1 ⟨rfl, hb1⟩
  obtain ⟨c0, c1, c2, c3, -, -⟩ := (Box2.first w p l q m).on hb1
  have HB1 : Hid (Box2 w w1 p l q m) := (Box2.first w p l q m).on hb1
  clear hb1
  go_wp2_with fail
  refine (right10 _ _ _).mono ?_
  rw [HR.out]
  rintro e w2 ⟨rfl, hb2⟩
  have HB2 : Hid (Box2 w w2 p l q m) := HB1.out.on hb2
  obtain ⟨c0, c1, c2, c3, -, -⟩ := HB2.out
  go_wp2_with fail
  refine (point20_f _ _ _ HR.out).mono ?_
  rintro e w3 ⟨rfl, hb3⟩
  go_wp2
  go_ret
  exact ⟨rfl, (HB2.out.on hb3).bel⟩

set_option maxHeartbeats 400000 in
theorem sums_b (p l q m : Int) (w : World) (h : rightB p l = true) (h2 : rightB q m = false) (t u : Bool) :
    (FloatKind.f64.format.order (floatOfInt .f64 p) 0 == some .eq) = t → (FloatKind.f64.format.order (floatOfInt .f64 l) 0 == some .eq) = u →
    Calls Tryd.prog 6 #[.agg #[.int .u64 p, .int .u32 l], .agg #[.int .u64 q, .int .u32 m]] w fun e w' => e = .returned (.bool true) ∧ Below w.heap.size w w' := by
  have HR : Hid (rightB p l = true) := h
  have HR2 : Hid (rightB q m = false) := h2
  clear h h2
  cases t <;> cases u <;> intro ht hu
  all_goals
    go_enter Tryd.func6, Tryd.ntmps6
    go_wp2_with fail
    refine (awake7 _).mono ?_
    rintro e w1 ⟨rfl, hb1⟩
    have HB1 : Hid (Box2 w w1 p l q m) := (Box2.first w p l q m).on hb1
    clear hb1
    obtain ⟨c0, c1, c2, c3, -, -⟩ := HB1.out
    go_wp2_with fail
    refine (right10 _ _ _).mono ?_
    rw [HR.out]
    rintro e w2 ⟨rfl, hb2⟩
    have HB2 : Hid (Box2 w w2 p l q m) := HB1.out.on hb2
    obtain ⟨c0, c1, c2, c3, -, -⟩ := HB2.out
    go_wp2_with fail
    refine (right10 _ _ _).mono ?_
    rw [HR2.out]
    rintro e w3 ⟨rfl, hb3⟩
    have HB3 : Hid (Box2 w w3 p l q m) := HB2.out.on hb3
    obtain ⟨c0, c1, c2, c3, -, -⟩ := HB3.out
    go_wp2_with fail
    refine (point20_t _ _ _ HR.out).mono ?_
    rintro e w4 ⟨rfl, hb4⟩
    have HB4 : Hid (Box2 w w4 p l q m) := HB3.out.on hb4
    obtain ⟨c0, c1, c2, c3, -, -⟩ := HB4.out
    first
    | (go_wp2_with fail
       refine (right10 _ _ _).mono ?_
       rw [HR.out]
       rintro e w5 ⟨rfl, hb5⟩
       go_wp2
       go_ret
       exact ⟨rfl, (HB4.out.on hb5).bel⟩)
    | (go_wp2
       go_ret
       exact ⟨rfl, HB4.out.bel⟩)

theorem sub_pts (p l q m : Int) (hp0 : 0 ≤ p) (hl0 : 0 ≤ l) (hq0 : 0 ≤ q) (hm0 : 0 ≤ m) (hp : p ≤ 281474976710656) (hl : l ≤ 4095) (hq : q ≤ 281474976710656) (hm : m ≤ 4095) (w : World) :
    (binOp .sub 42 (.complex .f64 (floatOfInt .f64 q) (floatOfInt .f64 m)) (.complex .f64 (floatOfInt .f64 p) (floatOfInt .f64 l))).run Tryd.prog w = .ok (.complex .f64 (floatOfInt .f64 (q - p)) (floatOfInt .f64 (m - l))) w := by
  refine run_complex_sum w .sub (Or.inr rfl) 42 .f64 _ _ _ _ _ _ ?_
  have h1 := sub_int p q (by omega) (by omega) (by omega)
  have h2 := sub_int l m (by omega) (by omega) (by omega)
  simp only [cSumBits, floatBits, f64_eq, h1, h2, Option.bind_some]

set_option maxHeartbeats 400000 in
theorem sums_c (p l q m : Int) (w : World) (hp0 : 0 ≤ p) (hl0 : 0 ≤ l) (hq0 : 0 ≤ q) (hm0 : 0 ≤ m) (hp : p ≤ 281474976710656) (hl : l ≤ 4095) (hq : q ≤ 281474976710656) (hm : m ≤ 4095)
    (c d : Ordering) (o1 : FloatKind.f64.format.order (floatOfInt .f64 (q - p)) 0 = some c) (o2 : FloatKind.f64.format.order (floatOfInt .f64 (m - l)) 0 = some d)
    (o3 : FloatKind.f64.format.order (floatOfInt .f64 (q - p)) (floatOfInt .f64 (q - p)) = some .eq) (o4 : FloatKind.f64.format.order (floatOfInt .f64 (m - l)) (floatOfInt .f64 (m - l)) = some .eq)
    (hL : lessB p l q m = (c == .gt || (c == .eq && d == .gt))) :
    Calls Tryd.prog 6 #[.agg #[.int .u64 p, .int .u32 l], .agg #[.int .u64 q, .int .u32 m]] w fun e w' => e = .returned (.bool true) ∧ Below w.heap.size w w' := by
  have HR : Hid (rightB p l = true) := rightB_iff.2 ⟨hp, hl⟩
  have HR2 : Hid (rightB q m = true) := rightB_iff.2 ⟨hq, hm⟩
  have HL : Hid (lessB p l q m = (c == .gt || (c == .eq && d == .gt))) := hL
  clear hL
  have hsub := sub_pts p l q m hp0 hl0 hq0 hm0 hp hl hq hm
  go_enter Tryd.func6, Tryd.ntmps6
  go_wp2_with fail
  refine (awake7 _).mono ?_
  rintro e w1 ⟨rfl, hb1⟩
  have HB1 : Hid (Box2 w w1 p l q m) := (Box2.first w p l q m).on hb1
  clear hb1
  obtain ⟨c0, c1, c2, c3, -, -⟩ := HB1.out
  go_wp2_with fail
  refine (right10 _ _ _).mono ?_
  rw [HR.out]
  rintro e w2 ⟨rfl, hb2⟩
  have HB2 : Hid (Box2 w w2 p l q m) := HB1.out.on hb2
  obtain ⟨c0, c1, c2, c3, -, -⟩ := HB2.out
  go_wp2_with fail
  refine (right10 _ _ _).mono ?_
  rw [HR2.out]
  rintro e w3 ⟨rfl, hb3⟩
  have HB3 : Hid (Box2 w w3 p l q m) := HB2.out.on hb3
  clear c0 c1 c2 c3 hb2 hb3
  obtain ⟨c0, c1, c2, c3, -, -⟩ := HB3.out
  go_wp2_with fail
  have k0 := cell_regrown c0
  have k1 := cell_regrown c1
  have k2 := cell_regrown c2
  have k3 := cell_regrown c3
  have cP : ∀ d os, Calls Tryd.prog 20 #[.agg #[.int .u64 p, .int .u32 l]] (grow (redrawn w3 d) os) fun e w'' => e = .returned (.complex .f64 (floatOfInt .f64 p) (floatOfInt .f64 l)) ∧ ∃ p : Regrown, w'' = grow (redrawn w3 p.d) p.os := fun d os => Calls.regrown_of (point20_t _ _ _ HR.out)
  have cQ : ∀ d os, Calls Tryd.prog 20 #[.agg #[.int .u64 q, .int .u32 m]] (grow (redrawn w3 d) os) fun e w'' => e = .returned (.complex .f64 (floatOfInt .f64 q) (floatOfInt .f64 m)) ∧ ∃ p : Regrown, w'' = grow (redrawn w3 p.d) p.os := fun d os => Calls.regrown_of (point20_t _ _ _ HR2.out)
  refine wp_region_quiet_below (by kernel_rfl) (by kernel_rfl) ?_
  quiet_step (fail)
  quiet_step (exact cQ _ _)
  quiet_step (fail)
  quiet_step (exact cP _ _)
  repeat (quiet_step (fail))
  refine wpQuiet_nil ?_
  intro _ hw'
  obtain ⟨⟨dq, osq⟩, hw''⟩ := hw'
  subst hw''
  go_wp2_with fail
  refine (less12 _ _ _ _ _).mono ?_
  rw [HL.out]
  rintro e w5 ⟨rfl, hb5⟩
  have HB5 : Hid (Below w.heap.size w w5) := ((HB3.out.on (below_regrown w3 dq osq)).on hb5).bel
  clear hb5 k0 k1 k2 k3 cP cQ c0 c1 c2 c3
  cases c <;> cases d
  all_goals
    go_wp2
    go_ret
    exact ⟨rfl, HB5.out⟩

theorem sums_any (p l q m : Int) (w : World) (hp0 : 0 ≤ p) (hl0 : 0 ≤ l) (hq0 : 0 ≤ q) (hm0 : 0 ≤ m) :
    Calls Tryd.prog 6 #[.agg #[.int .u64 p, .int .u32 l], .agg #[.int .u64 q, .int .u32 m]] w fun e w' => e = .returned (.bool true) ∧ Below w.heap.size w w' := by
  cases h1 : rightB p l
  · exact sums_a p l q m w h1
  cases h2 : rightB q m
  · exact sums_b p l q m w h1 h2 _ _ rfl rfl
  obtain ⟨hp, hl⟩ := rightB_iff.1 h1
  obtain ⟨hq, hm⟩ := rightB_iff.1 h2
  have z1 := order_int (q - p) 0 (by omega) (by decide)
  have z2 := order_int (m - l) 0 (by omega) (by decide)
  have z3 := order_int (q - p) (q - p) (by omega) (by omega)
  have z4 := order_int (m - l) (m - l) (by omega) (by omega)
  rw [ofInt_zero] at z1 z2
  rw [Int.compare_eq_eq.2 rfl] at z3 z4
  refine sums_c p l q m w hp0 hl0 hq0 hm0 hp hl hq hm _ _ z1 z2 z3 z4 ?_
  rw [Bool.eq_iff_iff]
  simp only [lessB, decide_eq_true_eq, Bool.or_eq_true, Bool.and_eq_true, beq_iff_eq, Int.compare_eq_gt, Int.compare_eq_eq]
  omega
end Go.Proofs.YtdhpcgjkhhldhaaDoor
