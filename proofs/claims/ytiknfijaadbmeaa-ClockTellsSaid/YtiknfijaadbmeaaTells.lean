/-
  The walk of the law ClockTells: at every two stamps and reading it returns true, and turns no memory that was there.
-/
import Derived.Test.YtiknfijaadbmeaaRises
import Derived.Lib.QuietBelow
namespace Go.Proofs.Ytiknfijaadbmeaa
open Go.RowKit Go.Sort

theorem tick_to' {p l f n0 n1 e0 : Int} (hT : tickF p l f = (n0, n1, e0)) (w : World) (h0 : 0 ≤ p) (h1 : 0 ≤ l) (h2 : 0 ≤ f) :
    Calls Try.prog 10 #[.agg #[.int .u64 p, .int .u32 l], .int .u64 f] w fun e w' => e = .returned (.tuple #[.agg #[.int .u64 n0, .int .u32 n1], .int .i64 e0]) ∧ Below w.heap.size w w' := by
  have h := tick10 p l f w h0 h1 h2
  rw [hT] at h
  exact h
theorem merge_to' {p l f q m n0 n1 e0 : Int} (hM : mergeF p l f q m = (n0, n1, e0)) (w : World) (h0 : 0 ≤ p) (h1 : 0 ≤ l) (h2 : 0 ≤ f) (h3 : 0 ≤ q) (h4 : 0 ≤ m) (h5 : q ≤ 18446744073709551615) :
    Calls Try.prog 12 #[.agg #[.int .u64 p, .int .u32 l], .int .u64 f, .agg #[.int .u64 q, .int .u32 m]] w fun e w' => e = .returned (.tuple #[.agg #[.int .u64 n0, .int .u32 n1], .int .i64 e0]) ∧ Below w.heap.size w w' := by
  have h := merge12 p l f q m w h0 h1 h2 h3 h4 h5
  rw [hM] at h
  exact h

set_option maxRecDepth 100000 in
set_option maxHeartbeats 4000000 in
theorem tells_walk (p l f q m : Int) (w : World) (h0 : 0 ≤ p) (h1 : 0 ≤ l) (h2 : 0 ≤ f) (h3 : 0 ≤ q) (h4 : 0 ≤ m) (h5 : q ≤ 18446744073709551615) (h6 : p ≤ 18446744073709551615) (n0 n1 e0 m0 m1 f0 b0 b1 : Int) (lt : Bool) (hT : Hid (tickF p l f = (n0, n1, e0))) (hM : Hid (mergeF p l f q m = (m0, m1, f0))) (hBd : Hid (boundF q m = (b0, b1))) (hL : Hid (lateB q p = lt)) :
    Calls Try.prog 3 #[.agg #[.int .u64 p, .int .u32 l], .int .u64 f, .agg #[.int .u64 q, .int .u32 m]] w fun e w' => e = .returned (.bool true) ∧ Below w.heap.size w w' := by
  go_enter Try.func3, Try.ntmps3
  go_wp2_with fail
  refine (awake8 _).mono ?_
  rintro e w1 ⟨rfl, hb1⟩
  have HB1 : Hid (Box2 w w1 p l q m) := Box2.first hb1
  clear hb1
  obtain ⟨c0, c1, -, -, -, -⟩ := HB1.out
  go_wp2_with fail
  refine (tick_to hT.out _ h0 h1 h2).mono ?_
  rintro e w2 ⟨rfl, hb2⟩
  clear c0 c1
  have HB2 : Hid (Box2 w (w2.alloc (.cells #[.int .u64 n0, .int .u32 n1] 25)) p l q m) := (HB1.out.on hb2).al _
  have HX2 : Hid (At2 (w2.alloc (.cells #[.int .u64 n0, .int .u32 n1] 25)) w2.heap.size n0 n1) := At2.new _ _ _ _
  have HB2' : Hid (Box2 w w2 p l q m) := HB1.out.on hb2
  clear hb2 HB1
  obtain ⟨c0, c1, -, -, hz, -⟩ := HB2'.out
  have hz' : w.heap.size < w2.heap.size := by omega
  go_wp2_with fail
  refine (tick_to' hT.out _ h0 h1 h2).mono ?_
  rintro e w3 ⟨rfl, hb3⟩
  clear c0 c1 hz hz' HB2'
  have HB3' : Hid (Box2 w w3 p l q m) := HB2.out.on hb3
  have HB3 : Hid (Box2 w (w3.alloc (.cells #[.int .u64 n0, .int .u32 n1] 25)) p l q m) := (HB2.out.on hb3).al _
  have HX3 : Hid (At2 (w3.alloc (.cells #[.int .u64 n0, .int .u32 n1] 25)) w2.heap.size n0 n1) := (HX2.out.on hb3).al _
  have HY3 : Hid (At2 (w3.alloc (.cells #[.int .u64 n0, .int .u32 n1] 25)) w3.heap.size n0 n1) := At2.new _ _ _ _
  clear hb3 HB2 HX2
  generalize w2.heap.size = X at HX3
  obtain ⟨c0, c1, c2, c3, hz, -⟩ := HB3'.out
  have hz' : w.heap.size < w3.heap.size := by omega
  go_wp2_with fail
  refine (merge_to hM.out _ h0 h1 h2 h3 h4 h5).mono ?_
  rintro e w4 ⟨rfl, hb4⟩
  clear c0 c1 c2 c3 hz hz' HB3'
  have HB4' : Hid (Box2 w w4 p l q m) := HB3.out.on hb4
  have HB4 : Hid (Box2 w (w4.alloc (.cells #[.int .u64 m0, .int .u32 m1] 25)) p l q m) := (HB3.out.on hb4).al _
  have HX4 : Hid (At2 (w4.alloc (.cells #[.int .u64 m0, .int .u32 m1] 25)) X n0 n1) := (HX3.out.on hb4).al _
  have HY4 : Hid (At2 (w4.alloc (.cells #[.int .u64 m0, .int .u32 m1] 25)) w3.heap.size n0 n1) := (HY3.out.on hb4).al _
  have HZ4 : Hid (At2 (w4.alloc (.cells #[.int .u64 m0, .int .u32 m1] 25)) w4.heap.size m0 m1) := At2.new _ _ _ _
  clear hb4 HB3 HX3 HY3
  generalize w3.heap.size = Y at HY4
  obtain ⟨c0, c1, c2, c3, hz, -⟩ := HB4'.out
  have hz' : w.heap.size < w4.heap.size := by omega
  go_wp2_with fail
  refine (merge_to' hM.out _ h0 h1 h2 h3 h4 h5).mono ?_
  rintro e w5 ⟨rfl, hb5⟩
  clear c0 c1 c2 c3 hz hz' HB4'
  have HB : Hid (Box2 w (w5.alloc (.cells #[.int .u64 m0, .int .u32 m1] 25)) p l q m) := (HB4.out.on hb5).al _
  have HX : Hid (At2 (w5.alloc (.cells #[.int .u64 m0, .int .u32 m1] 25)) X n0 n1) := (HX4.out.on hb5).al _
  have HY : Hid (At2 (w5.alloc (.cells #[.int .u64 m0, .int .u32 m1] 25)) Y n0 n1) := (HY4.out.on hb5).al _
  have HZ : Hid (At2 (w5.alloc (.cells #[.int .u64 m0, .int .u32 m1] 25)) w4.heap.size m0 m1) := (HZ4.out.on hb5).al _
  have HU : Hid (At2 (w5.alloc (.cells #[.int .u64 m0, .int .u32 m1] 25)) w5.heap.size m0 m1) := At2.new _ _ _ _
  clear hb5 HB4 HX4 HY4 HZ4
  generalize w4.heap.size = Z at HZ
  go_wp2_with fail
  generalize w5.alloc (.cells #[.int .u64 m0, .int .u32 m1] 25) = W4 at HB HX HY HZ HU
  generalize w5.heap.size = U at HU
  have k0 := cell_regrown HB.out.c0
  have k1 := cell_regrown HB.out.c1
  have k2 := cell_regrown HB.out.c2
  have k3 := cell_regrown HB.out.c3
  have k4 := cell_regrown HX.out.x0
  have k5 := cell_regrown HX.out.x1
  have k6 := cell_regrown HY.out.x0
  have k7 := cell_regrown HY.out.x1
  have k8 := cell_regrown HZ.out.x0
  have k9 := cell_regrown HZ.out.x1
  have k10 := cell_regrown HU.out.x0
  have k11 := cell_regrown HU.out.x1
  have cA : Hid (∀ d os, Calls Try.prog 13 #[.agg #[.int .u64 q, .int .u32 m]] (grow (redrawn W4 d) os) fun e w'' => e = .returned (.agg #[.int .u64 b0, .int .u32 b1]) ∧ ∃ p : Regrown, w'' = grow (redrawn W4 p.d) p.os) := fun d os => Calls.regrown_of (by have h := bound13 q m (grow (redrawn W4 d) os) h3 h4; rw [hBd.out] at h; exact h)
  have cB : Hid (∀ d os, Calls Try.prog 14 #[.agg #[.int .u64 q, .int .u32 m]] (grow (redrawn W4 d) os) fun e w'' => e = .returned (.agg #[.int .u64 b0, .int .u32 b1]) ∧ ∃ p : Regrown, w'' = grow (redrawn W4 p.d) p.os) := fun d os => Calls.regrown_of (by have h := bound14 q m (grow (redrawn W4 d) os) h3 h4; rw [hBd.out] at h; exact h)
  have cC : Hid (∀ d os, Calls Try.prog 15 #[.agg #[.int .u64 q, .int .u32 m], .agg #[.int .u64 p, .int .u32 l]] (grow (redrawn W4 d) os) fun e w'' => e = .returned (.bool lt) ∧ ∃ p : Regrown, w'' = grow (redrawn W4 p.d) p.os) := fun d os => Calls.regrown_of (by have h := late15 q m p l (grow (redrawn W4 d) os) h3 h0 h6; rw [hL.out] at h; exact h)
  have cD : Hid (∀ d os, Calls Try.prog 16 #[.agg #[.int .u64 q, .int .u32 m], .agg #[.int .u64 p, .int .u32 l]] (grow (redrawn W4 d) os) fun e w'' => e = .returned (.bool lt) ∧ ∃ p : Regrown, w'' = grow (redrawn W4 p.d) p.os) := fun d os => Calls.regrown_of (by have h := late16 q m p l (grow (redrawn W4 d) os) h3 h0 h6; rw [hL.out] at h; exact h)
  refine wp_region_quiet_below (by kernel_rfl) (by kernel_rfl) ?_
  repeat (quiet_step (fail))
  quiet_step (exact cA.out _ _)
  repeat (quiet_step (fail))
  quiet_step (exact cB.out _ _)
  repeat (quiet_step (fail))
  quiet_step (exact cC.out _ _)
  repeat (quiet_step (fail))
  quiet_step (exact cD.out _ _)
  repeat (quiet_step (fail))
  refine wpQuiet_nil ?_
  intro _ hw'
  obtain ⟨⟨dq, osq⟩, hw''⟩ := hw'
  subst hw''
  have HB5 := HB.out.bel.trans ((below_regrown W4 dq osq).mono (by have := HB.out.sz; omega))
  have HB6 : Hid (Below w.heap.size w (grow (redrawn W4 dq) osq)) := HB5
  clear HB5 cA cB cC cD k0 k1 k2 k3 k4 k5 k6 k7 k8 k9 k10 k11 HB
  go_wp2
  go_ret
  exact ⟨rfl, HB6.out⟩

theorem tells_any (p l f q m : Int) (w : World) (h0 : 0 ≤ p) (h : p ≤ 18446744073709551615) (h1 : 0 ≤ l) (h2 : 0 ≤ f) (h3 : 0 ≤ q) (h5 : q ≤ 18446744073709551615) (h4 : 0 ≤ m) :
    Calls Try.prog 3 #[.agg #[.int .u64 p, .int .u32 l], .int .u64 f, .agg #[.int .u64 q, .int .u32 m]] w fun e w' => e = .returned (.bool true) ∧ Below w.heap.size w w' :=
  tells_walk p l f q m w h0 h1 h2 h3 h4 h5 h _ _ _ _ _ _ _ _ _ (show tickF p l f = (_, _, _) from rfl) (show mergeF p l f q m = (_, _, _) from rfl) (show boundF q m = (_, _) from rfl) (show lateB q p = _ from rfl)
end Go.Proofs.Ytiknfijaadbmeaa
