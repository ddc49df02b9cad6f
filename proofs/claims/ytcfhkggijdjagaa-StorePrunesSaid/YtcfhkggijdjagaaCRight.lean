/-
  Contract of chain.Right: is a list of versions a chain?
-/
import Derived.Test.YtcfhkggijdjagaaCVs
namespace Go.Proofs.Ytcfhkggijdjagaa
open Go.RowKit Go.Sort

structure Veil (p : Prop) : Prop where
  out : p
theorem vq_step {P : Program} {ops : Array Oper} {C : World → Prop} {Q : Act → Prop} {a : Act} {o : Oper} {rest : List Oper}
    (h : ∀ K : Act → Prop, (∀ a, Veil (wpQuiet P ops C Q rest a) → K a) → if Region.wanted o (yielded ops a.tmps) then o.quiet P a C K else K (a.put o.dst undef)) : Veil (wpQuiet P ops C Q (o :: rest) a) :=
  ⟨wpQuiet_step fun K hK => h K fun a ha => hK a ha.out⟩
theorem vq_nil {P : Program} {ops : Array Oper} {C : World → Prop} {Q : Act → Prop} {a : Act} (h : Q a) : Veil (wpQuiet P ops C Q [] a) := ⟨wpQuiet_nil h⟩

/-- What Right asks of the version at place i. -/
def stepB (C : List Ve) (i : Nat) : Bool := vOk (C.getD i dv) && (i == 0 || ltS (C.getD i dv).p (C.getD i dv).l (C.getD (i - 1) dv))

theorem okFrom_idx : ∀ (C : List Ve) (u : Ve), okFrom (some u) C = true ↔ ∀ i, i < C.length → stepB (u :: C) (i + 1) = true
  | [], u => by simp [okFrom]
  | v :: r, u => by
    unfold okFrom
    rw [Bool.and_eq_true, okFrom_idx r v]
    constructor
    · rintro ⟨h1, h2⟩ i hi
      cases i with
      | zero => simpa [stepB] using h1
      | succ i =>
        have := h2 i (by simpa using hi)
        simpa [stepB] using this
    · intro h
      refine ⟨by simpa [stepB] using h 0 (by simp), fun i hi => ?_⟩
      have := h (i + 1) (by simpa using hi)
      simpa [stepB] using this
theorem rightC_idx {C : List Ve} (hl : C.length ≤ 1000) : rightC C = true ↔ ∀ i, i < C.length → stepB C i = true := by
  unfold rightC
  rw [Bool.and_eq_true, decide_eq_true_eq]
  cases C with
  | nil => simp [okFrom]
  | cons v r =>
    unfold okFrom
    rw [Bool.and_eq_true, okFrom_idx]
    constructor
    · rintro ⟨⟨h1, h2⟩, _⟩ i hi
      cases i with
      | zero => simpa [stepB] using h1
      | succ i => exact h2 i (by simpa using hi)
    · intro h
      exact ⟨⟨by simpa [stepB] using h 0 (by simp), fun i hi => h (i + 1) (by simpa using hi)⟩, hl⟩

set_option maxHeartbeats 3200000 in
theorem right12 (B : Nat) (C : List Ve) (v : Value) (w : World) (hv : VsAt B v C w) (hB : B ≤ w.heap.size) :
    Calls Try.prog 49 #[v] w fun e w' => e = .returned (.bool (rightC C)) ∧ Below w.heap.size w w' := by
  obtain ⟨ao, cap, rfl, hlc, hcm, hx⟩ := hv
  obtain ⟨r, hr⟩ : ∃ r, rightC C = r := ⟨_, rfl⟩
  rw [hr]
  have HR : Hid _ := hr
  have HX : Hid _ := hx
  have HB : Hid _ := hB
  have HC : Hid _ := hlc
  have HM : Hid _ := hcm
  clear hr hx hB hlc hcm
  by_cases hlen : C.length ≤ 1000
  · have HI : Hid (rightC C = true ↔ ∀ i, i < C.length → stepB C i = true) := rightC_idx hlen
    have hlen' : ¬ (1000 < (C.length : Int)) := by omega
    go_enter Try.func49, Try.ntmps49
    go_wp2_with fail
    go_loopw [10] (fun i wr => ∃ k : Nat, k ≤ C.length ∧ i = .int .i64 k ∧ (∀ j, j < k → stepB C j = true) ∧ Below w.heap.size w wr) (fun i _ => C.length - (intOf i).toNat)
    case atStart => exact ⟨0, Nat.zero_le _, rfl, fun j hj => absurd hj (by omega), Below.refl _ _⟩
    case round =>
      obtain ⟨k, hk, rfl, hall, hbr⟩ := hrel
      have HE : Hid _ := hall
      clear hall
      by_cases hkl : k < C.length
      · obtain ⟨b, off, rfl, hb, hc⟩ := HX.out (by have := HC.out; omega)
        have hbw : b < w.heap.size := Nat.lt_of_lt_of_le (hb (by omega)) HB.out
        have HCk : Hid (∀ i, i < C.length → VeAt wr b (off + i * 6) (C.getD i dv)) := fun i hi => (hc i hi).on hbr hbw
        have HK : Hid (stepB C k = true → ∀ j, j < k + 1 → stepB C j = true) := fun h j hj => by
          by_cases hjk : j = k
          · subst hjk; exact h
          · exact HE.out j (by omega)
        have HN : Hid (stepB C k = false → r = false) := fun h => by
          rw [← HR.out]
          rw [Bool.eq_false_iff]
          intro h2
          rw [HI.out.1 h2 k hkl] at h
          cases h
        have HSt : Hid (stepB C k = (vOk (C.getD k dv) && (k == 0 || ltS (C.getD k dv).p (C.getD k dv).l (C.getD (k - 1) dv)))) := rfl
        obtain ⟨st, hst⟩ : ∃ st, stepB C k = st := ⟨_, rfl⟩
        rw [hst] at HK HN HSt
        clear hst
        have hck := HCk.out k hkl
        clear hc hb
        have hkl' : (k : Int) < C.length := by omega
        have hbr' : b < wr.heap.size := by have := hbr.size; omega
        by_cases hk0 : k = 0
        · subst hk0
          clear HCk
          have HS2 : Hid (st = vOk (C.getD 0 dv)) := by rw [HSt.out]; show _ = _; simp
          clear HSt
          generalize C.getD 0 dv = x at hck HS2
          obtain ⟨xp, xl, xc, xn, xs, xd⟩ := x
          obtain ⟨e0, e1, e2, e3, e4, e5⟩ := hck
          dsimp only at e0 e1 e2 e3 e4 e5
          simp only [Nat.zero_mul, Nat.add_zero] at e0 e1 e2 e3 e4 e5
          go_wp2_with fail
          obtain ⟨w4, hw4⟩ : ∃ w4, w4 = wr.alloc (.cells #[.int .u64 xp, .int .u32 xl, .int .u32 xc, .int .u32 xn, .string (bs xs), .bool xd] 37) := ⟨_, rfl⟩
          have hv4 : VeAt w4 wr.heap.size 0 ⟨xp, xl, xc, xn, xs, xd⟩ := by rw [hw4]; exact ⟨by simp [go_sem], by simp [go_sem], by simp [go_sem], by simp [go_sem], by simp [go_sem], by simp [go_sem]⟩
          have H4 : Hid (Below w.heap.size w w4) := by rw [hw4]; exact hbr.alloc hbr.size _
          rw [← hw4]
          clear hw4 e0 e1 e2 e3 e4 e5
          obtain ⟨e0, e1, e2, e3, e4, e5⟩ := hv4
          dsimp only at e0 e1 e2 e3 e4 e5
          simp only [Nat.zero_add] at e1 e2 e3 e4 e5
          have g0 := cell_regrown e0
          have g1 := cell_regrown e1
          have g2 := cell_regrown e2
          have g3 := cell_regrown e3
          have g4 := cell_regrown e4
          have g5 := cell_regrown e5
          have cA : Hid (∀ d os, Calls Try.prog 50 #[.agg #[.int .u64 xp, .int .u32 xl, .int .u32 xc, .int .u32 xn, .string (bs xs), .bool xd]] (grow (redrawn w4 d) os) fun e w'' => e = .returned (.bool st) ∧ ∃ p : Regrown, w'' = grow (redrawn w4 p.d) p.os) := fun d os => Calls.regrown_of (by rw [HS2.out]; exact fits20 ⟨xp, xl, xc, xn, xs, xd⟩ _)
          clear HS2
          cases st
          all_goals
            refine wp_region_quiet_below (by kernel_rfl) (by kernel_rfl) (Veil.out ?_)
            repeat (refine vq_step (fun K hK => ?_); go_simp; refine hK _ ?_; clear hK K)
            (refine vq_step (fun K hK => ?_); go_simp; apply Exists.intro; refine ⟨fun _ => ?_, hK _ ?_⟩; exact cA.out _ _; clear hK K)
            repeat (refine vq_step (fun K hK => ?_); go_simp; refine hK _ ?_; clear hK K)
            refine vq_nil ?_
            intro _ hw'
            obtain ⟨⟨dq, osq⟩, hw''⟩ := hw'
            subst hw''
            have H5 : Hid (Below w.heap.size w (grow (redrawn w4 dq) osq)) := H4.out.trans ((below_regrown w4 dq osq).mono H4.out.size)
          · have HX2 : Hid _ := HN.out rfl
            go_wp2
            go_ret
            rw [HX2.out]
            exact ⟨rfl, H5.out⟩
          · have HX2 : Hid _ := HK.out rfl
            go_wp2
            go_roundw
            case rel => exact ⟨1, by omega, by go_num, HX2.out, H5.out⟩
            case measure => simp [intOf]; omega
        · have hck2 := HCk.out (k - 1) (by omega)
          clear HCk
          have HS2 : Hid (st = (vOk (C.getD k dv) && ltS (C.getD k dv).p (C.getD k dv).l (C.getD (k - 1) dv))) := by rw [HSt.out, show (k == 0) = false from by simp [hk0]]; show _ = _; simp
          clear HSt
          generalize C.getD k dv = x at hck HS2
          generalize C.getD (k - 1) dv = y at hck2 HS2
          obtain ⟨k1, hk1⟩ : ∃ k1 : Nat, k = k1 + 1 := ⟨k - 1, by omega⟩
          subst hk1
          clear hk0
          simp only [Nat.add_sub_cancel] at hck2
          obtain ⟨xp, xl, xc, xn, xs, xd⟩ := x
          obtain ⟨yp, yl, yc, yn, ys, yd⟩ := y
          have hck2' := hck2.on ((Below.refl wr.heap.size wr).alloc (Nat.le_refl _) (.cells #[.int .u64 xp, .int .u32 xl, .int .u32 xc, .int .u32 xn, .string (bs xs), .bool xd] 37)) hbr'
          clear hck2
          obtain ⟨e0, e1, e2, e3, e4, e5⟩ := hck
          dsimp only at e0 e1 e2 e3 e4 e5
          go_wp2_with fail
          obtain ⟨w4, hw4⟩ : ∃ w4, w4 = wr.alloc (.cells #[.int .u64 xp, .int .u32 xl, .int .u32 xc, .int .u32 xn, .string (bs xs), .bool xd] 37) := ⟨_, rfl⟩
          have hv4 : VeAt w4 wr.heap.size 0 ⟨xp, xl, xc, xn, xs, xd⟩ := by rw [hw4]; exact ⟨by simp [go_sem], by simp [go_sem], by simp [go_sem], by simp [go_sem], by simp [go_sem], by simp [go_sem]⟩
          have H4 : Hid (Below w.heap.size w w4) := by rw [hw4]; exact hbr.alloc hbr.size _
          rw [← hw4] at hck2' ⊢
          clear hw4 e0 e1 e2 e3 e4 e5
          obtain ⟨e0, e1, e2, e3, e4, e5⟩ := hv4
          dsimp only at e0 e1 e2 e3 e4 e5
          simp only [Nat.zero_add] at e1 e2 e3 e4 e5
          have g0 := cell_regrown e0
          have g1 := cell_regrown e1
          have g2 := cell_regrown e2
          have g3 := cell_regrown e3
          have g4 := cell_regrown e4
          have g5 := cell_regrown e5
          have m0 := cell_regrown hck2'.c0
          have m1 := cell_regrown hck2'.c1
          clear hck2' e0 e1 e2 e3 e4 e5
          dsimp only at m0 m1
          obtain ⟨s1, hs1⟩ : ∃ s1, vOk ⟨xp, xl, xc, xn, xs, xd⟩ = s1 := ⟨_, rfl⟩
          obtain ⟨s2, hs2⟩ : ∃ s2, lessB xp xl yp yl = s2 := ⟨_, rfl⟩
          have HS3 : Hid (st = (s1 && s2)) := by rw [HS2.out, ← hs1, ← hs2]; exact rfl
          have cA : Hid (∀ d os, Calls Try.prog 50 #[.agg #[.int .u64 xp, .int .u32 xl, .int .u32 xc, .int .u32 xn, .string (bs xs), .bool xd]] (grow (redrawn w4 d) os) fun e w'' => e = .returned (.bool s1) ∧ ∃ p : Regrown, w'' = grow (redrawn w4 p.d) p.os) := fun d os => Calls.regrown_of (by rw [← hs1]; exact fits20 ⟨xp, xl, xc, xn, xs, xd⟩ _)
          have cB : Hid (∀ d os, Calls Try.prog 63 #[.agg #[.int .u64 xp, .int .u32 xl], .agg #[.int .u64 yp, .int .u32 yl]] (grow (redrawn w4 d) os) fun e w'' => e = .returned (.bool s2) ∧ ∃ p : Regrown, w'' = grow (redrawn w4 p.d) p.os) := fun d os => Calls.regrown_of (by rw [← hs2]; exact lessP _ _ _ _ _)
          clear HS2 hs1 hs2
          have hkk : ¬ ((k1 + 1 : Int) ≤ 0) := by omega
          have hk2 : ((k1 + 1 : Nat) : Int) > 0 := by omega
          have hkm : IntKind.i64.wrap (k1 : Int) = k1 := by simp [IntKind.wrap, IntKind.signed, IntKind.bits]; omega
          have hkm2 : (k1 : Int) < C.length := by omega
          cases s1
          · refine wp_region_quiet_below (by kernel_rfl) (by kernel_rfl) (Veil.out ?_)
            repeat (refine vq_step (fun K hK => ?_); go_simp; refine hK _ ?_; clear hK K)
            (refine vq_step (fun K hK => ?_); go_simp; apply Exists.intro; refine ⟨fun _ => ?_, hK _ ?_⟩; exact cA.out _ _; clear hK K)
            repeat (refine vq_step (fun K hK => ?_); go_simp; refine hK _ ?_; clear hK K)
            refine vq_nil ?_
            intro _ hw'
            obtain ⟨⟨dq, osq⟩, hw''⟩ := hw'
            subst hw''
            have H5 : Hid (Below w.heap.size w (grow (redrawn w4 dq) osq)) := H4.out.trans ((below_regrown w4 dq osq).mono H4.out.size)
            have HX2 : Hid _ := HN.out (by rw [HS3.out]; rfl)
            go_wp2
            go_ret
            rw [HX2.out]
            exact ⟨rfl, H5.out⟩
          · cases s2
            all_goals
              refine wp_region_quiet_below (by kernel_rfl) (by kernel_rfl) (Veil.out ?_)
              repeat (refine vq_step (fun K hK => ?_); go_simp; refine hK _ ?_; clear hK K)
              (refine vq_step (fun K hK => ?_); go_simp; apply Exists.intro; refine ⟨fun _ => ?_, hK _ ?_⟩; exact cA.out _ _; clear hK K)
              repeat (refine vq_step (fun K hK => ?_); go_simp; refine hK _ ?_; clear hK K)
              (refine vq_step (fun K hK => ?_); go_simp; apply Exists.intro; refine ⟨fun _ => ?_, hK _ ?_⟩; exact cB.out _ _; clear hK K)
              repeat (refine vq_step (fun K hK => ?_); go_simp; refine hK _ ?_; clear hK K)
              refine vq_nil ?_
              intro _ hw'
              obtain ⟨⟨dq, osq⟩, hw''⟩ := hw'
              subst hw''
              have H5 : Hid (Below w.heap.size w (grow (redrawn w4 dq) osq)) := H4.out.trans ((below_regrown w4 dq osq).mono H4.out.size)
            · have HX2 : Hid _ := HN.out (by rw [HS3.out]; rfl)
              go_wp2
              go_ret
              rw [HX2.out]
              exact ⟨rfl, H5.out⟩
            · have HX2 : Hid _ := HK.out (by rw [HS3.out]; rfl)
              go_wp2
              go_roundw
              case rel => exact ⟨k1 + 1 + 1, by omega, by go_num, HX2.out, H5.out⟩
              case measure => simp [intOf]; omega
      · have hkl' : ¬ (k : Int) < C.length := by omega
        have HX2 : Hid (r = true) := by
          show _ = _
          rw [← HR.out]
          exact HI.out.2 fun i hi => HE.out i (by omega)
        go_wp2
        go_ret
        rw [HX2.out]
        exact ⟨rfl, hbr⟩
  · have hlen' : 1000 < (C.length : Int) := by omega
    have HX2 : Hid (r = false) := by
      show _ = _
      rw [← HR.out]
      unfold rightC
      rw [decide_eq_false hlen]
      simp
    go_enter Try.func49, Try.ntmps49
    go_wp2
    go_ret
    rw [HX2.out]
    exact ⟨rfl, Below.refl _ _⟩
end Go.Proofs.Ytcfhkggijdjagaa
