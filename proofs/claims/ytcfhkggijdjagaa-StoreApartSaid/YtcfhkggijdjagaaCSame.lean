/-
  Contracts of the document's Right and Same.
-/
import Derived.Test.YtcfhkggijdjagaaCRight
namespace Go.Proofs.Ytcfhkggijdjagaa
open Go.RowKit Go.Sort

theorem okNone_idx {C : List Ve} : okFrom none C = true ↔ ∀ i, i < C.length → stepB C i = true := by
  cases C with
  | nil => simp [okFrom]
  | cons v r =>
    unfold okFrom
    rw [Bool.and_eq_true, okFrom_idx]
    constructor
    · rintro ⟨h1, h2⟩ i hi
      cases i with
      | zero => simpa [stepB] using h1
      | succ i => exact h2 i (by simpa using hi)
    · intro h
      exact ⟨by simpa [stepB] using h 0 (by simp), fun i hi => h (i + 1) (by simpa using hi)⟩

set_option maxHeartbeats 3200000 in
theorem right13 (B : Nat) (C : List Ve) (v : Value) (w : World) (hv : VsAt B v C w) (hB : B ≤ w.heap.size) :
    Calls Try.prog 57 #[v] w fun e w' => e = .returned (.bool (rightC C)) ∧ Below w.heap.size w w' := by
  obtain ⟨ao, cap, rfl, hlc, hcm, hx⟩ := hv
  obtain ⟨r, hr⟩ : ∃ r, rightC C = r := ⟨_, rfl⟩
  rw [hr]
  have HR : Hid _ := hr
  have HX : Hid _ := hx
  have HB : Hid _ := hB
  have HC : Hid _ := hlc
  have HM : Hid _ := hcm
  clear hr hx hB hlc hcm
  have HI : Hid (okFrom none C = true ↔ ∀ i, i < C.length → stepB C i = true) := okNone_idx
  go_enter Try.func57, Try.ntmps57
  go_wp2_with fail
  go_loopw [3] (fun i wr => ∃ k : Nat, k ≤ C.length ∧ i = .int .i64 k ∧ (∀ j, j < k → stepB C j = true) ∧ Below w.heap.size w wr) (fun i _ => C.length - (intOf i).toNat)
  case atStart => exact ⟨0, Nat.zero_le _, rfl, fun j hj => absurd hj (by omega), Below.refl _ _⟩
  case round =>
    obtain ⟨k, hk, rfl, hall, hbr⟩ := hrel
    have HE : Hid _ := hall
    clear hall
    by_cases hkl : k < C.length
    · obtain ⟨b, off, rfl, hb, hc⟩ := HX.out (by have := HC.out; omega)
      have hbw : b < w.heap.size := Nat.lt_of_lt_of_le (hb (by omega)) HB.out
      have HCk : Hid (∀ i, i < C.length → VeAt wr b (off + i * 6) (C.getD i dv)) := fun i hi => (hc i hi).on hbr hbw
      have h63 : C.length ≤ 9223372036854775807 := Nat.le_trans HC.out HM.out
      have HK : Hid (stepB C k = true → ∀ j, j < k + 1 → stepB C j = true) := fun h j hj => by
        by_cases hjk : j = k
        · subst hjk; exact h
        · exact HE.out j (by omega)
      have HN : Hid (stepB C k = false → r = false) := fun h => by
        rw [← HR.out]
        rw [Bool.eq_false_iff]
        intro h2
        rw [HI.out.1 (by unfold rightC at h2; rw [Bool.and_eq_true] at h2; exact h2.1) k hkl] at h
        cases h
      have HSt : Hid (stepB C k = (vOk (C.getD k dv) && (k == 0 || ltS (C.getD k dv).p (C.getD k dv).l (C.getD (k - 1) dv)))) := rfl
      obtain ⟨st, hst⟩ : ∃ st, stepB C k = st := ⟨_, rfl⟩
      rw [hst] at HK HN HSt
      clear hst
      have hck := HCk.out k hkl
      clear hc hb
      have hkl' : (k : Int) < C.length := by omega
      have H4 : Hid _ := hbr
      by_cases hk0 : k = 0
      · subst hk0
        clear HCk
        have HS2 : Hid (st = vOk (C.getD 0 dv)) := by rw [HSt.out]; show _ = _; simp
        clear HSt
        generalize C.getD 0 dv = x at hck HS2
        obtain ⟨xp, xl, xc, xn, xs, xd⟩ := x
        obtain ⟨e0, e1, e2, e3, e4, e5⟩ := hck
        dsimp only at e0 e1 e2 e3 e4 e5
        simp only [Nat.zero_mul, Nat.add_zero] at e0 e1 e2 e3 e4 e5
        have g0 := cell_regrown e0
        have g1 := cell_regrown e1
        have g2 := cell_regrown e2
        have g3 := cell_regrown e3
        have g4 := cell_regrown e4
        have g5 := cell_regrown e5
        have cA : Hid (∀ d os, Calls Try.prog 58 #[.agg #[.int .u64 xp, .int .u32 xl, .int .u32 xc, .int .u32 xn, .string (bs xs), .bool xd]] (grow (redrawn wr d) os) fun e w'' => e = .returned (.bool st) ∧ ∃ p : Regrown, w'' = grow (redrawn wr p.d) p.os) := fun d os => Calls.regrown_of (by rw [HS2.out]; exact version24 ⟨xp, xl, xc, xn, xs, xd⟩ _)
        clear HS2 e0 e1 e2 e3 e4 e5
        go_wp2_with fail
        cases st
        all_goals
          refine wp_region_quiet_below (by kernel_rfl) (by kernel_rfl) (Veil.out ?_)
          repeat (refine vq_step (fun K hK => ?_); go_simp; refine hK _ ?_; clear hK K)
          (refine vq_step (fun K hK => ?_); go_simp; apply Exists.intro; refine ⟨fun _ => ?_, hK _ ?_⟩; exact cA.out _ _; clear hK K)
          repeat (refine vq_step (fun K hK => ?_); go_simp; refine hK _ ?_; clear hK K)
          refine vq_nil ?_
          intro _ hw'
          obtain ⟨⟨dq, osq⟩, hw''⟩ := hw'
          subst hw''
          have H5 : Hid (Below w.heap.size w (grow (redrawn wr dq) osq)) := H4.out.trans ((below_regrown wr dq osq).mono H4.out.size)
        · have HX2 : Hid _ := HN.out rfl
          go_wp2
          go_ret
          rw [HX2.out]
          exact ⟨rfl, H5.out⟩
        · have HX2 : Hid _ := HK.out rfl
          go_wp2
          go_roundw
          case rel => exact ⟨1, by omega, by go_num, HX2.out, H5.out⟩
          case measure => simp [intOf]; omega
      · have hck2 := HCk.out (k - 1) (by omega)
        clear HCk
        have HS2 : Hid (st = (vOk (C.getD k dv) && ltS (C.getD k dv).p (C.getD k dv).l (C.getD (k - 1) dv))) := by rw [HSt.out, show (k == 0) = false from by simp [hk0]]; show _ = _; simp
        clear HSt
        generalize C.getD k dv = x at hck HS2
        generalize C.getD (k - 1) dv = y at hck2 HS2
        obtain ⟨k1, hk1⟩ : ∃ k1 : Nat, k = k1 + 1 := ⟨k - 1, by omega⟩
        subst hk1
        clear hk0
        simp only [Nat.add_sub_cancel] at hck2
        obtain ⟨xp, xl, xc, xn, xs, xd⟩ := x
        obtain ⟨yp, yl, yc, yn, ys, yd⟩ := y
        obtain ⟨e0, e1, e2, e3, e4, e5⟩ := hck
        dsimp only at e0 e1 e2 e3 e4 e5
        have g0 := cell_regrown e0
        have g1 := cell_regrown e1
        have g2 := cell_regrown e2
        have g3 := cell_regrown e3
        have g4 := cell_regrown e4
        have g5 := cell_regrown e5
        have m0 := cell_regrown hck2.c0
        have m1 := cell_regrown hck2.c1
        clear hck2 e0 e1 e2 e3 e4 e5
        dsimp only at m0 m1
        obtain ⟨s1, hs1⟩ : ∃ s1, vOk ⟨xp, xl, xc, xn, xs, xd⟩ = s1 := ⟨_, rfl⟩
        obtain ⟨s2, hs2⟩ : ∃ s2, lessB xp xl yp yl = s2 := ⟨_, rfl⟩
        have HS3 : Hid (st = (s1 && s2)) := by rw [HS2.out, ← hs1, ← hs2]; exact rfl
        have cA : Hid (∀ d os, Calls Try.prog 58 #[.agg #[.int .u64 xp, .int .u32 xl, .int .u32 xc, .int .u32 xn, .string (bs xs), .bool xd]] (grow (redrawn wr d) os) fun e w'' => e = .returned (.bool s1) ∧ ∃ p : Regrown, w'' = grow (redrawn wr p.d) p.os) := fun d os => Calls.regrown_of (by rw [← hs1]; exact version24 ⟨xp, xl, xc, xn, xs, xd⟩ _)
        have cB : Hid (∀ d os, Calls Try.prog 59 #[.agg #[.int .u64 xp, .int .u32 xl], .agg #[.int .u64 yp, .int .u32 yl]] (grow (redrawn wr d) os) fun e w'' => e = .returned (.bool s2) ∧ ∃ p : Regrown, w'' = grow (redrawn wr p.d) p.os) := fun d os => Calls.regrown_of (by rw [← hs2]; exact lessR _ _ _ _ _)
        clear HS2 hs1 hs2
        have hkk : ¬ ((k1 + 1 : Int) ≤ 0) := by omega
        have hk2 : ((k1 + 1 : Nat) : Int) > 0 := by omega
        have hkm : IntKind.i64.wrap (k1 : Int) = k1 := by simp [IntKind.wrap, IntKind.signed, IntKind.bits]; omega
        have hkm2 : (k1 : Int) < C.length := by omega
        have hkm3 : 0 ≤ (k1 : Int) + 1 := by omega
        go_wp2_with fail
        cases s1
        · refine wp_region_quiet_below (by kernel_rfl) (by kernel_rfl) (Veil.out ?_)
          repeat (refine vq_step (fun K hK => ?_); go_simp; refine hK _ ?_; clear hK K)
          (refine vq_step (fun K hK => ?_); go_simp; apply Exists.intro; refine ⟨fun _ => ?_, hK _ ?_⟩; exact cA.out _ _; clear hK K)
          repeat (refine vq_step (fun K hK => ?_); go_simp; refine hK _ ?_; clear hK K)
          refine vq_nil ?_
          intro _ hw'
          obtain ⟨⟨dq, osq⟩, hw''⟩ := hw'
          subst hw''
          have H5 : Hid (Below w.heap.size w (grow (redrawn wr dq) osq)) := H4.out.trans ((below_regrown wr dq osq).mono H4.out.size)
          have HX2 : Hid _ := HN.out (by rw [HS3.out]; rfl)
          go_wp2
          go_ret
          rw [HX2.out]
          exact ⟨rfl, H5.out⟩
        · cases s2
          all_goals
            refine wp_region_quiet_below (by kernel_rfl) (by kernel_rfl) (Veil.out ?_)
            repeat (refine vq_step (fun K hK => ?_); go_simp; refine hK _ ?_; clear hK K)
            (refine vq_step (fun K hK => ?_); go_simp; apply Exists.intro; refine ⟨fun _ => ?_, hK _ ?_⟩; exact cA.out _ _; clear hK K)
            repeat (refine vq_step (fun K hK => ?_); go_simp; refine hK _ ?_; clear hK K)
            (refine vq_step (fun K hK => ?_); go_simp; apply Exists.intro; refine ⟨fun _ => ?_, hK _ ?_⟩; exact cB.out _ _; clear hK K)
            repeat (refine vq_step (fun K hK => ?_); go_simp; refine hK _ ?_; clear hK K)
            refine vq_nil ?_
            intro _ hw'
            obtain ⟨⟨dq, osq⟩, hw''⟩ := hw'
            subst hw''
            have H5 : Hid (Below w.heap.size w (grow (redrawn wr dq) osq)) := H4.out.trans ((below_regrown wr dq osq).mono H4.out.size)
          · have HX2 : Hid _ := HN.out (by rw [HS3.out]; rfl)
            go_wp2
            go_ret
            rw [HX2.out]
            exact ⟨rfl, H5.out⟩
          · have HX2 : Hid _ := HK.out (by rw [HS3.out]; rfl)
            go_wp2
            go_roundw
            case rel => exact ⟨k1 + 1 + 1, by omega, by go_num, HX2.out, H5.out⟩
            case measure => simp [intOf]; omega
    · have hkl' : ¬ (k : Int) < C.length := by omega
      have HX2 : Hid (r = decide ((C.length : Int) ≤ 1000)) := by
        show _ = _
        rw [← HR.out]
        unfold rightC
        rw [HI.out.2 fun i hi => HE.out i (by omega), Bool.true_and]
        exact decide_eq_decide.2 (by omega)
      go_wp2
      go_ret
      rw [HX2.out]
      exact ⟨rfl, hbr⟩

theorem getD_ext {A B : List Ve} (hl : A.length = B.length) (h : ∀ i, i < A.length → A.getD i dv = B.getD i dv) : A = B := by
  apply List.ext_getElem hl
  intro i h1 h2
  have := h i h1
  simpa [List.getD, List.getElem?_eq_getElem h1, List.getElem?_eq_getElem h2] using this

/-- Are two lists the same? -/
def sameB : List Ve → List Ve → Bool
  | [], [] => true
  | a :: r, b :: s => eqV a b && sameB r s
  | _, _ => false
theorem sameB_iff : ∀ {A B : List Ve}, sameB A B = true ↔ A = B
  | [], [] => by simp [sameB]
  | [], _ :: _ => by simp [sameB]
  | _ :: _, [] => by simp [sameB]
  | a :: r, b :: s => by
    unfold sameB
    rw [Bool.and_eq_true, eqV_iff, sameB_iff]
    simp
theorem sameB_self (A : List Ve) : sameB A A = true := sameB_iff.2 rfl

set_option maxHeartbeats 3200000 in
theorem same14 (Ba Bb : Nat) (A B : List Ve) (va vb : Value) (w : World) (ha : VsAt Ba va A w) (hb : VsAt Bb vb B w) :
    Calls Try.prog 47 #[va, vb] w fun e w' => e = .returned (.bool (sameB A B)) ∧ Below w.heap.size w w' := by
  obtain ⟨ao, ca, rfl, hla, hma, hax⟩ := ha
  obtain ⟨bo, cb, rfl, hlb, hmb, hbx⟩ := hb
  obtain ⟨r, hr⟩ : ∃ r, sameB A B = r := ⟨_, rfl⟩
  rw [hr]
  have HR : Hid _ := hr
  clear hr
  have HA : Hid _ := hax
  have HB : Hid _ := hbx
  have HLa : Hid _ := hla
  have HLb : Hid _ := hlb
  have h63 : A.length ≤ 9223372036854775807 := Nat.le_trans hla hma
  clear hax hbx hla hlb hma hmb
  by_cases hl : A.length = B.length
  · have hl' : ((A.length : Int) != B.length) = false := by simp [hl]
    have HL : Hid _ := hl
    clear hl
    go_enter Try.func47, Try.ntmps47
    go_wp2_with fail
    go_loopw [5] (fun i wr => ∃ k : Nat, k ≤ A.length ∧ i = .int .i64 k ∧ (∀ j, j < k → A.getD j dv = B.getD j dv) ∧ ∃ n, wr = w.drewN n) (fun i _ => A.length - (intOf i).toNat)
    case atStart => exact ⟨0, Nat.zero_le _, rfl, fun j hj => absurd hj (by omega), 0, rfl⟩
    case round =>
      obtain ⟨k, hk, rfl, hall, n, rfl⟩ := hrel
      have HE : Hid (∀ j, j < k → A.getD j dv = B.getD j dv) := hall
      clear hall
      by_cases hkl : k < A.length
      · obtain ⟨b1, o1, rfl, hn1, h1⟩ := HA.out (by have := HLa.out; omega)
        obtain ⟨b2, o2, rfl, hn2, h2⟩ := HB.out (by have := HLb.out; have := HL.out; omega)
        clear hn1 hn2
        have c1 := h1 k hkl
        have c2 := h2 k (by have := HL.out; omega)
        clear h1 h2
        have hkb : (k : Int) < B.length := by have := HL.out; omega
        have HK : Hid (A.getD k dv = B.getD k dv → ∀ j, j < k + 1 → A.getD j dv = B.getD j dv) := fun h j hj => by
          by_cases hjk : j = k
          · subst hjk; exact h
          · exact HE.out j (by omega)
        have HN : Hid (A.getD k dv ≠ B.getD k dv → r = false) := fun h => by
          rw [← HR.out, Bool.eq_false_iff]
          intro e
          exact h (by rw [sameB_iff.1 e])
        generalize A.getD k dv = s at c1 HK HN
        generalize B.getD k dv = t at c2 HK HN
        obtain ⟨xp, xl, xc, xn, xs, xd⟩ := s
        obtain ⟨yp, yl, yc, yn, ys, yd⟩ := t
        obtain ⟨e0, e1, e2, e3, e4, e5⟩ := c1
        obtain ⟨f0, f1, f2, f3, f4, f5⟩ := c2
        dsimp only at e0 e1 e2 e3 e4 e5 f0 f1 f2 f3 f4 f5
        have hkl' : (k : Int) < A.length := by omega
        have hrun := run_neq30 xp xl xc xn xs xd yp yl yc yn ys yd
        obtain ⟨z, hz⟩ : ∃ z, eqV ⟨xp, xl, xc, xn, xs, xd⟩ ⟨yp, yl, yc, yn, ys, yd⟩ = z := ⟨_, rfl⟩
        rw [hz] at hrun
        have HZ : Hid _ := hz
        clear hz
        cases z
        · have HX : Hid _ := HN.out (fun e => by have := HZ.out; rw [eqV_iff.2 e] at this; cases this)
          go_wp2_with fail
          go_quiet (fail)
          go_wp2
          go_ret
          rw [HX.out]
          exact ⟨rfl, below_drewN (below_drewN (Below.refl _ _) _) _⟩
        · have HX : Hid _ := HK.out (eqV_iff.1 HZ.out)
          go_wp2_with fail
          go_quiet (fail)
          go_wp2
          go_roundw
          case rel => exact ⟨k + 1, by omega, by go_num, HX.out, _, rfl⟩
          case measure => simp [intOf]; omega
      · have hkl' : ¬ (k : Int) < A.length := by omega
        have HX : Hid (r = true) := by
          show _ = _
          rw [← HR.out]
          exact sameB_iff.2 (getD_ext HL.out fun i hi => HE.out i (by omega))
        go_wp2
        go_ret
        rw [HX.out]
        exact ⟨rfl, below_drewN (Below.refl _ _) _⟩
  · have hl' : ((A.length : Int) != B.length) = true := by simp; omega
    have HX : Hid (r = false) := by
      show _ = _
      rw [← HR.out, Bool.eq_false_iff]
      exact fun e => hl (by rw [sameB_iff.1 e])
    clear hl
    go_enter Try.func47, Try.ntmps47
    go_wp2
    go_ret
    rw [HX.out]
    exact ⟨rfl, Below.refl _ _⟩
end Go.Proofs.Ytcfhkggijdjagaa
