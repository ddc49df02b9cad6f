/-
  Contracts of the document's At and Newest.
-/
import Derived.Test.YtcfhkggijdjagaaCCalls
import Derived.Test.YtcfhkggijdjagaaCSame
namespace Go.Proofs.Ytcfhkggijdjagaa
open Go.RowKit Go.Sort

set_option maxHeartbeats 3200000 in
set_option maxRecDepth 100000 in
theorem refAt11 (B : Nat) (C : List Ve) (v : Value) (p l : Int) (w : World) (hv : VsAt B v C w) (hB : B ≤ w.heap.size) :
    Calls Try.prog 41 #[v, .agg #[.int .u64 p, .int .u32 l]] w fun e w' => e = .returned (.tuple #[veV ((atF C p l).getD dv), .bool (atF C p l).isSome]) ∧ Below w.heap.size w w' := by
  have hv' := hv
  obtain ⟨ao, cap, rfl, hlc, hcm, -⟩ := hv
  have H : Hid (VsAt w.heap.size (.slice ao C.length cap) C w) := hv'.le hB
  have HM : Hid (C.length ≤ 9223372036854775807) := Nat.le_trans hlc hcm
  clear hv' hB hlc hcm
  have HP1 : Hid (rightC C = false → atF C p l = none) := atF_bad
  have HP2 : Hid (rightC C = true → ∀ k, k ≤ C.length → (∀ j, j < k → ltS p l (C.getD j dv) = true) → (∀ u, C[k]? = some u → ltS p l u = false) → atF C p l = C[k]?) := fun hr k hk h1 h2 => by
    rw [atF_good hr, seenN_eq hk (fun j u hj hu => by rw [getD_some (by omega)] at hu; injection hu with hu; subst hu; exact h1 j hj) h2]
  have CR : Hid (∀ W, Below w.heap.size w W → Calls Try.prog 57 #[.slice ao C.length cap] W fun e w' => e = .returned (.bool (rightC C)) ∧ Below W.heap.size W w') := fun W hW => right13 w.heap.size C _ W (H.out.on hW) hW.size
  generalize atF C p l = y at *
  generalize rightC C = r1 at *
  have HB0 : Hid (Below w.heap.size w ((w.alloc (.cells #[.int .u64 p, .int .u32 l] 33)).alloc (.cells #[.int .u64 0, .int .u32 0, .int .u32 0, .int .u32 0, .string ⟨#[]⟩, .bool false] 37))) := ((Below.refl _ _).alloc (Nat.le_refl _) _).alloc (by simp) _
  go_enter Try.func41, Try.ntmps41
  go_wp2_with fail
  refine (CR.out _ HB0.out).mono ?_
  rintro e w1 ⟨rfl, hb1⟩
  have HB1 : Hid (Below w.heap.size w w1) := HB0.out.trans (hb1.mono HB0.out.size)
  obtain ⟨hc, hf⟩ := bcell hb1
  have hz1 : w.heap.size + 1 < w1.heap.size := by have := hb1.size; simp at this; omega
  have hz0 : w.heap.size < w1.heap.size := by omega
  cases r1
  · have HE : Hid _ := HP1.out rfl
    go_wp2_with fail
    rw [HE.out]
    refine bodyPost_ret (v := .tuple #[veV dv, .bool false]) (by simp [results, Try.results41, go_sem, hc, veV, dv, bs]) rfl ?_
    refine ⟨rfl, ?_⟩
    exact ((((((HB1.out.setCell (by simp) _).setCell (by simp) _).setCell (by simp) _).setCell (by simp) _).setCell (by simp) _).setCell (by simp) _)
  · have HP3 := HP2.out rfl
    have HP4 : Hid _ := HP3
    clear HP3 HP2 HP1 CR
    have t0 : w1.cell? ⟨w.heap.size, 0, none⟩ = some (.int .u64 p) := by rw [hc _ _ (by simp; omega)]; simp
    have t1 : w1.cell? ⟨w.heap.size, 1, none⟩ = some (.int .u32 l) := by rw [hc _ _ (by simp; omega)]; simp
    have q0 : w1.cell? ⟨w.heap.size + 1, 0, none⟩ = some (.int .u64 0) := by rw [hc _ _ (by simp)]; simp
    have q1 : w1.cell? ⟨w.heap.size + 1, 1, none⟩ = some (.int .u32 0) := by rw [hc _ _ (by simp)]; simp
    have q2 : w1.cell? ⟨w.heap.size + 1, 2, none⟩ = some (.int .u32 0) := by rw [hc _ _ (by simp)]; simp
    have q3 : w1.cell? ⟨w.heap.size + 1, 3, none⟩ = some (.int .u32 0) := by rw [hc _ _ (by simp)]; simp
    have q4 : w1.cell? ⟨w.heap.size + 1, 4, none⟩ = some (.string ⟨#[]⟩) := by rw [hc _ _ (by simp)]; simp
    have q5 : w1.cell? ⟨w.heap.size + 1, 5, none⟩ = some (.bool false) := by rw [hc _ _ (by simp)]; simp
    have hfr : ∀ o, w1.frozen? ⟨w.heap.size + 1, o, none⟩ = false := fun o => by rw [hf _ _ (by simp)]; simp
    clear hc hf hb1
    go_wp2_with fail
    go_loopw [6] (fun i wr => ∃ k : Nat, k ≤ C.length ∧ i = .int .i64 k ∧ (∀ j, j < k → ltS p l (C.getD j dv) = true) ∧ Below w1.heap.size w1 wr) (fun i _ => C.length - (intOf i).toNat)
    case atStart => exact ⟨0, Nat.zero_le _, rfl, fun j hj => absurd hj (by omega), Below.refl _ _⟩
    case round =>
      obtain ⟨k, hk, rfl, hall, hbr⟩ := hrel
      have HE : Hid _ := hall
      have HBr : Hid (Below w1.heap.size w1 wr) := hbr
      have HBw : Hid (Below w.heap.size w wr) := HB1.out.trans (hbr.mono HB1.out.size)
      obtain ⟨hc, hf⟩ := bcell hbr
      have hzr : w.heap.size + 1 < wr.heap.size := by have := hbr.size; omega
      have hzr0 : w.heap.size < wr.heap.size := by omega
      clear hall hbr
      by_cases hkl : k < C.length
      · obtain ⟨b, off, rfl, hb, hel⟩ := (H.out.on HBw.out).el hkl
        have h63 := HM.out
        have HK : Hid (ltS p l (C.getD k dv) = true → ∀ j, j < k + 1 → ltS p l (C.getD j dv) = true) := fun h j hj => by
          by_cases hjk : j = k
          · subst hjk; exact h
          · exact HE.out j (by omega)
        have HN : Hid (ltS p l (C.getD k dv) = false → y = some (C.getD k dv)) := fun h => by
          rw [HP4.out k hk HE.out (fun u hu => by rw [getD_some hkl] at hu; injection hu with hu; subst hu; exact h)]
          exact getD_some hkl
        clear hb HE
        generalize C.getD k dv = x at hel HK HN
        obtain ⟨xp, xl, xc, xn, xs, xd⟩ := x
        obtain ⟨e0, e1, e2, e3, e4, e5⟩ := hel
        dsimp only at e0 e1 e2 e3 e4 e5
        have g0 := cell_regrown e0
        have g1 := cell_regrown e1
        have g2 := cell_regrown e2
        have g3 := cell_regrown e3
        have g4 := cell_regrown e4
        have g5 := cell_regrown e5
        have u0 : wr.cell? ⟨w.heap.size, 0, none⟩ = some (.int .u64 p) := by rw [hc _ _ hz0]; exact t0
        have u1 : wr.cell? ⟨w.heap.size, 1, none⟩ = some (.int .u32 l) := by rw [hc _ _ hz0]; exact t1
        have k0 := cell_regrown u0
        have k1 := cell_regrown u1
        have hkl' : (k : Int) < C.length := by omega
        have HL : Hid (lessB p l xp xl = ltS p l ⟨xp, xl, xc, xn, xs, xd⟩) := rfl
        obtain ⟨z, hz⟩ : ∃ z, lessB p l xp xl = z := ⟨_, rfl⟩
        rw [hz] at HL
        have cA : Hid (∀ d os, Calls Try.prog 59 #[.agg #[.int .u64 p, .int .u32 l], .agg #[.int .u64 xp, .int .u32 xl]] (grow (redrawn wr d) os) fun e w'' => e = .returned (.bool z) ∧ ∃ p : Regrown, w'' = grow (redrawn wr p.d) p.os) := fun d os => Calls.regrown_of (by rw [← hz]; exact lessR _ _ _ _ _)
        clear hz u0 u1 t0 t1
        cases z
        · have HX : Hid _ := HN.out HL.out.symm
          have hq0 : wr.cell? ⟨w.heap.size + 1, 0, none⟩ = some (.int .u64 0) := by rw [hc _ _ hz1]; exact q0
          have hq1 : wr.cell? ⟨w.heap.size + 1, 1, none⟩ = some (.int .u32 0) := by rw [hc _ _ hz1]; exact q1
          have hq2 : wr.cell? ⟨w.heap.size + 1, 2, none⟩ = some (.int .u32 0) := by rw [hc _ _ hz1]; exact q2
          have hq3 : wr.cell? ⟨w.heap.size + 1, 3, none⟩ = some (.int .u32 0) := by rw [hc _ _ hz1]; exact q3
          have hq4 : wr.cell? ⟨w.heap.size + 1, 4, none⟩ = some (.string ⟨#[]⟩) := by rw [hc _ _ hz1]; exact q4
          have hq5 : wr.cell? ⟨w.heap.size + 1, 5, none⟩ = some (.bool false) := by rw [hc _ _ hz1]; exact q5
          have hfz : ∀ o, wr.frozen? ⟨w.heap.size + 1, o, none⟩ = false := fun o => by rw [hf _ _ hz1]; exact hfr o
          clear hc hf q0 q1 q2 q3 q4 q5 hfr
          go_wp2_with fail
          refine wp_region_quiet_below (by kernel_rfl) (by kernel_rfl) (Veil.out ?_)
          repeat (refine vq_step (fun K hK => ?_); go_simp; refine hK _ ?_; clear hK K)
          (refine vq_step (fun K hK => ?_); go_simp; apply Exists.intro; refine ⟨fun _ => ?_, hK _ ?_⟩; exact cA.out _ _; clear hK K)
          repeat (refine vq_step (fun K hK => ?_); go_simp; refine hK _ ?_; clear hK K)
          refine vq_nil ?_
          intro _ hw'
          obtain ⟨⟨dq, osq⟩, hw''⟩ := hw'
          subst hw''
          have HB5 : Hid (Below w.heap.size w (grow (redrawn wr dq) osq)) := HBw.out.trans ((below_regrown wr dq osq).mono HBw.out.size)
          have hfz2 : ∀ o, (grow (redrawn wr dq) osq).frozen? ⟨w.heap.size + 1, o, none⟩ = false := fun o => by rw [(below_regrown wr dq osq).frozen (p := ⟨_, _, none⟩) hzr]; exact hfz o
          have r0 := cell_regrown hq0 dq osq
          have r1 := cell_regrown hq1 dq osq
          have r2 := cell_regrown hq2 dq osq
          have r3 := cell_regrown hq3 dq osq
          have r4 := cell_regrown hq4 dq osq
          have r5 := cell_regrown hq5 dq osq
          have i0 := g0 dq osq
          have i1 := g1 dq osq
          have i2 := g2 dq osq
          have i3 := g3 dq osq
          have i4 := g4 dq osq
          have i5 := g5 dq osq
          clear g0 g1 g2 g3 g4 g5 k0 k1 e0 e1 e2 e3 e4 e5 hq0 hq1 hq2 hq3 hq4 hq5 hfz
          generalize grow (redrawn wr dq) osq = w5 at *
          go_wp2_with fail
          rw [HX.out]
          refine bodyPost_ret (v := .tuple #[veV ⟨xp, xl, xc, xn, xs, xd⟩, .bool true]) (by simp [results, Try.results41, go_sem, veV, *]) rfl ?_
          refine ⟨rfl, ?_⟩
          exact ((((((HB5.out.setCell (by simp) _).setCell (by simp) _).setCell (by simp) _).setCell (by simp) _).setCell (by simp) _).setCell (by simp) _)
        · have HX : Hid _ := HK.out HL.out.symm
          clear hc hf q0 q1 q2 q3 q4 q5 hfr
          go_wp2_with fail
          refine wp_region_quiet_below (by kernel_rfl) (by kernel_rfl) (Veil.out ?_)
          repeat (refine vq_step (fun K hK => ?_); go_simp; refine hK _ ?_; clear hK K)
          (refine vq_step (fun K hK => ?_); go_simp; apply Exists.intro; refine ⟨fun _ => ?_, hK _ ?_⟩; exact cA.out _ _; clear hK K)
          repeat (refine vq_step (fun K hK => ?_); go_simp; refine hK _ ?_; clear hK K)
          refine vq_nil ?_
          intro _ hw'
          obtain ⟨⟨dq, osq⟩, hw''⟩ := hw'
          subst hw''
          have HB5 : Hid (Below w1.heap.size w1 (grow (redrawn wr dq) osq)) := HBr.out.trans ((below_regrown wr dq osq).mono HBr.out.size)
          go_wp2_with fail
          go_roundw
          case rel => exact ⟨k + 1, by omega, by go_num, HX.out, HB5.out⟩
          case measure => simp [intOf]; omega
      · have HX : Hid (y = none) := by
          show _ = _
          rw [HP4.out k hk HE.out (fun u hu => by rw [List.getElem?_eq_none (by omega)] at hu; cases hu)]
          exact List.getElem?_eq_none (by omega)
        have hkl' : ¬ (k : Int) < C.length := by omega
        go_wp2_with fail
        rw [HX.out]
        refine bodyPost_ret (v := .tuple #[veV dv, .bool false]) (by simp [results, Try.results41, go_sem, veV, dv, bs, *]) rfl ?_
        refine ⟨rfl, ?_⟩
        exact ((((((HBw.out.setCell (by simp) _).setCell (by simp) _).setCell (by simp) _).setCell (by simp) _).setCell (by simp) _).setCell (by simp) _)

set_option maxHeartbeats 3200000 in
set_option maxRecDepth 100000 in
theorem refNewest16 (B : Nat) (C : List Ve) (v : Value) (w : World) (hv : VsAt B v C w) (hB : B ≤ w.heap.size) :
    Calls Try.prog 43 #[v] w fun e w' => e = .returned (.agg #[.int .u64 (newF C).1, .int .u32 (newF C).2]) ∧ Below w.heap.size w w' := by
  have hv' := hv
  obtain ⟨ao, cap, rfl, hlc, hcm, -⟩ := hv
  have H : Hid (VsAt w.heap.size (.slice ao C.length cap) C w) := hv'.le hB
  clear hv' hB
  have HB0 : Hid (Below w.heap.size w (w.alloc (.cells #[.int .u64 0, .int .u32 0] 33))) := (Below.refl _ _).alloc (Nat.le_refl _) _
  have CR : Hid (∀ W, Below w.heap.size w W → Calls Try.prog 57 #[.slice ao C.length cap] W fun e w' => e = .returned (.bool (rightC C)) ∧ Below W.heap.size W w') := fun W hW => right13 w.heap.size C _ W (H.out.on hW) hW.size
  have HN : Hid (newF C = if rightC C then ((C.getD 0 dv).p, (C.getD 0 dv).l) else (0, 0)) := rfl
  have HN0 : Hid (C.length = 0 → newF C = (0, 0)) := fun h => by
    have : C = [] := List.eq_nil_of_length_eq_zero h
    subst this
    exact newF_nil
  have HEl : Hid (∀ W, 0 < C.length → Below w.heap.size w W → ∃ b off, ao = some ⟨b, off, none⟩ ∧ b < w.heap.size ∧ VeAt W b (off + 0 * 6) (C.getD 0 dv)) := fun W h0 hW => (H.out.on hW).el h0
  generalize newF C = y at *
  generalize C.getD 0 dv = u at *
  generalize rightC C = r1 at *
  generalize C.length = n at *
  go_enter Try.func43, Try.ntmps43
  go_wp2_with fail
  refine (CR.out _ HB0.out).mono ?_
  rintro e w1 ⟨rfl, hb1⟩
  have HB1 : Hid (Below w.heap.size w w1) := HB0.out.trans (hb1.mono HB0.out.size)
  obtain ⟨hc, hf⟩ := bcell hb1
  have hz0 : w.heap.size < w1.heap.size := by have := hb1.size; simp at this; omega
  cases r1
  · go_wp2_with fail
    rw [HN.out]
    refine bodyPost_ret (v := .agg #[.int .u64 0, .int .u32 0]) (by simp [results, Try.results43, go_sem, hc]) rfl ?_
    exact ⟨rfl, (HB1.out.setCell (by simp) _).setCell (by simp) _⟩
  · by_cases h0 : n = 0
    · have HY : Hid _ := HN0.out h0
      subst h0
      go_wp2_with fail
      rw [HY.out]
      refine bodyPost_ret (v := .agg #[.int .u64 0, .int .u32 0]) (by simp [results, Try.results43, go_sem, hc]) rfl ?_
      exact ⟨rfl, (HB1.out.setCell (by simp) _).setCell (by simp) _⟩
    · obtain ⟨b, off, rfl, hb, hck⟩ := HEl.out _ (by omega) HB1.out
      have h0' : ((n : Int) == 0) = false := by rw [beq_eq_false_iff_ne]; omega
      have h00 : (0 : Int) < n := by omega
      clear h0 HEl CR hb HN0
      obtain ⟨yp, yl, yc, yn, ys, yd⟩ := u
      obtain ⟨m0, m1, -, -, -, -⟩ := hck
      dsimp only at m0 m1
      simp only [Nat.zero_mul, Nat.add_zero] at m0 m1
      go_wp2_with fail
      rw [HN.out]
      refine bodyPost_ret (v := .agg #[.int .u64 yp, .int .u32 yl]) (by simp [results, Try.results43, go_sem, hc]) rfl ?_
      exact ⟨rfl, (HB1.out.setCell (by simp) _).setCell (by simp) _⟩
end Go.Proofs.Ytcfhkggijdjagaa
