/-
  Contract of the document's Put.
-/
import Derived.Test.YtcfhkggijdjagaaCRefPrune
namespace Go.Proofs.Ytcfhkggijdjagaa
open Go.RowKit Go.Sort

theorem take_drop_snoc {C : List Ve} {k m : Nat} (hk : k ≤ m) (h : m < C.length) : (C.take (m + 1)).drop k = (C.take m).drop k ++ [C.getD m dv] := by
  rw [take_snoc h, List.drop_append_of_le_length (by simp; omega)]

theorem key9 {w W : World} {v : Value} {C : List Ve} (h : VsAt w.heap.size v C w) (hb : Below w.heap.size w W) : VsAt W.heap.size v C W ∧ Below w.heap.size w W := ⟨(h.on hb).le hb.size, hb⟩

set_option maxHeartbeats 8000000 in
set_option maxRecDepth 100000 in
theorem refPut9 (B : Nat) (C : List Ve) (v : Value) (x : Ve) (w : World) (hv : VsAt B v C w) (hB : B ≤ w.heap.size) :
    Calls Try.prog 33 #[v, veV x] w fun e w' => ∃ v', e = .returned (.tuple #[v', .int .i64 (putF C x).2]) ∧ VsAt w'.heap.size v' (putF C x).1 w' ∧ Below w.heap.size w w' := by
  have hv' := hv
  obtain ⟨ao, cap, rfl, hlc, hcm, -⟩ := hv
  have H : Hid (VsAt w.heap.size (.slice ao C.length cap) C w) := hv'.le hB
  clear hv' hB hlc hcm
  have HSn : Hid (∀ k, k ≤ C.length → (∀ j, j < k → ltS x.p x.l (C.getD j dv) = true) → (∀ u, C[k]? = some u → ltS x.p x.l u = false) → seenN x.p x.l C = k) := fun k hk h1 h2 => seenN_eq hk (fun j u hj hu => by rw [getD_some (by omega)] at hu; injection hu with hu; subst hu; exact h1 j hj) h2
  have HP1 : Hid ((rightC C && vOk x) = false → putF C x = ([], 1)) := putF_bad
  have HP2' : Hid (∀ k, seenN x.p x.l C = k → ∀ u, (rightC C && vOk x) = true → C[k]? = some u → atB u x = true → eqV u x = true → putF C x = (C, 0)) := fun k hk u h1 h2 h3 h4 => putF_has h1 (by rw [hk]; exact h2) h3 h4
  have HP3' : Hid (∀ k, seenN x.p x.l C = k → ∀ u, (rightC C && vOk x) = true → C[k]? = some u → atB u x = true → eqV u x = false → putF C x = ([], 40)) := fun k hk u h1 h2 h3 h4 => putF_busy h1 (by rw [hk]; exact h2) h3 h4
  have HP4' : Hid (∀ k, seenN x.p x.l C = k → (rightC C && vOk x) = true → (∀ u, C[k]? = some u → atB u x = false) → putF C x = if 1000 ≤ C.length then ([], 3) else (C.take k ++ x :: C.drop k, 0)) := fun k hk h1 h2 => by rw [← hk] at h2 ⊢; exact putF_else h1 h2
  have HRl : Hid (rightC C = true → C.length ≤ 1000) := fun h => (rightC_iff.1 h).len
  have CR : Hid (∀ W, Below w.heap.size w W → Calls Try.prog 57 #[.slice ao C.length cap] W fun e w' => e = .returned (.bool (rightC C)) ∧ Below W.heap.size W w') := fun W hW => right13 w.heap.size C _ W (H.out.on hW) hW.size
  have CF : Hid (∀ W, 1 = 1 → Calls Try.prog 58 #[veV x] W fun e w' => e = .returned (.bool (vOk x)) ∧ Below W.heap.size W w') := fun W _ => version24 x W
  generalize putF C x = y at *
  generalize rightC C = r1 at *
  generalize vOk x = r2 at *
  obtain ⟨D, er⟩ := y
  obtain ⟨xp, xl, xc, xn, xs, xd⟩ := x
  unfold veV at *
  dsimp only at *
  have HB0 : Hid (Bx w w.heap.size ⟨xp, xl, xc, xn, xs, xd⟩ (w.alloc (.cells #[.int .u64 xp, .int .u32 xl, .int .u32 xc, .int .u32 xn, .string (bs xs), .bool xd] 37))) := ⟨ve_new _ _ _ _ _ _ _, (Below.refl _ _).alloc (Nat.le_refl _) _⟩
  go_enter Try.func33, Try.ntmps33
  go_wp2_with fail
  refine (CR.out _ HB0.out.bel).mono ?_
  rintro e w1 ⟨rfl, hb1⟩
  have HB1 : Hid (Bx w w.heap.size ⟨xp, xl, xc, xn, xs, xd⟩ w1) := HB0.out.on hb1
  clear hb1 HB0
  cases r1
  · have HE : Hid _ := HP1.out rfl
    go_wp2_with fail
    have he := HE.out
    injection he with he1 he2
    subst he1 he2
    refine bodyPost_ret (v := .tuple #[.slice none 0 0, .int .i64 1]) (by simp [results, Try.results33, go_sem]) rfl ?_
    exact ⟨_, rfl, vs_nil _ _, HB1.out.bel⟩
  obtain ⟨c0, c1, c2, c3, c4, c5⟩ := HB1.out.box.six
  go_wp2_with fail
  refine (CF.out _ (by trivial)).mono ?_
  rintro e w2 ⟨rfl, hb2⟩
  have HB2 : Hid (Bx w w.heap.size ⟨xp, xl, xc, xn, xs, xd⟩ w2) := HB1.out.on hb2
  clear hb2 HB1 c0 c1 c2 c3 c4 c5
  cases r2
  · have HE : Hid _ := HP1.out rfl
    go_wp2_with fail
    have he := HE.out
    injection he with he1 he2
    subst he1 he2
    refine bodyPost_ret (v := .tuple #[.slice none 0 0, .int .i64 1]) (by simp [results, Try.results33, go_sem]) rfl ?_
    exact ⟨_, rfl, vs_nil _ _, HB2.out.bel⟩
  have hl1000 : C.length ≤ 1000 := HRl.out (by trivial)
  clear HP1 CR CF HRl
  go_wp2_with fail
  go_loopw [6] (fun i wr => ∃ k : Nat, k ≤ C.length ∧ i = .int .i64 k ∧ (∀ j, j < k → ltS xp xl (C.getD j dv) = true) ∧ Bx w w.heap.size ⟨xp, xl, xc, xn, xs, xd⟩ wr) (fun i _ => C.length - (intOf i).toNat)
  case atStart => exact ⟨0, Nat.zero_le _, rfl, fun j hj => absurd hj (by omega), HB2.out⟩
  case round =>
    obtain ⟨k, hk, rfl, hall, hbr⟩ := hrel
    have HA : Hid _ := hall
    have HBr : Hid (Bx w w.heap.size ⟨xp, xl, xc, xn, xs, xd⟩ wr) := hbr
    clear hall hbr HB2
    by_cases hkl : k < C.length
    · obtain ⟨b, off, rfl, hb, hel⟩ := (H.out.on HBr.out.bel).el hkl
      have HG : Hid (C[k]? = some (C.getD k dv)) := getD_some hkl
      have HK : Hid (ltS xp xl (C.getD k dv) = true → ∀ j, j < k + 1 → ltS xp xl (C.getD j dv) = true) := fun h j hj => by
        by_cases hjk : j = k
        · subst hjk; exact h
        · exact HA.out j (by omega)
      have HS : Hid (ltS xp xl (C.getD k dv) = false → seenN xp xl C = k) := fun h => HSn.out k hk HA.out (fun u hu => by rw [HG.out] at hu; injection hu with hu; subst hu; exact h)
      clear hb HA HSn
      generalize C.getD k dv = u at hel HK HS HG
      obtain ⟨yp, yl, yc, yn, ys, yd⟩ := u
      obtain ⟨e0, e1, e2, e3, e4, e5⟩ := hel
      dsimp only at e0 e1 e2 e3 e4 e5
      obtain ⟨c0, c1, c2, c3, c4, c5⟩ := HBr.out.box.six
      have g0 := cell_regrown e0
      have g1 := cell_regrown e1
      have g2 := cell_regrown e2
      have g3 := cell_regrown e3
      have g4 := cell_regrown e4
      have g5 := cell_regrown e5
      have k0 := cell_regrown c0
      have k1 := cell_regrown c1
      have hkl' : (k : Int) < C.length := by omega
      have HL : Hid (lessB xp xl yp yl = ltS xp xl ⟨yp, yl, yc, yn, ys, yd⟩) := rfl
      obtain ⟨z, hz⟩ : ∃ z, lessB xp xl yp yl = z := ⟨_, rfl⟩
      rw [hz] at HL
      have cA : Hid (∀ d os, Calls Try.prog 59 #[.agg #[.int .u64 xp, .int .u32 xl], .agg #[.int .u64 yp, .int .u32 yl]] (grow (redrawn wr d) os) fun e w'' => e = .returned (.bool z) ∧ ∃ p : Regrown, w'' = grow (redrawn wr p.d) p.os) := fun d os => Calls.regrown_of (by rw [← hz]; exact lessR _ _ _ _ _)
      clear hz c0 c1 c2 c3 c4 c5 e0 e1 e2 e3 e4 e5
      cases z
      · have hse := HS.out HL.out.symm
        have HP2 : Hid _ := HP2'.out k hse
        have HP3 : Hid _ := HP3'.out k hse
        have HP4 : Hid _ := HP4'.out k hse
        clear HS HK HL hse HP2' HP3' HP4'
        go_wp2_with fail
        refine wp_region_quiet_below (by kernel_rfl) (by kernel_rfl) (Veil.out ?_)
        repeat (refine vq_step (fun K hK => ?_); go_simp; refine hK _ ?_; clear hK K)
        (refine vq_step (fun K hK => ?_); go_simp; apply Exists.intro; refine ⟨fun _ => ?_, hK _ ?_⟩; exact cA.out _ _; clear hK K)
        repeat (refine vq_step (fun K hK => ?_); go_simp; refine hK _ ?_; clear hK K)
        refine vq_nil ?_
        intro _ hw'
        obtain ⟨⟨dq, osq⟩, hw''⟩ := hw'
        subst hw''
        have HB5 : Hid (Bx w w.heap.size ⟨xp, xl, xc, xn, xs, xd⟩ (grow (redrawn wr dq) osq)) := HBr.out.on (below_regrown wr dq osq)
        have i0 := g0 dq osq
        have i1 := g1 dq osq
        have i2 := g2 dq osq
        have i3 := g3 dq osq
        have i4 := g4 dq osq
        have i5 := g5 dq osq
        clear g0 g1 g2 g3 g4 g5 k0 k1 cA HBr
        generalize grow (redrawn wr dq) osq = w5 at *
        obtain ⟨c0, c1, c2, c3, c4, c5⟩ := HB5.out.box.six
        have hrun := run_eql26 yp yl xp xl
        have HAt : Hid (atB ⟨yp, yl, yc, yn, ys, yd⟩ ⟨xp, xl, xc, xn, xs, xd⟩ = eqB yp yl xp xl) := rfl
        obtain ⟨q, hq⟩ : ∃ q, eqB yp yl xp xl = q := ⟨_, rfl⟩
        rw [hq] at hrun HAt
        clear hq
        cases q
        · have HNo : Hid (∀ u, C[k]? = some u → atB u ⟨xp, xl, xc, xn, xs, xd⟩ = false) := fun u hu => by
            rw [HG.out] at hu
            injection hu with hu
            subst hu
            exact HAt.out
          clear HG HAt
          go_wp2_with fail
          go_quiet (fail)
          rename_i nq
          have HB6 : Hid (Bx w w.heap.size ⟨xp, xl, xc, xn, xs, xd⟩ (w5.drewN nq)) := HB5.out.on (below_drewN (Below.refl _ _) _)
          clear i0 i1 i2 i3 i4 i5 c0 c1 c2 c3 c4 c5 HB5 hrun
          generalize w5.drewN nq = w6 at *
          have HE0 : Hid _ := HP4.out (by trivial) HNo.out
          clear HP4 HNo HP2 HP3
          by_cases hfull : (1000 : Int) ≤ C.length
          · have HE : Hid ((D, er) = ([], 3)) := by rw [HE0.out, if_pos (by omega)]; exact rfl
            clear HE0
            go_wp2_with fail
            have he := HE.out
            injection he with he1 he2
            subst he1 he2
            refine bodyPost_ret (v := .tuple #[.slice none 0 0, .int .i64 3]) (by simp [results, Try.results33, go_sem]) rfl ?_
            exact ⟨_, rfl, vs_nil _ _, HB6.out.bel⟩
          · have HE : Hid ((D, er) = (C.take k ++ ⟨xp, xl, xc, xn, xs, xd⟩ :: C.drop k, 0)) := by rw [HE0.out, if_neg (by omega)]; exact rfl
            clear HE0
            go_wp2_with fail
            go_loopw [7, 8] (fun s i wr => ∃ m : Nat, m ≤ k ∧ i = .int .i64 m ∧ VsOwn w6.heap.size s (C.take m) wr ∧ Below w6.heap.size w6 wr) (fun _ i _ => k - (intOf i).toNat)
            case atStart => exact ⟨0, Nat.zero_le _, rfl, VsOwn.nil _ _, Below.refl _ _⟩
            case round =>
              obtain ⟨m, hm, rfl, hown, hbr⟩ := hrel
              have HO : Hid _ := hown
              have HB7 : Hid (Below w6.heap.size w6 wr) := hbr
              have HBw : Hid (Bx w w.heap.size ⟨xp, xl, xc, xn, xs, xd⟩ wr) := HB6.out.on hbr
              clear hown hbr
              by_cases hmk : m < k
              · obtain ⟨b, off, hao, hb, hel⟩ := (H.out.on HBw.out.bel).el (show m < C.length by omega)
                injection hao with hao
                injection hao with ha1 ha2
                subst ha1 ha2
                have HTk : Hid _ := take_snoc (show m < C.length by omega)
                generalize C.getD m dv = u at hel HTk
                obtain ⟨up, ul, uc, un, us, ud⟩ := u
                obtain ⟨e0, e1, e2, e3, e4, e5⟩ := hel
                dsimp only at e0 e1 e2 e3 e4 e5
                have hmk' : (m : Int) < k := by omega
                have hml' : (m : Int) < C.length := by omega
                have HOw : Hid (OwV w6.heap.size _ (C.take m) (wr.heap.size + 1) (.slice (some ⟨wr.heap.size, 0, none⟩) 1 1) [⟨up, ul, uc, un, us, ud⟩] (wr.alloc (.cells #[.int .u64 up, .int .u32 ul, .int .u32 uc, .int .u32 un, .string (bs us), .bool ud] 37))) := ⟨VsOwn.alloc HO.out _, vs_one wr up ul uc un us ud, Nat.le_trans HB7.out.size (by simp), by simp; omega⟩
                clear hb
                go_wp2_with (at_builtin; refine wpList_append_ow HOw.out (.tmp 63) (.tmp 68) rfl rfl rfl rfl ?_)
                intro v' w2 hown hg2
                have HO2 : Hid (VsOwn w6.heap.size v' (C.take (m + 1)) w2) := by rw [HTk.out]; exact hown
                have HB2 : Hid (Below w6.heap.size w6 w2) := below_grown (HB7.out.alloc HB7.out.size _) HOw.out.size HOw.out.own hg2
                clear hown hg2
                go_wp2_with fail
                go_roundw
                case rel => exact ⟨m + 1, by omega, by go_num, HO2.out, HB2.out⟩
                case measure => simp [intOf]; omega
              · have hmk' : ¬ (m : Int) < k := by omega
                have hmk2 : m = k := by omega
                have HOw : Hid (OwV w6.heap.size _ (C.take k) (wr.heap.size + 1) (.slice (some ⟨wr.heap.size, 0, none⟩) 1 1) [⟨xp, xl, xc, xn, xs, xd⟩] (wr.alloc (.cells #[.int .u64 xp, .int .u32 xl, .int .u32 xc, .int .u32 xn, .string (bs xs), .bool xd] 37))) := ⟨VsOwn.alloc (by rw [← hmk2]; exact HO.out) _, vs_one wr xp xl xc xn xs xd, Nat.le_trans HB7.out.size (by simp), by simp; omega⟩
                clear hmk2 hmk HO
                obtain ⟨c0, c1, c2, c3, c4, c5⟩ := HBw.out.box.six
                go_wp2_with (at_builtin; refine wpList_append_ow HOw.out (.tmp 70) (.tmp 72) rfl rfl rfl rfl ?_)
                intro v' w2 hown hg2
                have HO2 : Hid (VsOwn w6.heap.size v' (C.take k ++ ⟨xp, xl, xc, xn, xs, xd⟩ :: (C.take k).drop k) w2) := by
                  rw [List.drop_eq_nil_of_le (by simp; omega)]
                  exact hown
                have HB2 : Hid (Below w6.heap.size w6 w2) := below_grown (HB7.out.alloc HB7.out.size _) HOw.out.size HOw.out.own hg2
                clear hown hg2 HOw HB7 HBw c0 c1 c2 c3 c4 c5
                go_wp2_with fail
                go_loopw [7, 9] (fun s i wr => ∃ m : Nat, k ≤ m ∧ m ≤ C.length ∧ i = .int .i64 m ∧ VsOwn w6.heap.size s (C.take k ++ ⟨xp, xl, xc, xn, xs, xd⟩ :: (C.take m).drop k) wr ∧ Below w6.heap.size w6 wr) (fun _ i _ => C.length - (intOf i).toNat)
                case atStart => exact ⟨k, Nat.le_refl _, hk, rfl, HO2.out, HB2.out⟩
                case round =>
                  obtain ⟨m, hm1, hm2, rfl, hown, hbr⟩ := hrel
                  have HO : Hid _ := hown
                  have HB7 : Hid (Below w6.heap.size w6 wr) := hbr
                  have HBw : Hid (Bx w w.heap.size ⟨xp, xl, xc, xn, xs, xd⟩ wr) := HB6.out.on hbr
                  clear hown hbr
                  by_cases hml : m < C.length
                  · obtain ⟨b, off, hao, hb, hel⟩ := (H.out.on HBw.out.bel).el hml
                    injection hao with hao
                    injection hao with ha1 ha2
                    subst ha1 ha2
                    have HTk : Hid _ := take_drop_snoc hm1 hml
                    generalize C.getD m dv = u at hel HTk
                    obtain ⟨up, ul, uc, un, us, ud⟩ := u
                    obtain ⟨e0, e1, e2, e3, e4, e5⟩ := hel
                    dsimp only at e0 e1 e2 e3 e4 e5
                    have hml' : (m : Int) < C.length := by omega
                    have HOw : Hid (OwV w6.heap.size _ (C.take k ++ ⟨xp, xl, xc, xn, xs, xd⟩ :: (C.take m).drop k) (wr.heap.size + 1) (.slice (some ⟨wr.heap.size, 0, none⟩) 1 1) [⟨up, ul, uc, un, us, ud⟩] (wr.alloc (.cells #[.int .u64 up, .int .u32 ul, .int .u32 uc, .int .u32 un, .string (bs us), .bool ud] 37))) := ⟨VsOwn.alloc HO.out _, vs_one wr up ul uc un us ud, Nat.le_trans HB7.out.size (by simp), by simp; omega⟩
                    clear hb
                    go_wp2_with (at_builtin; refine wpList_append_ow HOw.out (.tmp 81) (.tmp 86) rfl rfl rfl rfl ?_)
                    intro v' w2 hown hg2
                    have HO2 : Hid (VsOwn w6.heap.size v' (C.take k ++ ⟨xp, xl, xc, xn, xs, xd⟩ :: (C.take (m + 1)).drop k) w2) := by
                      rw [HTk.out]
                      exact hown
                    have HB2 : Hid (Below w6.heap.size w6 w2) := below_grown (HB7.out.alloc HB7.out.size _) HOw.out.size HOw.out.own hg2
                    clear hown hg2
                    go_wp2_with fail
                    go_roundw
                    case rel => exact ⟨m + 1, by omega, by omega, by go_num, HO2.out, HB2.out⟩
                    case measure => simp [intOf]; omega
                  · have hml' : ¬ (m : Int) < C.length := by omega
                    go_wp2_with fail
                    have he := HE.out
                    injection he with he1 he2
                    subst he1 he2
                    refine bodyPost_ret (by simp [results, Try.results33, go_sem]; rfl) rfl ?_
                    have hf := HO.out
                    rw [List.take_of_length_le (show C.length ≤ m by omega)] at hf
                    exact ⟨_, rfl, VsOwn.at hf, HBw.out.bel⟩
        · have hrun2 := run_eql30 yp yl yc yn ys yd xp xl xc xn xs xd
          obtain ⟨q, hq⟩ : ∃ q, eqV ⟨yp, yl, yc, yn, ys, yd⟩ ⟨xp, xl, xc, xn, xs, xd⟩ = q := ⟨_, rfl⟩
          rw [hq] at hrun2
          have HQ : Hid _ := hq
          clear hq
          cases q
          · have HE : Hid _ := HP3.out _ (by trivial) HG.out HAt.out HQ.out
            clear HP2 HP3 HP4 HG HAt HQ
            go_wp2_with fail
            go_quiet (fail)
            go_wp2_with fail
            go_quiet (fail)
            go_wp2_with fail
            have he := HE.out
            injection he with he1 he2
            subst he1 he2
            refine bodyPost_ret (v := .tuple #[.slice none 0 0, .int .i64 40]) (by simp [results, Try.results33, go_sem]) rfl ?_
            exact ⟨_, rfl, vs_nil _ _, below_drewN (below_drewN HB5.out.bel _) _⟩
          · have HE : Hid _ := HP2.out _ (by trivial) HG.out HAt.out HQ.out
            clear HP2 HP3 HP4 HG HAt HQ
            go_wp2_with fail
            go_quiet (fail)
            go_wp2_with fail
            go_quiet (fail)
            go_wp2_with fail
            have he := HE.out
            injection he with he1 he2
            subst he1 he2
            refine bodyPost_ret (by simp [results, Try.results33, go_sem]; rfl) rfl ?_
            exact ⟨_, rfl, key9 H.out (below_drewN (below_drewN HB5.out.bel _) _)⟩
      · have HX : Hid _ := HK.out HL.out.symm
        clear HS HK HL
        go_wp2_with fail
        refine wp_region_quiet_below (by kernel_rfl) (by kernel_rfl) (Veil.out ?_)
        repeat (refine vq_step (fun K hK => ?_); go_simp; refine hK _ ?_; clear hK K)
        (refine vq_step (fun K hK => ?_); go_simp; apply Exists.intro; refine ⟨fun _ => ?_, hK _ ?_⟩; exact cA.out _ _; clear hK K)
        repeat (refine vq_step (fun K hK => ?_); go_simp; refine hK _ ?_; clear hK K)
        refine vq_nil ?_
        intro _ hw'
        obtain ⟨⟨dq, osq⟩, hw''⟩ := hw'
        subst hw''
        have HB5 : Hid (Bx w w.heap.size ⟨xp, xl, xc, xn, xs, xd⟩ (grow (redrawn wr dq) osq)) := HBr.out.on (below_regrown wr dq osq)
        go_wp2_with fail
        go_roundw
        case rel => exact ⟨k + 1, by omega, by go_num, HX.out, HB5.out⟩
        case measure => simp [intOf]; omega
    · have hkl' : ¬ (k : Int) < C.length := by omega
      have hse := HSn.out k hk HA.out (fun u hu => by rw [List.getElem?_eq_none (by omega)] at hu; cases hu)
      have HP2 : Hid _ := HP2'.out k hse
      have HP3 : Hid _ := HP3'.out k hse
      have HP4 : Hid _ := HP4'.out k hse
      have HNo : Hid (∀ u, C[k]? = some u → atB u ⟨xp, xl, xc, xn, xs, xd⟩ = false) := fun u hu => by
        rw [List.getElem?_eq_none (by omega)] at hu
        cases hu
      clear hse HP2' HP3' HP4' HSn HA
      obtain ⟨c0, c1, c2, c3, c4, c5⟩ := HBr.out.box.six
      have k0 := cell_regrown c0
      have k1 := cell_regrown c1
      go_wp2_with fail
      refine wp_region_quiet_below (by kernel_rfl) (by kernel_rfl) (Veil.out ?_)
      repeat (refine vq_step (fun K hK => ?_); go_simp; refine hK _ ?_; clear hK K)
      refine vq_nil ?_
      intro _ hw'
      obtain ⟨⟨dq, osq⟩, hw''⟩ := hw'
      subst hw''
      have HB5 : Hid (Bx w w.heap.size ⟨xp, xl, xc, xn, xs, xd⟩ (grow (redrawn wr dq) osq)) := HBr.out.on (below_regrown wr dq osq)
      clear k0 k1 c0 c1 c2 c3 c4 c5 HBr
      generalize grow (redrawn wr dq) osq = w5 at *
      go_wp2_with fail
      go_quiet (fail)
      rename_i nq
      have HB6 : Hid (Bx w w.heap.size ⟨xp, xl, xc, xn, xs, xd⟩ (w5.drewN nq)) := HB5.out.on (below_drewN (Below.refl _ _) _)
      clear HB5
      generalize w5.drewN nq = w6 at *
      have HE0 : Hid _ := HP4.out (by trivial) HNo.out
      clear HP4 HNo HP2 HP3
      by_cases hfull : (1000 : Int) ≤ C.length
      · have HE : Hid ((D, er) = ([], 3)) := by rw [HE0.out, if_pos (by omega)]; exact rfl
        clear HE0
        go_wp2_with fail
        have he := HE.out
        injection he with he1 he2
        subst he1 he2
        refine bodyPost_ret (v := .tuple #[.slice none 0 0, .int .i64 3]) (by simp [results, Try.results33, go_sem]) rfl ?_
        exact ⟨_, rfl, vs_nil _ _, HB6.out.bel⟩
      · have HE : Hid ((D, er) = (C.take k ++ ⟨xp, xl, xc, xn, xs, xd⟩ :: C.drop k, 0)) := by rw [HE0.out, if_neg (by omega)]; exact rfl
        clear HE0
        go_wp2_with fail
        go_loopw [7, 8] (fun s i wr => ∃ m : Nat, m ≤ k ∧ i = .int .i64 m ∧ VsOwn w6.heap.size s (C.take m) wr ∧ Below w6.heap.size w6 wr) (fun _ i _ => k - (intOf i).toNat)
        case atStart => exact ⟨0, Nat.zero_le _, rfl, VsOwn.nil _ _, Below.refl _ _⟩
        case round =>
          obtain ⟨m, hm, rfl, hown, hbr⟩ := hrel
          have HO : Hid _ := hown
          have HB7 : Hid (Below w6.heap.size w6 wr) := hbr
          have HBw : Hid (Bx w w.heap.size ⟨xp, xl, xc, xn, xs, xd⟩ wr) := HB6.out.on hbr
          clear hown hbr
          by_cases hmk : m < k
          · obtain ⟨b, off, hao, hb, hel⟩ := (H.out.on HBw.out.bel).el (show m < C.length by omega)
            subst hao
            have HTk : Hid _ := take_snoc (show m < C.length by omega)
            generalize C.getD m dv = u at hel HTk
            obtain ⟨up, ul, uc, un, us, ud⟩ := u
            obtain ⟨e0, e1, e2, e3, e4, e5⟩ := hel
            dsimp only at e0 e1 e2 e3 e4 e5
            have hmk' : (m : Int) < k := by omega
            have hml' : (m : Int) < C.length := by omega
            have HOw : Hid (OwV w6.heap.size _ (C.take m) (wr.heap.size + 1) (.slice (some ⟨wr.heap.size, 0, none⟩) 1 1) [⟨up, ul, uc, un, us, ud⟩] (wr.alloc (.cells #[.int .u64 up, .int .u32 ul, .int .u32 uc, .int .u32 un, .string (bs us), .bool ud] 37))) := ⟨VsOwn.alloc HO.out _, vs_one wr up ul uc un us ud, Nat.le_trans HB7.out.size (by simp), by simp; omega⟩
            clear hb
            go_wp2_with (at_builtin; refine wpList_append_ow HOw.out (.tmp 63) (.tmp 68) rfl rfl rfl rfl ?_)
            intro v' w2 hown hg2
            have HO2 : Hid (VsOwn w6.heap.size v' (C.take (m + 1)) w2) := by rw [HTk.out]; exact hown
            have HB2 : Hid (Below w6.heap.size w6 w2) := below_grown (HB7.out.alloc HB7.out.size _) HOw.out.size HOw.out.own hg2
            clear hown hg2
            go_wp2_with fail
            go_roundw
            case rel => exact ⟨m + 1, by omega, by go_num, HO2.out, HB2.out⟩
            case measure => simp [intOf]; omega
          · have hmk' : ¬ (m : Int) < k := by omega
            have hmk2 : m = k := by omega
            have HOw : Hid (OwV w6.heap.size _ (C.take k) (wr.heap.size + 1) (.slice (some ⟨wr.heap.size, 0, none⟩) 1 1) [⟨xp, xl, xc, xn, xs, xd⟩] (wr.alloc (.cells #[.int .u64 xp, .int .u32 xl, .int .u32 xc, .int .u32 xn, .string (bs xs), .bool xd] 37))) := ⟨VsOwn.alloc (by rw [← hmk2]; exact HO.out) _, vs_one wr xp xl xc xn xs xd, Nat.le_trans HB7.out.size (by simp), by simp; omega⟩
            clear hmk2 hmk HO
            obtain ⟨c0, c1, c2, c3, c4, c5⟩ := HBw.out.box.six
            go_wp2_with (at_builtin; refine wpList_append_ow HOw.out (.tmp 70) (.tmp 72) rfl rfl rfl rfl ?_)
            intro v' w2 hown hg2
            have HO2 : Hid (VsOwn w6.heap.size v' (C.take k ++ ⟨xp, xl, xc, xn, xs, xd⟩ :: (C.take k).drop k) w2) := by
              rw [List.drop_eq_nil_of_le (by simp; omega)]
              exact hown
            have HB2 : Hid (Below w6.heap.size w6 w2) := below_grown (HB7.out.alloc HB7.out.size _) HOw.out.size HOw.out.own hg2
            clear hown hg2 HOw HB7 HBw c0 c1 c2 c3 c4 c5
            go_wp2_with fail
            go_loopw [7, 9] (fun s i wr => ∃ m : Nat, k ≤ m ∧ m ≤ C.length ∧ i = .int .i64 m ∧ VsOwn w6.heap.size s (C.take k ++ ⟨xp, xl, xc, xn, xs, xd⟩ :: (C.take m).drop k) wr ∧ Below w6.heap.size w6 wr) (fun _ i _ => C.length - (intOf i).toNat)
            case atStart => exact ⟨k, Nat.le_refl _, hk, rfl, HO2.out, HB2.out⟩
            case round =>
              obtain ⟨m, hm1, hm2, rfl, hown, hbr⟩ := hrel
              have HO : Hid _ := hown
              have HB7 : Hid (Below w6.heap.size w6 wr) := hbr
              have HBw : Hid (Bx w w.heap.size ⟨xp, xl, xc, xn, xs, xd⟩ wr) := HB6.out.on hbr
              clear hown hbr
              by_cases hml : m < C.length
              · exact absurd hml (by omega)
              · have hml' : ¬ (m : Int) < C.length := by omega
                go_wp2_with fail
                have he := HE.out
                injection he with he1 he2
                subst he1 he2
                refine bodyPost_ret (by simp [results, Try.results33, go_sem]; rfl) rfl ?_
                have hf := HO.out
                rw [List.take_of_length_le (show C.length ≤ m by omega)] at hf
                exact ⟨_, rfl, VsOwn.at hf, HBw.out.bel⟩
end Go.Proofs.Ytcfhkggijdjagaa
