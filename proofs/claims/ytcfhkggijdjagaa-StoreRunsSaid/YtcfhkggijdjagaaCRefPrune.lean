/-
  Contract of the document's Prune.
-/
import Derived.Test.YtcfhkggijdjagaaCRefAt
import Derived.Test.YtcfhkggijdjagaaCApnd
namespace Go.Proofs.Ytcfhkggijdjagaa
open Go.RowKit Go.Sort

theorem VsOwn.on {base : Nat} {v : Value} {L : List Ve} {w w' : World} (h : VsOwn base v L w) (hb : Below w.heap.size w w') : VsOwn base v L w' := by
  refine ⟨h.1, ?_⟩
  rcases h.2 with h0 | ⟨g, cap, cur, e, hg, hh, h1, h2, h3, h4⟩
  · exact .inl h0
  · exact .inr ⟨g, cap, cur, e, hg, by rw [hb.block g (Array.getElem?_eq_some_iff.1 hh).1]; exact hh, h1, h2, h3, h4⟩

theorem take_snoc {C : List Ve} {k : Nat} (h : k < C.length) : C.take (k + 1) = C.take k ++ [C.getD k dv] := by
  rw [List.take_succ_eq_append_getElem h]
  simp [List.getD, h]

set_option maxHeartbeats 3200000 in
set_option maxRecDepth 100000 in
theorem refPrune18 (B : Nat) (C : List Ve) (v : Value) (p l : Int) (w : World) (hv : VsAt B v C w) (hB : B ≤ w.heap.size) :
    Calls Try.prog 39 #[v, .agg #[.int .u64 p, .int .u32 l]] w fun e w' => ∃ v', e = .returned v' ∧ VsAt w'.heap.size v' (pruneF C p l) w' ∧ Below w.heap.size w w' := by
  have hv' := hv
  obtain ⟨ao, cap, rfl, hlc, hcm, -⟩ := hv
  have H : Hid (VsAt w.heap.size (.slice ao C.length cap) C w) := hv'.le hB
  clear hv' hB hlc hcm
  have HP1 : Hid (rightC C = false → pruneF C p l = []) := pruneF_bad
  have HRl : Hid (rightC C = true → C.length ≤ 1000) := fun h => (rightC_iff.1 h).len
  have HP2 : Hid (rightC C = true → ∀ k, k ≤ C.length → (∀ j, j < k → ltS p l (C.getD j dv) = true) → (∀ u, C[k]? = some u → ltS p l u = false) → pruneF C p l = match C[k]? with
    | some u => if u.dead then C.take k else C.take (k + 1)
    | none => C) := fun hr k hk h1 h2 => by
    rw [pruneF_good hr, seenN_eq hk (fun j u hj hu => by rw [getD_some (by omega)] at hu; injection hu with hu; subst hu; exact h1 j hj) h2]
    cases C[k]? <;> rfl
  have CR : Hid (∀ W, Below w.heap.size w W → Calls Try.prog 57 #[.slice ao C.length cap] W fun e w' => e = .returned (.bool (rightC C)) ∧ Below W.heap.size W w') := fun W hW => right13 w.heap.size C _ W (H.out.on hW) hW.size
  generalize pruneF C p l = y at *
  generalize rightC C = r1 at *
  have HB0 : Hid (Below w.heap.size w (w.alloc (.cells #[.int .u64 p, .int .u32 l] 33))) := (Below.refl _ _).alloc (Nat.le_refl _) _
  go_enter Try.func39, Try.ntmps39
  go_wp2_with fail
  refine (CR.out _ HB0.out).mono ?_
  rintro e w1 ⟨rfl, hb1⟩
  have HB1 : Hid (Below w.heap.size w w1) := HB0.out.trans (hb1.mono HB0.out.size)
  obtain ⟨hc, -⟩ := bcell hb1
  have hz0 : w.heap.size < w1.heap.size := by have := hb1.size; simp at this; omega
  cases r1
  · have HE : Hid _ := HP1.out rfl
    clear hc
    go_wp2_with fail
    rw [HE.out]
    go_ret
    exact ⟨_, rfl, vs_nil _ _, HB1.out⟩
  · have HP3 := HP2.out rfl
    have HP4 : Hid _ := HP3
    have hl1000 : C.length ≤ 1000 := HRl.out rfl
    clear HP3 HP2 HP1 CR HRl
    have HT : Hid (w1.cell? ⟨w.heap.size, 0, none⟩ = some (.int .u64 p) ∧ w1.cell? ⟨w.heap.size, 1, none⟩ = some (.int .u32 l)) := ⟨by rw [hc _ _ (by simp)]; simp, by rw [hc _ _ (by simp)]; simp⟩
    clear hc hb1
    go_wp2_with fail
    go_loopw [5, 6] (fun s i wr => ∃ k : Nat, k ≤ C.length ∧ i = .int .i64 k ∧ (∀ j, j < k → ltS p l (C.getD j dv) = true) ∧ VsOwn w1.heap.size s (C.take k) wr ∧ Below w1.heap.size w1 wr) (fun _ i _ => C.length - (intOf i).toNat)
    case atStart => exact ⟨0, Nat.zero_le _, rfl, fun j hj => absurd hj (by omega), VsOwn.nil _ _, Below.refl _ _⟩
    case round =>
      obtain ⟨k, hk, rfl, hall, hown, hbr⟩ := hrel
      have HE : Hid _ := hall
      have HO : Hid _ := hown
      have HBr : Hid (Below w1.heap.size w1 wr) := hbr
      have HBw : Hid (Below w.heap.size w wr) := HB1.out.trans (hbr.mono HB1.out.size)
      clear hall hown hbr
      by_cases hkl : k < C.length
      · obtain ⟨b, off, rfl, hb, hel⟩ := (H.out.on HBw.out).el hkl
        have HK : Hid (ltS p l (C.getD k dv) = true → ∀ j, j < k + 1 → ltS p l (C.getD j dv) = true) := fun h j hj => by
          by_cases hjk : j = k
          · subst hjk; exact h
          · exact HE.out j (by omega)
        have HN : Hid (ltS p l (C.getD k dv) = false → y = if (C.getD k dv).dead then C.take k else C.take (k + 1)) := fun h => by
          have := HP4.out k hk HE.out (fun u hu => by rw [getD_some hkl] at hu; injection hu with hu; subst hu; exact h)
          rw [getD_some hkl] at this
          exact this
        have HTk : Hid _ := take_snoc hkl
        clear hb HE
        have u0 : wr.cell? ⟨w.heap.size, 0, none⟩ = some (.int .u64 p) := by rw [HBr.out.cell (p := ⟨w.heap.size, 0, none⟩) hz0]; exact HT.out.1
        have u1 : wr.cell? ⟨w.heap.size, 1, none⟩ = some (.int .u32 l) := by rw [HBr.out.cell (p := ⟨w.heap.size, 1, none⟩) hz0]; exact HT.out.2
        generalize C.getD k dv = x at hel HK HN HTk
        obtain ⟨xp, xl, xc, xn, xs, xd⟩ := x
        obtain ⟨e0, e1, e2, e3, e4, e5⟩ := hel
        dsimp only at e0 e1 e2 e3 e4 e5
        have g0 := cell_regrown e0
        have g1 := cell_regrown e1
        have g2 := cell_regrown e2
        have g3 := cell_regrown e3
        have g4 := cell_regrown e4
        have g5 := cell_regrown e5
        have k0 := cell_regrown u0
        have k1 := cell_regrown u1
        have hkl' : (k : Int) < C.length := by omega
        have HL : Hid (lessB p l xp xl = ltS p l ⟨xp, xl, xc, xn, xs, xd⟩) := rfl
        obtain ⟨z, hz⟩ : ∃ z, lessB p l xp xl = z := ⟨_, rfl⟩
        rw [hz] at HL
        have cA : Hid (∀ d os, Calls Try.prog 59 #[.agg #[.int .u64 p, .int .u32 l], .agg #[.int .u64 xp, .int .u32 xl]] (grow (redrawn wr d) os) fun e w'' => e = .returned (.bool z) ∧ ∃ p : Regrown, w'' = grow (redrawn wr p.d) p.os) := fun d os => Calls.regrown_of (by rw [← hz]; exact lessR _ _ _ _ _)
        clear hz u0 u1
        have HLe : Hid ((C.take k).length + 1 ≤ 1048576) := by show _ ≤ _; simp; omega
        cases z
        · have HX : Hid _ := HN.out HL.out.symm
          clear HN HK HL
          cases xd
          all_goals
            go_wp2_with fail
            refine wp_region_quiet_below (by kernel_rfl) (by kernel_rfl) (Veil.out ?_)
            repeat (refine vq_step (fun K hK => ?_); go_simp; refine hK _ ?_; clear hK K)
            (refine vq_step (fun K hK => ?_); go_simp; apply Exists.intro; refine ⟨fun _ => ?_, hK _ ?_⟩; exact cA.out _ _; clear hK K)
            repeat (refine vq_step (fun K hK => ?_); go_simp; refine hK _ ?_; clear hK K)
            refine vq_nil ?_
            intro _ hw'
            obtain ⟨⟨dq, osq⟩, hw''⟩ := hw'
            subst hw''
            have HO5 : Hid _ := VsOwn.on HO.out (below_regrown wr dq osq)
            have HB5 : Hid (Below w1.heap.size w1 (grow (redrawn wr dq) osq)) := HBr.out.trans ((below_regrown wr dq osq).mono HBr.out.size)
            have i0 := g0 dq osq
            have i1 := g1 dq osq
            have i2 := g2 dq osq
            have i3 := g3 dq osq
            have i4 := g4 dq osq
            have i5 := g5 dq osq
            clear g0 g1 g2 g3 g4 g5 k0 k1 e0 e1 e2 e3 e4 e5 cA
            generalize grow (redrawn wr dq) osq = w5 at *
          · have HOw : Hid (OwV w1.heap.size _ (C.take k) (w5.heap.size + 1) (.slice (some ⟨w5.heap.size, 0, none⟩) 1 1) [⟨xp, xl, xc, xn, xs, false⟩] (w5.alloc (.cells #[.int .u64 xp, .int .u32 xl, .int .u32 xc, .int .u32 xn, .string (bs xs), .bool false] 37))) := ⟨VsOwn.alloc HO5.out _, vs_one w5 xp xl xc xn xs false, Nat.le_trans HB5.out.size (by simp), HLe.out⟩
            go_wp2_with (at_builtin; refine wpList_append_ow HOw.out (.tmp 36) (.tmp 41) rfl rfl rfl rfl ?_)
            intro v' w2 hown hg2
            have HO2 : Hid (VsOwn w1.heap.size v' (C.take (k + 1)) w2) := by rw [HTk.out]; exact hown
            have HB2 : Hid (Below w1.heap.size w1 w2) := below_grown (HB5.out.alloc HB5.out.size _) HOw.out.size HOw.out.own hg2
            clear hown hg2
            go_wp2_with fail
            rw [HX.out]
            go_ret
            exact ⟨_, rfl, VsOwn.at HO2.out, HB1.out.trans (HB2.out.mono HB1.out.size)⟩
          · go_wp2_with fail
            rw [HX.out]
            go_ret
            exact ⟨_, rfl, VsOwn.at HO5.out, HB1.out.trans (HB5.out.mono HB1.out.size)⟩
        · have HX : Hid _ := HK.out HL.out.symm
          clear HN HK HL
          go_wp2_with fail
          refine wp_region_quiet_below (by kernel_rfl) (by kernel_rfl) (Veil.out ?_)
          repeat (refine vq_step (fun K hK => ?_); go_simp; refine hK _ ?_; clear hK K)
          (refine vq_step (fun K hK => ?_); go_simp; apply Exists.intro; refine ⟨fun _ => ?_, hK _ ?_⟩; exact cA.out _ _; clear hK K)
          repeat (refine vq_step (fun K hK => ?_); go_simp; refine hK _ ?_; clear hK K)
          refine vq_nil ?_
          intro _ hw'
          obtain ⟨⟨dq, osq⟩, hw''⟩ := hw'
          subst hw''
          have HO5 : Hid _ := VsOwn.on HO.out (below_regrown wr dq osq)
          have HB5 : Hid (Below w1.heap.size w1 (grow (redrawn wr dq) osq)) := HBr.out.trans ((below_regrown wr dq osq).mono HBr.out.size)
          have i0 := g0 dq osq
          have i1 := g1 dq osq
          have i2 := g2 dq osq
          have i3 := g3 dq osq
          have i4 := g4 dq osq
          have i5 := g5 dq osq
          clear g0 g1 g2 g3 g4 g5 k0 k1 e0 e1 e2 e3 e4 e5 cA
          generalize grow (redrawn wr dq) osq = w5 at *
          have HOw : Hid (OwV w1.heap.size _ (C.take k) (w5.heap.size + 1) (.slice (some ⟨w5.heap.size, 0, none⟩) 1 1) [⟨xp, xl, xc, xn, xs, xd⟩] (w5.alloc (.cells #[.int .u64 xp, .int .u32 xl, .int .u32 xc, .int .u32 xn, .string (bs xs), .bool xd] 37))) := ⟨VsOwn.alloc HO5.out _, vs_one w5 xp xl xc xn xs xd, Nat.le_trans HB5.out.size (by simp), HLe.out⟩
          go_wp2_with (at_builtin; refine wpList_append_ow HOw.out (.tmp 23) (.tmp 28) rfl rfl rfl rfl ?_)
          intro v' w2 hown hg2
          have HO2 : Hid (VsOwn w1.heap.size v' (C.take (k + 1)) w2) := by rw [HTk.out]; exact hown
          have HB2 : Hid (Below w1.heap.size w1 w2) := below_grown (HB5.out.alloc HB5.out.size _) HOw.out.size HOw.out.own hg2
          clear hown hg2
          go_wp2_with fail
          go_roundw
          case rel => exact ⟨k + 1, by omega, by go_num, HX.out, HO2.out, HB2.out⟩
          case measure => simp [intOf]; omega
      · have HX : Hid (y = C.take k) := by
          show _ = _
          have := HP4.out k hk HE.out (fun u hu => by rw [List.getElem?_eq_none (by omega)] at hu; cases hu)
          rw [List.getElem?_eq_none (by omega)] at this
          rw [this, List.take_of_length_le (by omega)]
        have hkl' : ¬ (k : Int) < C.length := by omega
        go_wp2_with fail
        rw [HX.out]
        go_ret
        exact ⟨_, rfl, VsOwn.at HO.out, HBw.out⟩
end Go.Proofs.Ytcfhkggijdjagaa
