/-
  Contracts of chain.At, chain.Newest and chain.Prune.
-/
import Derived.Test.YtcfhkggijdjagaaCPutv
namespace Go.Proofs.Ytcfhkggijdjagaa
open Go.RowKit Go.Sort

theorem atF_bad {C : List Ve} {p l : Int} (h : rightC C = false) : atF C p l = none := by unfold atF; rw [h]; rfl
theorem atF_good {C : List Ve} {p l : Int} (h : rightC C = true) : atF C p l = C[seenN p l C]? := by unfold atF; rw [if_pos h, atR_seen]

set_option maxHeartbeats 3200000 in
set_option maxRecDepth 100000 in
theorem at10 (B : Nat) (C : List Ve) (v : Value) (p l : Int) (w : World) (hv : VsAt B v C w) (hB : B ≤ w.heap.size) :
    Calls Try.prog 40 #[v, .agg #[.int .u64 p, .int .u32 l]] w fun e w' => e = .returned (.tuple #[veV ((atF C p l).getD dv), .bool (atF C p l).isSome]) ∧ Below w.heap.size w w' := by
  have hv' := hv
  obtain ⟨ao, cap, rfl, hlc, hcm, -⟩ := hv
  have H : Hid (VsAt w.heap.size (.slice ao C.length cap) C w) := hv'.le hB
  clear hv' hB
  have HSn : Hid (seenN p l C ≤ C.length) := seenN_le _ _ _
  have HP1 : Hid (rightC C = false → atF C p l = none) := atF_bad
  have HP2 : Hid (rightC C = true → atF C p l = C[seenN p l C]?) := atF_good
  have CR : Hid (∀ W, Below w.heap.size w W → Calls Try.prog 49 #[.slice ao C.length cap] W fun e w' => e = .returned (.bool (rightC C)) ∧ Below W.heap.size W w') := fun W hW => right12 w.heap.size C _ W (H.out.on hW) hW.size
  have CS : Hid (∀ W, Below w.heap.size w W → Calls Try.prog 51 #[.slice ao C.length cap, .agg #[.int .u64 p, .int .u32 l]] W fun e w' => e = .returned (.int .i64 (seenN p l C)) ∧ Below W.heap.size W w') := fun W hW => seen21 w.heap.size C _ _ _ W (H.out.on hW) hW.size
  generalize atF C p l = y at *
  generalize rightC C = r1 at *
  generalize seenN p l C = k at *
  have HB0 : Hid (Below w.heap.size w ((w.alloc (.cells #[.int .u64 p, .int .u32 l] 33)).alloc (.cells #[.int .u64 0, .int .u32 0, .int .u32 0, .int .u32 0, .string ⟨#[]⟩, .bool false] 37))) := ((Below.refl _ _).alloc (Nat.le_refl _) _).alloc (by simp) _
  go_enter Try.func40, Try.ntmps40
  go_wp2_with fail
  refine (CR.out _ HB0.out).mono ?_
  rintro e w1 ⟨rfl, hb1⟩
  have HB1 : Hid (Below w.heap.size w w1) := HB0.out.trans (hb1.mono HB0.out.size)
  obtain ⟨hc, hf⟩ := bcell hb1
  have hz1 : w.heap.size + 1 < w1.heap.size := by have := hb1.size; simp at this; omega
  have hz0 : w.heap.size < w1.heap.size := by omega
  cases r1
  · have HE : Hid _ := HP1.out rfl
    go_wp2_with fail
    rw [HE.out]
    refine bodyPost_ret (v := .tuple #[veV dv, .bool false]) (by simp [results, Try.results40, go_sem, hc, veV, dv, bs]) rfl ?_
    refine ⟨rfl, ?_⟩
    exact ((((((HB1.out.setCell (by simp) _).setCell (by simp) _).setCell (by simp) _).setCell (by simp) _).setCell (by simp) _).setCell (by simp) _)
  · go_wp2_with fail
    refine (CS.out _ HB1.out).mono ?_
    rintro e w2 ⟨rfl, hb2⟩
    have HB2 : Hid (Below w.heap.size w w2) := HB1.out.trans (hb2.mono HB1.out.size)
    obtain ⟨hc2, hf2⟩ := bcell hb2
    have hy2 : w.heap.size + 1 < w2.heap.size := by have := hb2.size; omega
    have hy0 : w.heap.size < w2.heap.size := by omega
    have HE : Hid _ := HP2.out (by trivial)
    have hk := HSn.out
    by_cases hkl : k < C.length
    · obtain ⟨b, off, rfl, hb, hck⟩ := H.out.el hkl
      have hck2 := hck.on HB2.out hb
      have HG : Hid (y = some (C.getD k dv)) := by rw [HE.out]; exact getD_some hkl
      clear hck HE CS CR HP2 HP1 hb
      generalize C.getD k dv = u at hck2 HG
      obtain ⟨yp, yl, yc, yn, ys, yd⟩ := u
      obtain ⟨m0, m1, m2, m3, m4, m5⟩ := hck2
      dsimp only at m0 m1 m2 m3 m4 m5
      have hkl' : ((k : Int) == C.length) = false := by simp; omega
      have hkl2 : (k : Int) < C.length := by omega
      go_wp2_with fail
      rw [HG.out]
      refine bodyPost_ret (v := .tuple #[veV ⟨yp, yl, yc, yn, ys, yd⟩, .bool true]) (by simp [results, Try.results40, go_sem, hc2, hc, hz1, veV]) rfl ?_
      refine ⟨rfl, ?_⟩
      exact ((((((HB2.out.setCell (by simp) _).setCell (by simp) _).setCell (by simp) _).setCell (by simp) _).setCell (by simp) _).setCell (by simp) _)
    · have HG : Hid (y = none) := by rw [HE.out]; exact List.getElem?_eq_none (by omega)
      have hkl' : ((k : Int) == C.length) = true := by simp; omega
      clear HE CS CR HP2 HP1
      go_wp2_with fail
      rw [HG.out]
      refine bodyPost_ret (v := .tuple #[veV dv, .bool false]) (by simp [results, Try.results40, go_sem, hc2, hc, hz1, veV, dv, bs]) rfl ?_
      refine ⟨rfl, ?_⟩
      exact ((((((HB2.out.setCell (by simp) _).setCell (by simp) _).setCell (by simp) _).setCell (by simp) _).setCell (by simp) _).setCell (by simp) _)

/-- The newest one's stamp. -/
def newF (C : List Ve) : Int × Int := if rightC C then ((C.getD 0 dv).p, (C.getD 0 dv).l) else (0, 0)
theorem newF_nil : newF [] = (0, 0) := by simp [newF, dv]

set_option maxHeartbeats 3200000 in
set_option maxRecDepth 100000 in
theorem newest15 (B : Nat) (C : List Ve) (v : Value) (w : World) (hv : VsAt B v C w) (hB : B ≤ w.heap.size) :
    Calls Try.prog 42 #[v] w fun e w' => e = .returned (.agg #[.int .u64 (newF C).1, .int .u32 (newF C).2]) ∧ Below w.heap.size w w' := by
  have hv' := hv
  obtain ⟨ao, cap, rfl, hlc, hcm, -⟩ := hv
  have H : Hid (VsAt w.heap.size (.slice ao C.length cap) C w) := hv'.le hB
  clear hv' hB
  have HB0 : Hid (Below w.heap.size w (w.alloc (.cells #[.int .u64 0, .int .u32 0] 33))) := (Below.refl _ _).alloc (Nat.le_refl _) _
  by_cases h0 : C.length = 0
  · have : C = [] := List.eq_nil_of_length_eq_zero h0
    subst this
    rw [newF_nil]
    clear h0
    go_enter Try.func42, Try.ntmps42
    go_wp2_with fail
    refine bodyPost_ret (v := .agg #[.int .u64 0, .int .u32 0]) (by simp [results, Try.results42, go_sem]) rfl ?_
    exact ⟨rfl, HB0.out⟩
  · obtain ⟨b, off, rfl, hb, hck⟩ := H.out.el (k := 0) (by omega)
    have CR : Hid (∀ W, Below w.heap.size w W → Calls Try.prog 49 #[.slice (some ⟨b, off, none⟩) C.length cap] W fun e w' => e = .returned (.bool (rightC C)) ∧ Below W.heap.size W w') := fun W hW => right12 w.heap.size C _ W (H.out.on hW) hW.size
    have HN : Hid (newF C = if rightC C then ((C.getD 0 dv).p, (C.getD 0 dv).l) else (0, 0)) := rfl
    generalize newF C = y at *
    generalize C.getD 0 dv = u at *
    generalize rightC C = r1 at *
    have h0' : ((C.length : Int) == 0) = false := by rw [beq_eq_false_iff_ne]; omega
    have h00 : (0 : Int) < C.length := by omega
    have HCk : Hid _ := hck
    clear hck h0
    go_enter Try.func42, Try.ntmps42
    go_wp2_with fail
    refine (CR.out _ HB0.out).mono ?_
    rintro e w1 ⟨rfl, hb1⟩
    have HB1 : Hid (Below w.heap.size w w1) := HB0.out.trans (hb1.mono HB0.out.size)
    obtain ⟨hc, hf⟩ := bcell hb1
    have hz0 : w.heap.size < w1.heap.size := by have := hb1.size; simp at this; omega
    have hck := HCk.out.on HB1.out hb
    clear HCk CR hb
    obtain ⟨yp, yl, yc, yn, ys, yd⟩ := u
    obtain ⟨m0, m1, -, -, -, -⟩ := hck
    dsimp only at m0 m1
    simp only [Nat.zero_mul, Nat.add_zero] at m0 m1
    cases r1
    · go_wp2_with fail
      rw [HN.out]
      refine bodyPost_ret (v := .agg #[.int .u64 0, .int .u32 0]) (by simp [results, Try.results42, go_sem, hc]) rfl ?_
      exact ⟨rfl, (HB1.out.setCell (by simp) _).setCell (by simp) _⟩
    · go_wp2_with fail
      rw [HN.out]
      refine bodyPost_ret (v := .agg #[.int .u64 yp, .int .u32 yl]) (by simp [results, Try.results42, go_sem, hc]) rfl ?_
      exact ⟨rfl, (HB1.out.setCell (by simp) _).setCell (by simp) _⟩

theorem pruneF_bad {C : List Ve} {p l : Int} (h : rightC C = false) : pruneF C p l = [] := by unfold pruneF; rw [h]; rfl
theorem pruneF_good {C : List Ve} {p l : Int} (h : rightC C = true) : pruneF C p l = match C[seenN p l C]? with
    | some u => if u.dead then C.take (seenN p l C) else C.take (seenN p l C + 1)
    | none => C := by unfold pruneF; rw [if_pos h, pruneR_seen]; cases C[seenN p l C]? <;> rfl

set_option maxHeartbeats 3200000 in
set_option maxRecDepth 100000 in
theorem prune17 (B : Nat) (C : List Ve) (v : Value) (p l : Int) (w : World) (hv : VsAt B v C w) (hB : B ≤ w.heap.size) :
    Calls Try.prog 37 #[v, .agg #[.int .u64 p, .int .u32 l]] w fun e w' => ∃ v', e = .returned v' ∧ VsAt w'.heap.size v' (pruneF C p l) w' ∧ Below w.heap.size w w' := by
  have hv' := hv
  obtain ⟨ao, cap, rfl, hlc, hcm, -⟩ := hv
  have H : Hid (VsAt w.heap.size (.slice ao C.length cap) C w) := hv'.le hB
  clear hv' hB
  have HSn : Hid (seenN p l C ≤ C.length) := seenN_le _ _ _
  have HP1 : Hid (rightC C = false → pruneF C p l = []) := pruneF_bad
  have HP2 : Hid (rightC C = true → pruneF C p l = match C[seenN p l C]? with
    | some u => if u.dead then C.take (seenN p l C) else C.take (seenN p l C + 1)
    | none => C) := pruneF_good
  have HRl : Hid (rightC C = true → C.length ≤ 1000) := fun h => (rightC_iff.1 h).len
  have CR : Hid (∀ W, Below w.heap.size w W → Calls Try.prog 49 #[.slice ao C.length cap] W fun e w' => e = .returned (.bool (rightC C)) ∧ Below W.heap.size W w') := fun W hW => right12 w.heap.size C _ W (H.out.on hW) hW.size
  have CS : Hid (∀ W, Below w.heap.size w W → Calls Try.prog 51 #[.slice ao C.length cap, .agg #[.int .u64 p, .int .u32 l]] W fun e w' => e = .returned (.int .i64 (seenN p l C)) ∧ Below W.heap.size W w') := fun W hW => seen21 w.heap.size C _ _ _ W (H.out.on hW) hW.size
  have CC : Hid (∀ W n, Below w.heap.size w W → n ≤ C.length → C.length ≤ 1000 → Calls Try.prog 48 #[.slice ao n cap] W fun e w' => ∃ v', e = .returned v' ∧ VsAt w'.heap.size v' (C.take n) w' ∧ Below W.heap.size W w') := fun W n hW hn hl => clone27 w.heap.size (C.take n) _ W ((H.out.on hW).take hn) hW.size (by simp; omega)
  generalize pruneF C p l = y at *
  generalize rightC C = r1 at *
  generalize seenN p l C = k at *
  have HB0 : Hid (Below w.heap.size w (w.alloc (.cells #[.int .u64 p, .int .u32 l] 33))) := (Below.refl _ _).alloc (Nat.le_refl _) _
  go_enter Try.func37, Try.ntmps37
  go_wp2_with fail
  refine (CR.out _ HB0.out).mono ?_
  rintro e w1 ⟨rfl, hb1⟩
  have HB1 : Hid (Below w.heap.size w w1) := HB0.out.trans (hb1.mono HB0.out.size)
  obtain ⟨hc, -⟩ := bcell hb1
  have hz0 : w.heap.size < w1.heap.size := by have := hb1.size; simp at this; omega
  cases r1
  · have HE : Hid _ := HP1.out rfl
    go_wp2_with fail
    rw [HE.out]
    go_ret
    exact ⟨_, rfl, vs_nil _ _, HB1.out⟩
  · have hl1000 : C.length ≤ 1000 := HRl.out (by trivial)
    go_wp2_with fail
    refine (CS.out _ HB1.out).mono ?_
    rintro e w2 ⟨rfl, hb2⟩
    have HB2 : Hid (Below w.heap.size w w2) := HB1.out.trans (hb2.mono HB1.out.size)
    have HE : Hid _ := HP2.out (by trivial)
    clear hc hb1 hb2
    have hk := HSn.out
    by_cases hkl : k < C.length
    · obtain ⟨b, off, rfl, hb, hck⟩ := H.out.el hkl
      have hck2 := hck.on HB2.out hb
      have HG : Hid (y = if (C.getD k dv).dead then C.take k else C.take (k + 1)) := by have := HE.out; rw [getD_some hkl] at this; exact this
      clear hck HE CS CR HP2 HP1 hb
      generalize C.getD k dv = u at hck2 HG
      obtain ⟨yp, yl, yc, yn, ys, yd⟩ := u
      obtain ⟨-, -, -, -, -, m5⟩ := hck2
      dsimp only at m5
      have hkl2 : (k : Int) < C.length := by omega
      cases yd
      · have hkc : (k : Int) + 1 ≤ cap := by omega
        have hkc0 : 0 ≤ (k : Int) + 1 := by omega
        have hwr : IntKind.i64.wrap ((k : Int) + 1) = ((k + 1 : Nat) : Int) := by simp [IntKind.wrap, IntKind.signed, IntKind.bits]; omega
        have hkc2 : k + 1 ≤ cap := by omega
        go_wp2_with fail
        refine (CC.out _ (k + 1) HB2.out (by omega) hl1000).mono ?_
        rintro e w3 ⟨v', rfl, hv3, hb3⟩
        have H3 : Hid (VsAt w3.heap.size v' (C.take (k + 1)) w3 ∧ Below w.heap.size w w3) := ⟨hv3, HB2.out.trans (hb3.mono HB2.out.size)⟩
        clear hv3 hb3
        go_wp2_with fail
        rw [HG.out]
        go_ret
        exact ⟨_, rfl, H3.out.1, H3.out.2⟩
      · have hkc : (k : Int) ≤ cap := by omega
        go_wp2_with fail
        refine (CC.out _ k HB2.out (by omega) hl1000).mono ?_
        rintro e w3 ⟨v', rfl, hv3, hb3⟩
        have H3 : Hid (VsAt w3.heap.size v' (C.take k) w3 ∧ Below w.heap.size w w3) := ⟨hv3, HB2.out.trans (hb3.mono HB2.out.size)⟩
        clear hv3 hb3
        go_wp2_with fail
        rw [HG.out]
        go_ret
        exact ⟨_, rfl, H3.out.1, H3.out.2⟩
    · have HG : Hid (y = C.take k) := by have := HE.out; rw [List.getElem?_eq_none (by omega)] at this; rw [this, List.take_of_length_le (by omega)]; exact rfl
      have hkl' : ¬ (k : Int) < C.length := by omega
      have hkc : (k : Int) ≤ cap := by omega
      clear HE CS CR HP2 HP1
      go_wp2_with fail
      refine (CC.out _ k HB2.out (by omega) hl1000).mono ?_
      rintro e w3 ⟨v', rfl, hv3, hb3⟩
      have H3 : Hid (VsAt w3.heap.size v' (C.take k) w3 ∧ Below w.heap.size w w3) := ⟨hv3, HB2.out.trans (hb3.mono HB2.out.size)⟩
      clear hv3 hb3
      go_wp2_with fail
      rw [HG.out]
      go_ret
      exact ⟨_, rfl, H3.out.1, H3.out.2⟩
end Go.Proofs.Ytcfhkggijdjagaa
