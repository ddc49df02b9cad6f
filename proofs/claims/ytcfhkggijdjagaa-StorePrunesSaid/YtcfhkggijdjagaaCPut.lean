/-
  Contracts of chain.again and chain.Put.
-/
import Derived.Test.YtcfhkggijdjagaaCRight
import Derived.Test.YtcfhkggijdjagaaCCat
import Derived.Deep.RegionHeld3
namespace Go.Proofs.Ytcfhkggijdjagaa
open Go.RowKit Go.Sort

theorem VsAt.el {B : Nat} {ao : Option Addr} {cap : Nat} {C : List Ve} {w : World} {k : Nat} (h : VsAt B (.slice ao C.length cap) C w) (hk : k < C.length) : ∃ b off, ao = some ⟨b, off, none⟩ ∧ b < B ∧ VeAt w b (off + k * 6) (C.getD k dv) := by
  obtain ⟨ao', cap', e, hl, hm, h⟩ := h
  simp only [Value.slice.injEq] at e
  obtain ⟨rfl, _, rfl⟩ := e
  obtain ⟨b, off, rfl, hb, hc⟩ := h (by omega)
  exact ⟨b, off, rfl, hb (by omega), hc k hk⟩

theorem VsAt.take {B : Nat} {ao : Option Addr} {cap : Nat} {C : List Ve} {w : World} (h : VsAt B (.slice ao C.length cap) C w) {k : Nat} (hk : k ≤ C.length) : VsAt B (.slice ao k cap) (C.take k) w := by
  obtain ⟨ao', cap', e, hl, hm, h⟩ := h
  simp only [Value.slice.injEq] at e
  obtain ⟨rfl, _, rfl⟩ := e
  have hlen : (C.take k).length = k := by simp; omega
  refine ⟨ao, cap, by rw [hlen], by omega, hm, fun h0 => ?_⟩
  obtain ⟨b, off, rfl, hb, hc⟩ := h h0
  refine ⟨b, off, rfl, fun h1 => hb (by omega), fun i hi => ?_⟩
  have e : (C.take k).getD i dv = C.getD i dv := by simp [List.getD, show i < k by omega]
  rw [e]
  exact hc i (by omega)
theorem VsAt.drop {B : Nat} {ao : Option Addr} {cap : Nat} {C : List Ve} {w : World} (h : VsAt B (.slice ao C.length cap) C w) {k : Nat} (hk : k ≤ C.length) : VsAt B (.slice (if cap = k then ao else ao.map (·.add (k * 6))) (C.length - k) (cap - k)) (C.drop k) w := by
  obtain ⟨ao', cap', e, hl, hm, h⟩ := h
  simp only [Value.slice.injEq] at e
  obtain ⟨rfl, _, rfl⟩ := e
  have hlen : (C.drop k).length = C.length - k := by simp
  refine ⟨_, cap - k, by rw [hlen], by omega, by omega, fun h0 => ?_⟩
  obtain ⟨b, off, rfl, hb, hc⟩ := h (by omega)
  clear h
  refine ⟨b, off + k * 6, ?_, fun h1 => hb (by omega), fun i hi => ?_⟩
  · rw [if_neg (by omega)]
    simp [Addr.add]
  · have e : (C.drop k).getD i dv = C.getD (k + i) dv := by simp [List.getD]
    rw [e]
    have := hc (k + i) (by omega)
    rw [show off + k * 6 + i * 6 = off + (k + i) * 6 from by omega]
    exact this

theorem putF_bad {C : List Ve} {x : Ve} (h : (rightC C && vOk x) = false) : putF C x = ([], 1) := by unfold putF; rw [h]; rfl
theorem putF_has {C : List Ve} {x u : Ve} (h : (rightC C && vOk x) = true) (hu : C[seenN x.p x.l C]? = some u) (ha : atB u x = true) (he : eqV u x = true) : putF C x = (C, 0) := by
  unfold putF
  rw [h, if_pos rfl, insF_seen, hu]
  simp [ha, he]
theorem putF_busy {C : List Ve} {x u : Ve} (h : (rightC C && vOk x) = true) (hu : C[seenN x.p x.l C]? = some u) (ha : atB u x = true) (he : eqV u x = false) : putF C x = ([], 40) := by
  unfold putF
  rw [h, if_pos rfl, insF_seen, hu]
  simp [ha, he]
theorem putF_else {C : List Ve} {x : Ve} (h : (rightC C && vOk x) = true) (hu : ∀ u, C[seenN x.p x.l C]? = some u → atB u x = false) : putF C x = if 1000 ≤ C.length then ([], 3) else (C.take (seenN x.p x.l C) ++ x :: C.drop (seenN x.p x.l C), 0) := by
  unfold putF
  rw [h, if_pos rfl, insF_seen]
  cases hc : C[seenN x.p x.l C]? with
  | none =>
    have hk := List.getElem?_eq_none_iff.1 hc
    rw [List.take_of_length_le hk, List.drop_eq_nil_of_le hk]
    simp
  | some u =>
    have hk := seenN_le x.p x.l C
    have hl : C.length < (C.take (seenN x.p x.l C) ++ x :: C.drop (seenN x.p x.l C)).length := by simp; omega
    simp only [hu u hc, Bool.false_eq_true, if_false]
    by_cases h2 : 1000 ≤ C.length
    · rw [if_pos ⟨hl, h2⟩, if_pos h2]
    · rw [if_neg (fun h => h2 h.2), if_neg h2]

set_option maxHeartbeats 1600000 in
theorem again22 (B : Nat) (C : List Ve) (v : Value) (k : Nat) (x : Ve) (w : World) (hv : VsAt B v C w) (hB : B ≤ w.heap.size) (hk : k < C.length) (hl : C.length ≤ 1048576) :
    Calls Try.prog 52 #[v, .int .i64 k, veV x] w fun e w' => ∃ v', e = .returned (.tuple #[v', .int .i64 (if eqV (C.getD k dv) x then 0 else 40)]) ∧ VsAt w'.heap.size v' (if eqV (C.getD k dv) x then C else []) w' ∧ Below w.heap.size w w' := by
  have hv' := hv
  obtain ⟨ao, cap, rfl, hlc, hcm, -⟩ := hv
  obtain ⟨b, off, rfl, hb, hck⟩ := hv'.el hk
  have H : Hid (VsAt B (.slice (some ⟨b, off, none⟩) C.length cap) C w) := hv'
  have HL : Hid _ := hl
  have HB : Hid _ := hB
  have hbw : b < w.heap.size := by omega
  clear hv' hl hB hlc hcm hb
  generalize C.getD k dv = y at hck ⊢
  obtain ⟨xp, xl, xc, xn, xs, xd⟩ := x
  obtain ⟨yp, yl, yc, yn, ys, yd⟩ := y
  obtain ⟨e0, e1, e2, e3, e4, e5⟩ := hck
  dsimp only at e0 e1 e2 e3 e4 e5
  unfold veV
  dsimp only
  have hrun := run_neq30 yp yl yc yn ys yd xp xl xc xn xs xd
  obtain ⟨z, hz⟩ : ∃ z, eqV ⟨yp, yl, yc, yn, ys, yd⟩ ⟨xp, xl, xc, xn, xs, xd⟩ = z := ⟨_, rfl⟩
  rw [hz] at hrun ⊢
  clear hz
  have hkl : (k : Int) < C.length := by omega
  cases z
  · go_enter Try.func52, Try.ntmps52
    go_wp2_with fail
    go_quiet (fail)
    go_wp2
    refine bodyPost_ret (v := .tuple #[.slice none 0 0, .int .i64 40]) (by simp [results, Try.results52, go_sem]) rfl ?_
    exact ⟨_, rfl, vs_nil _ _, below_drewN ((Below.refl _ _).alloc (Nat.le_refl _) _) _⟩
  · go_enter Try.func52, Try.ntmps52
    go_wp2_with fail
    go_quiet (fail)
    rename_i nq
    have HW : Hid (Below w.heap.size w ((w.alloc (.cells #[.int .u64 xp, .int .u32 xl, .int .u32 xc, .int .u32 xn, .string (bs xs), .bool xd] 37)).drewN nq)) := below_drewN ((Below.refl _ _).alloc (Nat.le_refl _) _) _
    go_wp2_with fail
    refine (clone27 w.heap.size C _ _ ((H.out.le HB.out).on HW.out) HW.out.size HL.out).mono ?_
    rintro e w2 ⟨v', rfl, hv2, hb2⟩
    have H2 : Hid (VsAt w2.heap.size v' C w2 ∧ Below w.heap.size w w2) := ⟨hv2, HW.out.trans (hb2.mono HW.out.size)⟩
    clear hv2 hb2
    go_wp2
    refine bodyPost_ret (v := .tuple #[v', .int .i64 0]) (by simp [results, Try.results52, go_sem]) rfl ?_
    exact ⟨_, rfl, H2.out.1, H2.out.2⟩
end Go.Proofs.Ytcfhkggijdjagaa
