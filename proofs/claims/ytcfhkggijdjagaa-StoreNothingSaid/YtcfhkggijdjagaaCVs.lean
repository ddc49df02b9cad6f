/-
  Versions in memory: a slice whose cells are those of a plain list.
-/
import Derived.Test.YtcfhkggijdjagaaCLeaf
import Derived.Test.YtcfhkggijdjagaaCAa
namespace Go.Proofs.Ytcfhkggijdjagaa
open Go.RowKit

def dv : Ve := ⟨0, 0, 0, 0, [], false⟩

/-- The version x lies at off in block b. -/
structure VeAt (w : World) (b off : Nat) (x : Ve) : Prop where
  c0 : w.cell? ⟨b, off, none⟩ = some (.int .u64 x.p)
  c1 : w.cell? ⟨b, off + 1, none⟩ = some (.int .u32 x.l)
  c2 : w.cell? ⟨b, off + 2, none⟩ = some (.int .u32 x.c)
  c3 : w.cell? ⟨b, off + 3, none⟩ = some (.int .u32 x.n)
  c4 : w.cell? ⟨b, off + 4, none⟩ = some (.string (bs x.val))
  c5 : w.cell? ⟨b, off + 5, none⟩ = some (.bool x.dead)

theorem VeAt.on {w w' : World} {B b off : Nat} {x : Ve} (h : VeAt w b off x) (hb : Below B w w') (hl : b < B) : VeAt w' b off x := by
  refine ⟨?_, ?_, ?_, ?_, ?_, ?_⟩
  · rw [hb.cell (p := ⟨b, _, none⟩) hl]; exact h.c0
  · rw [hb.cell (p := ⟨b, _, none⟩) hl]; exact h.c1
  · rw [hb.cell (p := ⟨b, _, none⟩) hl]; exact h.c2
  · rw [hb.cell (p := ⟨b, _, none⟩) hl]; exact h.c3
  · rw [hb.cell (p := ⟨b, _, none⟩) hl]; exact h.c4
  · rw [hb.cell (p := ⟨b, _, none⟩) hl]; exact h.c5

/-- The list C lies at the slice v, in a block below B. -/
def VsAt (B : Nat) (v : Value) (C : List Ve) (w : World) : Prop :=
  ∃ ao cap, v = .slice ao C.length cap ∧ C.length ≤ cap ∧ cap ≤ 9223372036854775807 ∧ (0 < cap → ∃ b off, ao = some ⟨b, off, none⟩ ∧ (0 < C.length → b < B) ∧ ∀ i, i < C.length → VeAt w b (off + i * 6) (C.getD i dv))

theorem VsAt.on {B : Nat} {v : Value} {C : List Ve} {w w' : World} (h : VsAt B v C w) (hb : Below B w w') : VsAt B v C w' := by
  obtain ⟨ao, cap, rfl, hl, hm, h⟩ := h
  refine ⟨ao, cap, rfl, hl, hm, fun h0 => ?_⟩
  obtain ⟨b, off, rfl, hlt, hc⟩ := h h0
  exact ⟨b, off, rfl, hlt, fun i hi => (hc i hi).on hb (hlt (by omega))⟩
theorem VsAt.le {B B' : Nat} {v : Value} {C : List Ve} {w : World} (h : VsAt B v C w) (hB : B ≤ B') : VsAt B' v C w := by
  obtain ⟨ao, cap, rfl, hl, hm, h⟩ := h
  refine ⟨ao, cap, rfl, hl, hm, fun h0 => ?_⟩
  obtain ⟨b, off, rfl, hlt, hc⟩ := h h0
  exact ⟨b, off, rfl, fun h => by have := hlt h; omega, hc⟩
theorem vs_nil (B : Nat) (w : World) : VsAt B (.slice none 0 0) [] w := ⟨none, 0, rfl, Nat.le_refl _, by omega, fun h => absurd h (by omega)⟩

theorem getD_some {C : List Ve} {k : Nat} (h : k < C.length) : C[k]? = some (C.getD k dv) := by simp [List.getD, h]

set_option maxHeartbeats 1600000 in
theorem seen21 (B : Nat) (C : List Ve) (v : Value) (p l : Int) (w : World) (hv : VsAt B v C w) (hB : B ≤ w.heap.size) :
    Calls Try.prog 51 #[v, .agg #[.int .u64 p, .int .u32 l]] w fun e w' => e = .returned (.int .i64 (seenN p l C)) ∧ Below w.heap.size w w' := by
  obtain ⟨ao, cap, rfl, hlc, hcm, hx⟩ := hv
  obtain ⟨r, hr⟩ : ∃ r, seenN p l C = r := ⟨_, rfl⟩
  rw [hr]
  have HR : Hid _ := hr
  have HX : Hid _ := hx
  have HB : Hid _ := hB
  have HC : Hid _ := hlc
  have HM : Hid _ := hcm
  clear hr hx hB hlc hcm
  obtain ⟨w0, hw0⟩ : ∃ w0, w0 = w.alloc (.cells #[.int .u64 p, .int .u32 l] 33) := ⟨_, rfl⟩
  have HW : Hid _ := hw0
  have HS : Hid (w0.heap.size = w.heap.size + 1) := by rw [hw0]; show _ = _; simp
  have HV : Hid (Below w.heap.size w w0) := by rw [hw0]; exact (Below.refl _ _).alloc (Nat.le_refl _) _
  have HP : Hid (w0.cell? ⟨w.heap.size, 0, none⟩ = some (.int .u64 p) ∧ w0.cell? ⟨w.heap.size, 1, none⟩ = some (.int .u32 l)) := by rw [hw0]; exact ⟨by simp [go_sem], by simp [go_sem]⟩
  clear hw0
  go_enter Try.func51, Try.ntmps51
  go_wp2_with fail
  rw [← HW.out]
  go_loopw [9] (fun i wr => ∃ k : Nat, k ≤ C.length ∧ i = .int .i64 k ∧ (∀ j, j < k → ltS p l (C.getD j dv) = true) ∧ Below w0.heap.size w0 wr) (fun i _ => C.length - (intOf i).toNat)
  case atStart => exact ⟨0, Nat.zero_le _, rfl, fun j hj => absurd hj (by omega), Below.refl _ _⟩
  case round =>
    obtain ⟨k, hk, rfl, hall, hbr⟩ := hrel
    have HE : Hid _ := hall
    clear hall
    have hs := HS.out
    have hq0 : wr.cell? ⟨w.heap.size, 0, none⟩ = some (.int .u64 p) := by rw [hbr.cell (p := ⟨_, _, none⟩) (by rw [hs]; exact Nat.lt_succ_self _)]; exact HP.out.1
    have hq1 : wr.cell? ⟨w.heap.size, 1, none⟩ = some (.int .u32 l) := by rw [hbr.cell (p := ⟨_, _, none⟩) (by rw [hs]; exact Nat.lt_succ_self _)]; exact HP.out.2
    have hlt0 : w.heap.size < wr.heap.size := by have := hbr.size; omega
    by_cases hkl : k < C.length
    · obtain ⟨b, off, rfl, hb, hc⟩ := HX.out (by have := HC.out; omega)
      have hck := ((hc k hkl).on HV.out (Nat.lt_of_lt_of_le (hb (by omega)) HB.out)).on hbr (by have := hb (by omega); have := HB.out; omega)
      have HK : Hid (ltS p l (C.getD k dv) = true → ∀ j, j < k + 1 → ltS p l (C.getD j dv) = true) := fun h j hj => by
        by_cases hjk : j = k
        · subst hjk; exact h
        · exact HE.out j (by omega)
      have HN : Hid (ltS p l (C.getD k dv) = false → r = k) := fun h => by
        rw [← HR.out]
        refine seenN_eq (by omega) (fun j u hj hu => ?_) (fun u hu => ?_)
        · rw [getD_some (by omega)] at hu
          injection hu with hu
          subst hu
          exact HE.out j hj
        · rw [getD_some (by omega)] at hu
          injection hu with hu
          subst hu
          exact h
      clear hc hb
      generalize C.getD k dv = x at hck HK HN
      obtain ⟨xp, xl, xc, xn, xs, xd⟩ := x
      obtain ⟨e0, e1, e2, e3, e4, e5⟩ := hck
      dsimp only at e0 e1 e2 e3 e4 e5
      have hkl' : (k : Int) < C.length := by omega
      have h63 : C.length ≤ 9223372036854775807 := Nat.le_trans HC.out HM.out
      have HL : Hid (lessB p l xp xl = ltS p l ⟨xp, xl, xc, xn, xs, xd⟩) := rfl
      go_wp2_with fail
      refine (lessP _ _ _ _ _).mono ?_
      rintro e w3 ⟨rfl, hb3⟩
      obtain ⟨z3, hz3⟩ : ∃ z, lessB p l xp xl = z := ⟨_, rfl⟩
      rw [hz3]
      have H3 : Hid _ := hz3
      clear hz3
      cases z3
      · have HX2 : Hid _ := HN.out (by rw [← HL.out]; exact H3.out)
        go_wp2
        go_ret
        rw [HX2.out]
        exact ⟨rfl, HV.out.trans ((hbr.mono (by omega)).trans (below1 hb3 |>.mono (by omega)))⟩
      · have HX2 : Hid _ := HK.out (by rw [← HL.out]; exact H3.out)
        have HB3 : Hid (Below w0.heap.size w0 w3) := hbr.trans (below1 hb3 |>.mono hbr.size)
        go_wp2
        go_roundw
        case rel => exact ⟨k + 1, by omega, by go_num, HX2.out, HB3.out⟩
        case measure => simp [intOf]; omega
    · have hkl' : ¬ (k : Int) < C.length := by omega
      have HX2 : Hid (r = C.length) := by
        show _ = _
        rw [← HR.out]
        refine seenN_eq (Nat.le_refl _) (fun j u hj hu => ?_) (fun u hu => ?_)
        · rw [getD_some (by omega)] at hu
          injection hu with hu
          subst hu
          exact HE.out j (by omega)
        · simp at hu
      go_wp2
      go_ret
      rw [HX2.out]
      exact ⟨rfl, HV.out.trans (hbr.mono (by omega))⟩
end Go.Proofs.Ytcfhkggijdjagaa
