/-
  The law ClockBounds holds: at every stamp and list of readings it returns true, and its arguments read as they read before.
-/
import Derived.Test.YtiknfijaadbmeaaRows
import Derived.Test.YtiknfijaadbmeaaBounds
import Derived.ProofKit
import Derived.OpenShut
import Derived.Lib.SmallJoins
import Derived.SizedLaws
import Derived.Deep.Strs
namespace Go.Proofs.Ytiknfijaadbmeaa
open Go.ChangeShapes Go.WideShapes Go.ChangeAt Go.RowKit Go.Joins Go.Deep
namespace ClockBoundsRow
theorem own : ownKnob Try.prog.godebug = none := by kernel_rfl
theorem laidOut : laidOutB Try.prog = true := by kernel_rfl
theorem cells25 : Try.prog.cellsOf 25 = 2 := by kernel_rfl
theorem c22 : Try.prog.cellsOf 22 = 1 := by kernel_rfl

theorem row_open {H : Type} {enc : TypeId × Value → H} {w : World} {base : Nat} {spare : Nat → Bool} {held : Bool} {fuel : Nat} {v : Value} {x : DataW H × List MemPlace} (h : DataW.trod enc Try.prog w base spare held fuel 38 [v] = some x) :
    ∃ (rs : List Int) (ao : Option Addr) (b off cap : Nat), v = .slice ao rs.length cap ∧ (0 < rs.length → ao = some ⟨b, off, none⟩) ∧ (∀ i, i < rs.length → w.cell? ⟨b, off + i, none⟩ = some (.int .u64 (rs.getD i 0))) ∧ (∀ i, 0 ≤ rs.getD i 0) := by
  rcases open_ints Try.underlying38 Try.underlying22 c22 h with ⟨hcs, _⟩ | ⟨a, len, cap, zs, hcs, _, hl, hm, hz, _, hcell, hwf⟩
  · simp at hcs
    subst hcs
    exact ⟨[], none, 0, 0, 0, rfl, fun h => absurd h (by simp), fun i hi => absurd hi (by simp), by simp⟩
  · simp at hcs
    subst hcs
    have hzl : len ≤ zs.length := by rw [hz]; split <;> omega
    obtain ⟨b, off, spot⟩ := a
    have hlen : (zs.take len).length = len := by simp; omega
    have hget : ∀ i, i < len → (zs.take len).getD i 0 = zs.getD i 0 := fun i hi => by simp [List.getD, hi]
    have hsp : 0 < len → spot = none := fun h0 => by simpa [Addr.add] using World.cell?_spot (hcell 0 (by omega))
    refine ⟨zs.take len, some ⟨b, off, spot⟩, b, off, cap, by rw [hlen], fun h0 => ?_, fun i hi => ?_, fun i => ?_⟩
    · rw [hlen] at h0
      rw [hsp h0]
    · rw [hlen] at hi
      have := hcell i (by omega)
      rw [hsp (by omega), add_plain] at this
      rw [this, hget i hi]
    · by_cases hi : i < len
      · rw [hget i hi]
        have hmem : zs.getD i 0 ∈ zs := by
          have hiz : i < zs.length := by omega
          rw [show zs.getD i 0 = zs[i] from by simp [List.getD, hiz]]
          exact List.getElem_mem _
        exact (bounds_u64 (hwf _ hmem)).1
      · rw [List.getD_eq_getElem?_getD, List.getElem?_eq_none (by omega)]
        simp

set_option maxRecDepth 100000 in
theorem lifted (os : Os) (started : os.Started) (H : Type) (enc : TypeId × Value → H) :
    ReturnsInHanded {} Try.checked os 5 .any (Rows.clockBoundsSpec.pre6 enc Try.prog Try.f5 Rows.clockBoundsRow.domain false) (Rows.clockBoundsSpec.post enc Try.prog Try.f5 false true false false) := by
  refine returnsInHanded_of_change_sized (C := Try.checked) own started (by kernel_rfl) Try.func5
    (ChangeSpec.witness6 (enc := enc) (C := Try.checked) false ⟨#[], #[.agg #[.int .u64 0, .int .u32 0], .slice none 0 0], []⟩ 8 (by kernel_rfl) (by kernel_rfl) (by kernel_rfl) (by kernel_rfl)) ?_
  intro W base args ds gs before hval0 hW _ _ _
  have hval : ∀ (j : Nat) t v, Try.f5.params[j]? = some t → args[j]? = some v → Value.okWide Try.prog W .any base t v := hval0
  have hW' := hW
  obtain ⟨p, q, hA0, hV, rfl, hfz, hnd⟩ := hW
  have hA : DataW.TrodAll enc Try.prog W 0 (fun _ => true) true Try.f5.params.toList args.toList ds p := hA0
  rw [Try.params5] at hA hval
  obtain ⟨v0, v1, d0, d1, p0, p1, rfl, rfl, rfl, h0, h1⟩ := trodAll_two hA
  obtain ⟨rfl, rfl⟩ := trodVars_none hV
  obtain ⟨x0, z0, y0, u0, m0, rfl, rfl, rfl, hy0, hu0⟩ := open_agg2 Try.underlying25 (by kernel_rfl) cells25 (hval 0 25 v0 rfl rfl) h0
  obtain ⟨a0, e0, rfl, wa0⟩ := DataW.trod_int Try.underlying22 hy0
  obtain ⟨b0, g0, rfl, wb0⟩ := DataW.trod_int Try.underlying23 hu0
  simp at e0 g0
  subst e0 g0
  have ba0 := bounds_u64 wa0
  have bb0 := bounds_u32 wb0
  have sr0 : ∀ (W' : World) (sp : Nat → Bool), DataW.Trod enc Try.prog W' 0 sp true 25 (.agg #[.int .u64 a0, .int .u32 b0]) (.agg [.lit (.int .u64 a0), .lit (.int .u32 b0)]) [] := fun W' sp =>
    shut_agg2 (y0 := (.lit (.int .u64 a0), [])) (y1 := (.lit (.int .u32 b0), [])) Try.underlying25 (by kernel_rfl) cells25 ⟨1, by simp [DataW.trod, Try.underlying22, wa0]⟩ ⟨1, by simp [DataW.trod, Try.underlying23, wb0]⟩
  obtain ⟨a1, len, cap, rfl⟩ := okWide_slice Try.underlying38 (hval 1 38 v1 rfl rfl)
  have h1k := h1
  obtain ⟨fuel, hf⟩ := h1
  obtain ⟨rs, ao, b, off, cap', hsl, hao, hcell, hbd⟩ := row_open (v := .slice a1 len cap) (by simpa [Value.cells] using hf)
  clear hA0 hval0 hA
  simp only [List.append_nil] at hW'
  have hlt : ∀ x ∈ p1, x.block < W.heap.size := fun x hx => by simpa using hW'.lt x (by simp [hx])
  have hw := bounds_any a0 b0 rs ao b off cap' W ba0.1 bb0.1 hao hcell hbd
  rw [← hsl] at hw
  refine hw.mono fun e W' ⟨he, bel⟩ => ?_
  subst he
  exact ⟨_, rfl, _, _, _, _, _, [], hW', trodAll_mk1 (shut_bool Try.underlying4 _), trodAll_mk2 (sr0 _ _) (Below.trod laidOut (by kernel_rfl) (of_decide_eq_true (by kernel_rfl)) h1k bel hlt), rfl, bel.frame _, fun h => by cases h⟩
end ClockBoundsRow

theorem clockBounds_holds : Rows.ClockBoundsSaid :=
  OpenClaim.holds_of_wide 5 Try.f5 rfl rfl rfl rfl rfl rfl rfl ⟨rfl, rfl, rfl, rfl, rfl⟩ rfl rfl rfl rfl rfl (by kernel_rfl) Try.func5 (by kernel_rfl)
    (of_decide_eq_true (by kernel_rfl)) (by unfold Func.isWrapper; first | (rw [if_pos (by decide +kernel)]; kernel_rfl) | (rw [if_neg (by decide +kernel)]; exact ⟨rfl, rfl⟩))
    (fun os started H enc _ => ClockBoundsRow.lifted os started H enc)
#print axioms clockBounds_holds
end Go.Proofs.Ytiknfijaadbmeaa
