/-
  The law ClockTells holds: at every input it returns true, and its arguments read as they read before.
-/
import Derived.Test.YtiknfijaadbmeaaRows
import Derived.Test.YtiknfijaadbmeaaTells
import Derived.ProofKit
import Derived.OpenShut
import Derived.Lib.SmallJoins
import Derived.SizedLaws
namespace Go.Proofs.Ytiknfijaadbmeaa
open Go.ChangeShapes Go.WideShapes Go.ChangeAt Go.RowKit Go.Joins
namespace ClockTellsRow
theorem own : ownKnob Try.prog.godebug = none := by kernel_rfl
theorem cells25 : Try.prog.cellsOf 25 = 2 := by kernel_rfl

set_option maxRecDepth 100000 in
theorem lifted (os : Os) (started : os.Started) (H : Type) (enc : TypeId × Value → H) :
    ReturnsInHanded {} Try.checked os 3 .any (Rows.clockTellsSpec.pre6 enc Try.prog Try.f3 Rows.clockTellsRow.domain false) (Rows.clockTellsSpec.post enc Try.prog Try.f3 false true false false) := by
  refine returnsInHanded_of_change_sized (C := Try.checked) own started (by kernel_rfl) Try.func3
    (ChangeSpec.witness6 (enc := enc) (C := Try.checked) false ⟨#[], #[.agg #[.int .u64 0, .int .u32 0], .int .u64 0, .agg #[.int .u64 0, .int .u32 0]], []⟩ 8 (by kernel_rfl) (by kernel_rfl) (by kernel_rfl) (by kernel_rfl)) ?_
  intro W base args ds gs before hval0 hW _ _ _
  have hval : ∀ (j : Nat) t v, Try.f3.params[j]? = some t → args[j]? = some v → Value.okWide Try.prog W .any base t v := hval0
  have hW' := hW
  obtain ⟨p, q, hA0, hV, rfl, hfz, hnd⟩ := hW
  have hA : DataW.TrodAll enc Try.prog W 0 (fun _ => true) true Try.f3.params.toList args.toList ds p := hA0
  rw [Try.params3] at hA hval
  obtain ⟨v0, v1, v2, d0, d1, d2, p0, p1, p2, rfl, rfl, rfl, h0, h1, h2⟩ := trodAll_three hA
  obtain ⟨rfl, rfl⟩ := trodVars_none hV
  obtain ⟨x0, z0, y0, u0, m0, rfl, rfl, rfl, hy0, hu0⟩ := open_agg2 Try.underlying25 (by kernel_rfl) cells25 (hval 0 25 v0 rfl rfl) h0
  obtain ⟨a0, e0, rfl, wa0⟩ := DataW.trod_int Try.underlying22 hy0
  obtain ⟨b0, g0, rfl, wb0⟩ := DataW.trod_int Try.underlying23 hu0
  simp at e0 g0
  subst e0 g0
  have ba0 := bounds_u64 wa0
  have bb0 := bounds_u32 wb0
  have sr0 : ∀ (W' : World) (sp : Nat → Bool), DataW.Trod enc Try.prog W' 0 sp true 25 (.agg #[.int .u64 a0, .int .u32 b0]) (.agg [.lit (.int .u64 a0), .lit (.int .u32 b0)]) [] := fun W' sp =>
    shut_agg2 (y0 := (.lit (.int .u64 a0), [])) (y1 := (.lit (.int .u32 b0), [])) Try.underlying25 (by kernel_rfl) cells25 ⟨1, by simp [DataW.trod, Try.underlying22, wa0]⟩ ⟨1, by simp [DataW.trod, Try.underlying23, wb0]⟩
  obtain ⟨a1, rfl, rfl, rfl, wa1⟩ := open_int Try.underlying22 (hval 1 22 v1 rfl rfl) h1
  obtain ⟨x2, z2, y2, u2, m2, rfl, rfl, rfl, hy2, hu2⟩ := open_agg2 Try.underlying25 (by kernel_rfl) cells25 (hval 2 25 v2 rfl rfl) h2
  obtain ⟨a2, e2, rfl, wa2⟩ := DataW.trod_int Try.underlying22 hy2
  obtain ⟨b2, g2, rfl, wb2⟩ := DataW.trod_int Try.underlying23 hu2
  simp at e2 g2
  subst e2 g2
  have ba2 := bounds_u64 wa2
  have bb2 := bounds_u32 wb2
  have sr2 : ∀ (W' : World) (sp : Nat → Bool), DataW.Trod enc Try.prog W' 0 sp true 25 (.agg #[.int .u64 a2, .int .u32 b2]) (.agg [.lit (.int .u64 a2), .lit (.int .u32 b2)]) [] := fun W' sp =>
    shut_agg2 (y0 := (.lit (.int .u64 a2), [])) (y1 := (.lit (.int .u32 b2), [])) Try.underlying25 (by kernel_rfl) cells25 ⟨1, by simp [DataW.trod, Try.underlying22, wa2]⟩ ⟨1, by simp [DataW.trod, Try.underlying23, wb2]⟩
  clear hA0 hval0
  simp only [List.append_nil] at hW'
  refine (tells_any a0 b0 a1 a2 b2 W ba0.1 ba0.2 bb0.1 (bounds_u64 wa1).1 ba2.1 ba2.2 bb2.1).mono fun e W' ⟨he, bel⟩ => ?_
  subst he
  exact ⟨_, rfl, _, _, _, [], [], [], hW', trodAll_mk1 (shut_bool Try.underlying4 _), trodAll_mk3 (sr0 _ _) (shut_int Try.underlying22 wa1) (sr2 _ _), rfl, bel.frame _, fun h => by cases h⟩
end ClockTellsRow

theorem clockTells_holds : Rows.ClockTellsSaid :=
  OpenClaim.holds_of_wide 3 Try.f3 rfl rfl rfl rfl rfl rfl rfl ⟨rfl, rfl, rfl, rfl, rfl⟩ rfl rfl rfl rfl rfl (by kernel_rfl) Try.func3 (by kernel_rfl)
    (of_decide_eq_true (by kernel_rfl)) (by unfold Func.isWrapper; first | (rw [if_pos (by decide +kernel)]; kernel_rfl) | (rw [if_neg (by decide +kernel)]; exact ⟨rfl, rfl⟩))
    (fun os started H enc _ => ClockTellsRow.lifted os started H enc)
#print axioms clockTells_holds
end Go.Proofs.Ytiknfijaadbmeaa
