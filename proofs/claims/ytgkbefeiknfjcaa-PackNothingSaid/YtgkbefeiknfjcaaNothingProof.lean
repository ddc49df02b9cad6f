/-
  The law PackNothing holds: at every number, text and stamp it returns true, and its arguments read as they read before.
-/
import Derived.Test.YtgkbefeiknfjcaaRows
import Derived.Test.YtgkbefeiknfjcaaNothing
import Derived.ProofKit
import Derived.OpenShut
import Derived.Lib.SmallJoins
import Derived.SizedLaws
import Derived.ShutString
namespace Go.Proofs.Ytgkbefeiknfjcaa
open Go.ChangeShapes Go.WideShapes Go.ChangeAt Go.RowKit Go.Joins
open Go.ChangeMaps (open_string shut_string)
namespace PackNothingRow
theorem own : ownKnob Try.prog.godebug = none := by kernel_rfl
theorem cells31 : Try.prog.cellsOf 31 = 2 := by kernel_rfl

set_option maxRecDepth 100000 in
theorem lifted (os : Os) (started : os.Started) (H : Type) (enc : TypeId × Value → H) :
    ReturnsInHanded {} Try.checked os 6 .any (Rows.packNothingSpec.pre6 enc Try.prog Try.f6 Rows.packNothingRow.domain false) (Rows.packNothingSpec.post enc Try.prog Try.f6 false true false false) := by
  refine returnsInHanded_of_change (C := Try.checked) own started (by kernel_rfl) Try.func6
    (ChangeSpec.witness6 (enc := enc) (C := Try.checked) false ⟨#[], #[.int .u64 0, .string ⟨#[]⟩, .agg #[.int .u64 0, .int .u32 0]], []⟩ 8 (by kernel_rfl) (by kernel_rfl) (by kernel_rfl) (by kernel_rfl)) ?_
  intro W base args ds gs before hval0 hW _ _
  have hval : ∀ (j : Nat) t v, Try.f6.params[j]? = some t → args[j]? = some v → Value.okWide Try.prog W .any base t v := hval0
  have hW' := hW
  obtain ⟨p, q, hA0, hV, rfl, hfz, hnd⟩ := hW
  have hA : DataW.TrodAll enc Try.prog W 0 (fun _ => true) true Try.f6.params.toList args.toList ds p := hA0
  rw [Try.params6] at hA hval
  obtain ⟨v0, vs0, d0, ds0, p0, q0, hargs, rfl, rfl, h0, r0⟩ := trodAll_cons hA
  obtain ⟨v1, vs1, d1, ds1, p1, q1, hargs1, rfl, rfl, h1, r1⟩ := trodAll_cons r0
  obtain ⟨v2, vs2, d2, ds2, p2, q2, hargs2, rfl, rfl, h2, r2⟩ := trodAll_cons r1
  obtain ⟨rfl, rfl, rfl⟩ := trodAll_nil r2
  obtain rfl : args = #[v0, v1, v2] := by cases args; simp_all
  obtain ⟨rfl, rfl⟩ := trodVars_none hV
  obtain ⟨a0, rfl, rfl, rfl, w0⟩ := open_int Try.underlying28 (hval 0 28 v0 rfl rfl) h0
  obtain ⟨s, rfl, rfl, rfl, hs⟩ := open_string Try.underlying9 (hval 1 9 v1 rfl rfl) h1
  obtain ⟨x0, z0, y0, u0, m0, rfl, rfl, rfl, hy0, hu0⟩ := open_agg2 Try.underlying31 (by kernel_rfl) cells31 (hval 2 31 v2 rfl rfl) h2
  obtain ⟨b0, e0, rfl, wb0⟩ := DataW.trod_int Try.underlying28 hy0
  obtain ⟨c0, g0, rfl, wc0⟩ := DataW.trod_int Try.underlying29 hu0
  simp at e0 g0
  subst e0 g0
  have bb0 := bounds_u64 wb0
  have bc0 := bounds_u32 wc0
  have sr0 : ∀ (W' : World) (sp : Nat → Bool), DataW.Trod enc Try.prog W' 0 sp true 31 (.agg #[.int .u64 b0, .int .u32 c0]) (.agg [.lit (.int .u64 b0), .lit (.int .u32 c0)]) [] := fun W' sp =>
    shut_agg2 (y0 := (.lit (.int .u64 b0), [])) (y1 := (.lit (.int .u32 c0), [])) Try.underlying31 (by kernel_rfl) cells31 ⟨1, by simp [DataW.trod, Try.underlying28, wb0]⟩ ⟨1, by simp [DataW.trod, Try.underlying29, wc0]⟩
  clear hA0 hval0
  simp only [List.append_nil] at hW'
  have hw : Calls Try.prog 6 #[.int .u64 a0, .string s, .agg #[.int .u64 b0, .int .u32 c0]] W fun e w' => e = .returned (.bool true) ∧ Below W.heap.size W w' := by
    obtain ⟨pn, rfl⟩ := Int.eq_ofNat_of_zero_le bb0.1
    obtain ⟨ln, rfl⟩ := Int.eq_ofNat_of_zero_le bc0.1
    exact nothing6 a0 s pn ln W
  refine hw.mono fun e W' ⟨he, bel⟩ => ?_
  subst he
  exact ⟨_, rfl, _, _, _, [], [], [], hW', trodAll_mk1 (shut_bool Try.underlying4 _), trodAll_cons_mk (shut_int Try.underlying28 w0) (trodAll_cons_mk (shut_string Try.underlying9 hs) (trodAll_cons_mk (sr0 _ _) trodAll_mk0)), rfl, bel.frame _, fun h => by cases h⟩
end PackNothingRow

theorem packNothing_holds : Rows.PackNothingSaid :=
  OpenClaim.holds_of_wide 6 Try.f6 rfl rfl rfl rfl rfl rfl rfl ⟨rfl, rfl, rfl, rfl, rfl⟩ rfl rfl rfl rfl rfl (by kernel_rfl) Try.func6 (by kernel_rfl)
    (of_decide_eq_true (by kernel_rfl)) (by unfold Func.isWrapper; first | (rw [if_pos (by decide +kernel)]; kernel_rfl) | (rw [if_neg (by decide +kernel)]; exact ⟨rfl, rfl⟩))
    (fun os started H enc _ => PackNothingRow.lifted os started H enc)
#print axioms packNothing_holds
end Go.Proofs.Ytgkbefeiknfjcaa
