/-
  The law PackCuts holds: at every argument it returns true, and its argument reads as it read before.
-/
import Derived.Test.YtgkbefeiknfjcaaStructs
import Derived.Test.YtgkbefeiknfjcaaCuts
namespace Go.Proofs.Ytgkbefeiknfjcaa
open Go.ChangeShapes Go.WideShapes Go.ChangeAt Go.RowKit Go.Joins
open Go.ChangeMaps (open_string shut_string)
namespace PackCutsRow
theorem own : ownKnob Try.prog.godebug = none := by kernel_rfl

set_option maxRecDepth 100000 in
theorem lifted (os : Os) (started : os.Started) (H : Type) (enc : TypeId × Value → H) :
    ReturnsInHanded {} Try.checked os 7 .any (Rows.packCutsSpec.pre6 enc Try.prog Try.f7 Rows.packCutsRow.domain false) (Rows.packCutsSpec.post enc Try.prog Try.f7 false true false false) := by
  refine returnsInHanded_of_change (C := Try.checked) own started (by kernel_rfl) Try.func7
    (ChangeSpec.witness6 (enc := enc) (C := Try.checked) false ⟨#[], #[.agg #[.int .u64 0, .string ⟨#[]⟩, .int .u64 0, .int .u32 0, .int .i64 0]], []⟩ 8 (by kernel_rfl) (by kernel_rfl) (by kernel_rfl) (by kernel_rfl)) ?_
  intro W base args ds gs before hval0 hW _ _
  have hval : ∀ (j : Nat) t v, Try.f7.params[j]? = some t → args[j]? = some v → Value.okWide Try.prog W .any base t v := hval0
  have hW' := hW
  obtain ⟨p, q, hA0, hV, rfl, hfz, hnd⟩ := hW
  have hA : DataW.TrodAll enc Try.prog W 0 (fun _ => true) true Try.f7.params.toList args.toList ds p := hA0
  rw [Try.params7] at hA hval
  obtain ⟨v0, vs0, d0, ds0, p0, q0, hargs, rfl, rfl, h0, r0⟩ := trodAll_cons hA
  obtain ⟨rfl, rfl, rfl⟩ := trodAll_nil r0
  obtain rfl : args = #[v0] := by cases args; simp_all
  obtain ⟨rfl, rfl⟩ := trodVars_none hV
  obtain ⟨cs, rfl, hsz⟩ := okWide_struct Try.underlying60 (hval 0 60 v0 rfl rfl)
  obtain ⟨fuel, hf⟩ := h0
  obtain ⟨n, s, a, b, c, hcs, hx, w0, w1, w2, w3, w4⟩ := cut_open hf
  simp only [Prod.mk.injEq] at hx
  obtain ⟨rfl, rfl⟩ := hx
  obtain rfl : cs = #[.int .u64 n, .string s, .int .u64 a, .int .u32 b, .int .i64 c] := by
    apply Array.ext'
    simpa [Value.cells] using hcs
  have bn := bounds_u64 w0
  have ba := bounds_u64 w2
  have bb := bounds_u32 w3
  have bc : -9223372036854775808 ≤ c ∧ c ≤ 9223372036854775807 := by simpa [Lit.wf, IntKind.min, IntKind.max, IntKind.signed, IntKind.bits] using w4
  clear hA0 hval0
  simp only [List.append_nil] at hW'
  have hw : Calls Try.prog 7 #[.agg #[.int .u64 n, .string s, .int .u64 a, .int .u32 b, .int .i64 c]] W fun e w' => e = .returned (.bool true) ∧ Below W.heap.size W w' := by
    obtain ⟨n, rfl⟩ := Int.eq_ofNat_of_zero_le bn.1
    obtain ⟨a, rfl⟩ := Int.eq_ofNat_of_zero_le ba.1
    obtain ⟨b, rfl⟩ := Int.eq_ofNat_of_zero_le bb.1
    have hsl : s.data.toList.length = s.size := by simp
    have hs2 : s.data.toList.length < 9223372036854775808 := by simp only [maxLen] at w1; omega
    have h := cuts7 n s.data.toList a b c W (by have := bn.2; omega) (by have := ba.2; omega) (by have := bb.2; omega) hs2 bc.1 bc.2
    rw [bs_of] at h
    exact h
  have sr0 : ∀ (W' : World) (sp : Nat → Bool), DataW.Trod enc Try.prog W' 0 sp true 60 (.agg #[.int .u64 n, .string s, .int .u64 a, .int .u32 b, .int .i64 c]) (.agg [.lit (.int .u64 n), .lit (.string s.data.toList), .agg [.lit (.int .u64 a), .lit (.int .u32 b)], .lit (.int .i64 c)]) [] := fun W' sp =>
    ⟨3, by simpa [Value.cells] using cut_shut w0 w1 w2 w3 w4⟩
  refine hw.mono fun e W' ⟨he, bel⟩ => ?_
  subst he
  exact ⟨_, rfl, _, _, _, [], [], [], hW', trodAll_mk1 (shut_bool Try.underlying4 _), trodAll_mk1 (sr0 _ _), rfl, bel.frame _, fun h => by cases h⟩
end PackCutsRow

theorem packCuts_holds : Rows.PackCutsSaid :=
  OpenClaim.holds_of_wide 7 Try.f7 rfl rfl rfl rfl rfl rfl rfl ⟨rfl, rfl, rfl, rfl, rfl⟩ rfl rfl rfl rfl rfl (by kernel_rfl) Try.func7 (by kernel_rfl)
    (of_decide_eq_true (by kernel_rfl)) (by unfold Func.isWrapper; first | (rw [if_pos (by decide +kernel)]; kernel_rfl) | (rw [if_neg (by decide +kernel)]; exact ⟨rfl, rfl⟩))
    (fun os started H enc _ => PackCutsRow.lifted os started H enc)
#print axioms packCuts_holds
end Go.Proofs.Ytgkbefeiknfjcaa
