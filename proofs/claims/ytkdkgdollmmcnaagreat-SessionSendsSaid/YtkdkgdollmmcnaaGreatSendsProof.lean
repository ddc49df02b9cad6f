/-
  SessionSends: for every two numbers and every list of acts the law answers true, and its arguments read as they did. No condition is added.
-/
import Derived.Test.YtkdkgdollmmcnaaGreatSg
import Derived.Test.YtkdkgdollmmcnaaGreatWcb
set_option maxHeartbeats 4000000
set_option maxRecDepth 100000
set_option linter.unusedVariables false
set_option linter.unusedSimpArgs false
namespace Go.Proofs.YtkdkgdollmmcnaaGreat
open Go.ChangeShapes Go.WideShapes Go.ChangeAt Go.RowKit Go.Joins Go.Deep
theorem sends4all (c n : Int) (acts : List Ac) (ao : Option Addr) (cap : Nat) (w : World) (hA : RwAt w.heap.size 53 (.slice ao acts.length cap) acts.length (rowC acc acts) w) (hO : ∀ a ∈ acts, AcOk w a) : Calls Tryz.prog 4 #[iw c, iw n, .slice ao acts.length cap] w fun e w' => e = .returned (.bool true) ∧ Below w.heap.size w w' := by
 by_cases h : 0 ≤ c ∧ c < 4 ∧ 1 ≤ n ∧ n ≤ 8
 ·obtain ⟨k, rfl⟩ := Int.eq_ofNat_of_zero_le h.1
  obtain ⟨m, rfl⟩ := Int.eq_ofNat_of_zero_le (show 0 ≤ n by omega)
  exact sends4 k m (by omega) (by omega) acts ao cap w hA hO
 ·exact sends4bad c n h ao _ cap w
namespace SessionSendsRow
theorem lifted (os : Os) (started : os.Started) (H : Type) (enc : TypeId × Value → H) :
  ReturnsInHanded {} Tryz.checked os 4 .any (Rows.sessionSendsSpec.pre6 enc Tryz.prog Tryz.f4 Rows.sessionSendsRow.domain false) (Rows.sessionSendsSpec.post enc Tryz.prog Tryz.f4 false true false false) := by
 refine returnsInHanded_of_change_sized (C := Tryz.checked) Opn.own started (by kernel_rfl) Tryz.func4
  (ChangeSpec.witness6 (enc := enc) (C := Tryz.checked) false ⟨#[], #[iw 0, iw 0, sy], []⟩ 8 (by kernel_rfl) (by kernel_rfl) (by kernel_rfl) (by kernel_rfl)) ?_
 intro W base args ds gs before hval0 hW _ _ _
 have hval : ∀ (j : Nat) t v, Tryz.f4.params[j]? = some t → args[j]? = some v → Value.okWide Tryz.prog W .any base t v := hval0
 have hW' := hW
 obtain ⟨p, q, hA0, hV, rfl, hfz, hnd⟩ := hW
 have hA : DataW.TrodAll enc Tryz.prog W 0 (fun _ => true) true Tryz.f4.params.toList args.toList ds p := hA0
 rw [Tryz.params4] at hA hval
 obtain ⟨v0, v1, v2, d0, d1, d2, p0, p1, p2, rfl, rfl, rfl, h0, h1, h2⟩ := trodAll_three hA
 obtain ⟨rfl, rfl⟩ := trodVars_none hV
 have h0k := h0
 have h1k := h1
 have h2k := h2
 obtain ⟨q0, rfl⟩ := okWide_int Tryz.underlying3 (hval 0 3 v0 rfl rfl)
 obtain ⟨q1, rfl⟩ := okWide_int Tryz.underlying3 (hval 1 3 v1 rfl rfl)
 obtain ⟨ao, len, cap, rfl⟩ := okWide_slice Tryz.underlying22 (hval 2 22 v2 rfl rfl)
 obtain ⟨f2, hf2⟩ := h2
 obtain ⟨L, ao', cap', e, hL, hO⟩ := Opn.acts_open (by simpa [Value.cells] using hf2)
 injection e with e1 e2 e3
 subst e1 e2 e3
 clear hA0 hval0 hA
 simp only [List.append_nil] at hW'
 have hlt : ∀ x ∈ p0 ++ p1 ++ p2, x.block < W.heap.size := fun x hx => by simpa using hW'.lt x (by simpa using hx)
 refine (sends4all q0 q1 L _ _ W hL hO).mono fun e W' ⟨he, bel⟩ => ?_
 subst he
 exact ⟨_, rfl, _, _, _, _, _, [], hW', trodAll_mk1 (shut_bool Tryz.underlying4 _), trodAll_mk3 (Below.trod Opn.laidOut (by kernel_rfl) (of_decide_eq_true (by kernel_rfl)) h0k bel fun x hx => hlt x (by simp [hx])) (Below.trod Opn.laidOut (by kernel_rfl) (of_decide_eq_true (by kernel_rfl)) h1k bel fun x hx => hlt x (by simp [hx])) (Below.trod Opn.laidOut (by kernel_rfl) (of_decide_eq_true (by kernel_rfl)) h2k bel fun x hx => hlt x (by simp [hx])), rfl, bel.frame _, fun h => by cases h⟩
end SessionSendsRow
theorem sessionSends_holds : Rows.SessionSendsSaid :=
 OpenClaim.holds_of_wide 4 Tryz.f4 rfl rfl rfl rfl rfl rfl rfl ⟨rfl, rfl, rfl, rfl, rfl⟩ rfl rfl rfl rfl rfl Nob.named Tryz.func4 Nob.closed Nob.inst Nob.wrap
  (fun os started H enc _ => SessionSendsRow.lifted os started H enc)
#print axioms sessionSends_holds
end Go.Proofs.YtkdkgdollmmcnaaGreat
