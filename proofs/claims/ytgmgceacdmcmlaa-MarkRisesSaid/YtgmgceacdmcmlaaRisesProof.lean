/-
  The law MarkRises holds: at every stamp and two lists of stamps it returns true, and its arguments read as they read before.
-/
import Derived.Test.YtgmgceacdmcmlaaRows
import Derived.Test.YtgmgceacdmcmlaaOpen
import Derived.Test.YtgmgceacdmcmlaaRi
import Derived.Test.YtgmgceacdmcmlaaSp
namespace Go.Proofs.Ytgmgceacdmcmlaa
open Go.ChangeShapes Go.WideShapes Go.ChangeAt Go.RowKit Go.Joins Go.Deep
namespace MarkRisesRow

set_option maxRecDepth 100000 in
theorem lifted (os : Os) (started : os.Started) (H : Type) (enc : TypeId × Value → H) :
    ReturnsInHanded {} Try.checked os 4 .any (Rows.markRisesSpec.pre6 enc Try.prog Try.f4 Rows.markRisesRow.domain false) (Rows.markRisesSpec.post enc Try.prog Try.f4 false true false false) := by
  refine returnsInHanded_of_change_sized (C := Try.checked) Opn.own started (by kernel_rfl) Try.func4
    (ChangeSpec.witness6 (enc := enc) (C := Try.checked) false ⟨#[], #[.agg #[.int .u64 0, .int .u32 0], .slice none 0 0, .slice none 0 0], []⟩ 8 (by kernel_rfl) (by kernel_rfl) (by kernel_rfl) (by kernel_rfl)) ?_
  intro W base args ds gs before hval0 hW _ hsz _
  have hval : ∀ (j : Nat) t v, Try.f4.params[j]? = some t → args[j]? = some v → Value.okWide Try.prog W .any base t v := hval0
  have hW' := hW
  obtain ⟨p, q, hA0, hV, rfl, hfz, hnd⟩ := hW
  have hA : DataW.TrodAll enc Try.prog W 0 (fun _ => true) true Try.f4.params.toList args.toList ds p := hA0
  rw [Try.params4] at hA hval
  obtain ⟨v0, v1, v2, d0, d1, d2, p0, p1, p2, rfl, rfl, rfl, h0, h1, h2⟩ := trodAll_three hA
  obtain ⟨rfl, rfl⟩ := trodVars_none hV
  have h0k := h0
  have h1k := h1
  have h2k := h2
  obtain ⟨cs0, rfl, _⟩ := okWide_struct Try.underlying25 (hval 0 25 v0 rfl rfl)
  obtain ⟨f0, hf0⟩ := h0
  obtain ⟨o, hu0, hn0, _⟩ := Opn.ts_open hf0
  obtain rfl : cs0 = #[.int .u64 o.1, .int .u32 o.2] := by
    apply Array.ext'
    simpa [Value.cells, tsc] using hu0
  have hw1 : ∀ n ∈ d1.weights Try.prog 26, n ≤ reachBytes := fun n hn => by
    have h9 := List.all_eq_true.1 hsz n (DataW.weights_mem_each (j := 1) (t := 26) (d := d1) (by simp [Try.params4]) (by simp) n hn)
    simpa using h9
  obtain ⟨ao1, n1, cp1, rfl, _⟩ := okWide_slice Try.underlying26 (hval 1 26 v1 rfl rfl)
  obtain ⟨f1, hf1⟩ := h1
  obtain ⟨a, a1, c1, hu1, hws1, hn1, hk1, hz1⟩ := Opn.tss_open (v := .slice ao1 n1 cp1) (by simpa [Value.cells] using hf1)
  injection hu1 with e1 e1' e1''
  subst e1 e1' e1''
  have hw2 : ∀ n ∈ d2.weights Try.prog 26, n ≤ reachBytes := fun n hn => by
    have h9 := List.all_eq_true.1 hsz n (DataW.weights_mem_each (j := 2) (t := 26) (d := d2) (by simp [Try.params4]) (by simp) n hn)
    simpa using h9
  obtain ⟨ao2, n2, cp2, rfl, _⟩ := okWide_slice Try.underlying26 (hval 2 26 v2 rfl rfl)
  obtain ⟨f2, hf2⟩ := h2
  obtain ⟨c, a2, c2, hu2, hws2, hn2, hk2, hz2⟩ := Opn.tss_open (v := .slice ao2 n2 cp2) (by simpa [Value.cells] using hf2)
  injection hu2 with e2 e2' e2''
  subst e2 e2' e2''
  clear hA0 hval0 hA
  simp only [List.append_nil] at hW'
  have hlt : ∀ x ∈ p0 ++ p1 ++ p2, x.block < W.heap.size := fun x hx => by simpa using hW'.lt x (by simpa using hx)
  refine (rises4 (markIfm 17592186043904 (by decide)) o a c _ _ _ _ W (by have := hk1 hw1; have := hk2 hw2; omega) (by have := hk1 hw1; omega) hn0 hn1 hn2 hws1 hws2).mono fun e W' ⟨he, bel⟩ => ?_
  subst he
  exact ⟨_, rfl, _, _, _, _, _, [], hW', trodAll_mk1 (shut_bool Try.underlying4 _), trodAll_mk3 (Below.trod Opn.laidOut (by kernel_rfl) (of_decide_eq_true (by kernel_rfl)) h0k bel fun x hx => hlt x (by simp [hx])) (Below.trod Opn.laidOut (by kernel_rfl) (of_decide_eq_true (by kernel_rfl)) h1k bel fun x hx => hlt x (by simp [hx])) (Below.trod Opn.laidOut (by kernel_rfl) (of_decide_eq_true (by kernel_rfl)) h2k bel fun x hx => hlt x (by simp [hx])), rfl, bel.frame _, fun h => by cases h⟩
end MarkRisesRow

theorem markRises_holds : Rows.MarkRisesSaid :=
  OpenClaim.holds_of_wide 4 Try.f4 rfl rfl rfl rfl rfl rfl rfl ⟨rfl, rfl, rfl, rfl, rfl⟩ rfl rfl rfl rfl rfl (by kernel_rfl) Try.func4 (by kernel_rfl)
    (of_decide_eq_true (by kernel_rfl)) (by unfold Func.isWrapper; first | (rw [if_pos (by decide +kernel)]; kernel_rfl) | (rw [if_neg (by decide +kernel)]; exact ⟨rfl, rfl⟩))
    (fun os started H enc _ => MarkRisesRow.lifted os started H enc)
#print axioms markRises_holds
end Go.Proofs.Ytgmgceacdmcmlaa
