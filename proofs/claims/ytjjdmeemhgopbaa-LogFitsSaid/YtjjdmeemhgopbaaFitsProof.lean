/-
  The law LogFits holds: at every list of texts and every room it returns true, and its arguments read as they read before.
-/
import Derived.Test.YtjjdmeemhgopbaaRows
import Derived.Test.YtjjdmeemhgopbaaFits
import Derived.ProofKit
import Derived.OpenShut
import Derived.Lib.SmallJoins
import Derived.Deep.Strs
namespace Go.Proofs.Ytjjdmeemhgopbaa
open Go.ChangeShapes Go.WideShapes Go.ChangeAt Go.RowKit Go.Joins Go.Deep
namespace LogFitsRow
theorem own : ownKnob Try.prog.godebug = none := by kernel_rfl
theorem laidOut : laidOutB Try.prog = true := by kernel_rfl
theorem c9 : Try.prog.cellsOf 9 = 1 := by kernel_rfl

set_option maxRecDepth 100000 in
theorem lifted (os : Os) (started : os.Started) (H : Type) (enc : TypeId × Value → H) :
    ReturnsInHanded {} Try.checked os 5 .any (Rows.logFitsSpec.pre6 enc Try.prog Try.f5 Rows.logFitsRow.domain false) (Rows.logFitsSpec.post enc Try.prog Try.f5 false true false false) := by
  refine returnsInHanded_of_change (C := Try.checked) own started (by kernel_rfl) Try.func5
    (ChangeSpec.witness6 (enc := enc) (C := Try.checked) false ⟨#[], #[.slice none 0 0, .int .i64 0], []⟩ 8 (by kernel_rfl) (by kernel_rfl) (by kernel_rfl) (by kernel_rfl)) ?_
  intro W base args ds gs before hval0 hW _ _
  have hval : ∀ (j : Nat) t v, Try.f5.params[j]? = some t → args[j]? = some v → Value.okWide Try.prog W .any base t v := hval0
  have hW' := hW
  obtain ⟨p, q, hA0, hV, rfl, hfz, hnd⟩ := hW
  have hA : DataW.TrodAll enc Try.prog W 0 (fun _ => true) true Try.f5.params.toList args.toList ds p := hA0
  rw [Try.params5] at hA hval
  obtain ⟨v0, v1, d0, d1, p0, p1, rfl, rfl, rfl, h0, h1⟩ := trodAll_two hA
  obtain ⟨rfl, rfl⟩ := trodVars_none hV
  obtain ⟨c, rfl, rfl, rfl, wc⟩ := open_int Try.underlying3 (hval 1 3 v1 rfl rfl) h1
  obtain ⟨a0, len, cap, rfl⟩ := okWide_slice Try.underlying33 (hval 0 33 v0 rfl rfl)
  have h0k := h0
  obtain ⟨fuel, hf⟩ := h0
  clear hA0 hval0 hA
  simp only [List.append_nil] at hW'
  have hlt : ∀ x ∈ p0, x.block < W.heap.size := fun x hx => by simpa using hW'.lt x (by simp [hx])
  have fin : ∀ (ls : List (List UInt8)) (b off : Nat), len = ls.length → (0 < ls.length → a0 = some ⟨b, off, none⟩) → (∀ i, i < ls.length → W.cell? ⟨b, off + i, none⟩ = some (.string (bs (ls.getD i [])))) →
      Calls Try.prog 5 #[.slice a0 len cap, .int .i64 c] W fun e w' => e = .returned (.bool true) ∧ Below W.heap.size W w' := by
    intro ls b off hlen hao hcell
    subst hlen
    exact fits5 (.slice a0 ls.length cap) ls c W ⟨a0, cap, rfl, fun h => ⟨b, off, hao h, hcell⟩⟩
  have hw : Calls Try.prog 5 #[.slice a0 len cap, .int .i64 c] W fun e w' => e = .returned (.bool true) ∧ Below W.heap.size W w' := by
    rcases open_strs Try.underlying33 Try.underlying9 c9 hf with ⟨hcs, hx⟩ | ⟨a, len', cap', m, Sx, hcs, _, hl, hm, hmm, hx, hcell⟩
    · simp [Value.cells] at hcs
      obtain ⟨rfl, rfl, rfl⟩ := hcs
      exact fin [] 0 0 rfl (fun h => absurd h (by simp)) (fun i hi => absurd hi (by simp))
    · simp [Value.cells] at hcs
      obtain ⟨rfl, rfl, rfl⟩ := hcs
      simp only [if_true] at hmm
      obtain rfl : cap = m := hmm.symm
      obtain ⟨b, off, spot⟩ := a
      refine fin ((List.range len).map fun i => (Sx i).data.toList) b off (by simp) ?_ ?_
      · intro h
        have hc := (hcell 0 (by simp at h; omega)).1
        have hspot : spot = none := by simpa [Addr.add] using World.cell?_spot hc
        rw [hspot]
      · intro i hi
        have hi' : i < len := by simpa using hi
        have hc0 := (hcell 0 (by omega)).1
        have hspot : spot = none := by simpa [Addr.add] using World.cell?_spot hc0
        subst hspot
        have hc := (hcell i (by omega)).1
        rw [Addr.add_lit] at hc
        rw [hc]
        congr 2
        simp [List.getD, hi', bs_of]
  refine hw.mono fun e W' ⟨he, bel⟩ => ?_
  subst he
  exact ⟨_, rfl, _, _, _, _, _, [], hW', trodAll_mk1 (shut_bool Try.underlying4 _), trodAll_mk2 (Below.trod laidOut (by kernel_rfl) (of_decide_eq_true (by kernel_rfl)) h0k bel hlt) (shut_int Try.underlying3 wc), rfl, bel.frame _, fun h => by cases h⟩
end LogFitsRow

theorem logFits_holds : Rows.LogFitsSaid :=
  OpenClaim.holds_of_wide 5 Try.f5 rfl rfl rfl rfl rfl rfl rfl ⟨rfl, rfl, rfl, rfl, rfl⟩ rfl rfl rfl rfl rfl (by kernel_rfl) Try.func5 (by kernel_rfl)
    (of_decide_eq_true (by kernel_rfl)) (by unfold Func.isWrapper; first | (rw [if_pos (by decide +kernel)]; kernel_rfl) | (rw [if_neg (by decide +kernel)]; exact ⟨rfl, rfl⟩))
    (fun os started H enc _ => LogFitsRow.lifted os started H enc)
#print axioms logFits_holds
end Go.Proofs.Ytjjdmeemhgopbaa
