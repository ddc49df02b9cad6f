/-
  The law ClockTalks holds: at every talk it returns true, and its argument reads as it read before.
-/
import Derived.Test.YtiknfijaadbmeaaRows
import Derived.Test.YtiknfijaadbmeaaTalks
import Derived.ProofKit
import Derived.OpenShut
import Derived.Lib.SmallJoins
import Derived.SizedLaws
import Derived.ShutString
import Derived.Deep.Strs
namespace Go.Proofs.Ytiknfijaadbmeaa
open Go.ChangeShapes Go.WideShapes Go.ChangeAt Go.RowKit Go.Joins Go.Deep
namespace ClockTalksRow
theorem own : ownKnob Try.prog.godebug = none := by kernel_rfl
theorem laidOut : laidOutB Try.prog = true := by kernel_rfl
theorem c22 : Try.prog.cellsOf 22 = 1 := by kernel_rfl
theorem c23 : Try.prog.cellsOf 23 = 1 := by kernel_rfl
theorem c25 : Try.prog.cellsOf 25 = 2 := by kernel_rfl
theorem c40 : Try.prog.cellsOf 40 = 1 := by kernel_rfl
theorem c42 : Try.prog.cellsOf 42 = 6 := by kernel_rfl

section
variable {H : Type} {enc : TypeId × Value → H} {w : World} {base : Nat} {spare : Nat → Bool} {held : Bool}

theorem ts_open {fuel : Nat} {cs : List Value} {x : DataW H × List MemPlace} (h : DataW.trod enc Try.prog w base spare held fuel 25 cs = some x) :
    ∃ p q : Int, cs = [.int .u64 p, .int .u32 q] ∧ (Lit.int .u64 p).wf = true ∧ (Lit.int .u32 q).wf = true := by
  obtain ⟨y0, y1, n, rfl, hl, h0, h1⟩ := trod_struct2 Try.underlying25 h
  rw [c25] at hl
  match cs, hl with
  | [c0, c1], _ =>
    simp only [c22, c23, List.drop_zero, List.take_succ_cons, List.take_zero, List.drop_succ_cons] at h0 h1
    obtain ⟨p, e0, rfl, w0⟩ := DataW.trod_int Try.underlying22 h0
    obtain ⟨q, e1, rfl, w1⟩ := DataW.trod_int Try.underlying23 h1
    simp only [List.cons.injEq, and_true] at e0 e1
    subst e0 e1
    exact ⟨p, q, rfl, w0, w1⟩

theorem talk_open {fuel : Nat} {cs : List Value} {x : DataW H × List MemPlace} (h : DataW.trod enc Try.prog w base spare held fuel 42 cs = some x) :
    ∃ (a0 a1 b0 b1 f y : Int), cs = [.int .u64 a0, .int .u32 a1, .int .u64 b0, .int .u32 b1, .int .u64 f, .int .u16 y] ∧ 0 ≤ a0 ∧ 0 ≤ a1 ∧ 0 ≤ b0 ∧ 0 ≤ b1 ∧ 0 ≤ f ∧ 0 ≤ y := by
  obtain ⟨y0, y1, y2, y3, m, rfl, hl, h0, h1, h2, h3⟩ := trod_struct4 Try.underlying42 h
  rw [c42] at hl
  match cs, hl with
  | [k0, k1, k2, k3, k4, k5], _ =>
    simp only [c25, c22, c40, List.drop_zero, List.take_succ_cons, List.take_zero, List.drop_succ_cons] at h0 h1 h2 h3
    obtain ⟨a0, a1, e0, w0, w1⟩ := ts_open h0
    obtain ⟨b0, b1, e1, w2, w3⟩ := ts_open h1
    obtain ⟨f, e2, rfl, w4⟩ := DataW.trod_int Try.underlying22 h2
    obtain ⟨z, e3, rfl, w5⟩ := DataW.trod_int Try.underlying40 h3
    simp only [List.cons.injEq, and_true] at e0 e1 e2 e3
    obtain ⟨e0, e4⟩ := e0
    obtain ⟨e1, e5⟩ := e1
    subst e0 e1 e2 e3 e4 e5
    exact ⟨a0, a1, b0, b1, f, z, rfl, (bounds_u64 w0).1, (bounds_u32 w1).1, (bounds_u64 w2).1, (bounds_u32 w3).1, (bounds_u64 w4).1, (bounds_u16 w5).1⟩
end

set_option maxRecDepth 100000 in
theorem lifted (os : Os) (started : os.Started) (H : Type) (enc : TypeId × Value → H) :
    ReturnsInHanded {} Try.checked os 6 .any (Rows.clockTalksSpec.pre6 enc Try.prog Try.f6 Rows.clockTalksRow.domain false) (Rows.clockTalksSpec.post enc Try.prog Try.f6 false true false false) := by
  refine returnsInHanded_of_change_sized (C := Try.checked) own started (by kernel_rfl) Try.func6
    (ChangeSpec.witness6 (enc := enc) (C := Try.checked) false ⟨#[], #[.agg #[.int .u64 0, .int .u32 0, .int .u64 0, .int .u32 0, .int .u64 0, .int .u16 0]], []⟩ 8 (by kernel_rfl) (by kernel_rfl) (by kernel_rfl) (by kernel_rfl)) ?_
  intro W base args ds gs before hval0 hW _ _ _
  have hval : ∀ (j : Nat) t v, Try.f6.params[j]? = some t → args[j]? = some v → Value.okWide Try.prog W .any base t v := hval0
  have hW' := hW
  obtain ⟨p, q, hA0, hV, rfl, hfz, hnd⟩ := hW
  have hA : DataW.TrodAll enc Try.prog W 0 (fun _ => true) true Try.f6.params.toList args.toList ds p := hA0
  rw [Try.params6] at hA hval
  obtain ⟨v0, d0, rfl, rfl, h0⟩ := trodAll_one hA
  obtain ⟨rfl, rfl⟩ := trodVars_none hV
  obtain ⟨cs, rfl, hsz⟩ := okWide_struct Try.underlying42 (hval 0 42 v0 rfl rfl)
  have h0k := h0
  obtain ⟨fuel, hf⟩ := h0
  obtain ⟨a0, a1, b0, b1, f, y, hcs, i0, i1, i2, i3, i4, i5⟩ := talk_open hf
  obtain rfl : cs = #[.int .u64 a0, .int .u32 a1, .int .u64 b0, .int .u32 b1, .int .u64 f, .int .u16 y] := by
    apply Array.ext'
    simpa [Value.cells] using hcs
  clear hA0 hval0 hA
  simp only [List.append_nil] at hW'
  have hlt : ∀ x ∈ p, x.block < W.heap.size := fun x hx => by simpa using hW'.lt x (by simp [hx])
  refine (talks_any a0 a1 b0 b1 f y W i0 i1 i2 i3 i4 i5).mono fun e W' ⟨he, bel⟩ => ?_
  subst he
  exact ⟨_, rfl, _, _, _, _, _, [], hW', trodAll_mk1 (shut_bool Try.underlying4 _), trodAll_mk1 (Below.trod laidOut (by kernel_rfl) (of_decide_eq_true (by kernel_rfl)) h0k bel hlt), rfl, bel.frame _, fun h => by cases h⟩
end ClockTalksRow

theorem clockTalks_holds : Rows.ClockTalksSaid :=
  OpenClaim.holds_of_wide 6 Try.f6 rfl rfl rfl rfl rfl rfl rfl ⟨rfl, rfl, rfl, rfl, rfl⟩ rfl rfl rfl rfl rfl (by kernel_rfl) Try.func6 (by kernel_rfl)
    (of_decide_eq_true (by kernel_rfl)) (by unfold Func.isWrapper; first | (rw [if_pos (by decide +kernel)]; kernel_rfl) | (rw [if_neg (by decide +kernel)]; exact ⟨rfl, rfl⟩))
    (fun os started H enc _ => ClockTalksRow.lifted os started H enc)
#print axioms clockTalks_holds
end Go.Proofs.Ytiknfijaadbmeaa
