/-
  The law StampOrders holds: at every input it returns true, and its arguments read as they read before; the listed variables of the library start as the program's text lays them.
-/
import Derived.Test.YtdhpcgjkhhldhaaDoorRows
import Derived.Test.YtdhpcgjkhhldhaaDoorCards
import Derived.Test.YtdhpcgjkhhldhaaDoorTie
import Derived.Test.YtdhpcgjkhhldhaaDoorOrdersAny
import Derived.ProofKit
import Derived.LaidMore
import Derived.OpenShut
import Derived.Stop.Joined
import Derived.ChangeOld
import Derived.Lib.SmallJoins
namespace Go.Proofs.YtdhpcgjkhhldhaaDoor
open Go.ChangeShapes Go.WideShapes Go.ChangeAt Go.RowKit Go.Joins
namespace StampOrdersRow
theorem own : ownKnob Tryd.prog.godebug = none := by kernel_rfl
theorem cells25 : Tryd.prog.cellsOf 25 = 2 := by kernel_rfl

theorem door_met (os : Os) (args : Array Value) : laidMetH Tryd.prog Rows.stampOrdersRow.laid ((World.doorLaid Tryd.prog 400 os).forCall (fun _ _ => 0) ⟨#[], args, []⟩).memory :=
  laidMetH_of_parts3 (fuel := 8) (laidMet_of_run' 8 (by kernel_rfl) (by kernel_rfl)) (by kernel_rfl) (by kernel_rfl)

set_option maxRecDepth 100000 in
theorem lifted (os : Os) (started : os.Started) (H : Type) (enc : TypeId × Value → H) :
    ReturnsInHanded {} Tryd.checked os 3 .any (fun w args => (Rows.stampOrdersSpec.pre enc Tryd.prog Tryd.f3 [] false w args ∧ laidMetH Tryd.prog Rows.stampOrdersRow.laid w) ∧ sizedMet enc Tryd.prog Tryd.f3 (OpenSpec.ofChange Rows.stampOrdersSpec) false w args)
      (Rows.stampOrdersSpec.post enc Tryd.prog Tryd.f3 false true false false) := by
  refine returnsInHanded_of_change_and (C := Tryd.checked) (X := fun w _ => laidMetH Tryd.prog Rows.stampOrdersRow.laid w) (fun _ _ _ hh h => h.of_heap hh) own started (by kernel_rfl) Tryd.func3
    (ChangeSpec.witness_shaped (enc := enc) (C := Tryd.checked) (os := os) (X := fun w _ => laidMetH Tryd.prog Rows.stampOrdersRow.laid w) false (World.doorLaid Tryd.prog 400 os) #[.agg #[.int .u64 0, .int .u32 0], .agg #[.int .u64 0, .int .u32 0], .agg #[.int .u64 0, .int .u32 0]] 8 rfl (World.shaped_of_RefB (by kernel_rfl) (by kernel_rfl)) (by kernel_rfl) (by kernel_rfl) (by kernel_rfl) (door_met os _)) ?_
  intro W base args ds gs before hval0 hW _ _ _ _
  have hval : ∀ (j : Nat) t v, Tryd.f3.params[j]? = some t → args[j]? = some v → Value.okWide Tryd.prog W .any base t v := hval0
  have hW' := hW
  obtain ⟨p, q, hA0, hV, rfl, hfz, hnd⟩ := hW
  have hA : DataW.TrodAll enc Tryd.prog W 0 (fun _ => true) true Tryd.f3.params.toList args.toList ds p := hA0
  rw [Tryd.params3] at hA hval
  obtain ⟨v0, v1, v2, d0, d1, d2, p0, p1, p2, rfl, rfl, rfl, h0, h1, h2⟩ := trodAll_three hA
  obtain ⟨rfl, rfl⟩ := trodVars_none hV
  obtain ⟨x0, z0, y0, u0, m0, rfl, rfl, rfl, hy0, hu0⟩ := open_agg2 Tryd.underlying25 (by kernel_rfl) cells25 (hval 0 25 v0 rfl rfl) h0
  obtain ⟨a0, e0, rfl, wa0⟩ := DataW.trod_int Tryd.underlying22 hy0
  obtain ⟨b0, g0, rfl, wb0⟩ := DataW.trod_int Tryd.underlying23 hu0
  simp at e0 g0
  subst e0 g0
  have ba0 := bounds_u64 wa0
  have bb0 := bounds_u32 wb0
  have sr0 : ∀ (W' : World) (sp : Nat → Bool), DataW.Trod enc Tryd.prog W' 0 sp true 25 (.agg #[.int .u64 a0, .int .u32 b0]) (.agg [.lit (.int .u64 a0), .lit (.int .u32 b0)]) [] := fun W' sp =>
    shut_agg2 (y0 := (.lit (.int .u64 a0), [])) (y1 := (.lit (.int .u32 b0), [])) Tryd.underlying25 (by kernel_rfl) cells25 ⟨1, by simp [DataW.trod, Tryd.underlying22, wa0]⟩ ⟨1, by simp [DataW.trod, Tryd.underlying23, wb0]⟩
  obtain ⟨x1, z1, y1, u1, m1, rfl, rfl, rfl, hy1, hu1⟩ := open_agg2 Tryd.underlying25 (by kernel_rfl) cells25 (hval 1 25 v1 rfl rfl) h1
  obtain ⟨a1, e1, rfl, wa1⟩ := DataW.trod_int Tryd.underlying22 hy1
  obtain ⟨b1, g1, rfl, wb1⟩ := DataW.trod_int Tryd.underlying23 hu1
  simp at e1 g1
  subst e1 g1
  have ba1 := bounds_u64 wa1
  have bb1 := bounds_u32 wb1
  have sr1 : ∀ (W' : World) (sp : Nat → Bool), DataW.Trod enc Tryd.prog W' 0 sp true 25 (.agg #[.int .u64 a1, .int .u32 b1]) (.agg [.lit (.int .u64 a1), .lit (.int .u32 b1)]) [] := fun W' sp =>
    shut_agg2 (y0 := (.lit (.int .u64 a1), [])) (y1 := (.lit (.int .u32 b1), [])) Tryd.underlying25 (by kernel_rfl) cells25 ⟨1, by simp [DataW.trod, Tryd.underlying22, wa1]⟩ ⟨1, by simp [DataW.trod, Tryd.underlying23, wb1]⟩
  obtain ⟨x2, z2, y2, u2, m2, rfl, rfl, rfl, hy2, hu2⟩ := open_agg2 Tryd.underlying25 (by kernel_rfl) cells25 (hval 2 25 v2 rfl rfl) h2
  obtain ⟨a2, e2, rfl, wa2⟩ := DataW.trod_int Tryd.underlying22 hy2
  obtain ⟨b2, g2, rfl, wb2⟩ := DataW.trod_int Tryd.underlying23 hu2
  simp at e2 g2
  subst e2 g2
  have ba2 := bounds_u64 wa2
  have bb2 := bounds_u32 wb2
  have sr2 : ∀ (W' : World) (sp : Nat → Bool), DataW.Trod enc Tryd.prog W' 0 sp true 25 (.agg #[.int .u64 a2, .int .u32 b2]) (.agg [.lit (.int .u64 a2), .lit (.int .u32 b2)]) [] := fun W' sp =>
    shut_agg2 (y0 := (.lit (.int .u64 a2), [])) (y1 := (.lit (.int .u32 b2), [])) Tryd.underlying25 (by kernel_rfl) cells25 ⟨1, by simp [DataW.trod, Tryd.underlying22, wa2]⟩ ⟨1, by simp [DataW.trod, Tryd.underlying23, wb2]⟩
  clear hA0 hval0
  simp only [List.append_nil] at hW'
  refine (orders_any a0 b0 a1 b1 a2 b2 W ba0.1 bb0.1 ba1.1 bb1.1 ba2.1 bb2.1).mono fun e W' ⟨he, bel⟩ => ?_
  subst he
  exact ⟨_, rfl, _, _, _, [], [], [], hW', trodAll_mk1 (shut_bool Tryd.underlying4 _), trodAll_mk3 (sr0 _ _) (sr1 _ _) (sr2 _ _), rfl, bel.frame _, fun h => by cases h⟩

theorem said : Rows.StampOrdersSaid :=
  OpenClaim.holds_of_wide 3 Tryd.f3 rfl rfl rfl rfl rfl rfl rfl ⟨rfl, rfl, rfl, rfl, rfl⟩ rfl rfl rfl rfl rfl (by kernel_rfl) Tryd.func3 (by kernel_rfl)
    (of_decide_eq_true (by kernel_rfl)) (by unfold Func.isWrapper; first | (rw [if_pos (by decide +kernel)]; kernel_rfl) | (rw [if_neg (by decide +kernel)]; exact ⟨rfl, rfl⟩))
    (fun os started H enc _ => lifted os started H enc)
end StampOrdersRow

theorem stampOrders_holds : Rows.StampOrdersCardSaid :=
  Claim7.holds_tied_plain_at .later [] [.data, .data, .data] true (true, "66835101f13f9735dbc6d9e367073a92aa23c9880ac74523ee722cd70c18d8cd") true
    StampOrdersRow.said (fun _ h => by cases h) (by kernel_rfl) (fun _ h => by cases h) stampOrders_row_tie rfl ⟨rfl, rfl⟩ (by kernel_rfl) rfl
    (fun f fn hf hfn => by
      obtain rfl : f = 3 := Option.some.inj ((show Tryd.prog.funcNamed Rows.stampOrdersRow.func = some 3 by kernel_rfl).symm.trans hf) |>.symm
      obtain rfl : fn = Tryd.f3 := (Option.some.inj (Tryd.func3.symm.trans hfn)).symm
      exact ⟨by kernel_rfl, fun j t ht => by
        rw [Tryd.params3] at ht
        rcases j with _ | _ | _ | j
        · obtain rfl : t = 25 := by simpa using ht.symm
          exact (show Tryd.prog.wantsStandIn 25 = false by kernel_rfl)
        · obtain rfl : t = 25 := by simpa using ht.symm
          exact (show Tryd.prog.wantsStandIn 25 = false by kernel_rfl)
        · obtain rfl : t = 25 := by simpa using ht.symm
          exact (show Tryd.prog.wantsStandIn 25 = false by kernel_rfl)
        · simp at ht⟩)
    (by kernel_rfl)
#print axioms stampOrders_holds
end Go.Proofs.YtdhpcgjkhhldhaaDoor
