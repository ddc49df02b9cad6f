/-
  The law EntryApart holds: at every two entries it returns true, and its arguments read as they read before.
-/
import Derived.Test.YtmgjlpgjjeknpaaRows
import Derived.Test.YtmgjlpgjjeknpaaOpen
import Derived.Test.YtmgjlpgjjeknpaaLb
import Derived.Test.YtmgjlpgjjeknpaaKf
namespace Go.Proofs.Ytmgjlpgjjeknpaa
open Go.ChangeShapes Go.WideShapes Go.ChangeAt Go.RowKit Go.Joins Go.Deep
namespace EntryApartRow

set_option maxRecDepth 100000 in
theorem lifted (os : Os) (started : os.Started) (H : Type) (enc : TypeId × Value → H) :
    ReturnsInHanded {} Try.checked os 5 .any (Rows.entryApartSpec.pre6 enc Try.prog Try.f5 Rows.entryApartRow.domain false) (Rows.entryApartSpec.post enc Try.prog Try.f5 false true false false) := by
  refine returnsInHanded_of_change_sized (C := Try.checked) Opn.own started (by kernel_rfl) Try.func5
    (ChangeSpec.witness6 (enc := enc) (C := Try.checked) false ⟨#[], #[.agg #[.int .i64 0, .int .u32 0, .int .u32 0, .int .u64 0, .int .u32 0, .int .u64 0, .int .u32 0, .int .u64 0, .int .u32 0, .string ⟨#[]⟩, .int .u8 0, .bool false, .slice none 0 0], .agg #[.int .i64 0, .int .u32 0, .int .u32 0, .int .u64 0, .int .u32 0, .int .u64 0, .int .u32 0, .int .u64 0, .int .u32 0, .string ⟨#[]⟩, .int .u8 0, .bool false, .slice none 0 0]], []⟩ 8 (by kernel_rfl) (by kernel_rfl) (by kernel_rfl) (by kernel_rfl)) ?_
  intro W base args ds gs before hval0 hW _ hsz _
  have hval : ∀ (j : Nat) t v, Try.f5.params[j]? = some t → args[j]? = some v → Value.okWide Try.prog W .any base t v := hval0
  have hW' := hW
  obtain ⟨p, q, hA0, hV, rfl, hfz, hnd⟩ := hW
  have hA : DataW.TrodAll enc Try.prog W 0 (fun _ => true) true Try.f5.params.toList args.toList ds p := hA0
  rw [Try.params5] at hA hval
  obtain ⟨v0, v1, d0, d1, p0, p1, rfl, rfl, rfl, h0, h1⟩ := trodAll_two hA
  obtain ⟨rfl, rfl⟩ := trodVars_none hV
  have h0k := h0
  have h1k := h1
  have hw0 : ∀ n ∈ d0.weights Try.prog 30, n ≤ reachBytes := fun n hn => by
    have h9 := List.all_eq_true.1 hsz n (DataW.weights_mem_each (j := 0) (t := 30) (d := d0) (by simp [Try.params5]) (by simp) n hn)
    simpa using h9
  obtain ⟨cs0, rfl, _⟩ := okWide_struct Try.underlying30 (hval 0 30 v0 rfl rfl)
  obtain ⟨f0, hf0⟩ := h0
  obtain ⟨x, ao0, cp0, hu0, hws0, hok0⟩ := Opn.en_open hf0 hw0
  obtain rfl : cs0 = #[.int .i64 x.k, .int .u32 (x.c : Int), .int .u32 (x.n : Int), .int .u64 (x.sp : Int), .int .u32 (x.sl : Int), .int .u64 (x.ap : Int), .int .u32 (x.al : Int), .int .u64 (x.mp : Int), .int .u32 (x.ml : Int), .string (bs x.prim), .int .u8 (x.pt : Int), .bool x.dn, .slice ao0 x.ws.length cp0] := by
    apply Array.ext'
    simpa [Value.cells, Opn.enc13] using hu0
  have hw1 : ∀ n ∈ d1.weights Try.prog 30, n ≤ reachBytes := fun n hn => by
    have h9 := List.all_eq_true.1 hsz n (DataW.weights_mem_each (j := 1) (t := 30) (d := d1) (by simp [Try.params5]) (by simp) n hn)
    simpa using h9
  obtain ⟨cs1, rfl, _⟩ := okWide_struct Try.underlying30 (hval 1 30 v1 rfl rfl)
  obtain ⟨f1, hf1⟩ := h1
  obtain ⟨y, ao1, cp1, hu1, hws1, hok1⟩ := Opn.en_open hf1 hw1
  obtain rfl : cs1 = #[.int .i64 y.k, .int .u32 (y.c : Int), .int .u32 (y.n : Int), .int .u64 (y.sp : Int), .int .u32 (y.sl : Int), .int .u64 (y.ap : Int), .int .u32 (y.al : Int), .int .u64 (y.mp : Int), .int .u32 (y.ml : Int), .string (bs y.prim), .int .u8 (y.pt : Int), .bool y.dn, .slice ao1 y.ws.length cp1] := by
    apply Array.ext'
    simpa [Value.cells, Opn.enc13] using hu1
  clear hA0 hval0 hA
  simp only [List.append_nil] at hW'
  have hlt : ∀ x ∈ p0 ++ p1, x.block < W.heap.size := fun x hx => by simpa using hW'.lt x (by simpa using hx)
  refine (apart5 entryIfe x y ao0 ao1 cp0 cp1 W hws0 hws1 hok0 hok1).mono fun e W' ⟨he, bel⟩ => ?_
  subst he
  exact ⟨_, rfl, _, _, _, _, _, [], hW', trodAll_mk1 (shut_bool Try.underlying4 _), trodAll_mk2 (Below.trod Opn.laidOut (by kernel_rfl) (of_decide_eq_true (by kernel_rfl)) h0k bel fun x hx => hlt x (by simp [hx])) (Below.trod Opn.laidOut (by kernel_rfl) (of_decide_eq_true (by kernel_rfl)) h1k bel fun x hx => hlt x (by simp [hx])), rfl, bel.frame _, fun h => by cases h⟩
end EntryApartRow

theorem entryApart_holds : Rows.EntryApartSaid :=
  OpenClaim.holds_of_wide 5 Try.f5 rfl rfl rfl rfl rfl rfl rfl ⟨rfl, rfl, rfl, rfl, rfl⟩ rfl rfl rfl rfl rfl (by kernel_rfl) Try.func5 (by kernel_rfl)
    (of_decide_eq_true (by kernel_rfl)) (by unfold Func.isWrapper; first | (rw [if_pos (by decide +kernel)]; kernel_rfl) | (rw [if_neg (by decide +kernel)]; exact ⟨rfl, rfl⟩))
    (fun os started H enc _ => EntryApartRow.lifted os started H enc)
#print axioms entryApart_holds
end Go.Proofs.Ytmgjlpgjjeknpaa
