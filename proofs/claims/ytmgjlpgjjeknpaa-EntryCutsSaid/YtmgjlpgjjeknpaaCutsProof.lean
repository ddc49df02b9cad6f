/-
  The law EntryCuts holds: at every entry, number and text it returns true, and its arguments read as they read before.
-/
import Derived.Test.YtmgjlpgjjeknpaaRows
import Derived.Test.YtmgjlpgjjeknpaaOpen
import Derived.Test.YtmgjlpgjjeknpaaLx
import Derived.Test.YtmgjlpgjjeknpaaKf
namespace Go.Proofs.Ytmgjlpgjjeknpaa
open Go.ChangeShapes Go.WideShapes Go.ChangeAt Go.RowKit Go.Joins Go.Deep
namespace EntryCutsRow

set_option maxRecDepth 100000 in
theorem lifted (os : Os) (started : os.Started) (H : Type) (enc : TypeId × Value → H) :
    ReturnsInHanded {} Try.checked os 6 .any (Rows.entryCutsSpec.pre6 enc Try.prog Try.f6 Rows.entryCutsRow.domain false) (Rows.entryCutsSpec.post enc Try.prog Try.f6 false true false false) := by
  refine returnsInHanded_of_change_sized (C := Try.checked) Opn.own started (by kernel_rfl) Try.func6
    (ChangeSpec.witness6 (enc := enc) (C := Try.checked) false ⟨#[], #[.agg #[.int .i64 0, .int .u32 0, .int .u32 0, .int .u64 0, .int .u32 0, .int .u64 0, .int .u32 0, .int .u64 0, .int .u32 0, .string ⟨#[]⟩, .int .u8 0, .bool false, .slice none 0 0], .int .i64 0, .string ⟨#[]⟩], []⟩ 8 (by kernel_rfl) (by kernel_rfl) (by kernel_rfl) (by kernel_rfl)) ?_
  intro W base args ds gs before hval0 hW _ hsz _
  have hval : ∀ (j : Nat) t v, Try.f6.params[j]? = some t → args[j]? = some v → Value.okWide Try.prog W .any base t v := hval0
  have hW' := hW
  obtain ⟨p, q, hA0, hV, rfl, hfz, hnd⟩ := hW
  have hA : DataW.TrodAll enc Try.prog W 0 (fun _ => true) true Try.f6.params.toList args.toList ds p := hA0
  rw [Try.params6] at hA hval
  obtain ⟨v0, v1, v2, d0, d1, d2, p0, p1, p2, rfl, rfl, rfl, h0, h1, h2⟩ := trodAll_three hA
  obtain ⟨rfl, rfl⟩ := trodVars_none hV
  have h0k := h0
  have h1k := h1
  have h2k := h2
  have hw0 : ∀ n ∈ d0.weights Try.prog 30, n ≤ reachBytes := fun n hn => by
    have h9 := List.all_eq_true.1 hsz n (DataW.weights_mem_each (j := 0) (t := 30) (d := d0) (by simp [Try.params6]) (by simp) n hn)
    simpa using h9
  obtain ⟨cs0, rfl, _⟩ := okWide_struct Try.underlying30 (hval 0 30 v0 rfl rfl)
  obtain ⟨f0, hf0⟩ := h0
  obtain ⟨x, ao0, cp0, hu0, hws0, hok0⟩ := Opn.en_open hf0 hw0
  obtain rfl : cs0 = #[.int .i64 x.k, .int .u32 (x.c : Int), .int .u32 (x.n : Int), .int .u64 (x.sp : Int), .int .u32 (x.sl : Int), .int .u64 (x.ap : Int), .int .u32 (x.al : Int), .int .u64 (x.mp : Int), .int .u32 (x.ml : Int), .string (bs x.prim), .int .u8 (x.pt : Int), .bool x.dn, .slice ao0 x.ws.length cp0] := by
    apply Array.ext'
    simpa [Value.cells, Opn.enc13] using hu0
  obtain ⟨c, rfl⟩ := okWide_int Try.underlying3 (hval 1 3 v1 rfl rfl)
  have hw2 : ∀ n ∈ d2.weights Try.prog 9, n ≤ reachBytes := fun n hn => by
    have h9 := List.all_eq_true.1 hsz n (DataW.weights_mem_each (j := 2) (t := 9) (d := d2) (by simp [Try.params6]) (by simp) n hn)
    simpa using h9
  obtain ⟨s2, rfl, _⟩ := okWide_string Try.underlying9 (hval 2 9 v2 rfl rfl)
  obtain ⟨f2, hf2⟩ := h2
  obtain ⟨l, hu2, hl2⟩ := Opn.str_open hf2
  obtain rfl : s2 = bs l := by simpa [Value.cells] using hu2
  clear hA0 hval0 hA
  simp only [List.append_nil] at hW'
  have hlt : ∀ x ∈ p0 ++ p1 ++ p2, x.block < W.heap.size := fun x hx => by simpa using hW'.lt x (by simpa using hx)
  refine (cuts6 entryIfe x ao0 cp0 c l W hws0 hok0 (hl2 hw2)).mono fun e W' ⟨he, bel⟩ => ?_
  subst he
  exact ⟨_, rfl, _, _, _, _, _, [], hW', trodAll_mk1 (shut_bool Try.underlying4 _), trodAll_mk3 (Below.trod Opn.laidOut (by kernel_rfl) (of_decide_eq_true (by kernel_rfl)) h0k bel fun x hx => hlt x (by simp [hx])) (Below.trod Opn.laidOut (by kernel_rfl) (of_decide_eq_true (by kernel_rfl)) h1k bel fun x hx => hlt x (by simp [hx])) (Below.trod Opn.laidOut (by kernel_rfl) (of_decide_eq_true (by kernel_rfl)) h2k bel fun x hx => hlt x (by simp [hx])), rfl, bel.frame _, fun h => by cases h⟩
end EntryCutsRow

theorem entryCuts_holds : Rows.EntryCutsSaid :=
  OpenClaim.holds_of_wide 6 Try.f6 rfl rfl rfl rfl rfl rfl rfl ⟨rfl, rfl, rfl, rfl, rfl⟩ rfl rfl rfl rfl rfl (by kernel_rfl) Try.func6 (by kernel_rfl)
    (of_decide_eq_true (by kernel_rfl)) (by unfold Func.isWrapper; first | (rw [if_pos (by decide +kernel)]; kernel_rfl) | (rw [if_neg (by decide +kernel)]; exact ⟨rfl, rfl⟩))
    (fun os started H enc _ => EntryCutsRow.lifted os started H enc)
#print axioms entryCuts_holds
end Go.Proofs.Ytmgjlpgjjeknpaa
