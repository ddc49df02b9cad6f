/-
  The law LetterWrites holds: at every letter it returns true, and its arguments read as they read before.
-/
import Derived.Test.YtmldgfepnmencaaRows
import Derived.Test.YtmldgfepnmencaaOpen
import Derived.Test.YtmldgfepnmencaaLw
namespace Go.Proofs.Ytmldgfepnmencaa
open Go.ChangeShapes Go.WideShapes Go.ChangeAt Go.RowKit Go.Joins Go.Deep
namespace LetterWritesRow

set_option maxRecDepth 100000 in
theorem lifted (os : Os) (started : os.Started) (H : Type) (enc : TypeId × Value → H) :
    ReturnsInHanded {} Try.checked os 3 .any (Rows.letterWritesSpec.pre6 enc Try.prog Try.f3 Rows.letterWritesRow.domain false) (Rows.letterWritesSpec.post enc Try.prog Try.f3 false true false false) := by
  refine returnsInHanded_of_change_sized (C := Try.checked) Opn.own started (by kernel_rfl) Try.func3
    (ChangeSpec.witness6 (enc := enc) (C := Try.checked) false ⟨#[], #[.agg #[.int .u32 0, .int .u32 0, .int .u32 0, .bool false, .int .i64 0, .int .u32 0, .int .u32 0, .int .u64 0, .int .u32 0, .int .u64 0, .int .u32 0, .string ⟨#[]⟩, .string ⟨#[]⟩, .int .i64 0, .int .u8 0, .slice none 0 0, .slice none 0 0, .int .i64 0, .int .i64 0, .bool false, .string ⟨#[]⟩, .slice none 0 0, .int .u32 0, .int .u32 0, .int .u64 0, .int .u32 0, .int .u64 0, .int .u32 0, .string ⟨#[]⟩, .int .u64 0, .int .u32 0]], []⟩ 8 (by kernel_rfl) (by kernel_rfl) (by kernel_rfl) (by kernel_rfl)) ?_
  intro W base args ds gs before hval0 hW _ hsz _
  have hval : ∀ (j : Nat) t v, Try.f3.params[j]? = some t → args[j]? = some v → Value.okWide Try.prog W .any base t v := hval0
  have hW' := hW
  obtain ⟨p, q, hA0, hV, rfl, hfz, hnd⟩ := hW
  have hA : DataW.TrodAll enc Try.prog W 0 (fun _ => true) true Try.f3.params.toList args.toList ds p := hA0
  rw [Try.params3] at hA hval
  obtain ⟨v0, d0, rfl, rfl, h0⟩ := trodAll_one hA
  obtain ⟨rfl, rfl⟩ := trodVars_none hV
  have h0k := h0
  have hw0 : ∀ n ∈ d0.weights Try.prog 37, n ≤ reachBytes := fun n hn => by
    have h9 := List.all_eq_true.1 hsz n (DataW.weights_mem_each (j := 0) (t := 37) (d := d0) (by simp [Try.params3]) (by simp) n hn)
    simpa using h9
  obtain ⟨cs0, rfl, _⟩ := okWide_struct Try.underlying37 (hval 0 37 v0 rfl rfl)
  obtain ⟨f0, hf0⟩ := h0
  obtain ⟨x, wa0, sa0, pa0, wc0, sc0, pc0, hu0, hws0, hok0⟩ := Opn.le_open hf0 hw0
  obtain rfl : cs0 = #[.int .u32 (x.cl : Int), .int .u32 (x.sh : Int), .int .u32 (x.sq : Int), .bool x.an, .int .i64 x.q.k, .int .u32 (x.q.c : Int), .int .u32 (x.q.n : Int), .int .u64 (x.q.sp : Int), .int .u32 (x.q.sl : Int), .int .u64 (x.q.ap : Int), .int .u32 (x.q.al : Int), .string (bs x.q.key), .string (bs x.q.to), .int .i64 x.q.lim, .int .u8 (x.q.pt : Int), .slice wa0 x.q.ws.length wc0, .slice sa0 x.q.sk.length sc0, .int .i64 x.r.k, .int .i64 x.r.er, .bool x.r.fd, .string (bs x.r.val), .slice pa0 x.r.ps.length pc0, .int .u32 (x.r.c : Int), .int .u32 (x.r.n : Int), .int .u64 (x.r.sp : Int), .int .u32 (x.r.sl : Int), .int .u64 (x.r.ap : Int), .int .u32 (x.r.al : Int), .string (bs x.r.prim), .int .u64 (x.r.np : Int), .int .u32 (x.r.nl : Int)] := by
    apply Array.ext'
    simpa [Value.cells, Opn.encL] using hu0
  clear hA0 hval0 hA
  simp only [List.append_nil] at hW'
  have hlt : ∀ x ∈ p, x.block < W.heap.size := fun x hx => by simpa using hW'.lt x (by simpa using hx)
  refine (writes3 x wa0 sa0 pa0 wc0 sc0 pc0 W hok0 hws0).mono fun e W' ⟨he, bel⟩ => ?_
  subst he
  exact ⟨_, rfl, _, _, _, _, _, [], hW', trodAll_mk1 (shut_bool Try.underlying4 _), trodAll_mk1 (Below.trod Opn.laidOut (by kernel_rfl) (of_decide_eq_true (by kernel_rfl)) h0k bel fun x hx => hlt x (by simp [hx])), rfl, bel.frame _, fun h => by cases h⟩
end LetterWritesRow

theorem letterWrites_holds : Rows.LetterWritesSaid :=
  OpenClaim.holds_of_wide 3 Try.f3 rfl rfl rfl rfl rfl rfl rfl ⟨rfl, rfl, rfl, rfl, rfl⟩ rfl rfl rfl rfl rfl (by kernel_rfl) Try.func3 (by kernel_rfl)
    (of_decide_eq_true (by kernel_rfl)) (by unfold Func.isWrapper; first | (rw [if_pos (by decide +kernel)]; kernel_rfl) | (rw [if_neg (by decide +kernel)]; exact ⟨rfl, rfl⟩))
    (fun os started H enc _ => LetterWritesRow.lifted os started H enc)
#print axioms letterWrites_holds
end Go.Proofs.Ytmldgfepnmencaa
